import Derived.Test.YtlonjggfnleolaaGreatDoorRjH
import Derived.ArgAppend
import Derived.Conc.SmallLaws
import Derived.Carry
import Derived.Deep.RegionLaw
namespace Go.Proofs.YtlonjggfnleolaaGreatDoor
open Go.RowKit
set_option linter.unusedVariables false
variable {w:World}{lo e size n:Nat}{v:Value}{xs:List Value}{P:Program}
def Row (w:World)(lo e size:Nat)(v:Value)(n:Nat)(xs:List Value):Prop:=
 xs.length=n*size∧((v= .slice none 0 0∧n=0)∨∃g cap cur,v= .slice (some ⟨g,0,none⟩) n cap∧lo≤g∧w.heap[g]?=some (.cells cur e (0,0))∧n≤cap∧cur.size=cap*size∧cur.toList.take (n*size)=xs)
theorem Row.of_own (h:w.ownsRow lo e size v n xs):Row w lo e size v n xs:=by
 obtain⟨h1,h2|⟨g,cap,cur,a,b,c,d,_,f,k⟩⟩:=h
 ·exact⟨h1,.inl h2⟩
 ·exact⟨h1,.inr ⟨g,cap,cur,a,b,c,d,f,k⟩⟩
theorem Row.nil (w:World)(lo e size:Nat):Row w lo e size (.slice none 0 0) 0 []:=⟨by simp,.inl ⟨rfl,rfl⟩⟩
theorem Row.lower {lo':Nat}(h:Row w lo e size v n xs)(hl:lo'≤lo):Row w lo' e size v n xs:=by
 obtain⟨h1,h2|⟨g,cap,cur,a,b,c⟩⟩:=h
 ·exact⟨h1,.inl h2⟩
 ·exact⟨h1,.inr ⟨g,cap,cur,a,by omega,c⟩⟩
theorem Row.other {w':World}(h:Row w lo e size v n xs)(k:∀g Z,v.ownBlock=some g→w.heap[g]?=some (.cells Z e (0,0))→lo≤g→w'.heap[g]?=w.heap[g]?):Row w' lo e size v n xs:=by
 obtain⟨h1,h2|⟨g,cap,cur,rfl,b,c,d⟩⟩:=h
 ·exact⟨h1,.inl h2⟩
 ·exact⟨h1,.inr ⟨g,cap,cur,rfl,b,(k g cur rfl c b).trans c,d⟩⟩
theorem Row.form (h:Row w lo e size v n xs):∃a c,v= .slice a n c:=by
 obtain⟨h1,⟨rfl,rfl⟩|⟨g,cap,cur,rfl,_⟩⟩:=h
 ·exact⟨_,_,rfl⟩
 ·exact⟨_,_,rfl⟩
theorem Row.blk {g:Nat}(h:Row w lo e size v n xs)(hg:v.ownBlock=some g):∃cur,w.heap[g]?=some (.cells cur e (0,0))∧lo≤g∧g<w.heap.size:=by
 obtain⟨h1,⟨rfl,rfl⟩|⟨g',cap,cur,rfl,b,c,_⟩⟩:=h
 ·cases hg
 ·cases hg;exact⟨cur,c,b,blkLt c⟩
theorem run_append_row (w:World)(lo:Nat)(t ty e:TypeId)(i:TypeInfo)(z:Value)(size bytes:Nat)(ht:P.underlying t=some (.slice e))(hi:P.info? e=some i)(hz:i.zero=some z)(hsize:i.size=size)(hby:i.bytes=bytes)(hzs:z.cells.size=size)(hsz:0<size)(v:Value)(n:Nat)(xs:List Value)(hrow:Row w lo e size v n xs)(a:Addr)(m c:Nat)(news:List Value)(hl:news.length=m*size)(hnews:∀j u,news[j]?=some u→w.cell? (a.add j)=some u)(h1:∀u∈news,u.oneCell'=true)(hm:0<m)(h63:n+m≤maxLen)(hbytes:(n+m)*bytes≤140737488355328)(hlo:lo≤w.heap.size):∃v' w',(Builtin.append_ #[t,t] ty #[v,.slice (some a) m c]).run P w= .ok v' w'∧Row w' lo e size v' (n+m) (xs++news)∧w.grownBy w' v.ownBlock∧(v'.ownBlock=v.ownBlock∨(∃g,v'.ownBlock=some g∧w.heap.size≤g∧w.grownBy w' none))∧∀u k ys,Row w lo e size u k ys→(u.ownBlock=v.ownBlock→k≤n+m∧ys=(xs++news).take (k*size))→Row w' lo e size u k ys:=by
 have hlen:(xs++news).length=(n+m)*size:=by rw[List.length_append,hrow.1,hl,Nat.add_mul]
 have fresh:∀w',w.grownBy w' none→∀u k ys,Row w lo e size u k ys→Row w' lo e size u k ys:=fun w' hg u k ys hu=>hu.other (fun g Z _ hZ _=>hg.block g (blkLt hZ) (by simp))
 rcases hrow.2 with⟨rfl,rfl⟩|⟨g,cap,cur,rfl,hbg,hg,hnc,hcs,htake⟩
 ·have hx:xs=[]:=List.eq_nil_of_length_eq_zero (by simpa using hrow.1);subst hx;obtain⟨v',w',hr,ho,hgr,_,hat⟩:=run_append_own_at (P:=P) w w.heap.size t ty e i z size bytes ht hi hz hsize hby hzs hsz (.slice none 0 0) 0 [] (World.ownsRow_nil w _ e size) a m c news hl hnews h1 h63 hbytes (Nat.le_refl _);refine⟨v',w',hr,(Row.of_own ho).lower hlo,hgr,.inr ?_,fun u k ys hu _=>fresh w' hgr u k ys hu⟩;rcases ho.2 with⟨_,h0⟩|⟨g,cap,cur,e1,e2,_⟩
  ·omega
  ·subst e1;exact⟨g,rfl,e2,hgr⟩
 ·by_cases hroom:n+m≤cap
  ·subst hsize;have hfit:n*i.size+news.length≤cur.size:=by rw[hl,hcs,←Nat.add_mul];exact Nat.mul_le_mul_right _ hroom
   have hr:=run_append_room (P:=P) w t ty e i ht hi g n cap cur hg a m c news hl hnews h1 hroom hfit;have hsz2:(cur.toList.take (n*i.size)++news++cur.toList.drop (n*i.size+news.length)).length=cur.size:=by
    simp only[List.length_append,List.length_take,List.length_drop,Array.length_toList]
    omega
   have hgr:∀o,w.grownBy (w.setRow g o) (some g):=fun o=>⟨rfl,rfl,rfl,by simp,fun k _ hk=>setRow_other w g k _ (fun e=>hk (by simp[e]))⟩
   have hh:=setRow_heap w g cur (List.take (n*i.size) cur.toList++news++List.drop (n*i.size+news.length) cur.toList).toArray e _ hg;refine⟨_,_,hr,⟨hlen,.inr ⟨g,cap,_,rfl,hbg,hh,hroom,?_,?_⟩⟩,hgr _,.inl rfl,?_⟩
   ·simp only[List.size_toArray];omega
   ·simp only
    rw[htake,←hlen];exact List.take_left
   ·intro u k ys hu hcond;rcases hu with⟨hul,⟨rfl,rfl⟩|⟨gu,capu,curu,rfl,hub,huh,hun,hus,hut⟩⟩
    ·exact⟨hul,.inl ⟨rfl,rfl⟩⟩
    ·by_cases hgg:gu=g
     ·subst hgg;obtain⟨hk,hys⟩:=hcond rfl;rw[hg]at huh;cases huh;refine⟨hul,.inr ⟨gu,capu,_,rfl,hub,hh,hun,?_,?_⟩⟩
      ·simp only[List.size_toArray];omega
      ·simp only
       rw[htake,hys];have hk2:k*i.size≤(xs++news).length:=by rw[hlen];exact Nat.mul_le_mul_right _ hk
       rw[List.take_append_of_le_length hk2]
     ·exact⟨hul,.inr ⟨gu,capu,curu,rfl,hub,((hgr _).block gu (blkLt huh) (by simpa using hgg)).trans huh,hun,hus,hut⟩⟩
  ·have holds:∀j u,xs[j]?=some u→w.cell? ((⟨g,0,none⟩:Addr).add j)=some u:=by
    intro j u hj;have hadd:(⟨g,0,none⟩:Addr).add j=⟨g,j,none⟩:=by unfold Addr.add;split<;>simp_all
    have hjl:j<n*size:=by have:=(List.getElem?_eq_some_iff.1 hj).1;rw[hrow.1]at this;exact this
    rw[hadd,blkCell hg];rw[←htake,List.getElem?_take_of_lt hjl]at hj;simpa using hj
   obtain⟨v',w',hr,ho,hgr⟩:=run_append_arg_grows (P:=P) w t ty e i z size bytes ht hi hz hsize hby hzs hsz ⟨g,0,none⟩ n cap xs hrow.1 holds a m c news hl hnews (by omega) h63 hbytes;refine⟨v',w',hr,(Row.of_own ho).lower hlo,⟨hgr.os,hgr.tape,hgr.output,hgr.size,fun k hk _=>hgr.block k hk (by simp)⟩,.inr ?_,fun u k ys hu _=>fresh w' hgr u k ys hu⟩;rcases ho.2 with⟨_,h0⟩|⟨g',cap',cur',e1,e2,_⟩
   ·omega
   ·subst e1;exact⟨g',rfl,e2,hgr⟩
theorem wpList_append_row {P:Program}(w:World){ops:Array Oper}{rest:List Oper}{o:Oper}{a:Act}{Q:Exit→Act→World→Prop}(hgd:o.guard=none)(s x:Operand)(t:TypeId)(ho:o.op= .call {callee:= .builtin .append,args:=#[s,x],argTypes:=#[t,t]})(lo:Nat)(e:TypeId)(i:TypeInfo)(z:Value)(size bytes:Nat)(ht:P.underlying t=some (.slice e))(hi:P.info? e=some i)(hz:i.zero=some z)(hsize:i.size=size)(hby:i.bytes=bytes)(hzs:z.cells.size=size)(hsz:0<size)(v:Value)(n:Nat)(xs:List Value)(hs:a.eval s=v)(hrow:Row w lo e size v n xs)(ad:Addr)(m c:Nat)(news:List Value)(hx:a.eval x= .slice (some ad) m c)(hl:news.length=m*size)(hnews:∀j u,news[j]?=some u→w.cell? (ad.add j)=some u)(h1:∀u∈news,u.oneCell'=true)(hm:0<m)(h63:n+m≤maxLen)(hbytes:(n+m)*bytes≤140737488355328)(hlo:lo≤w.heap.size)(h:∀v' w',Row w' lo e size v' (n+m) (xs++news)→w.grownBy w' v.ownBlock→(v'.ownBlock=v.ownBlock∨(∃g,v'.ownBlock=some g∧w.heap.size≤g∧w.grownBy w' none))→(∀u k ys,Row w lo e size u k ys→(u.ownBlock=v.ownBlock→k≤n+m∧ys=(xs++news).take (k*size))→Row w' lo e size u k ys)→wpList P ops Q rest (a.put o.dst v') w'):wpList P ops Q (o::rest) a w:=by
 refine wpList_plain hgd fun K hK=>?_
 obtain⟨v',w',hr,h2,h3,h4,h5⟩:=run_append_row (P:=P) w lo t o.type e i z size bytes ht hi hz hsize hby hzs hsz v n xs hrow ad m c news hl hnews h1 hm h63 hbytes hlo;unfold Oper.wp execOp;simp only[ho,resolve,invoke,builtin,Sem.run_bind,Sem.run_pure,Result.andThen_ok,List.map_toArray,List.map_cons,List.map_nil,hs,hx,hr]
 exact hK _ _ (h v' w' h2 h3 h4 h5)
end Go.Proofs.YtlonjggfnleolaaGreatDoor
namespace Go.Proofs.YtlonjggfnleolaaGreatDoor
open Go.RowKit Go.Shelf
set_option linter.unusedVariables false
theorem row_ne {W:World}{lo e sz n b T:Nat}{v:Value}{xs:List Value}{Z:Array Value}{f:Nat×Nat}(h:Row W lo e sz v n xs)(hb:W.heap[b]?=some (.cells Z T f))(hT:T≠e):some b≠v.ownBlock:=fun e'=>by
 obtain⟨cur,hc,_⟩:=h.blk e'.symm
 rw[hb]at hc
 cases hc
 exact hT rfl
end Go.Proofs.YtlonjggfnleolaaGreatDoor
namespace Go.Proofs.YtlonjggfnleolaaGreatDoor
open Go.RowKit Go.Shelf Go.Conc
set_option linter.unusedVariables false
theorem set_same {α:Type}{l:List α}{i:Nat}{x:α}(h:l[i]?=some x):l.set i x=l:=by
 apply List.ext_getElem?;intro j;rw[List.getElem?_set];split
 ·rename_i e;subst e;rw[h];simp[(List.getElem?_eq_some_iff.1 h).1]
 ·rfl
end Go.Proofs.YtlonjggfnleolaaGreatDoor
namespace Go.Proofs.YtlonjggfnleolaaGreatDoor
open Go.RowKit Go.Shelf
set_option linter.unusedVariables false
def Kept95 (w w':World):Prop:=∀(b:Nat) (Z:Array Value),w.heap[b]?=some (.cells Z 95 (0,0))→w'.heap[b]?=some (.cells Z 95 (0,0))
theorem Kept95.trans {a b c:World}(h:Kept95 a b)(k:Kept95 b c):Kept95 a c:=fun x Z hx=>k x Z (h x Z hx)
theorem Kept95.of_below {w w':World}(h:Below w.heap.size w w'):Kept95 w w':=fun b Z hb=>(h.block b (blkLt hb)).trans hb
set_option maxHeartbeats 1000000
theorem decoder_no (d:Int)(w:World)(hd:d<1∨3<d):Calls Tryz.prog 43 #[.int .i64 d] w fun e w'=>e= .returned (.tuple #[.pointer none,.int .i64 1])∧Below w.heap.size w w':=by
 have h1:(d==1)=false:=by rw[beq_eq_false_iff_ne];omega
 have h2:(d==2)=false:=by rw[beq_eq_false_iff_ne];omega
 have h3:(d==3)=false:=by rw[beq_eq_false_iff_ne];omega
 go_enter Tryz.func43,Tryz.ntmps43;go_wp2;go_ret2;exact⟨rfl,Below.refl _ _⟩
end Go.Proofs.YtlonjggfnleolaaGreatDoor
namespace Go.Proofs.YtlonjggfnleolaaGreatDoor
open Go.RowKit Go.Shelf Go.Conc
set_option linter.unusedVariables false
set_option maxHeartbeats 400000
set_option maxRecDepth 100000
theorem info159:∃i,Tryz.prog.info? 159=some i∧i.bytes=0:=by
 have h:(Tryz.prog.info? 159).map (·.bytes)=some 0:=by kernel_rfl
 obtain⟨i,hi,hz⟩:=Option.map_eq_some_iff.1 h;exact⟨i,hi,hz⟩
theorem newClient_any (R win:Nat)(w:World)(hw:win≤6):Calls Tryz.prog 86 #[.pointer (some ⟨R,0,none⟩),.int .i64 (win:Int)] w fun e w'=>e= .returned (.pointer (some ⟨w.heap.size+1,0,none⟩))∧w'=(w.alloc (.chan win #[] false 0 0 false)).alloc (clO R w.heap.size (.slice none 0 0) (.pointer none) (.slice none 0 0)):=by
 unfold clO;have hmm:∀W:World,(Instr.makeChan 119 (.int .i64 (win:Int))).run Tryz.prog W= .ok (.chan (some W.heap.size)) (W.alloc (.chan win #[] false 0 0 false)):=fun W=>by
  obtain⟨i,hi,hb⟩:=info159;exact run_makeChan (P:=Tryz.prog) (w:=W) Tryz.underlying119 hi .i64 win (by omega) (by rw[hb];omega)
 go_enter Tryz.func86,Tryz.ntmps86;go_wp2;go_ret;exact⟨rfl,rfl⟩
theorem newServer_any (w:World):Calls Tryz.prog 85 #[] w fun e w'=>e= .returned (.pointer (some ⟨w.heap.size+1,0,none⟩))∧w'=(w.alloc (.map #[] 0)).alloc (svO false 0 w.heap.size (.slice none 0 0) 0 false false (.pointer none) (.slice none 0 0)):=by
 unfold svO;have hmm:= @run_makeMap Tryz.prog;go_enter Tryz.func85,Tryz.ntmps85;go_wp2;go_ret;exact⟨rfl,rfl⟩
theorem info116:∃i,Tryz.prog.info? 116=some i∧i.zero=some (.pointer none)∧i.size=1∧i.bytes=8:=by
 have h:(Tryz.prog.info? 116).map (fun i=>(i.zero,i.size,i.bytes))=some (some (.pointer none),1,8):=by kernel_rfl
 obtain⟨i,hi,hz⟩:=Option.map_eq_some_iff.1 h;simp only[Prod.mk.injEq]at hz;exact⟨i,hi,hz.1,hz.2.1,hz.2.2⟩
def newI (C R ch t:Nat):CliI:=⟨C,R,ch,t,none,.slice none 0 0,.pointer none,.slice none 0 0,[]⟩
def newC (d:Int):CliS:=⟨d,st0,[],[]⟩
theorem CliOk.new {W:World}{C R ch t win:Nat}{d:Int}(hd:dT d t)(hR:W.heap[R]?=some (rdO t (.slice none 0 0) 0 false false))(hch:W.heap[ch]?=some (.chan win #[] false 0 0 false))(hC:W.heap[C]?=some (clO R ch (.slice none 0 0) (.pointer none) (.slice none 0 0))):CliOk W win (newI C R ch t) (newC d):=
 ⟨hC,⟨⟨.slice none 0 0,0,hR,⟨⟨[],World.ownsRow_nil _ _ _ _,Nat.le_refl _,rfl,by simp⟩,rfl⟩,.inl rfl⟩,by simp[newI]⟩,hd,⟨#[],0,0,false,hch,rfl⟩,World.ownsRow_nil _ _ _ _,rfl,fun i q c hq _=>(by simp[newI]at hq),.inl rfl,BldRow.nil _,fun b hb=>(by cases hb),fun c hc=>(by simp[newC]at hc)⟩
set_option maxHeartbeats 1000000
set_option maxRecDepth 100000
variable {W:World}{vs:List SvI}
def configB (sv pt win:Int):Bool:=ringB sv pt&&withinB 1 win 6
theorem config_any (sv pt win:Int)(w:World):Calls Tryz.prog 84 #[.agg #[.int .i64 sv,.int .i64 pt,.int .i64 win]] w fun e w'=>e= .returned (.bool (configB sv pt win))∧Below w.heap.size w w':=by
 have HB:Hid (∀o,Below w.heap.size w (w.alloc o)):=fun o=>(Below.refl _ _).alloc (Nat.le_refl _) o
 have HR:Hid (∀W,Calls Tryz.prog 49 #[.int .i64 sv,.int .i64 pt] W fun e w'=>e= .returned (.bool (ringB sv pt))∧w'=W):=fun W=>ring_any sv pt W
 have HW:Hid (∀W,Calls Tryz.prog 77 #[.int .i64 win,.int .i64 1,.int .i64 6] W fun e w'=>e= .returned (.bool (withinB 1 win 6))∧w'=W):=fun W=>within_any win 1 6 W
 unfold configB;cases hr:ringB sv pt with
 |false=>
  rw[hr]at HR;go_enter Tryz.func84,Tryz.ntmps84;go_wp2_with fail
  go_at_call 49;refine(HR.out _).mono ?_;rintro e w1 ⟨rfl,hw1⟩;subst hw1;go_wp2;go_ret;exact⟨rfl,HB.out _⟩
 |true=>
  rw[hr]at HR;go_enter Tryz.func84,Tryz.ntmps84;go_wp2_with fail
  go_at_call 49;refine(HR.out _).mono ?_;rintro e w1 ⟨rfl,hw1⟩;subst hw1;go_wp2_with fail
  go_at_call 77;refine(HW.out _).mono ?_;rintro e w2 ⟨rfl,hw2⟩;subst hw2;go_wp2;go_ret;exact⟨by simp,HB.out _⟩
def newS (S m:Nat):SvI:=⟨S,m,.slice none 0 0,0,false,false,.pointer none,.slice none 0 0,[]⟩
theorem SvOk.new {S m:Nat}(hS:W.heap[S]?=some (svO false 0 m (.slice none 0 0) 0 false false (.pointer none) (.slice none 0 0)))(hm:W.heap[m]?=some (.map #[] 0)):SvOk W (newS S m) ⟨0,[]⟩:=
 ⟨hS,⟨#[],0,hm,rfl⟩,fun p hp=>(by simp[newS]at hp),fun p hp=>(by simp[newS]at hp),.inl rfl,BldRow.nil _⟩
theorem SvsAt.snoc {W':World}{ss:List SrvS}(h:SvsAt W vs ss)(k:∀b∈feetV vs,W'.heap[b]?=W.heap[b]?){v:SvI}{s:SrvS}(hn:SvOk W' v s)(hf:∀b∈v.foot,W.heap.size≤b):SvsAt W' (vs++[v]) (ss++[s]):=by
 have h':=h.keep k;have hcut:∀(j:Nat) (u:SvI),(vs++[v])[j]?=some u→(j<vs.length∧vs[j]?=some u)∨(j=vs.length∧u=v):=fun j u hu=>by
  by_cases hj:j<vs.length
  ·rw[List.getElem?_append_left hj]at hu;exact .inl ⟨hj,hu⟩
  ·have hj2:=(List.getElem?_eq_some_iff.1 hu).1;simp at hj2;have hj3:j=vs.length:=by omega
   subst hj3;rw[List.getElem?_append_right (Nat.le_refl _)]at hu;simp at hu;exact .inr ⟨rfl,hu.symm⟩
 refine⟨by simp[h.len],fun j u s' hu hs=>?_,fun i j u1 u2 hij h1 h2 b hb1 hb2=>?_⟩
 ·rcases hcut j u hu with⟨hj,hu'⟩|⟨hj,rfl⟩
  ·rw[List.getElem?_append_left (by rw[←h.len];exact hj)]at hs;exact h'.ok j u s' hu' hs
  ·rw[hj,h.len,List.getElem?_append_right (Nat.le_refl _)]at hs;simp at hs;rw[←hs];exact hn
 ·rcases hcut i u1 h1 with⟨hi,h1'⟩|⟨hi,rfl⟩
  ·rcases hcut j u2 h2 with⟨hj,h2'⟩|⟨hj,rfl⟩
   ·exact h.ap i j u1 u2 hij h1' h2' b hb1 hb2
   ·have a1:=h.old b (mem_feetV.2 ⟨i,u1,h1',hb1⟩);have a2:=hf b hb2;omega
  ·rcases hcut j u2 h2 with⟨hj,h2'⟩|⟨hj,rfl⟩
   ·have a1:=h.old b (mem_feetV.2 ⟨j,u2,h2',hb2⟩);have a2:=hf b hb1;omega
   ·omega
structure MakeAt (w0 W:World)(X:Nat)(sv pt win:Int)(j:Nat)(rv:Value)(vs:List SvI):Prop where
 blk:W.heap[X]?=some (juO sv pt win (.slice none 0 0) rv)
 row:W.ownsRow 0 137 1 rv j (vs.map (fun v=>ptrV v.S))
 len:vs.length=j
 srv:SvsAt W vs (List.replicate j ⟨0,[]⟩)
 bel:Below w0.heap.size w0 W
 ge:w0.heap.size≤X
 gr:∀b,rv.ownBlock=some b→w0.heap.size≤b
 gs:∀b∈feetV vs,w0.heap.size≤b
 fr:∀v∈vs,∃S m,v=newS S m
theorem info137:∃i,Tryz.prog.info? 137=some i∧i.zero=some (.pointer none)∧i.size=1∧i.bytes=8:=by
 have h:(Tryz.prog.info? 137).map (fun i=>(i.zero,i.size,i.bytes))=some (some (.pointer none),1,8):=by kernel_rfl
 obtain⟨i,hi,hz⟩:=Option.map_eq_some_iff.1 h;simp only[Prod.mk.injEq]at hz;exact⟨i,hi,hz.1,hz.2.1,hz.2.2⟩
theorem MakeAt.more {w0 W3 Wa:World}{X j g2 cap2:Nat}{sv pt win:Int}{rv:Value}(h:MakeAt w0 W X sv pt win j rv vs)(hw3:W3=(W.drew.alloc (.map #[] 0)).alloc (svO false 0 W.heap.size (.slice none 0 0) 0 false false (.pointer none) (.slice none 0 0)))(hown:Wa.ownsRow 0 137 1 (.slice (some ⟨g2,0,none⟩) (j+1) cap2) (j+1) (vs.map (fun v=>ptrV v.S)++[.pointer (some ⟨W.heap.size+1,0,none⟩)]))(hgrow:(W3.alloc (.cells #[.pointer (some ⟨W.heap.size+1,0,none⟩)] 137)).grownBy Wa rv.ownBlock)(hat:rv.ownBlock=some g2∨g2=(W3.alloc (.cells #[.pointer (some ⟨W.heap.size+1,0,none⟩)] 137)).heap.size):MakeAt w0 (Wa.setCell ⟨X,4,none⟩ (.slice (some ⟨g2,0,none⟩) (j+1) cap2)) X sv pt win (j+1) (.slice (some ⟨g2,0,none⟩) (j+1) cap2) (vs++[newS (W.heap.size+1) W.heap.size]):=by
 have hb3:Below W.heap.size W W3:=by rw[hw3];exact((Below.refl _ W).drew.alloc (Nat.le_refl _) _).alloc (by simp) _
 have hb4:Below W.heap.size W (W3.alloc (.cells #[.pointer (some ⟨W.heap.size+1,0,none⟩)] 137)):=hb3.alloc hb3.size _;have sz3:=hb3.size;have hlX:=blkLt h.blk;have hcv:∀b,rv.ownBlock=some b→b<W.heap.size:=fun b e=>by
  obtain⟨cur,hc⟩:=ownsRow_blk h.row e;exact blkLt hc
 have nX:rv.ownBlock≠some X:=fun e=>by
  obtain⟨cur,hc⟩:=ownsRow_blk h.row e;have hb:=h.blk;unfold juO at hb;rw[hb]at hc;cases hc
 have keep:∀b,b<W.heap.size→rv.ownBlock≠some b→b≠X→(Wa.setCell ⟨X,4,none⟩ (.slice (some ⟨g2,0,none⟩) (j+1) cap2)).heap[b]?=W.heap[b]?:=fun b hb h1 h2=>(Below.heap_setCell Wa ⟨X,4,none⟩ _ b h2).trans ((hgrow.block b (by rw[World.size_alloc];omega) (fun e=>h1 e.symm)).trans (hb4.block b hb))
 have keep3:∀(b:Nat) (o:Obj),W3.heap[b]?=some o→W.heap.size≤b→(Wa.setCell ⟨X,4,none⟩ (.slice (some ⟨g2,0,none⟩) (j+1) cap2)).heap[b]?=some o:=fun b o hb hle=>(Below.heap_setCell Wa ⟨X,4,none⟩ _ b (by show b≠X;omega)).trans ((hgrow.block b (by rw[World.size_alloc];have:=blkLt hb;omega) (fun e=>by have:=hcv b e.symm;omega)).trans ((Below.heap_alloc _ _ _ (blkLt hb)).trans hb))
 have hXa:Wa.heap[X]?=some (juO sv pt win (.slice none 0 0) rv):=(hgrow.block X (by rw[World.size_alloc];omega) (fun e=>nX e.symm)).trans ((hb4.block X hlX).trans h.blk);have hm3:W3.heap[W.heap.size]?=some (.map #[] 0):=by
  rw[hw3,Below.heap_alloc _ _ _ (by simp)];exact blkNew W.drew _
 have hS3:W3.heap[W.heap.size+1]?=some (svO false 0 W.heap.size (.slice none 0 0) 0 false false (.pointer none) (.slice none 0 0)):=by
  rw[hw3];exact hs_new (by simp)
 have hnf:∀b∈(newS (W.heap.size+1) W.heap.size).foot,W.heap.size≤b:=fun b hb=>by
  simp[SvI.foot,newS,Value.ownBlock]at hb;omega
 have sz0:=h.bel.size;refine⟨blkSet (i:=4) hXa _,?_,by simp[h.len],?_,?_,h.ge,fun b hb=>?_,fun b hb=>?_,fun u hu=>?_⟩
 ·rw[List.map_append];exact ownsRow_other hown (fun gg hg=>by
   cases hg;refine Below.heap_setCell Wa ⟨X,4,none⟩ _ g2 (fun e=>?_);obtain⟨cur,hc⟩:=ownsRow_blk hown rfl;rw[show g2=X from e,hXa]at hc;unfold juO at hc;cases hc)
 ·rw[List.replicate_succ'];refine h.srv.snoc (fun b hb=>keep b (h.srv.old b hb) (fun e=>?_) (fun e=>?_)) (SvOk.new (keep3 _ _ hS3 (by omega)) (keep3 _ _ hm3 (Nat.le_refl _))) hnf
  ·obtain⟨cur,hc⟩:=ownsRow_blk h.row e;exact h.srv.apart hc (by decide) (by decide) hb
  ·have hb':=h.blk;unfold juO at hb';exact h.srv.apart hb' (by decide) (by decide) (by rw[←e];exact hb)
 ·have k:Chg (X::rv.ownBlock.toList) W (Wa.setCell ⟨X,4,none⟩ (.slice (some ⟨g2,0,none⟩) (j+1) cap2)):=((Chg.of_below hb4).grown hgrow (fun b e=> .inl (by simp[e]))).set (.inl (by simp)) _;exact⟨k.os.trans h.bel.os,k.tape.trans h.bel.tape,k.output.trans h.bel.output,Nat.le_trans sz0 k.size,fun b hb=>(k.block b (by omega) (fun hm=>by
   rcases List.mem_cons.1 hm with e|e
   ·have:=h.ge;omega
   ·have:=h.gr b (optMem e);omega)).trans (h.bel.block b hb)⟩
 ·have e':g2=b:=by simpa [Value.ownBlock]using hb
  rcases hat with e|e
  ·exact h.gr b (by rw[e,e'])
  ·rw[World.size_alloc]at e;omega
 ·obtain⟨i,u,hu,hbu⟩:=mem_feetV.1 hb;by_cases hi:i<vs.length
  ·rw[List.getElem?_append_left hi]at hu;exact h.gs b (mem_feetV.2 ⟨i,u,hu,hbu⟩)
  ·rw[List.getElem?_append_right (by omega)]at hu;have hu':=List.mem_of_getElem? hu;simp at hu';rw[hu']at hbu;have:=hnf b hbu;omega
 ·rcases List.mem_append.1 hu with hu|hu
  ·exact h.fr u hu
  ·simp at hu;exact⟨_,_,hu⟩
set_option maxHeartbeats 1000000
set_option maxRecDepth 100000
theorem new_no (sv pt win:Int)(w:World)(hc:configB sv pt win=false):Calls Tryz.prog 53 #[.agg #[.int .i64 sv,.int .i64 pt,.int .i64 win]] w fun e w'=>e= .returned (.tuple #[.pointer none,.int .i64 1])∧Below w.heap.size w w':=by
 have HC:Hid (∀W,Calls Tryz.prog 84 #[.agg #[.int .i64 sv,.int .i64 pt,.int .i64 win]] W fun e w'=>e= .returned (.bool false)∧Below W.heap.size W w'):=fun W=>by rw[←hc];exact config_any sv pt win W
 have HB:Hid (∀o W,Below (w.alloc o).heap.size (w.alloc o) W→Below w.heap.size w W):=fun o W h=>((Below.refl _ _).alloc (Nat.le_refl _) o).trans (h.mono (by simp))
 go_enter Tryz.func53,Tryz.ntmps53;go_wp2_with fail
 go_at_call 84;refine(HC.out _).mono ?_;rintro e w1 ⟨rfl,hb⟩;have HB1:=hide' (HB.out _ _ hb);clear hb;go_wp2;go_ret2;exact⟨rfl,HB1.out⟩
theorem MakeAt.done {w0 W:World}{X sv pt win:Nat}{rv:Value}{vs:List SvI}(h:MakeAt w0 W X sv pt win sv rv vs)(h1:1≤sv)(h4:sv≤4)(hp:pt≤16):∃g sc,JunAt W X sv pt win g sc (.slice none 0 0) [] [] vs (List.replicate sv ⟨0,[]⟩)∧w0.heap.size≤g∧∀b∈footJ X (.slice none 0 0) [] vs,w0.heap.size≤b:=by
 rcases h.row.2 with⟨_,h0⟩|⟨g,sc,cur,rfl,_,c1,c2,_,c4,c5⟩
 ·omega
 ·refine⟨g,sc,⟨h.blk,⟨cur,c1,fun j u hu=>?_⟩,h.len,h1,h4,c2,hp,World.ownsRow_nil _ _ _ _,rfl,fun i v s hv _=>(by simp at hv),fun i j v u _ hv _=>(by simp at hv),h.srv,fun i v hv=>(by simp at hv)⟩,h.gr g rfl,fun b hb=>?_⟩
  ·have hj:=(List.getElem?_eq_some_iff.1 hu).1;rw[h.len]at hj;have h6:(cur.toList.take (sv*1))[j]?=(vs.map (fun v=>ptrV v.S))[j]?:=by rw[c5]
   rw[List.getElem?_take_of_lt (by omega),List.getElem?_map,hu]at h6;simpa [ptrV]using h6
  ·unfold footJ at hb;simp[Value.ownBlock]at hb;rcases hb with e|e
   ·rw[e];exact h.ge
   ·exact h.gs b e
theorem new_yesF (sv pt win:Nat)(w:World)(hc:configB sv pt win=true)(h1:1≤sv)(h4:sv≤4)(hp:pt≤16):Calls Tryz.prog 53 #[.agg #[.int .i64 (sv:Int),.int .i64 (pt:Int),.int .i64 (win:Int)]] w fun e w'=>∃X g sc vs,e= .returned (.tuple #[.pointer (some ⟨X,0,none⟩),.int .i64 0])∧JunAt w' X sv pt win g sc (.slice none 0 0) [] [] vs (List.replicate sv ⟨0,[]⟩)∧Below w.heap.size w w'∧w.heap.size≤g∧(∀b∈footJ X (.slice none 0 0) [] vs,w.heap.size≤b)∧∀v∈vs,∃S m,v=newS S m:=by
 have HC:Hid (∀W,Calls Tryz.prog 84 #[.agg #[.int .i64 (sv:Int),.int .i64 (pt:Int),.int .i64 (win:Int)]] W fun e w'=>e= .returned (.bool true)∧Below W.heap.size W w'):=fun W=>by rw[←hc];exact config_any sv pt win W
 have HNew:Hid (∀W,Calls Tryz.prog 85 #[] W fun e w'=>e= .returned (.pointer (some ⟨W.heap.size+1,0,none⟩))∧w'=(W.alloc (.map #[] 0)).alloc (svO false 0 W.heap.size (.slice none 0 0) 0 false false (.pointer none) (.slice none 0 0))):=fun W=>newServer_any W
 obtain⟨i1,hi,hz0,hz1,hz2⟩:=info137;have HI:=hide' (And.intro hi (And.intro hz0 (And.intro hz1 hz2)));clear hc hi hz0 hz1 hz2;go_enter Tryz.func53,Tryz.ntmps53;go_wp2_with fail
 go_at_call 84;refine(HC.out _).mono ?_;rintro e w1 ⟨rfl,hb⟩;have p0:w1.cell? ⟨w.heap.size,0,none⟩=some (.int .i64 (sv:Int)):=(hb.cell (p:=⟨w.heap.size,0,none⟩) (by simp)).trans (blkCell (blkNew w _) 0);have p1:w1.cell? ⟨w.heap.size,1,none⟩=some (.int .i64 (pt:Int)):=(hb.cell (p:=⟨w.heap.size,1,none⟩) (by simp)).trans (blkCell (blkNew w _) 1);have p2:w1.cell? ⟨w.heap.size,2,none⟩=some (.int .i64 (win:Int)):=(hb.cell (p:=⟨w.heap.size,2,none⟩) (by simp)).trans (blkCell (blkNew w _) 2);have hlw:w.heap.size<w1.heap.size:=Nat.lt_of_lt_of_le (by simp) hb.size;have hne:¬w.heap.size=w1.heap.size:=by omega
 have hne2:¬w1.heap.size=w.heap.size:=by omega
 have hb1:Below w.heap.size w w1:=((Below.refl _ _).alloc (Nat.le_refl _) _).trans (hb.mono (by simp));have hmk:MakeAt w (w1.alloc (juO sv pt win (.slice none 0 0) (.slice none 0 0))) w1.heap.size sv pt win 0 (.slice none 0 0) []:=
  ⟨blkNew w1 _,World.ownsRow_nil _ _ _ _,rfl,⟨rfl,fun j v s hv _=>(by simp at hv),fun i j v u _ hv _=>(by simp at hv)⟩,hb1.alloc (by omega) _,by omega,fun b hb=>(by cases hb),fun b hb=>(by simp[feetV]at hb),fun v hv=>(by cases hv)⟩
 have HMk:=hide' hmk;have HB1:=hide' hb1;clear hb hb1 hmk;unfold juO at HMk;go_wp2_with fail
 generalize w1.heap.size=X at*;generalize w1.alloc (.cells #[.int .i64 (sv:Int),.int .i64 (pt:Int),.int .i64 (win:Int),.slice none 0 0,.slice none 0 0] 129)=w2 at*;go_loopw [13] (fun i wr=>∃(j:Nat) (rv:Value) (vs:List SvI),j≤sv∧i= .int .i64 (j:Int)∧Hid (MakeAt w wr X sv pt win j rv vs)) (fun i _=>sv-(intOf i).toNat)
 case atStart=>exact⟨0,_,[],Nat.zero_le _,rfl,HMk⟩
 case round=>
  obtain⟨j,rv,vs,hj,rfl,HJ⟩:=hrel;by_cases hlt:j<sv
  ·have hlt':(j:Int)<(sv:Int):=by omega
   obtain⟨ra,rc,rfl⟩:∃a c,rv= .slice a j c:=by
    rcases HJ.out.row.2 with⟨e,h0⟩|⟨g',cap,cur,e,_⟩
    ·exact⟨_,_,by rw[e,h0]⟩
    ·exact⟨_,_,e⟩
   have c4:=(juCells HJ.out.blk).2.2.2.2.1;have cf:=(juCells HJ.out.blk).2.2.2.2.2 4;have hlX:=blkLt HJ.out.blk;have hXg:(Value.slice ra j rc).ownBlock≠some X:=fun e=>by
    obtain⟨cur,hc⟩:=ownsRow_blk HJ.out.row e;have hb:=HJ.out.blk;unfold juO at hb;rw[hb]at hc;cases hc
   have HXG:=hide' hXg;have HRow:Hid (∀W,Below wr.heap.size wr W→W.ownsRow 0 137 1 (.slice ra j rc) j (vs.map (fun v=>ptrV v.S))):=fun W hW=>ownsRow_other HJ.out.row (fun gg hg=>by obtain⟨cur,hc⟩:=ownsRow_blk HJ.out.row hg;exact hW.block gg (blkLt hc))
   have wrj:IntKind.i64.wrap ((j:Int)+1)=(j:Int)+1:=wrap_small _ (by omega) (by omega);clear hXg p0 p1 p2;go_wp2_with fail
   go_region_law (first
    |(go_simp;go_at_call 85;refine(HNew.out _).mono ?_;rintro e w3 ⟨rfl,hw3⟩;have hb3:Below wr.heap.size wr w3:=(by rw[hw3];exact((Below.refl _ wr).drew.alloc (Nat.le_refl _) _).alloc (by simp) _);have HW3:=hide' (And.intro hw3 hb3);have e4:=(hb3.cell (p:=⟨X,4,none⟩) hlX).trans c4;have ef:=(hb3.frozen (p:=⟨X,4,none⟩) hlX).trans cf;have hlt3:=Nat.lt_of_lt_of_le hlX hb3.size;clear hw3 hb3)
    |(refine step_append_lies _ (by rfl) _ _ _ (by rfl) 0 137 i1 (.pointer none) 1 8 Tryz.underlying127 HI.out.1 HI.out.2.1 HI.out.2.2.1 HI.out.2.2.2 (by rfl) (by omega) (.slice ra j rc) j (vs.map (fun v=>ptrV v.S)) (by rfl) (HRow.out _ (HW3.out.2.alloc HW3.out.2.size _)) ⟨w3.heap.size,0,none⟩ 1 1 [.pointer (some ⟨wr.heap.size+1,0,none⟩)] (by rfl) (by rfl) (World.news_of_block (cs:=#[.pointer (some ⟨wr.heap.size+1,0,none⟩)]) (blkNew w3 _)) (fun u hu=>by simp at hu;subst hu;rfl) (by omega) (by unfold maxLen;omega) (by omega) (Nat.zero_le _) _ rfl ?_;intro g2 cap2 wa hown hgrow hat hlta;have hcA:wa.cell? ⟨X,4,none⟩=some (.slice ra j rc):=(hgrow.cell_far ⟨X,4,none⟩ (by simp;omega) (fun e=>HXG.out e.symm)).trans ((World.cell?_of_block (w:=w3) (Below.heap_alloc w3 _ _ hlt3)).trans e4);have hfA:wa.frozen? ⟨X,4,none⟩=false:=(hgrow.frozen_far ⟨X,4,none⟩ (by simp;omega) (fun e=>HXG.out e.symm)).trans ((World.frozen?_of_block (w:=w3) (Below.heap_alloc w3 _ _ hlt3)).trans ef);have HG:=hide' (And.intro hown (And.intro hgrow (And.intro hat hlta)));clear hown hgrow hat)
    |fail)
   all_goals
    have HF:=hide' (HJ.out.more HW3.out.1 HG.out.1 HG.out.2.1 HG.out.2.2.1)
    clear hcA hfA
    generalize wa.setCell ⟨X,4,none⟩ (.slice (some ⟨g2,0,none⟩) (j+1) cap2)=wf at*
    go_wp2
    go_roundw
    case rel=>exact⟨j+1,_,_,by omega,by go_num,HF⟩
    case measure=>simp[intOf];omega
  ·have hje:j=sv:=by omega
   subst hje;have hlt':¬(j:Int)<(j:Int):=by omega
   obtain⟨g,sc,f1,f2,f3⟩:=HJ.out.done h1 h4 hp;have HF:=hide' (And.intro f1 (And.intro HJ.out.bel (And.intro f2 (And.intro f3 HJ.out.fr))));clear f1 f2 f3;go_wp2;go_ret2;exact⟨X,rfl,g,sc,vs,HF.out⟩
end Go.Proofs.YtlonjggfnleolaaGreatDoor
namespace Go.Proofs.YtlonjggfnleolaaGreatDoor
open Go.RowKit Go.Shelf
set_option linter.unusedVariables false
theorem lawnum (n:Int)(w:World):Calls Tryz.prog 99 #[.int .i64 n] w fun e w'=>e= .returned (.int .i64 n)∧w'=w:=by
 go_enter Tryz.func99,Tryz.ntmps99;go_wp2;go_ret;exact⟨rfl,rfl⟩
def pickI (k:Int)(n:Nat):Nat:=if k<0∨(n:Int)≤k then 0 else k.toNat
theorem pickI_lt (k:Int){n:Nat}(hn:0<n):pickI k n<n:=by
 unfold pickI;split<;>omega
theorem pick_law (k:Int)(n:Nat)(w:World):Calls Tryz.prog 69 #[.int .i64 k,.int .i64 (n:Int)] w fun e w'=>e= .returned (.int .i64 ((pickI k n:Nat):Int))∧w'=w:=by
 by_cases h1:k<0
 ·have e:pickI k n=0:=by unfold pickI;rw[if_pos (.inl h1)]
  rw[e];go_enter Tryz.func69,Tryz.ntmps69;go_wp2;go_ret;exact⟨rfl,rfl⟩
 ·by_cases h2:(n:Int)≤k
  ·have e:pickI k n=0:=by unfold pickI;rw[if_pos (.inr h2)]
   rw[e];go_enter Tryz.func69,Tryz.ntmps69;go_wp2;go_ret;exact⟨rfl,rfl⟩
  ·have e:((pickI k n:Nat):Int)=k:=by unfold pickI;rw[if_neg (by omega)];omega
   rw[e];go_enter Tryz.func69,Tryz.ntmps69;go_wp2;go_ret;exact⟨rfl,rfl⟩
theorem info244:∃i,Tryz.prog.info? 244=some i∧i.zero=some (.pointer none)∧i.size=1∧i.bytes=8:=by
 have h:(Tryz.prog.info? 244).map (fun i=>(i.zero,i.size,i.bytes))=some (some (.pointer none),1,8):=by kernel_rfl
 obtain⟨i,hi,hz⟩:=Option.map_eq_some_iff.1 h;simp only[Prod.mk.injEq]at hz;exact⟨i,hi,hz.1,hz.2.1,hz.2.2⟩
variable {w0 W:World}{X:Nat}{rv:Value}{vs:List Nat}
structure RMakeAt (w0 W:World)(X:Nat)(sv pt win:Int)(j:Nat)(rv:Value)(vs:List Nat):Prop where
 blk:W.heap[X]?=some (rjO sv pt win (.slice none 0 0) rv)
 row:W.ownsRow 0 241 1 rv j (vs.map ptrV)
 len:vs.length=j
 srv:∀(i S:Nat),vs[i]?=some S→W.heap[S]?=some (rsO true 0 ⟨#[]⟩ [])
 bel:Below w0.heap.size w0 W
 ge:w0.heap.size≤X
 gr:∀b,rv.ownBlock=some b→w0.heap.size≤b
 gs:∀b∈vs,w0.heap.size≤b
 nd:vs.Nodup
theorem info241:∃i,Tryz.prog.info? 241=some i∧i.zero=some (.pointer none)∧i.size=1∧i.bytes=8:=by
 have h:(Tryz.prog.info? 241).map (fun i=>(i.zero,i.size,i.bytes))=some (some (.pointer none),1,8):=by kernel_rfl
 obtain⟨i,hi,hz⟩:=Option.map_eq_some_iff.1 h;simp only[Prod.mk.injEq]at hz;exact⟨i,hi,hz.1,hz.2.1,hz.2.2⟩
theorem RMakeAt.more {Wa:World}{j g2 cap2:Nat}{sv pt win:Int}(h:RMakeAt w0 W X sv pt win j rv vs)(hown:Wa.ownsRow 0 241 1 (.slice (some ⟨g2,0,none⟩) (j+1) cap2) (j+1) (vs.map ptrV++[.pointer (some ⟨W.heap.size,0,none⟩)]))(hgrow:((W.alloc (rsO true 0 ⟨#[]⟩ [])).alloc (.cells #[.pointer (some ⟨W.heap.size,0,none⟩)] 241)).grownBy Wa rv.ownBlock)(hat:rv.ownBlock=some g2∨g2=((W.alloc (rsO true 0 ⟨#[]⟩ [])).alloc (.cells #[.pointer (some ⟨W.heap.size,0,none⟩)] 241)).heap.size):RMakeAt w0 (Wa.setCell ⟨X,4,none⟩ (.slice (some ⟨g2,0,none⟩) (j+1) cap2)) X sv pt win (j+1) (.slice (some ⟨g2,0,none⟩) (j+1) cap2) (vs++[W.heap.size]):=by
 have hb3:Below W.heap.size W (W.alloc (rsO true 0 ⟨#[]⟩ [])):=(Below.refl _ W).alloc (Nat.le_refl _) _;have hb4:Below W.heap.size W ((W.alloc (rsO true 0 ⟨#[]⟩ [])).alloc (.cells #[.pointer (some ⟨W.heap.size,0,none⟩)] 241)):=hb3.alloc hb3.size _;have hlX:=blkLt h.blk;have hcv:∀b,rv.ownBlock=some b→b<W.heap.size:=fun b e=>by
  obtain⟨cur,hc⟩:=ownsRow_blk h.row e;exact blkLt hc
 have nX:rv.ownBlock≠some X:=fun e=>by
  obtain⟨cur,hc⟩:=ownsRow_blk h.row e;have hb:=h.blk;unfold rjO at hb;rw[hb]at hc;cases hc
 have keep:∀b,b<W.heap.size→rv.ownBlock≠some b→b≠X→(Wa.setCell ⟨X,4,none⟩ (.slice (some ⟨g2,0,none⟩) (j+1) cap2)).heap[b]?=W.heap[b]?:=fun b hb h1 h2=>(Below.heap_setCell Wa ⟨X,4,none⟩ _ b h2).trans ((hgrow.block b (by rw[World.size_alloc,World.size_alloc];omega) (fun e=>h1 e.symm)).trans (hb4.block b hb))
 have hXa:Wa.heap[X]?=some (rjO sv pt win (.slice none 0 0) rv):=(hgrow.block X (by rw[World.size_alloc,World.size_alloc];omega) (fun e=>nX e.symm)).trans ((hb4.block X hlX).trans h.blk);have hS:(Wa.setCell ⟨X,4,none⟩ (.slice (some ⟨g2,0,none⟩) (j+1) cap2)).heap[W.heap.size]?=some (rsO true 0 ⟨#[]⟩ []):=(Below.heap_setCell Wa ⟨X,4,none⟩ _ W.heap.size (by show W.heap.size≠X;omega)).trans ((hgrow.block W.heap.size (by rw[World.size_alloc,World.size_alloc];omega) (fun e=>by have:=hcv W.heap.size e.symm;omega)).trans ((Below.heap_alloc _ _ _ (by rw[World.size_alloc];omega)).trans (blkNew W _)));have sz0:=h.bel.size;refine⟨blkSet (i:=4) hXa _,?_,by simp[h.len],fun i S hi=>?_,?_,h.ge,fun b hb=>?_,fun b hb=>?_,?_⟩
 ·rw[List.map_append];exact ownsRow_other hown (fun gg hg=>by
   cases hg;refine Below.heap_setCell Wa ⟨X,4,none⟩ _ g2 (fun e=>?_);obtain⟨cur,hc⟩:=ownsRow_blk hown rfl;rw[show g2=X from e,hXa]at hc;unfold rjO at hc;cases hc)
 ·by_cases hil:i<vs.length
  ·rw[List.getElem?_append_left hil]at hi;have h1:=h.srv i S hi;refine(keep S (blkLt h1) (fun e=>?_) (fun e=>?_)).trans h1
   ·obtain⟨cur,hc⟩:=ownsRow_blk h.row e;unfold rsO at h1;rw[h1]at hc;cases hc
   ·have hb:=h.blk;unfold rjO at hb;unfold rsO at h1;rw[←e,h1]at hb;cases hb
  ·rw[List.getElem?_append_right (by omega)]at hi;have hu':=List.mem_of_getElem? hi;simp at hu';rw[hu'];exact hS
 ·have k:Chg (X::rv.ownBlock.toList) W (Wa.setCell ⟨X,4,none⟩ (.slice (some ⟨g2,0,none⟩) (j+1) cap2)):=((Chg.of_below hb4).grown hgrow (fun b e=> .inl (by simp[e]))).set (.inl (by simp)) _;exact⟨k.os.trans h.bel.os,k.tape.trans h.bel.tape,k.output.trans h.bel.output,Nat.le_trans sz0 k.size,fun b hb=>(k.block b (by omega) (fun hm=>by
   rcases List.mem_cons.1 hm with e|e
   ·have:=h.ge;omega
   ·have:=h.gr b (optMem e);omega)).trans (h.bel.block b hb)⟩
 ·have e':g2=b:=by simpa [Value.ownBlock]using hb
  rcases hat with e|e
  ·exact h.gr b (by rw[e,e'])
  ·rw[World.size_alloc,World.size_alloc]at e;omega
 ·rcases List.mem_append.1 hb with hb|hb
  ·exact h.gs b hb
  ·simp at hb;omega
 ·refine List.nodup_append.2 ⟨h.nd,by simp,fun a ha b hb e=>?_⟩;simp at hb;obtain⟨i,hi,e2⟩:=List.mem_iff_getElem.1 ha;have:=blkLt (h.srv i a (by rw[List.getElem?_eq_getElem hi,e2]));omega
theorem RMakeAt.done {sv pt win:Nat}(h:RMakeAt w0 W X sv pt win sv rv vs)(h1:1≤sv)(h4:sv≤4)(hp:pt≤16):RJunAt W X sv pt win (.slice none 0 0) rv [] [] vs (List.replicate sv ⟨0,[]⟩):=
 ⟨h.blk,World.ownsRow_nil _ _ _ _,by rw[h.len];exact h.row,h.len,by simp,h1,h4,hp,rfl,fun i v s hv _=>(by simp at hv),fun j S s hS hs=>by
  have hs':=List.mem_of_getElem? hs;rw[List.mem_replicate]at hs';rw[hs'.2];exact⟨_,h.srv j S hS⟩⟩
set_option maxHeartbeats 1000000
set_option maxRecDepth 100000
theorem rnew_no (sv pt win:Int)(w:World)(hc:configB sv pt win=false):Calls Tryz.prog 111 #[.agg #[.int .i64 sv,.int .i64 pt,.int .i64 win]] w fun e w'=>e= .returned (.tuple #[.pointer none,.int .i64 1])∧Below w.heap.size w w':=by
 have HB:Hid (∀o,Below w.heap.size w (w.alloc o)):=fun o=>(Below.refl _ _).alloc (Nat.le_refl _) o
 have hcases:sv<1∨(¬sv<1∧4<sv)∨(¬sv<1∧¬4<sv∧pt<1)∨(¬sv<1∧¬4<sv∧¬pt<1∧16<pt)∨(¬sv<1∧¬4<sv∧¬pt<1∧¬16<pt∧win<1)∨(¬sv<1∧¬4<sv∧¬pt<1∧¬16<pt∧¬win<1∧6<win):=by
  simp only[configB,ringB,withinB,Bool.and_eq_false_iff,decide_eq_false_iff_not]at hc;omega
 clear hc;rcases hcases with h|⟨h1,h⟩|⟨h1,h2,h⟩|⟨h1,h2,h3,h⟩|⟨h1,h2,h3,h4,h⟩|⟨h1,h2,h3,h4,h5,h⟩
 all_goals
  go_enter Tryz.func111,Tryz.ntmps111
  go_wp2
  go_ret2
  exact⟨rfl,HB.out _⟩
theorem rnew_yes (sv pt win:Nat)(w:World)(hc:configB sv pt win=true):Calls Tryz.prog 111 #[.agg #[.int .i64 (sv:Int),.int .i64 (pt:Int),.int .i64 (win:Int)]] w fun e w'=>∃X rv vs,e= .returned (.tuple #[.pointer (some ⟨X,0,none⟩),.int .i64 0])∧RMakeAt w w' X sv pt win sv rv vs∧RJunAt w' X sv pt win (.slice none 0 0) rv [] [] vs (List.replicate sv ⟨0,[]⟩):=by
 simp only[configB,ringB,withinB,Bool.and_eq_true,decide_eq_true_eq]at hc;obtain⟨⟨⟨a1,a2⟩,a3,a4⟩,a5,a6⟩:=hc;have b1:¬(sv:Int)<1:=by omega
 have b2:¬(4:Int)<sv:=by omega
 have b3:¬(pt:Int)<1:=by omega
 have b4:¬(16:Int)<pt:=by omega
 have b5:¬(win:Int)<1:=by omega
 have b6:¬(6:Int)<win:=by omega
 obtain⟨i1,hi,hz0,hz1,hz2⟩:=info241;have HI:=hide' (And.intro hi (And.intro hz0 (And.intro hz1 hz2)));have hb1:Below w.heap.size w (w.alloc (.cells #[.int .i64 (sv:Int),.int .i64 (pt:Int),.int .i64 (win:Int)] 93)):=(Below.refl _ _).alloc (Nat.le_refl _) _;have hmk:RMakeAt w ((w.alloc (.cells #[.int .i64 (sv:Int),.int .i64 (pt:Int),.int .i64 (win:Int)] 93)).alloc (rjO sv pt win (.slice none 0 0) (.slice none 0 0))) (w.heap.size+1) sv pt win 0 (.slice none 0 0) []:=
  ⟨hs_new (by simp),World.ownsRow_nil _ _ _ _,rfl,fun i S hS=>(by simp at hS),hb1.alloc (by simp) _,by omega,fun b hb=>(by cases hb),fun b hb=>(by simp at hb),List.nodup_nil⟩
 have HMk:=hide' hmk;have HP:Hid (((w.alloc (.cells #[.int .i64 (sv:Int),.int .i64 (pt:Int),.int .i64 (win:Int)] 93)).alloc (rjO sv pt win (.slice none 0 0) (.slice none 0 0))).heap[w.heap.size]?=some (.cells #[.int .i64 (sv:Int),.int .i64 (pt:Int),.int .i64 (win:Int)] 93 (0,0))):=(Below.heap_alloc _ _ _ (by simp)).trans (blkNew w _);clear hb1 hmk hi hz0 hz1 hz2;unfold rjO at HMk HP;go_enter Tryz.func111,Tryz.ntmps111;go_wp2_with fail
 generalize (w.alloc (.cells #[.int .i64 (sv:Int),.int .i64 (pt:Int),.int .i64 (win:Int)] 93)).alloc (.cells #[.int .i64 (sv:Int),.int .i64 (pt:Int),.int .i64 (win:Int),.slice none 0 0,.slice none 0 0] 240)=w2 at*;go_loopw [5] (fun i wr=>∃(j:Nat) (rv:Value) (vs:List Nat),j≤sv∧i= .int .i64 (j:Int)∧Hid (RMakeAt w wr (w.heap.size+1) sv pt win j rv vs∧wr.heap[w.heap.size]?=some (.cells #[.int .i64 (sv:Int),.int .i64 (pt:Int),.int .i64 (win:Int)] 93 (0,0)))) (fun i _=>sv-(intOf i).toNat)
 case atStart=>exact⟨0,_,[],Nat.zero_le _,rfl,HMk.out,HP.out⟩
 case round=>
  obtain⟨j,rv,vs,hj,rfl,HJ⟩:=hrel;have p0:=blkCell HJ.out.2 0;simp at p0;have hpl:=blkLt HJ.out.2;by_cases hlt:j<sv
  ·have hlt':(j:Int)<(sv:Int):=by omega
   obtain⟨ra,rc,rfl⟩:=row_form HJ.out.1.row;have hb:=HJ.out.1.blk;unfold rjO at hb;have c4:=blkCell hb 4;simp at c4;have cf:=blkFree hb 4;have hlX:=blkLt hb;have hXg:(Value.slice ra j rc).ownBlock≠some (w.heap.size+1):=fun e=>by
    obtain⟨cur,hc⟩:=ownsRow_blk HJ.out.1.row e;rw[hb]at hc;cases hc
   have hPg:(Value.slice ra j rc).ownBlock≠some w.heap.size:=fun e=>by
    obtain⟨cur,hc⟩:=ownsRow_blk HJ.out.1.row e;rw[HJ.out.2]at hc;cases hc
   have HXG:=hide' (And.intro hXg hPg);have HRow:Hid (((wr.alloc (rsO true 0 ⟨#[]⟩ [])).alloc (.cells #[.pointer (some ⟨wr.heap.size,0,none⟩)] 241)).ownsRow 0 241 1 (.slice ra j rc) j (vs.map ptrV)):=World.ownsRow.alloc (World.ownsRow.alloc HJ.out.1.row _) _;have HNw:=hide' (show∀(k:Nat) (u:Value),[Value.pointer (some ⟨wr.heap.size,0,none⟩)][k]?=some u→((wr.alloc (rsO true 0 ⟨#[]⟩ [])).alloc (.cells #[.pointer (some ⟨wr.heap.size,0,none⟩)] 241)).cell? ((⟨wr.heap.size+1,0,none⟩:Addr).add k)=some u from World.news_of_block (cs:=#[.pointer (some ⟨wr.heap.size,0,none⟩)]) (hs_new (by simp)));have wrj:IntKind.i64.wrap ((j:Int)+1)=(j:Int)+1:=wrap_small _ (by omega) (by omega);have HMore:=hide' (fun(g2 cap2:Nat) (Wa:World)=>HJ.out.1.more (g2:=g2) (cap2:=cap2) (Wa:=Wa))
   unfold rsO mkB at HRow HNw HMore;clear hb hXg hPg;go_wp2_with (first
    |(at_builtin;refine wpList_append_lies _ rfl _ _ _ rfl 0 241 i1 (.pointer none) 1 8 Tryz.underlying238 HI.out.1 HI.out.2.1 HI.out.2.2.1 HI.out.2.2.2 rfl (by omega) (.slice ra j rc) j (vs.map ptrV) rfl HRow.out ⟨wr.heap.size+1,0,none⟩ 1 1 [.pointer (some ⟨wr.heap.size,0,none⟩)] rfl rfl HNw.out (by simp[Value.oneCell']) (by omega) (by unfold maxLen;omega) (by omega) (Nat.zero_le _) _ rfl ?_;intro g2 cap2 wa hown hgrow hat hlta;have hcA:wa.cell? ⟨w.heap.size+1,4,none⟩=some (.slice ra j rc):=(hgrow.cell_far ⟨w.heap.size+1,4,none⟩ (by simp;omega) (fun e=>HXG.out.1 e.symm)).trans ((World.cell?_of_block ((Below.heap_alloc _ _ _ (by simp;omega)).trans (Below.heap_alloc wr _ _ hlX))).trans c4);have hfA:wa.frozen? ⟨w.heap.size+1,4,none⟩=false:=(hgrow.frozen_far ⟨w.heap.size+1,4,none⟩ (by simp;omega) (fun e=>HXG.out.1 e.symm)).trans ((World.frozen?_of_block ((Below.heap_alloc _ _ _ (by simp;omega)).trans (Below.heap_alloc wr _ _ hlX))).trans cf);have hlxa:w.heap.size+1<wa.heap.size:=Nat.lt_of_lt_of_le (by simp;omega) hgrow.size;have HG:=hide' (And.intro hown (And.intro hgrow hat));clear hown hgrow hat)
    |fail)
   have hPa:wa.heap[w.heap.size]?=some (.cells #[.int .i64 (sv:Int),.int .i64 (pt:Int),.int .i64 (win:Int)] 93 (0,0)):=(HG.out.2.1.block w.heap.size (by simp;omega) (fun e=>HXG.out.2 e.symm)).trans ((Below.heap_alloc _ _ _ (by simp;omega)).trans ((Below.heap_alloc wr _ _ hpl).trans HJ.out.2));refine⟨⟨j+1,_,_,by omega,by go_num,HMore.out _ _ _ HG.out.1 HG.out.2.1 HG.out.2.2,(Below.heap_setCell wa ⟨w.heap.size+1,4,none⟩ _ w.heap.size (by show w.heap.size≠w.heap.size+1;omega)).trans hPa⟩,?_⟩;simp[intOf];omega
  ·have hje:j=sv:=by omega
   subst hje;have hlt':¬(j:Int)<(j:Int):=by omega
   have HF:=hide' (And.intro HJ.out.1 (HJ.out.1.done (by omega) (by omega) (by omega)));go_wp2;go_ret2;exact⟨_,rfl,_,_,HF.out⟩
theorem keepTys {w w':World}{M Ts Us:List Nat}(k:Chg M w w')(hM:∀b∈M,∀(Z:Array Value) (T:Nat) (f:Nat×Nat),w.heap[b]?=some (.cells Z T f)→T∈Us)(hd:∀t∈Ts,t∉Us):KeepT Ts w w':=KeepT.chg k (fun b T Z f hm hZ hT=>hd T hT (hM b hm Z T f hZ))
end Go.Proofs.YtlonjggfnleolaaGreatDoor
