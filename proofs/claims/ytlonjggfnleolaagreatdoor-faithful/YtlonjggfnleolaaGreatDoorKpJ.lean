import Derived.Test.YtlonjggfnleolaaGreatDoorKpB
import Derived.Test.YtlonjggfnleolaaGreatDoorKpS
import Derived.Deep.MidRow
namespace Go.Proofs.YtlonjggfnleolaaGreatDoor
open Go.RowKit Go.Shelf
set_option linter.unusedVariables false
theorem row_any {w:World}{lo e size n j:Nat}{v u:Value}{xs:List Value}(h:Row w lo e size v n xs)(hj:xs[j]?=some u):∃g c,v= .slice (some ⟨g,0,none⟩) n c∧n≤c∧g<w.heap.size∧w.cell? ⟨g,j,none⟩=some u:=by
 have hl:=h.1;have hlt:j<n*size:=by have:=(List.getElem?_eq_some_iff.1 hj).1;omega
 obtain⟨_,⟨_,h0⟩|⟨g,cap,cur,hv,_,hg,hnc,_,ht⟩⟩:=h
 ·rw[h0]at hlt;omega
 ·refine⟨g,cap,hv,hnc,blkLt hg,(blkCell hg j).trans ?_⟩;rw[←ht,List.getElem?_take_of_lt hlt]at hj;simpa using hj
set_option maxHeartbeats 1000000
set_option maxRecDepth 20000
def cellsI (L:List (ByteArray×ByteArray)):List Value:=L.flatMap (fun p=>[Value.string p.1,Value.string p.2])
theorem cellsI_len:∀L,(cellsI L).length=L.length*2:=by
 intro L;induction L with
 |nil=>rfl
 |cons p L ih=>show(([Value.string p.1,Value.string p.2]:List Value)++cellsI L).length=_;rw[List.length_append,ih];simp;omega
theorem cellsI_app (L K:List (ByteArray×ByteArray)):cellsI (L++K)=cellsI L++cellsI K:=by unfold cellsI;rw[List.flatMap_append]
theorem cellsI_at:∀(L:List (ByteArray×ByteArray)) (i:Nat) (p:ByteArray×ByteArray),L[i]?=some p→(cellsI L)[i*2]?=some (.string p.1)∧(cellsI L)[i*2+1]?=some (.string p.2):=by
 intro L;induction L with
 |nil=>intro i p h;simp at h
 |cons q L ih=>
  intro i p h;have e:cellsI (q::L)=Value.string q.1::Value.string q.2::cellsI L:=rfl;rw[e];cases i with
  |zero=>simp at h;subst h;exact⟨rfl,rfl⟩
  |succ i=>
   simp at h;have:=ih i p h;rw[show(i+1)*2=i*2+1+1 by omega,show i*2+1+1+1=(i*2+1)+1+1 by omega];simpa using this
def ShopAt (W:World)(B:Nat)(L:List (ByteArray×ByteArray))(v:Value):Prop:=W.cell? ⟨B,0,none⟩=some v∧W.ownsRow 0 181 2 v L.length (cellsI L)
def findN (k:ByteArray):List (ByteArray×ByteArray)→Option Nat
 | []=>none
 |p::l=>if p.1=k then some 0 else(findN k l).map (· +1)
theorem findN_some (k:ByteArray):∀(L:List (ByteArray×ByteArray)) (j:Nat) (p:ByteArray×ByteArray),L[j]?=some p→p.1=k→(∀(m:Nat) (q:ByteArray×ByteArray),m<j→L[m]?=some q→q.1≠k)→findN k L=some j:=by
 intro L;induction L with
 |nil=>intro j p h;simp at h
 |cons q L ih=>
  intro j p h1 h2 h3;unfold findN;cases j with
  |zero=>simp at h1;subst h1;rw[if_pos h2]
  |succ j=>
   rw[if_neg (h3 0 q (by omega) rfl),ih j p (by simpa using h1) h2 (fun m q' hm hq=>h3 (m+1) q' (by omega) (by simpa using hq))];rfl
theorem findN_none (k:ByteArray):∀(L:List (ByteArray×ByteArray)),(∀(m:Nat) (q:ByteArray×ByteArray),L[m]?=some q→q.1≠k)→findN k L=none:=by
 intro L;induction L with
 |nil=>intro _;rfl
 |cons q L ih=>
  intro h;unfold findN;rw[if_neg (h 0 q rfl),ih (fun m q' hq=>h (m+1) q' (by simpa using hq))];rfl
def findI (k:ByteArray)(L:List (ByteArray×ByteArray)):Int:=match findN k L with
 |some i=>(i:Int)
 |none=> -1
theorem str_bne {a b:ByteArray}(h:¬a=b):(a.toList==b.toList)=false:=by
 rw[beq_eq_false_iff_ne,ByteArray.toList_eq,ByteArray.toList_eq];exact fun e=>h (ByteArray.ext (Array.toList_inj.mp e))
theorem find_any (B:Nat)(L:List (ByteArray×ByteArray))(v:Value)(k:ByteArray)(w:World)(h:ShopAt w B L v)(hn:L.length≤1000000000):Calls Tryz.prog 92 #[.pointer (some ⟨B,0,none⟩),.string k] w fun e w'=>e= .returned (.int .i64 (findI k L))∧w'=w:=by
 obtain⟨hc,hr0⟩:=h;have hr:=Row.of_own hr0;clear hr0;have hBl:B<w.heap.size:=World.block_lt_of_cell? w ⟨B,0,none⟩ hc;obtain⟨a,c,rfl⟩:=hr.form;have HR:=hide' hr;clear hr;generalize hln:L.length=n at*;have HLN:=hide' hln;clear hln;have tb:∀s:ByteArray,(s.toList==s.toList)=true:=fun s=>by simp
 go_enter Tryz.func92,Tryz.ntmps92;go_wp2;go_loop [5] (fun i=>∃j:Nat,i= .int .i64 (j:Int)∧j≤n∧Hid (∀(m:Nat) (q:ByteArray×ByteArray),m<j→L[m]?=some q→q.1≠k)) (fun i=>n-(intOf i).toNat)
 case atStart=>exact⟨0,rfl,Nat.zero_le _,fun m q hm=>(by omega)⟩
 case round=>
  obtain⟨j,rfl,hj,HJ⟩:=hrel;by_cases hlt:j<n
  ·have hlt':(j:Int)<(n:Int):=by omega
   obtain⟨p,hp⟩:∃p,L[j]?=some p:=⟨_,List.getElem?_eq_getElem (by have:=HLN.out;omega)⟩
   obtain⟨g,c',hv,hgc,hgl,hcell⟩:=row_any (j:=j*2) (u:= .string p.1) HR.out (cellsI_at L j p hp).1;cases hv;obtain⟨pk,pv⟩:=p;simp only at hcell;have HP:=hide' hp;clear hp;by_cases hk:pk=k
   ·subst hk;have hF:findI pk L=(j:Int):=by
     unfold findI;rw[findN_some pk L j (pk,pv) HP.out rfl HJ.out]
    have HF:=hide' hF;clear hF;go_wp2;go_ret;exact⟨by rw[HF.out];rfl,rfl⟩
   ·have hne:=str_bne hk;go_wp2;go_round
    case rel=>
     refine⟨j+1,by go_num,by omega,fun m q hm hq=>?_⟩;by_cases e:m=j
     ·subst e;rw[HP.out]at hq;cases hq;exact hk
     ·exact HJ.out m q (by omega) hq
    case measure=>simp[intOf];omega
  ·have hlt':¬(j:Int)<(n:Int):=by omega
   have hF:findI k L= -1:=by
    unfold findI;rw[findN_none k L (fun m q hq=>HJ.out m q (by have:=(List.getElem?_eq_some_iff.1 hq).1;have:=HLN.out;omega) hq)]
   have HF:=hide' hF;clear hF;go_wp2;go_ret;exact⟨by rw[HF.out];rfl,rfl⟩
variable {Z:Array Value}{v:Value}
def doesP (kind:Int)(k x:ByteArray)(L:List (ByteArray×ByteArray)):(Bool×ByteArray)×List (ByteArray×ByteArray):=
 match findN k L with
 |some i=>
  if kind=1 then((true,(L.getD i (noB,noB)).2),L)
  else if kind=2 then((true,noB),L.set i (k,x))
  else if kind=3 then((true,noB),L.take i++L.drop (i+1))
  else((true,noB),L)
 |none=>if kind=2 then((true,noB),L++[(k,x)])else((false,noB),L)
theorem findN_at (k:ByteArray):∀(L:List (ByteArray×ByteArray)) (i:Nat),findN k L=some i→∃x,L[i]?=some (k,x):=by
 intro L;induction L with
 |nil=>intro i h;cases h
 |cons p L ih=>
  intro i h;unfold findN at h;split at h
  ·rename_i e;cases h;exact⟨p.2,by rw[←e];rfl⟩
  ·obtain⟨j,hj,rfl⟩:=Option.map_eq_some_iff.1 h;obtain⟨x,hx⟩:=ih j hj;exact⟨x,by simpa using hx⟩
theorem cellsI_set:∀(L:List (ByteArray×ByteArray)) (i:Nat) (k x y:ByteArray),L[i]?=some (k,y)→cellsI (L.set i (k,x))=(cellsI L).set (i*2+1) (.string x):=by
 intro L;induction L with
 |nil=>intro i k x y h;simp at h
 |cons q L ih=>
  intro i k x y h;have e:cellsI (q::L)=Value.string q.1::Value.string q.2::cellsI L:=rfl;rw[e];cases i with
  |zero=>simp at h;subst h;rfl
  |succ i=>
   simp at h;have:=ih i k x y h;rw[show(i+1)*2+1=(i*2+1)+1+1 by omega];show Value.string q.1::Value.string q.2::cellsI (L.set i (k,x))=_;rw[this];rfl
theorem cellsI_take:∀(L:List (ByteArray×ByteArray)) (i:Nat),(cellsI L).take (i*2)=cellsI (L.take i):=by
 intro L;induction L with
 |nil=>intro i;simp[cellsI]
 |cons q L ih=>
  intro i;cases i with
  |zero=>simp[cellsI]
  |succ i=>
   have e:cellsI (q::L)=Value.string q.1::Value.string q.2::cellsI L:=rfl;rw[e,show(i+1)*2=i*2+1+1 by omega,List.take_succ_cons,List.take_succ_cons,ih i];rfl
theorem cellsI_drop:∀(L:List (ByteArray×ByteArray)) (i:Nat),(cellsI L).drop (i*2)=cellsI (L.drop i):=by
 intro L;induction L with
 |nil=>intro i;simp[cellsI]
 |cons q L ih=>
  intro i;cases i with
  |zero=>simp[cellsI]
  |succ i=>
   have e:cellsI (q::L)=Value.string q.1::Value.string q.2::cellsI L:=rfl;rw[e,show(i+1)*2=i*2+1+1 by omega,List.drop_succ_cons,List.drop_succ_cons,ih i];rfl
theorem cellsI_one:∀(L:List (ByteArray×ByteArray)),∀u∈cellsI L,u.oneCell'=true:=by
 intro L u hu;unfold cellsI at hu;obtain⟨p,_,h⟩:=List.mem_flatMap.1 hu;simp at h;rcases h with e|e<;>(rw[e];rfl)
theorem info181:∃i z,Tryz.prog.info? 181=some i∧i.zero=some z∧i.size=2∧i.bytes=32∧z.cells.size=2:=by
 have h:(Tryz.prog.info? 181).map (fun i=>(i.zero.map (·.cells.size),i.size,i.bytes))=some (some 2,2,32):=by kernel_rfl
 obtain⟨i,hi,hz⟩:=Option.map_eq_some_iff.1 h;simp only[Prod.mk.injEq]at hz;obtain⟨z,hz1,hz2⟩:=Option.map_eq_some_iff.1 hz.1;exact⟨i,z,hi,hz1,hz.2.1,hz.2.2,hz2⟩
structure ShTo (w w':World)(B T:Nat)(Z:Array Value)(v v':Value)(L':List (ByteArray×ByteArray)):Prop where
 blk:w'.heap[B]?=some (.cells (Z.setIfInBounds 0 v') T (0,0))
 row:w'.ownsRow 0 181 2 v' L'.length (cellsI L')
 chg:Chg (B::v.ownBlock.toList) w w'
 own:∀g,v'.ownBlock=some g→v.ownBlock=some g∨w.heap.size≤g
theorem set0 (h:Z[0]?=some v):Z.setIfInBounds 0 v=Z:=by
 obtain⟨h1,h2⟩:=Array.getElem?_eq_some_iff.1 h;rw[Array.setIfInBounds];rw[dif_pos h1];apply Array.ext
 ·simp
 ·intro i hi1 hi2;rw[Array.getElem_set];split
  ·rename_i e;subst e;exact h2.symm
  ·rfl
theorem ShTo.same {w:World}{B T:Nat}{L:List (ByteArray×ByteArray)}(hB:w.heap[B]?=some (.cells Z T (0,0)))(h0:Z[0]?=some v)(hr:w.ownsRow 0 181 2 v L.length (cellsI L)):ShTo w w B T Z v v L:=
 ⟨by rw[set0 h0];exact hB,hr,Chg.refl _ _,fun g hg=> .inl hg⟩
theorem run_append_zero {P:Program}(w:World)(t ty e:TypeId)(i:TypeInfo)(ht:P.underlying t=some (.slice e))(hi:P.info? e=some i)(va:Option Addr)(n cap:Nat)(hnc:n≤cap)(ad:Addr)(c:Nat):(Builtin.append_ #[t,t] ty #[.slice va n cap,.slice (some ad) 0 c]).run P w= .ok (.slice va n cap) w:=by
 have hf:=run_firstCells_some (P:=P) w i.size 0 ad 0 c [] (by simp) (by simp);cases va with
 |none=>simp[Builtin.append_,run_underlying ht,sizeOf,typeInfo,hi,Builtin.lenOf,hnc,hf]
 |some b=>simp[Builtin.append_,run_underlying ht,sizeOf,typeInfo,hi,Builtin.lenOf,hnc,hf,storeCells]
set_option maxHeartbeats 1000000
set_option maxRecDepth 20000
theorem ShTo.drew {w w':World}{B T:Nat}{Z:Array Value}{v v':Value}{L':List (ByteArray×ByteArray)}(h:ShTo w w' B T Z v v' L'):ShTo w w'.drew B T Z v v' L':=⟨h.blk,h.row,h.chg.drew,h.own⟩
def DoesTo (w:World)(B T:Nat)(Z:Array Value)(v:Value)(r:(Bool×ByteArray)×List (ByteArray×ByteArray))(e:Ending)(w':World):Prop:=
 e= .returned (.tuple #[.bool r.1.1,.string r.1.2])∧∃v',ShTo w w' B T Z v v' r.2
section
variable (B T:Nat)(Z:Array Value)(L:List (ByteArray×ByteArray))(v:Value)(k x:ByteArray)(w:World)
theorem does_get (i:Nat)(hB:w.heap[B]?=some (.cells Z T (0,0)))(h0:Z[0]?=some v)(hr:w.ownsRow 0 181 2 v L.length (cellsI L))(hn:L.length≤1000000000)(hf:findN k L=some i):Calls Tryz.prog 61 #[.pointer (some ⟨B,0,none⟩),.int .i64 1,.string k,.string x] w (DoesTo w B T Z v (doesP 1 k x L)):=by
 have hc:w.cell? ⟨B,0,none⟩=some v:=(blkCell hB 0).trans h0;have HF:=hide' (find_any B L v k w ⟨hc,hr⟩ (by omega));obtain⟨y,hy⟩:=findN_at k L i hf;have hil:=(List.getElem?_eq_some_iff.1 hy).1;have HI:Hid (findI k L=(i:Int)):=by show findI k L=(i:Int);unfold findI;rw[hf]
 have HD:Hid (doesP 1 k x L=((true,y),L)):=by
  show doesP 1 k x L=((true,y),L)
  unfold doesP;rw[hf];simp[List.getD,hy]
 have HS:=hide' (ShTo.same hB h0 hr);obtain⟨g,c,hv,hgc,hgl,hcell⟩:=row_any (j:=i*2+1) (u:= .string y) (Row.of_own hr) (cellsI_at L i _ hy).2;subst hv;have hBl:=blkLt hB;clear hf hy hB h0 hr;generalize hln:L.length=n at*;clear hln;go_enter Tryz.func61,Tryz.ntmps61;go_wp2_with fail
 go_at_call 92;refine HF.out.mono ?_;rintro e w1 ⟨rfl,hw1⟩;subst hw1;rw[HI.out];have hi0:(0:Int)≤(i:Int):=by omega
 have hi1:(i:Int)<(n:Int):=by omega
 go_wp2;go_region
 all_goals go_wp2
 all_goals go_ret2
 all_goals rw[HD.out]
 all_goals exact⟨rfl,_,HS.out.drew⟩
theorem does_no (kind:Int)(hk:¬kind=2)(hB:w.heap[B]?=some (.cells Z T (0,0)))(h0:Z[0]?=some v)(hr:w.ownsRow 0 181 2 v L.length (cellsI L))(hn:L.length≤1000000000)(hf:findN k L=none):Calls Tryz.prog 61 #[.pointer (some ⟨B,0,none⟩),.int .i64 kind,.string k,.string x] w (DoesTo w B T Z v (doesP kind k x L)):=by
 have hc:w.cell? ⟨B,0,none⟩=some v:=(blkCell hB 0).trans h0;have HF:=hide' (find_any B L v k w ⟨hc,hr⟩ (by omega));have HI:Hid (findI k L= -1):=by show findI k L= -1;unfold findI;rw[hf]
 have HD:Hid (doesP kind k x L=((false,noB),L)):=by
  show doesP kind k x L=((false,noB),L)
  unfold doesP;rw[hf];simp[hk]
 have HS:=hide' (ShTo.same hB h0 hr);have hBl:=blkLt hB;clear hf hB h0 hr;have k2:(kind==2)=false:=by rw[beq_eq_false_iff_ne];exact hk
 by_cases hk1:kind=1
 ·subst hk1;go_enter Tryz.func61,Tryz.ntmps61;go_wp2_with fail
  go_at_call 92;refine HF.out.mono ?_;rintro e w1 ⟨rfl,hw1⟩;subst hw1;rw[HI.out];go_wp2;go_ret2;rw[HD.out];exact⟨rfl,_,HS.out⟩
 ·by_cases hk3:kind=3
  ·subst hk3;go_enter Tryz.func61,Tryz.ntmps61;go_wp2_with fail
   go_at_call 92;refine HF.out.mono ?_;rintro e w1 ⟨rfl,hw1⟩;subst hw1;rw[HI.out];go_wp2;go_ret2;rw[HD.out];exact⟨rfl,_,HS.out⟩
  ·go_enter Tryz.func61,Tryz.ntmps61;go_wp2_with fail
   go_at_call 92;refine HF.out.mono ?_;rintro e w1 ⟨rfl,hw1⟩;subst hw1;rw[HI.out];go_wp2;go_ret2;rw[HD.out];exact⟨rfl,_,HS.out⟩
theorem does_other (kind:Int)(hk1:¬kind=1)(hk2:¬kind=2)(hk3:¬kind=3)(i:Nat)(hB:w.heap[B]?=some (.cells Z T (0,0)))(h0:Z[0]?=some v)(hr:w.ownsRow 0 181 2 v L.length (cellsI L))(hn:L.length≤1000000000)(hf:findN k L=some i):Calls Tryz.prog 61 #[.pointer (some ⟨B,0,none⟩),.int .i64 kind,.string k,.string x] w (DoesTo w B T Z v (doesP kind k x L)):=by
 have hc:w.cell? ⟨B,0,none⟩=some v:=(blkCell hB 0).trans h0;have HF:=hide' (find_any B L v k w ⟨hc,hr⟩ (by omega));have HI:Hid (findI k L=(i:Int)):=by show findI k L=(i:Int);unfold findI;rw[hf]
 have HD:Hid (doesP kind k x L=((true,noB),L)):=by
  show doesP kind k x L=((true,noB),L)
  unfold doesP;rw[hf];simp[hk1,hk2,hk3]
 have HS:=hide' (ShTo.same hB h0 hr);have hBl:=blkLt hB;clear hf hB h0 hr;have hi0:(0:Int)≤(i:Int):=by omega
 go_enter Tryz.func61,Tryz.ntmps61;go_wp2_with fail
 go_at_call 92;refine HF.out.mono ?_;rintro e w1 ⟨rfl,hw1⟩;subst hw1;rw[HI.out];go_wp2;go_ret2;rw[HD.out];exact⟨rfl,_,HS.out⟩
theorem does_set (i:Nat)(hT:T≠181)(hB:w.heap[B]?=some (.cells Z T (0,0)))(h0:Z[0]?=some v)(hr:w.ownsRow 0 181 2 v L.length (cellsI L))(hn:L.length≤1000000000)(hf:findN k L=some i):Calls Tryz.prog 61 #[.pointer (some ⟨B,0,none⟩),.int .i64 2,.string k,.string x] w (DoesTo w B T Z v (doesP 2 k x L)):=by
 have hc:w.cell? ⟨B,0,none⟩=some v:=(blkCell hB 0).trans h0;have HF:=hide' (find_any B L v k w ⟨hc,hr⟩ (by omega));obtain⟨y,hy⟩:=findN_at k L i hf;have hil:=(List.getElem?_eq_some_iff.1 hy).1;have HI:Hid (findI k L=(i:Int)):=by show findI k L=(i:Int);unfold findI;rw[hf]
 have HD:Hid (doesP 2 k x L=((true,noB),L.set i (k,x))):=by
  show doesP 2 k x L=((true,noB),L.set i (k,x))
  unfold doesP;rw[hf];simp
 obtain⟨g,c,hv,hgc,hgl,hcell⟩:=row_any (j:=i*2+1) (u:= .string y) (Row.of_own hr) (cellsI_at L i _ hy).2;subst hv;have hrow:=hr;obtain⟨hx1,⟨hx2,_⟩|⟨g',cap,cur,e1,_,hh,hnc,hcm,hcs,ht⟩⟩:=hrow
 ·cases hx2
 cases e1;have hBg:B≠g:=fun e=>by rw[e,hh]at hB;cases hB;exact hT rfl
 have cf:=blkFree hh;have HS:Hid (ShTo w (w.setCell ⟨g,i*2+1,none⟩ (.string x)) B T Z (.slice (some ⟨g,0,none⟩) L.length c) (.slice (some ⟨g,0,none⟩) L.length c) (L.set i (k,x))):=by
  refine⟨by rw[set0 h0];exact hs_set hB hBg,?_,(Chg.refl _ w).set (.inl (by simp[Value.ownBlock])) _,fun g hg=> .inl hg⟩;rw[List.length_set,cellsI_set L i k x y hy];refine⟨by rw[List.length_set];exact hx1,.inr ⟨g,c,cur.setIfInBounds (i*2+1) (.string x),rfl,Nat.zero_le _,blkSet (i:=i*2+1) hh _,hnc,hcm,by simpa using hcs,?_⟩⟩;rw[Array.toList_setIfInBounds,←ht,List.take_set]
 have hBl:=blkLt hB;clear hf hy hB h0 hr hh hcs ht hx1;generalize hln:L.length=n at*;clear hln;go_enter Tryz.func61,Tryz.ntmps61;go_wp2_with fail
 go_at_call 92;refine HF.out.mono ?_;rintro e w1 ⟨rfl,hw1⟩;subst hw1;rw[HI.out];have hi0:(0:Int)≤(i:Int):=by omega
 have hi1:(i:Int)<(n:Int):=by omega
 go_wp2;go_ret2;rw[HD.out];exact⟨rfl,_,HS.out⟩
end
set_option maxHeartbeats 1000000
set_option maxRecDepth 20000
theorem shTo_put {w W w9:World}{B T g cap:Nat}{Z:Array Value}{v:Value}{L':List (ByteArray×ByteArray)}(hT:T≠181)(hB:w.heap[B]?=some (.cells Z T (0,0)))(hv:∀b,v.ownBlock=some b→∃cur,w.heap[b]?=some (.cells cur 181 (0,0)))(hk:Chg v.ownBlock.toList w w9)(hr:w9.ownsRow 0 181 2 (.slice (some ⟨g,0,none⟩) L'.length cap) L'.length (cellsI L'))(hg:v.ownBlock=some g∨w.heap.size≤g):ShTo w (w9.setCell ⟨B,0,none⟩ (.slice (some ⟨g,0,none⟩) L'.length cap)) B T Z v (.slice (some ⟨g,0,none⟩) L'.length cap) L':=by
 have hBv:B∉v.ownBlock.toList:=fun hm=>by
  obtain⟨cur,hc⟩:=hv B (mem_own hm);rw[hB]at hc;cases hc;exact hT rfl
 have hB9:=hk.keep hB hBv;refine⟨blkSet (i:=0) hB9 _,ownsRow_other hr (fun b hb=>Below.heap_setCell _ _ _ _ (fun e=>?_)),(hk.more (fun b hb=>List.mem_cons_of_mem _ hb)).set (.inl (by simp)) _,fun b hb=>?_⟩
 ·obtain⟨cur,hc⟩:=ownsRow_blk hr hb;rw[show b=B from e,hB9]at hc;cases hc;exact hT rfl
 ·have:g=b:=by cases hb;rfl
  subst this;exact hg
theorem cellsI_snoc (L:List (ByteArray×ByteArray))(k x:ByteArray):cellsI L++[Value.string k,.string x]=cellsI (L++[(k,x)]):=by rw[cellsI_app];rfl
section
variable (B T:Nat)(Z:Array Value)(L:List (ByteArray×ByteArray))(v:Value)(k x:ByteArray)(w:World)
theorem does_put (hT:T≠181)(hB:w.heap[B]?=some (.cells Z T (0,0)))(h0:Z[0]?=some v)(hr:w.ownsRow 0 181 2 v L.length (cellsI L))(hn:L.length≤1000000000)(hf:findN k L=none):Calls Tryz.prog 61 #[.pointer (some ⟨B,0,none⟩),.int .i64 2,.string k,.string x] w (DoesTo w B T Z v (doesP 2 k x L)):=by
 have hc:w.cell? ⟨B,0,none⟩=some v:=(blkCell hB 0).trans h0;have HF:=hide' (find_any B L v k w ⟨hc,hr⟩ (by omega));have HI:Hid (findI k L= -1):=by show findI k L= -1;unfold findI;rw[hf]
 have HD:Hid (doesP 2 k x L=((true,noB),L++[(k,x)])):=by
  show doesP 2 k x L=((true,noB),L++[(k,x)])
  unfold doesP;rw[hf];simp
 have hv:∀b,v.ownBlock=some b→∃cur,w.heap[b]?=some (.cells cur 181 (0,0)):=fun b hb=>ownsRow_blk hr hb
 have HR:Hid (∀A,(w.alloc A).ownsRow 0 181 2 v L.length (cellsI L)):=fun A=>ownsRow_other hr (fun b hb=>by obtain⟨cur,hc⟩:=hv b hb;exact Below.heap_alloc _ _ _ (blkLt hc))
 have hBl:=blkLt hB;have HP:Hid (∀A g cap w9,w9.ownsRow 0 181 2 (.slice (some ⟨g,0,none⟩) (L.length+1) cap) (L.length+1) (cellsI L++[Value.string k,.string x])→(w.alloc A).grownBy w9 v.ownBlock→(v.ownBlock=some g∨g=w.heap.size+1)→ShTo w (w9.setCell ⟨B,0,none⟩ (.slice (some ⟨g,0,none⟩) (L.length+1) cap)) B T Z v (.slice (some ⟨g,0,none⟩) (L.length+1) cap) (L++[(k,x)])∧w9.frozen? ⟨B,0,none⟩=false∧B<w9.heap.size∧w9.cell? ⟨B,0,none⟩=some v):=fun A g cap w9 h1 h2 h3=>by
  have hk:Chg v.ownBlock.toList w w9:=((Chg.refl _ w).trans (Chg.of_below ((Below.refl _ _).alloc (Nat.le_refl _) A)) (Later.refl _ _)).grown h2 (fun b e=> .inl (by simp[e]));have hBv:B∉v.ownBlock.toList:=fun hm=>by
   obtain⟨cur,hc⟩:=hv B (mem_own hm);rw[hB]at hc;cases hc;exact hT rfl
  have hB9:=hk.keep hB hBv;have:=shTo_put (L':=L++[(k,x)]) (g:=g) (cap:=cap) (W:=w) hT hB hv hk (by rw[List.length_append,←cellsI_snoc];exact h1) (by rcases h3 with e|e;exact .inl e;exact .inr (by omega));rw[List.length_append]at this;exact⟨this,blkFree hB9 0,blkLt hB9,(blkCell hB9 0).trans h0⟩
 obtain⟨i181,z181,hi1,hi2,hi3,hi4,hi5⟩:=info181;have HX:=hide' (And.intro hi1 (And.intro hi2 (And.intro hi3 (And.intro hi4 hi5))));clear hf hB h0 hr hv hi1 hi2 hi3 hi4 hi5;generalize hln:L.length=n at*;clear hln;have hvf:∃a c,v= .slice a n c:=by
  rcases(HR.out (.map #[] 0)).2 with⟨e,e2⟩|⟨g,cap,cur,e,_⟩
  ·exact⟨none,0,by rw[e,e2]⟩
  ·exact⟨_,_,e⟩
 obtain⟨va,vc,rfl⟩:=hvf;have hBn:¬B=w.heap.size:=by omega
 go_enter Tryz.func61,Tryz.ntmps61;go_wp2_with fail
 go_at_call 92;refine HF.out.mono ?_;rintro e w1 ⟨rfl,hw1⟩;subst hw1;rw[HI.out];go_wp2_with (first
  |(at_builtin;refine wpList_append_lies _ rfl _ _ _ rfl 0 181 i181 z181 2 32 Tryz.underlying64 HX.out.1 HX.out.2.1 HX.out.2.2.1 HX.out.2.2.2.1 HX.out.2.2.2.2 (by omega) (.slice va n vc) n (cellsI L) rfl (HR.out _) ⟨w1.heap.size,0,none⟩ 1 1 [.string k,.string x] rfl rfl (World.news_of_block (hs_new (by simp))) (fun u hu=>by simp at hu;rcases hu with e|e<;>(rw[e];rfl)) (by omega) (by unfold maxLen;omega) (by omega) (Nat.zero_le _) _ rfl ?_;intro g cap w9 hown hgr hat hlt;have hp:=HP.out _ g cap w9 hown hgr (by rcases hat with e|e;exact Or.inl e;exact Or.inr (by simpa using e));have HQ:=hide' hp.1;have cf9:=hp.2.1;have hBl9:=hp.2.2.1;have cc9:=hp.2.2.2;clear hown hgr hat hp)
  |fail)
 go_ret2;rw[HD.out];exact⟨rfl,_,HQ.out⟩
end
set_option maxHeartbeats 2000000
set_option maxRecDepth 20000
theorem wpList_append_any {P:Program}(w:World){ops:Array Oper}{rest:List Oper}{o:Oper}{a:Act}{Q:Exit→Act→World→Prop}(hgd:o.guard=none)(s x:Operand)(t:TypeId)(ho:o.op= .call {callee:= .builtin .append,args:=#[s,x],argTypes:=#[t,t]})(base:Nat)(e:TypeId)(i:TypeInfo)(z:Value)(size bytes:Nat)(ht:P.underlying t=some (.slice e))(hi:P.info? e=some i)(hz:i.zero=some z)(hsize:i.size=size)(hby:i.bytes=bytes)(hzs:z.cells.size=size)(hsz:0<size)(va:Option Addr)(n cap:Nat)(xs:List Value)(hs:a.eval s= .slice va n cap)(hown:w.ownsRow base e size (.slice va n cap) n xs)(ad:Addr)(m c:Nat)(news:List Value)(hx:a.eval x= .slice (some ad) m c)(hl:news.length=m*size)(hnews:∀j u,news[j]?=some u→w.cell? (ad.add j)=some u)(h1:∀u∈news,u.oneCell'=true)(h63:n+m≤maxLen)(hbytes:(n+m)*bytes≤140737488355328)(hbase:base≤w.heap.size)(h:∀va' cap' w',w'.ownsRow base e size (.slice va' (n+m) cap') (n+m) (xs++news)→w.grownBy w' (Value.slice va n cap).ownBlock→((Value.slice va' (n+m) cap').ownBlock=(Value.slice va n cap).ownBlock∨∃g,(Value.slice va' (n+m) cap').ownBlock=some g∧w.heap.size≤g)→wpList P ops Q rest (a.put o.dst (.slice va' (n+m) cap')) w'):wpList P ops Q (o::rest) a w:=by
 by_cases hm:m=0
 ·subst hm;have hnc:n≤cap:=by
   rcases hown.2 with⟨e1,e2⟩|⟨g,cap',cur,e1,_,_,e2,_⟩
   ·cases e1;omega
   ·cases e1;exact e2
  have hnn:news=[]:=List.length_eq_zero_iff.1 (by omega);subst hnn;have hk:=h va cap w (by rw[List.append_nil];exact hown) ⟨rfl,rfl,rfl,Nat.le_refl _,fun _ _ _=>rfl⟩ (.inl rfl);refine wpList_plain hgd fun K hK=>?_
  have hrun:=run_append_zero (P:=P) w t o.type e i ht hi va n cap hnc ad c;unfold Oper.wp;simp[execOp,ho,resolve,invoke,builtin,hs,hx,hrun,Result.andThen];exact hK _ _ hk
 ·refine wpList_append_lies w hgd s x t ho base e i z size bytes ht hi hz hsize hby hzs hsz (.slice va n cap) n xs hs hown ad m c news hx hl hnews h1 (by omega) h63 hbytes hbase _ rfl ?_;intro g cap' w' h2 h3 h4 h5;refine h _ _ _ h2 h3 ?_;rcases h4 with h4|h4
  ·exact .inl h4.symm
  ·exact .inr ⟨g,rfl,by omega⟩
theorem addr_add (b o i:Nat):(⟨b,o,none⟩:Addr).add i=⟨b,o+i,none⟩:=by simp[Addr.add]
section
variable (B T:Nat)(Z:Array Value)(L:List (ByteArray×ByteArray))(v:Value)(k x:ByteArray)(w:World)
theorem cells_of_row {w:World}{g c n:Nat}{xs:List Value}{e size:Nat}(h:w.ownsRow 0 e size (.slice (some ⟨g,0,none⟩) n c) n xs){j:Nat}{u:Value}(hu:xs[j]?=some u):w.cell? ⟨g,j,none⟩=some u:=by
 obtain⟨g',c',hv,_,_,hc⟩:=row_any (Row.of_own h) hu;cases hv;exact hc
theorem does_del (i:Nat)(hT:T≠181)(hB:w.heap[B]?=some (.cells Z T (0,0)))(h0:Z[0]?=some v)(hr:w.ownsRow 0 181 2 v L.length (cellsI L))(hn:L.length≤1000000000)(hf:findN k L=some i):Calls Tryz.prog 61 #[.pointer (some ⟨B,0,none⟩),.int .i64 3,.string k,.string x] w (DoesTo w B T Z v (doesP 3 k x L)):=by
 have hc:w.cell? ⟨B,0,none⟩=some v:=(blkCell hB 0).trans h0;have HF:=hide' (find_any B L v k w ⟨hc,hr⟩ (by omega));obtain⟨y,hy⟩:=findN_at k L i hf;have hil:=(List.getElem?_eq_some_iff.1 hy).1;have HI:Hid (findI k L=(i:Int)):=by show findI k L=(i:Int);unfold findI;rw[hf]
 have HD:Hid (doesP 3 k x L=((true,noB),L.take i++L.drop (i+1))):=by
  show doesP 3 k x L=((true,noB),L.take i++L.drop (i+1))
  unfold doesP;rw[hf];simp
 obtain⟨g,c,hv,hgc,hgl,_⟩:=row_any (j:=i*2) (u:= .string k) (Row.of_own hr) (cellsI_at L i _ hy).1;subst hv;have hv:∀b,(Value.slice (some ⟨g,0,none⟩) L.length c).ownBlock=some b→∃cur,w.heap[b]?=some (.cells cur 181 (0,0)):=fun b hb=>ownsRow_blk hr hb
 obtain⟨cur,hcur⟩:=hv g rfl;have hBl:=blkLt hB;have hBg:B≠g:=fun e=>by rw[e,hcur]at hB;cases hB;exact hT rfl
 have HN:Hid (∀W:World,W.heap[g]?=w.heap[g]?→∀(m j:Nat) (u:Value),(cellsI L)[m+j]?=some u→W.cell? ((⟨g,m,none⟩:Addr).add j)=some u):=fun W hW m j u hu=>by
  rw[addr_add,World.cell?_of_block (a:=⟨g,m+j,none⟩) hW];exact cells_of_row hr hu
 have H1:Hid (∀j u,(cellsI (L.take i))[j]?=some u→w.cell? ((⟨g,0,none⟩:Addr).add j)=some u):=fun j u hu=>by
  refine HN.out w rfl 0 j u ?_;rw[←cellsI_take,List.getElem?_take]at hu;split at hu
  ·rw[Nat.zero_add];exact hu
  ·cases hu
 have H2:Hid (∀W:World,W.heap[g]?=w.heap[g]?→∀j u,(cellsI (L.drop (i+1)))[j]?=some u→W.cell? ((⟨g,(i+1)*2,none⟩:Addr).add j)=some u):=fun W hW j u hu=>by
  refine HN.out W hW _ j u ?_;rw[←cellsI_drop,List.getElem?_drop]at hu;exact hu
 have L1:(L.take i).length=i:=by rw[List.length_take];omega
 have L2:(L.drop (i+1)).length=L.length-(i+1):=List.length_drop;have C1:=cellsI_len (L.take i);have C2:=cellsI_len (L.drop (i+1));rw[L1]at C1;rw[L2]at C2;have HO:=hide' (And.intro (cellsI_one (L.take i)) (cellsI_one (L.drop (i+1))));have HN0:=hide' (World.ownsRow_nil w 0 181 2);obtain⟨i181,z181,hi1,hi2,hi3,hi4,hi5⟩:=info181;have HX:=hide' (And.intro hi1 (And.intro hi2 (And.intro hi3 (And.intro hi4 hi5))));have HA:Hid (∀(w9:World) (va:Option Addr) (cap:Nat),w9.ownsRow 0 181 2 (.slice va (0+i) cap) (0+i) ([]++cellsI (L.take i))→w.grownBy w9 (Value.slice none 0 0).ownBlock→((Value.slice va (0+i) cap).ownBlock=(Value.slice none 0 0).ownBlock∨∃g,(Value.slice va (0+i) cap).ownBlock=some g∧w.heap.size≤g)→w9.heap[g]?=w.heap[g]?∧w9.heap[B]?=some (.cells Z T (0,0))∧Chg [] w w9∧w9.ownsRow 0 181 2 (.slice va i cap) i (cellsI (L.take i))∧∀b,(Value.slice va i cap).ownBlock=some b→w.heap.size≤b):=fun w9 va cap h1 h2 h3=>by
  rw[Nat.zero_add,List.nil_append]at h1;rw[Nat.zero_add]at h3;have hk:Chg [] w w9:=(Chg.refl _ w).grown h2 (fun b e=>by cases e);refine⟨hk.block g hgl (by simp),hk.keep hB (by simp),hk,h1,fun b hb=>?_⟩;rcases h3 with e|⟨g',e,hge⟩
  ·rw[hb]at e;cases e
  ·rw[hb]at e;cases e;exact hge
 have HB:Hid (∀(w9 w8:World) (va va':Option Addr) (cap cap':Nat),Chg [] w w9→w9.heap[B]?=some (.cells Z T (0,0))→(∀b,(Value.slice va i cap).ownBlock=some b→w.heap.size≤b)→w8.ownsRow 0 181 2 (.slice va' (i+(L.length-(i+1))) cap') (i+(L.length-(i+1))) (cellsI (L.take i)++cellsI (L.drop (i+1)))→w9.grownBy w8 (Value.slice va i cap).ownBlock→((Value.slice va' (i+(L.length-(i+1))) cap').ownBlock=(Value.slice va i cap).ownBlock∨∃g,(Value.slice va' (i+(L.length-(i+1))) cap').ownBlock=some g∧w9.heap.size≤g)→ShTo w (w8.setCell ⟨B,0,none⟩ (.slice va' (i+(L.length-(i+1))) cap')) B T Z (.slice (some ⟨g,0,none⟩) L.length c) (.slice va' (i+(L.length-(i+1))) cap') (L.take i++L.drop (i+1))∧w8.frozen? ⟨B,0,none⟩=false∧B<w8.heap.size∧∃u,w8.cell? ⟨B,0,none⟩=some u):=fun w9 w8 va va' cap cap' k9 hB9 hn9 h1 h2 h3=>by
  have hk8:Chg [] w w8:=k9.grown h2 (fun b e=> .inr (hn9 b e));have hB8:=hk8.keep hB (by simp);have hlen:(L.take i++L.drop (i+1)).length=i+(L.length-(i+1)):=by rw[List.length_append,L1,L2]
  have hown:∀b,(Value.slice va' (i+(L.length-(i+1))) cap').ownBlock=some b→w.heap.size≤b:=fun b hb=>by
   rcases h3 with e|⟨g',e,hge⟩
   ·exact hn9 b (by rw[←e];exact hb)
   ·rw[hb]at e;cases e;have:=k9.size;omega
  refine⟨⟨blkSet (i:=0) hB8 _,?_,(hk8.more (fun b hb=>by cases hb)).set (.inl (by simp)) _,fun b hb=> .inr (hown b hb)⟩,blkFree hB8 0,blkLt hB8,_,(blkCell hB8 0).trans h0⟩;rw[hlen,cellsI_app];exact ownsRow_other h1 (fun b hb=>Below.heap_setCell _ _ _ _ (fun e=>by
   have:=hown b hb;rw[show b=B from e]at this;omega))
 have HZ0:=hide' h0;clear hf hy hB h0 hr hv hcur hi1 hi2 hi3 hi4 hi5;generalize hln:L.length=n at*;clear hln;have hi0:(0:Int)≤(i:Int):=by omega
 have hi1:(i:Int)<(n:Int):=by omega
 have hi2:(i:Int)+1≤(n:Int):=by omega
 have hi3:i+1≤n:=by omega
 have hi4:i≤n:=by omega
 go_enter Tryz.func61,Tryz.ntmps61;go_wp2_with fail
 go_at_call 92;refine HF.out.mono ?_;rintro e w1 ⟨rfl,hw1⟩;subst hw1;rw[HI.out];go_upto_region 11 with(first
  |(at_builtin;refine wpList_append_any _ rfl _ _ _ rfl 0 181 i181 z181 2 32 Tryz.underlying64 HX.out.1 HX.out.2.1 HX.out.2.2.1 HX.out.2.2.2.1 HX.out.2.2.2.2 (by omega) none 0 0 [] rfl HN0.out ⟨g,0,none⟩ i c (cellsI (L.take i)) rfl C1 H1.out HO.out.1 (by unfold maxLen;omega) (by omega) (Nat.zero_le _) ?_;intro va cap w9 hown hgr hat;have hA:=HA.out w9 va cap hown hgr hat;rw[Nat.zero_add];clear hown hgr hat)
  |fail)
 have hB9:=hA.2.1;have cc9:=(blkCell hB9 0).trans HZ0.out;have hBl9:=blkLt hB9;have HA9:=hide' hA;clear hA hB9 hc;by_cases hci:c=i+1
 ·have hN0:Hid (∀j u,(cellsI (L.drop (i+1)))[j]?=some u→w9.cell? ((⟨g,0,none⟩:Addr).add j)=some u):=fun j u hu=>by
   have:=(List.getElem?_eq_some_iff.1 hu).1;omega
  go_wp2_with (first
   |(at_builtin;refine wpList_append_any _ rfl _ _ _ rfl 0 181 i181 z181 2 32 Tryz.underlying64 HX.out.1 HX.out.2.1 HX.out.2.2.1 HX.out.2.2.2.1 HX.out.2.2.2.2 (by omega) va i cap (cellsI (L.take i)) rfl HA9.out.2.2.2.1 ⟨g,0,none⟩ (n-(i+1)) (c-(i+1)) (cellsI (L.drop (i+1))) (by first|rfl|(go_simp;done)) C2 hN0.out HO.out.2 (by unfold maxLen;omega) (by omega) (Nat.zero_le _) ?_;intro va' cap' w8 hown hgr hat;have hp:=HB.out w9 w8 va va' cap cap' HA9.out.2.2.1 HA9.out.2.1 HA9.out.2.2.2.2 hown hgr hat;have HQ:=hide' hp.1;have cf8:=hp.2.1;have hBl8:=hp.2.2.1;obtain⟨u8,cc8⟩:=hp.2.2.2;clear hown hgr hat hp)
   |fail)
  go_ret2;rw[HD.out];exact⟨rfl,_,HQ.out⟩
 ·have hci':¬i+1=c:=fun e=>hci e.symm
  go_wp2_with (first
   |(at_builtin;refine wpList_append_any _ rfl _ _ _ rfl 0 181 i181 z181 2 32 Tryz.underlying64 HX.out.1 HX.out.2.1 HX.out.2.2.1 HX.out.2.2.2.1 HX.out.2.2.2.2 (by omega) va i cap (cellsI (L.take i)) rfl HA9.out.2.2.2.1 ⟨g,(i+1)*2,none⟩ (n-(i+1)) (c-(i+1)) (cellsI (L.drop (i+1))) (by first|rfl|(go_simp;done)) C2 (H2.out w9 HA9.out.1) HO.out.2 (by unfold maxLen;omega) (by omega) (Nat.zero_le _) ?_;intro va' cap' w8 hown hgr hat;have hp:=HB.out w9 w8 va va' cap cap' HA9.out.2.2.1 HA9.out.2.1 HA9.out.2.2.2.2 hown hgr hat;have HQ:=hide' hp.1;have cf8:=hp.2.1;have hBl8:=hp.2.2.1;obtain⟨u8,cc8⟩:=hp.2.2.2;clear hown hgr hat hp)
   |fail)
  go_ret2;rw[HD.out];exact⟨rfl,_,HQ.out⟩
theorem does_any (kind:Int)(hT:T≠181)(hB:w.heap[B]?=some (.cells Z T (0,0)))(h0:Z[0]?=some v)(hr:w.ownsRow 0 181 2 v L.length (cellsI L))(hn:L.length≤1000000000):Calls Tryz.prog 61 #[.pointer (some ⟨B,0,none⟩),.int .i64 kind,.string k,.string x] w (DoesTo w B T Z v (doesP kind k x L)):=by
 cases hf:findN k L with
 |none=>
  by_cases h2:kind=2
  ·subst h2;exact does_put B T Z L v k x w hT hB h0 hr hn hf
  ·exact does_no B T Z L v k x w kind h2 hB h0 hr hn hf
 |some i=>
  by_cases h1:kind=1
  ·subst h1;exact does_get B T Z L v k x w i hB h0 hr hn hf
  ·by_cases h2:kind=2
   ·subst h2;exact does_set B T Z L v k x w i hT hB h0 hr hn hf
   ·by_cases h3:kind=3
    ·subst h3;exact does_del B T Z L v k x w i hT hB h0 hr hn hf
    ·exact does_other B T Z L v k x w kind h1 h2 h3 i hB h0 hr hn hf
end
variable {w w9:World}{e size n b g cap:Nat}{v:Value}{xs:List Value}{O:Obj}
structure AlS where
 bs:List Bool
 vs:List ByteArray
 ak:Int
 L:List (ByteArray×ByteArray)
def akOf (kind:Int)(there:Bool)(ak0:Int):Int:=if kind=1 then 1 else if kind=3 then(if there=true then 3 else 4)else ak0
def alStep (kind:Int)(val key:ByteArray)(s:AlS):AlS:=
 ⟨if kind=1 then s.bs++[(doesP kind key val s.L).1.1]else s.bs,if kind=1 then s.vs++[(doesP kind key val s.L).1.2]else s.vs,akOf kind (doesP kind key val s.L).1.1 s.ak,(doesP kind key val s.L).2⟩
def alKeys (kind:Int)(val:ByteArray)(keys:List ByteArray)(s:AlS):AlS:=keys.foldl (fun s k=>alStep kind val k s) s
theorem alKeys_snoc (kind:Int)(val:ByteArray)(keys:List ByteArray)(k:ByteArray)(s:AlS):alKeys kind val (keys++[k]) s=alStep kind val k (alKeys kind val keys s):=by unfold alKeys;rw[List.foldl_append];rfl
structure AlAt (w wr:World)(C A S:Nat)(c:Cmd)(kv fv vv sv:Value)(bs:List Bool)(vs:List ByteArray)(ak:Int)(L:List (ByteArray×ByteArray)):Prop where
 bel:Below w.heap.size w wr
 hC:wr.heap[C]?=some (.cells (cmdA c kv) 36 (0,0))
 hA:wr.heap[A]?=some (.cells #[.int .i64 ak,fv,vv,.string noB] 91 (0,0))
 hS:wr.heap[S]?=some (.cells #[sv] 66 (0,0))
 rL:wr.ownsRow 0 181 2 sv L.length (cellsI L)
 rF:wr.ownsRow 0 4 1 fv bs.length (bs.map .bool)
 rV:wr.ownsRow 0 9 1 vv vs.length (vs.map .string)
 gA:w.heap.size≤A
 gS:w.heap.size≤S
 gC:w.heap.size≤C
 gL:∀b,sv.ownBlock=some b→w.heap.size≤b
 gF:∀b,fv.ownBlock=some b→w.heap.size≤b
 gV:∀b,vv.ownBlock=some b→w.heap.size≤b
section
variable {w wr w':World}{C A S:Nat}{c:Cmd}{kv fv vv sv:Value}{bs:List Bool}{vs:List ByteArray}{ak:Int}{L:List (ByteArray×ByteArray)}
theorem row_type {T:Nat}{Z:Array Value}{f:Nat×Nat}(h:w.ownsRow 0 e size v n xs)(hb:w.heap[b]?=some (.cells Z T f))(hT:T≠e):v.ownBlock≠some b:=fun e'=>by
 obtain⟨cur,hc⟩:=ownsRow_blk h e'
 rw[hb]at hc
 cases hc
 exact hT rfl
theorem row_row {e' size' n':Nat}{v':Value}{xs':List Value}(h:w.ownsRow 0 e size v n xs)(h':w.ownsRow 0 e' size' v' n' xs')(hne:e≠e')(hb:v.ownBlock=some b):v'.ownBlock≠some b:=fun e1=>by
 obtain⟨cur,hc⟩:=ownsRow_blk h hb
 obtain⟨cur',hc'⟩:=ownsRow_blk h' e1
 rw[hc]at hc'
 cases hc'
 exact hne rfl
theorem AlAt.drewN (h:AlAt w wr C A S c kv fv vv sv bs vs ak L)(hb:Below wr.heap.size wr w'):AlAt w w' C A S c kv fv vv sv bs vs ak L:=by
 have k:∀(b:Nat) (o:Obj),wr.heap[b]?=some o→w'.heap[b]?=some o:=fun b o ho=>(hb.block b (blkLt ho)).trans ho
 have kr:∀{e size n:Nat} {v:Value} {xs:List Value},wr.ownsRow 0 e size v n xs→w'.ownsRow 0 e size v n xs:=fun hr=>ownsRow_other hr (fun g hg=>by obtain⟨cur,hc⟩:=ownsRow_blk hr hg;exact hb.block g (blkLt hc))
 exact⟨h.bel.trans (hb.mono h.bel.size),k _ _ h.hC,k _ _ h.hA,k _ _ h.hS,kr h.rL,kr h.rF,kr h.rV,h.gA,h.gS,h.gC,h.gL,h.gF,h.gV⟩
theorem AlAt.did (h:AlAt w wr C A S c kv fv vv sv bs vs ak L){sv':Value}{L':List (ByteArray×ByteArray)}(hd:ShTo wr w' S 66 #[sv] sv sv' L'):AlAt w w' C A S c kv fv vv sv' bs vs ak L':=by
 have nS:∀(b T:Nat) (Z:Array Value) (f:Nat×Nat),wr.heap[b]?=some (.cells Z T f)→T≠66→T≠181→b∉S::sv.ownBlock.toList:=fun b T Z f hb h1 h2 hm=>by
  rcases List.mem_cons.1 hm with e|e
  ·rw[e,h.hS]at hb;cases hb;exact h1 rfl
  ·exact row_type h.rL hb h2 (mem_own e)
 have kr:∀{e size n:Nat} {v:Value} {xs:List Value},e≠66→e≠181→wr.ownsRow 0 e size v n xs→w'.ownsRow 0 e size v n xs:=fun h1 h2 hr=>ownsRow_other hr (fun g hg=>by obtain⟨cur,hc⟩:=ownsRow_blk hr hg;exact hd.chg.block g (blkLt hc) (nS g _ _ _ hc h1 h2))
 have hsz:=h.bel.size;refine⟨h.bel.trans ⟨hd.chg.os,hd.chg.tape,hd.chg.output,hd.chg.size,fun b hb=>hd.chg.block b (by omega) (fun hm=>?_)⟩,hd.chg.keep h.hC (nS _ _ _ _ h.hC (by decide) (by decide)),hd.chg.keep h.hA (nS _ _ _ _ h.hA (by decide) (by decide)),hd.blk,hd.row,kr (by decide) (by decide) h.rF,kr (by decide) (by decide) h.rV,h.gA,h.gS,h.gC,fun b hb=>?_,h.gF,h.gV⟩
 ·rcases List.mem_cons.1 hm with e|e
  ·have:=h.gS;omega
  ·have:=h.gL b (mem_own e);omega
 ·rcases hd.own b hb with e|e
  ·exact h.gL b e
  ·omega
theorem AlAt.kind (h:AlAt w wr C A S c kv fv vv sv bs vs ak L)(ak':Int):AlAt w (wr.setCell ⟨A,0,none⟩ (.int .i64 ak')) C A S c kv fv vv sv bs vs ak' L:=by
 have nA:∀(b T:Nat) (Z:Array Value) (f:Nat×Nat),wr.heap[b]?=some (.cells Z T f)→T≠91→(wr.setCell ⟨A,0,none⟩ (.int .i64 ak')).heap[b]?=some (.cells Z T f):=fun b T Z f hb h1=>hs_set hb (fun e=>by rw[e,h.hA]at hb;cases hb;exact h1 rfl)
 have kr:∀{e size n:Nat} {v:Value} {xs:List Value},e≠91→wr.ownsRow 0 e size v n xs→(wr.setCell ⟨A,0,none⟩ (.int .i64 ak')).ownsRow 0 e size v n xs:=fun h1 hr=>ownsRow_other hr (fun g hg=>by obtain⟨cur,hc⟩:=ownsRow_blk hr hg;exact(nA g _ _ _ hc h1).trans hc.symm)
 exact⟨h.bel.setCell (p:=⟨A,0,none⟩) h.gA _,nA _ _ _ _ h.hC (by decide),(blkSet (i:=0) h.hA _).trans rfl,nA _ _ _ _ h.hS (by decide),kr (by decide) h.rL,kr (by decide) h.rF,kr (by decide) h.rV,h.gA,h.gS,h.gC,h.gL,h.gF,h.gV⟩
theorem AlAt.found (h:AlAt w wr C A S c kv fv vv sv bs vs ak L)(b:Bool)(hr:w9.ownsRow 0 4 1 (.slice (some ⟨g,0,none⟩) (bs.length+1) cap) (bs.length+1) (bs.map .bool++[.bool b]))(hg:(wr.alloc O).grownBy w9 fv.ownBlock)(hat:fv.ownBlock=some g∨g=wr.heap.size+1):AlAt w (w9.setCell ⟨A,1,none⟩ (.slice (some ⟨g,0,none⟩) (bs.length+1) cap)) C A S c kv (.slice (some ⟨g,0,none⟩) (bs.length+1) cap) vv sv (bs++[b]) vs ak L∧w9.frozen? ⟨A,1,none⟩=false∧A<w9.heap.size∧w9.cell? ⟨A,1,none⟩=some fv:=by
 have hk:Chg fv.ownBlock.toList wr w9:=((Chg.of_below ((Below.refl _ _).alloc (Nat.le_refl _) O)).trans (Chg.refl _ _) (Later.refl _ _)).grown hg (fun b e=> .inl (by simp[e]));have nF:∀(b T:Nat) (Z:Array Value) (f:Nat×Nat),wr.heap[b]?=some (.cells Z T f)→T≠4→w9.heap[b]?=some (.cells Z T f):=fun b T Z f hb h1=>hk.keep hb (fun hm=>row_type h.rF hb h1 (mem_own hm))
 have hA9:=nF _ _ _ _ h.hA (by decide);have nA:∀(b T:Nat) (Z:Array Value) (f:Nat×Nat),w9.heap[b]?=some (.cells Z T f)→T≠91→(w9.setCell ⟨A,1,none⟩ (.slice (some ⟨g,0,none⟩) (bs.length+1) cap)).heap[b]?=some (.cells Z T f):=fun b T Z f hb h1=>hs_set hb (fun e=>by rw[e,hA9]at hb;cases hb;exact h1 rfl)
 have kr:∀{e size n:Nat} {v:Value} {xs:List Value},e≠91→e≠4→wr.ownsRow 0 e size v n xs→(w9.setCell ⟨A,1,none⟩ (.slice (some ⟨g,0,none⟩) (bs.length+1) cap)).ownsRow 0 e size v n xs:=fun h1 h2 hr=>ownsRow_other hr (fun g hg=>by obtain⟨cur,hc⟩:=ownsRow_blk hr hg;exact(nA g _ _ _ (nF g _ _ _ hc h2) h1).trans hc.symm)
 have hsz:=h.bel.size;refine⟨⟨?_,nA _ _ _ _ (nF _ _ _ _ h.hC (by decide)) (by decide),(blkSet (i:=1) hA9 _).trans rfl,nA _ _ _ _ (nF _ _ _ _ h.hS (by decide)) (by decide),kr (by decide) (by decide) h.rL,?_,kr (by decide) (by decide) h.rV,h.gA,h.gS,h.gC,h.gL,fun b hb=>?_,h.gV⟩,blkFree hA9 1,blkLt hA9,(blkCell hA9 1)⟩
 ·refine(h.bel.trans ⟨hk.os,hk.tape,hk.output,hk.size,fun b hb=>hk.block b (by omega) (fun hm=>?_)⟩).setCell (p:=⟨A,1,none⟩) h.gA _;have:=h.gF b (mem_own hm);omega
 ·rw[List.length_append,List.map_append];exact ownsRow_other hr (fun b hb=>by obtain⟨cur,hc⟩:=ownsRow_blk hr hb;exact(nA b _ _ _ hc (by decide)).trans hc.symm)
 ·have e1:g=b:=by cases hb;rfl
  subst e1;rcases hat with e|e
  ·exact h.gF g e
  ·omega
theorem AlAt.value (h:AlAt w wr C A S c kv fv vv sv bs vs ak L)(b:ByteArray)(hr:w9.ownsRow 0 9 1 (.slice (some ⟨g,0,none⟩) (vs.length+1) cap) (vs.length+1) (vs.map .string++[.string b]))(hg:(wr.alloc O).grownBy w9 vv.ownBlock)(hat:vv.ownBlock=some g∨g=wr.heap.size+1):AlAt w (w9.setCell ⟨A,2,none⟩ (.slice (some ⟨g,0,none⟩) (vs.length+1) cap)) C A S c kv fv (.slice (some ⟨g,0,none⟩) (vs.length+1) cap) sv bs (vs++[b]) ak L∧w9.frozen? ⟨A,2,none⟩=false∧A<w9.heap.size∧w9.cell? ⟨A,2,none⟩=some vv:=by
 have hk:Chg vv.ownBlock.toList wr w9:=((Chg.of_below ((Below.refl _ _).alloc (Nat.le_refl _) O)).trans (Chg.refl _ _) (Later.refl _ _)).grown hg (fun b e=> .inl (by simp[e]));have nF:∀(b T:Nat) (Z:Array Value) (f:Nat×Nat),wr.heap[b]?=some (.cells Z T f)→T≠9→w9.heap[b]?=some (.cells Z T f):=fun b T Z f hb h1=>hk.keep hb (fun hm=>row_type h.rV hb h1 (mem_own hm))
 have hA9:=nF _ _ _ _ h.hA (by decide);have nA:∀(b T:Nat) (Z:Array Value) (f:Nat×Nat),w9.heap[b]?=some (.cells Z T f)→T≠91→(w9.setCell ⟨A,2,none⟩ (.slice (some ⟨g,0,none⟩) (vs.length+1) cap)).heap[b]?=some (.cells Z T f):=fun b T Z f hb h1=>hs_set hb (fun e=>by rw[e,hA9]at hb;cases hb;exact h1 rfl)
 have kr:∀{e size n:Nat} {v:Value} {xs:List Value},e≠91→e≠9→wr.ownsRow 0 e size v n xs→(w9.setCell ⟨A,2,none⟩ (.slice (some ⟨g,0,none⟩) (vs.length+1) cap)).ownsRow 0 e size v n xs:=fun h1 h2 hr=>ownsRow_other hr (fun g hg=>by obtain⟨cur,hc⟩:=ownsRow_blk hr hg;exact(nA g _ _ _ (nF g _ _ _ hc h2) h1).trans hc.symm)
 have hsz:=h.bel.size;refine⟨⟨?_,nA _ _ _ _ (nF _ _ _ _ h.hC (by decide)) (by decide),(blkSet (i:=2) hA9 _).trans rfl,nA _ _ _ _ (nF _ _ _ _ h.hS (by decide)) (by decide),kr (by decide) (by decide) h.rL,kr (by decide) (by decide) h.rF,?_,h.gA,h.gS,h.gC,h.gL,h.gF,fun b hb=>?_⟩,blkFree hA9 2,blkLt hA9,(blkCell hA9 2)⟩
 ·refine(h.bel.trans ⟨hk.os,hk.tape,hk.output,hk.size,fun b hb=>hk.block b (by omega) (fun hm=>?_)⟩).setCell (p:=⟨A,2,none⟩) h.gA _;have:=h.gV b (mem_own hm);omega
 ·rw[List.length_append,List.map_append];exact ownsRow_other hr (fun b hb=>by obtain⟨cur,hc⟩:=ownsRow_blk hr hb;exact(nA b _ _ _ hc (by decide)).trans hc.symm)
 ·have e1:g=b:=by cases hb;rfl
  subst e1;rcases hat with e|e
  ·exact h.gV g e
  ·omega
end
variable {d kind:Int}{val:ByteArray}{L:List (ByteArray×ByteArray)}
theorem tellS_size {ck ak id:Int}{ss:List ByteArray}{wd:ByteArray}{bs:List Bool}{vs:List ByteArray}(hd:d=1∨d=2∨d=3)(hA:answerB ck ss val ak bs vs wd=true):(tellS d ck ak ss bs vs wd id).size≤1000:=by
 have hh:∀a b c e:Int,(headB 2 a b c e).size=7:=fun a b c e=>by unfold headB;rw[strOfNums_size];rfl
 have one:∀b:UInt8,(ByteArray.mk #[b]).size=1:=fun b=>rfl
 unfold tellS;rcases answer_parts hA with⟨rfl,e,F⟩|⟨h1,hk',h5⟩
 ·have hl4:=F.l4;have hbl:=F.bl;have hvl:=F.vl;rcases hd with rfl|rfl|rfl
  ·rw[if_pos rfl,if_pos rfl,ByteArray.size_append];have:=liFoldA_size ⟨#[]⟩ (bs.zip (ss.zip vs)) (fun p hp=>by
    have h1:=(List.of_mem_zip hp).2;have h2:=List.of_mem_zip (a:=p.2.1) (b:=p.2.2) h1;exact⟨F.k8 _ h2.1,F.v40 _ h2.2⟩)
   have hz:(bs.zip (ss.zip vs)).length≤4:=by simp;omega
   have e4:(ByteArray.mk #[101,110,100,10]).size=4:=rfl;have e0:(ByteArray.mk #[]).size=0:=rfl;unfold liFold;omega
  ·rw[if_neg (by decide),if_pos rfl,if_pos rfl,ByteArray.size_append,hh];have:(vs.headD ⟨#[]⟩).size≤40:=by
    cases vs with
    |nil=>exact Nat.zero_le _
    |cons a l=>exact F.v40 a (by simp)
   omega
  ·rw[if_neg (by decide),if_neg (by decide),if_pos rfl];have:=lsFold_size (bs.zip vs) (fun p hp=>F.v40 _ (List.of_mem_zip hp).2);have hz:(bs.zip vs).length≤4:=by simp;omega
   unfold lsVals;split
   ·omega
   ·rw[ByteArray.size_append,ByteArray.size_append,ByteArray.size_append,one,one];have:=dec100_size ss.length;omega
 ·have hw:ak=5→wd.size≤8:=h5;rcases hd with rfl|rfl|rfl
  ·rw[if_pos rfl,if_neg h1];unfold liTellB;split
   ·decide
   ·split
    ·decide
    ·split
     ·decide
     ·rw[ByteArray.size_append,ByteArray.size_append,one];have e4:(ByteArray.mk #[102,97,105,108,32]).size=5:=rfl;have:=hw (by omega);omega
  ·rw[if_neg (by decide),if_pos rfl,if_neg h1,hh];omega
  ·rw[if_neg (by decide),if_neg (by decide),if_neg h1];unfold lsTellB;split
   ·decide
   ·split
    ·decide
    ·split
     ·decide
     ·rw[ByteArray.size_append,ByteArray.size_append,one,one];have:=hw (by omega);omega
def Small (L:List (ByteArray×ByteArray)):Prop:=∀p∈L,p.2.size≤40
theorem doesP_small {k x:ByteArray}(hL:Small L)(hx:x.size≤40):Small (doesP kind k x L).2∧(doesP kind k x L).1.2.size≤40∧((doesP kind k x L).1.1=false→(doesP kind k x L).1.2=noB)∧(doesP kind k x L).2.length≤L.length+1:=by
 have hn:noB.size=0:=rfl;unfold doesP;cases hf:findN k L with
 |none=>
  simp only
  split
  ·refine⟨fun p hp=>?_,by rw[hn];omega,fun _=>rfl,by simp⟩;rcases List.mem_append.1 hp with e|e
   ·exact hL p e
   ·simp at e;rw[e];exact hx
  ·exact⟨hL,by rw[hn];omega,fun _=>rfl,by simp⟩
 |some i=>
  obtain⟨y,hy⟩:=findN_at k L i hf;simp only
  split
  ·refine⟨hL,?_,fun h=>(by cases h),by simp⟩;rw[List.getD,hy];exact hL _ (List.mem_of_getElem? hy)
  ·split
   ·refine⟨fun p hp=>?_,by rw[hn];omega,fun h=>(by cases h),by simp⟩;rcases List.mem_or_eq_of_mem_set hp with e|e
    ·exact hL p e
    ·rw[e];exact hx
   ·split
    ·refine⟨fun p hp=>?_,by rw[hn];omega,fun h=>(by cases h),?_⟩
     ·rcases List.mem_append.1 hp with e|e
      ·exact hL p (List.mem_of_mem_take e)
      ·exact hL p (List.mem_of_mem_drop e)
     ·rw[List.length_append,List.length_take,List.length_drop];omega
    ·exact⟨hL,by rw[hn];omega,fun h=>(by cases h),by simp⟩
theorem alKeys_inv (kind:Int)(val:ByteArray)(hx:val.size≤40):∀(keys:List ByteArray) (s:AlS),Small s.L→(kind=1→s.bs.length=s.vs.length∧∀(i:Nat) (b:Bool) (v:ByteArray),s.bs[i]?=some b→s.vs[i]?=some v→v.size≤40∧(b=false→v=noB))→Small (alKeys kind val keys s).L∧(alKeys kind val keys s).L.length≤s.L.length+keys.length∧(kind=1→(alKeys kind val keys s).bs.length=s.bs.length+keys.length∧(alKeys kind val keys s).vs.length=s.bs.length+keys.length∧(keys≠[]→(alKeys kind val keys s).ak=1)∧∀(i:Nat) (b:Bool) (v:ByteArray),(alKeys kind val keys s).bs[i]?=some b→(alKeys kind val keys s).vs[i]?=some v→v.size≤40∧(b=false→v=noB))∧(kind=2→(alKeys kind val keys s).ak=s.ak)∧(kind=3→keys≠[]→(alKeys kind val keys s).ak=3∨(alKeys kind val keys s).ak=4):=by
 intro keys;induction keys with
 |nil=>intro s hL h1;exact⟨hL,by simp[alKeys],fun hk=>⟨by simp[alKeys],by simp[alKeys,(h1 hk).1],fun h=>absurd rfl h,(h1 hk).2⟩,fun _=>rfl,fun _ h=>absurd rfl h⟩
 |cons k keys ih=>
  intro s hL h1;have e:alKeys kind val (k::keys) s=alKeys kind val keys (alStep kind val k s):=rfl;obtain⟨d1,d2,d3,d4⟩:=doesP_small (kind:=kind) (k:=k) hL hx;have hs2:kind=1→(alStep kind val k s).bs.length=(alStep kind val k s).vs.length∧∀(i:Nat) (b:Bool) (v:ByteArray),(alStep kind val k s).bs[i]?=some b→(alStep kind val k s).vs[i]?=some v→v.size≤40∧(b=false→v=noB):=fun hk=>by
   obtain⟨q1,q2⟩:=h1 hk;unfold alStep;rw[if_pos hk,if_pos hk];refine⟨by simp[q1],fun i b v hb hv=>?_⟩;by_cases hi:i<s.bs.length
   ·rw[List.getElem?_append_left hi]at hb;rw[List.getElem?_append_left (by omega)]at hv;exact q2 i b v hb hv
   ·have hb2:=List.mem_of_getElem? (by rw[List.getElem?_append_right (by omega)]at hb;exact hb);have hv2:=List.mem_of_getElem? (by rw[List.getElem?_append_right (by omega)]at hv;exact hv);simp at hb2 hv2;rw[hv2,hb2];exact⟨d2,d3⟩
  obtain⟨a1,a2,a3,a4,a5⟩:=ih (alStep kind val k s) d1 hs2;rw[e];have hl:(alStep kind val k s).L.length≤s.L.length+1:=d4;refine⟨a1,by simp only[List.length_cons];omega,fun hk=>?_,fun hk=>?_,fun hk _=>?_⟩
  ·obtain⟨b1,b2,b3,b4⟩:=a3 hk;have hb:(alStep kind val k s).bs.length=s.bs.length+1:=by unfold alStep;rw[if_pos hk];simp
   refine⟨by simp only[List.length_cons];omega,by simp only[List.length_cons];omega,fun _=>?_,b4⟩;by_cases hkn:keys=[]
   ·subst hkn;show(alStep kind val k s).ak=1;simp[alStep,akOf,hk]
   ·exact b3 hkn
  ·rw[a4 hk];unfold alStep akOf;simp[hk]
  ·by_cases hkn:keys=[]
   ·subst hkn;show(alStep kind val k s).ak=3∨(alStep kind val k s).ak=4;unfold alStep akOf;cases hdd:(doesP kind k val s.L).1.1 with
    |true=>left;simp[hk]
    |false=>right;simp[hk]
   ·exact a5 hk hkn
theorem al_answer {keys:List ByteArray}(hcb:cmdB kind keys val=true)(hL:Small L):answerB kind keys val (alKeys kind val keys ⟨[],[],2,L⟩).ak (alKeys kind val keys ⟨[],[],2,L⟩).bs (alKeys kind val keys ⟨[],[],2,L⟩).vs noB=true∧Small (alKeys kind val keys ⟨[],[],2,L⟩).L∧(alKeys kind val keys ⟨[],[],2,L⟩).L.length≤L.length+4∧(alKeys kind val keys ⟨[],[],2,L⟩).bs.length≤4∧(alKeys kind val keys ⟨[],[],2,L⟩).vs.length≤4∧∀v∈(alKeys kind val keys ⟨[],[],2,L⟩).vs,v.size≤40:=by
 have A:=askable_of hcb;have h4:=A.len4;have h1:=A.len1;have hne:keys≠[]:=fun e=>by rw[e]at h1;simp at h1
 obtain⟨a1,a2,a3,a4,a5⟩:=alKeys_inv kind val A.val40 keys ⟨[],[],2,L⟩ hL (fun _=>⟨rfl,fun i b v hb=>(by simp at hb)⟩);have e1:kind≠1→(alKeys kind val keys ⟨[],[],2,L⟩).bs=[]∧(alKeys kind val keys ⟨[],[],2,L⟩).vs=[]:=fun hk=>by
  have:∀(l:List ByteArray) (s:AlS),s.bs=[]∧s.vs=[]→(alKeys kind val l s).bs=[]∧(alKeys kind val l s).vs=[]:=by
   intro l;induction l with
   |nil=>intro s h;exact h
   |cons x l ih=>intro s h;exact ih (alStep kind val x s) (by unfold alStep;simp only[if_neg hk];exact h)
  exact this keys _ ⟨rfl,rfl⟩
 simp only[List.length_nil,Nat.zero_add]at a3;simp only at a4;have a2':(alKeys kind val keys ⟨[],[],2,L⟩).L.length≤L.length+keys.length:=a2;generalize alKeys kind val keys ⟨[],[],2,L⟩=s at*;have h54:decide (kind=4)=false∨True:= .inr trivial;rcases A.kind with e|e|e
 ·obtain⟨b1,b2,b3,b4⟩:=a3 e;have hz:(s.bs.zip s.vs).all findOk=true:=by
   rw[List.all_eq_true];intro p hp;obtain⟨i,hi⟩:=List.mem_iff_getElem?.1 hp;rw[List.getElem?_zip_eq_some]at hi;obtain⟨c1,c2⟩:=b4 i p.1 p.2 hi.1 hi.2;unfold findOk;rw[Bool.and_eq_true,decide_eq_true_eq];refine⟨by omega,?_⟩;cases hp1:p.1 with
   |true=>rfl
   |false=>rw[c2 hp1];rfl
  refine⟨?_,a1,by omega,by omega,by omega,fun v hv=>?_⟩
  ·unfold answerB findsB;rw[hcb,b3 hne,e,hz];simp[b1,b2]
  ·obtain⟨i,hi⟩:=List.mem_iff_getElem?.1 hv;have hl:=(List.getElem?_eq_some_iff.1 hi).1;exact(b4 i _ v (List.getElem?_eq_getElem (by omega)) hi).1
 ·obtain⟨e2,e3⟩:=e1 (by omega);refine⟨?_,a1,by omega,by rw[e2];simp,by rw[e3];simp,fun v hv=>(by rw[e3]at hv;cases hv)⟩;unfold answerB;rw[hcb,a4 e,e];simp
 ·obtain⟨e2,e3⟩:=e1 (by omega);refine⟨?_,a1,by omega,by rw[e2];simp,by rw[e3];simp,fun v hv=>(by rw[e3]at hv;cases hv)⟩;unfold answerB;rw[hcb,e];rcases a5 e hne with e4|e4
  ·rw[e4];simp
  ·rw[e4];simp
def alCmd (d:Int)(i:Nat)(c:Cmd)(st:List UInt8×List (ByteArray×ByteArray)):List UInt8×List (ByteArray×ByteArray):=
 (st.1++(tellS d c.kind (alKeys c.kind c.val c.keys ⟨[],[],2,st.2⟩).ak c.keys (alKeys c.kind c.val c.keys ⟨[],[],2,st.2⟩).bs (alKeys c.kind c.val c.keys ⟨[],[],2,st.2⟩).vs noB (i:Int)).data.toList,(alKeys c.kind c.val c.keys ⟨[],[],2,st.2⟩).L)
def alRun (d:Int):Nat→List Cmd→List UInt8×List (ByteArray×ByteArray)→List UInt8×List (ByteArray×ByteArray)
 |_,[],st=>st
 |i,c::cs,st=>alRun d (i+1) cs (alCmd d i c st)
theorem alRun_snoc (d:Int):∀(cs:List Cmd) (i:Nat) (c:Cmd) (st:List UInt8×List (ByteArray×ByteArray)),alRun d i (cs++[c]) st=alCmd d (i+cs.length) c (alRun d i cs st):=by
 intro cs;induction cs with
 |nil=>intro i c st;rfl
 |cons x cs ih=>intro i c st;show alRun d (i+1) (cs++[c]) _=_;rw[ih];simp only[List.length_cons,alRun];congr 1;omega
theorem al_say {c:Cmd}(hd:d=1∨d=2∨d=3)(hg:GoodC d c)(i:Nat)(hi:i≤65535):sayB d c.kind c.keys.length (i:Int)=true:=by
 unfold sayB dialB frSayB;rcases hd with rfl|rfl|rfl
 ·rfl
 ·have:=hg.one rfl;simp[this];omega
 ·rfl
set_option maxHeartbeats 4000000
set_option maxRecDepth 20000
variable {w wr:World}{L:List (ByteArray×ByteArray)}{sv kv fv vv:Value}{C A S:Nat}{c:Cmd}{bs:List Bool}{vs:List ByteArray}{ak kind:Int}
structure AlW (w wr:World)(L:List (ByteArray×ByteArray))(sv:Value):Prop where
 bel:Below w.heap.size w wr
 hS:wr.heap[w.heap.size]?=some (.cells #[sv] 66 (0,0))
 rL:wr.ownsRow 0 181 2 sv L.length (cellsI L)
 gL:∀b,sv.ownBlock=some b→w.heap.size≤b
theorem AlW.begin (h:AlW w wr L sv)(c:Cmd)(kv:Value):AlAt w ((wr.alloc (.cells (cmdA c kv) 36)).alloc (.cells #[.int .i64 2,.slice none 0 0,.slice none 0 0,.string noB] 91)) wr.heap.size (wr.heap.size+1) w.heap.size c kv (.slice none 0 0) (.slice none 0 0) sv [] [] 2 L:=by
 have hb:Below wr.heap.size wr ((wr.alloc (.cells (cmdA c kv) 36)).alloc (.cells #[.int .i64 2,.slice none 0 0,.slice none 0 0,.string noB] 91)):=((Below.refl _ _).alloc (Nat.le_refl _) _).alloc (by simp) _;have hsz:=h.bel.size;refine⟨h.bel.trans (hb.mono hsz),hs_alloc (blkNew wr _) _,hs_new (by simp),(hb.block _ (blkLt h.hS)).trans h.hS,ownsRow_other h.rL (fun g hg=>by obtain⟨cur,hc⟩:=ownsRow_blk h.rL hg;exact hb.block g (blkLt hc)),World.ownsRow_nil _ _ _ _,World.ownsRow_nil _ _ _ _,by omega,Nat.le_refl _,by omega,h.gL,fun b e=>(by cases e),fun b e=>(by cases e)⟩
theorem AlAt.done {w':World}{S:Nat}(h:AlAt w wr C A w.heap.size c kv fv vv sv bs vs ak L)(hb:Below wr.heap.size wr w'):AlW w w' L sv:=
 ⟨h.bel.trans (hb.mono h.bel.size),(hb.block _ (blkLt h.hS)).trans h.hS,ownsRow_other h.rL (fun g hg=>by obtain⟨cur,hc⟩:=ownsRow_blk h.rL hg;exact hb.block g (blkLt hc)),h.gL⟩
theorem AlAt.bools (h:AlAt w wr C A S c kv fv vv sv bs vs ak L)(hl:bs.length≤4):∃a cp,fv= .slice a bs.length cp∧BoolsIn wr a bs.length cp bs:=by
 rcases h.rF.2 with⟨e,e2⟩|⟨g,cap,cur,e,_,hh,hnc,_,_,ht⟩
 ·have hb0:bs=[]:=List.length_eq_zero_iff.1 e2;subst hb0;exact⟨none,0,e,rfl,Nat.le_refl _,by simp,.inr ⟨rfl,rfl⟩⟩
 ·refine⟨_,cap,e,rfl,hnc,by omega,.inl ⟨g,0,rfl,blkLt hh,fun i s hs=>?_⟩⟩;rw[Nat.zero_add];have h1:=h.rF;rw[e]at h1;exact cells_of_row h1 (by rw[List.getElem?_map,hs];rfl)
theorem AlAt.strs (h:AlAt w wr C A S c kv fv vv sv bs vs ak L)(hl:vs.length≤4)(h40:∀v∈vs,v.size≤40):∃a cp,vv= .slice a vs.length cp∧StrsIn wr a vs.length cp vs:=by
 have hz:∀s∈vs,s.size≤maxLen:=fun s hs=>by have:=h40 s hs;unfold maxLen;omega
 rcases h.rV.2 with⟨e,e2⟩|⟨g,cap,cur,e,_,hh,hnc,_,_,ht⟩
 ·have hb0:vs=[]:=List.length_eq_zero_iff.1 e2;subst hb0;exact⟨none,0,e,rfl,Nat.le_refl _,by simp,hz,.inr ⟨rfl,rfl⟩⟩
 ·refine⟨_,cap,e,rfl,hnc,by omega,hz,.inl ⟨g,0,rfl,blkLt hh,fun i s hs=>?_⟩⟩;rw[Nat.zero_add];have h1:=h.rV;rw[e]at h1;exact cells_of_row h1 (by rw[List.getElem?_map,hs];rfl)
theorem doesP_len (kind:Int)(k x:ByteArray)(L:List (ByteArray×ByteArray)):(doesP kind k x L).2.length≤L.length+1:=by
 unfold doesP;cases hf:findN k L with
 |none=>simp only;split<;>simp
 |some i=>
  simp only
  split
  ·simp
  ·split
   ·simp
   ·split
    ·simp only[List.length_append,List.length_take,List.length_drop];omega
    ·simp
theorem alKeys_len (kind:Int)(val:ByteArray):∀(keys:List ByteArray) (s:AlS),(alKeys kind val keys s).bs.length≤s.bs.length+keys.length∧(alKeys kind val keys s).vs.length≤s.vs.length+keys.length∧(alKeys kind val keys s).L.length≤s.L.length+keys.length:=by
 intro keys;induction keys with
 |nil=>intro s;exact⟨Nat.le_refl _,Nat.le_refl _,Nat.le_refl _⟩
 |cons k keys ih=>
  intro s;obtain⟨a1,a2,a3⟩:=ih (alStep kind val k s);have e:alKeys kind val (k::keys) s=alKeys kind val keys (alStep kind val k s):=rfl;rw[e];have b1:(alStep kind val k s).bs.length≤s.bs.length+1:=by unfold alStep;simp only;split<;>simp
  have b2:(alStep kind val k s).vs.length≤s.vs.length+1:=by unfold alStep;simp only;split<;>simp
  have b3:(alStep kind val k s).L.length≤s.L.length+1:=doesP_len _ _ _ _;simp only[List.length_cons]
  omega
theorem alTake_succ (kind:Int)(val:ByteArray)(keys:List ByteArray)(s:AlS){m:Nat}{k:ByteArray}(hk:keys[m]?=some k):alKeys kind val (keys.take (m+1)) s=alStep kind val k (alKeys kind val (keys.take m) s):=by
 rw[List.take_add_one,hk];exact alKeys_snoc _ _ _ _ _
theorem alStep_one (val key:ByteArray)(s:AlS)(h:kind=1):alStep kind val key s=⟨s.bs++[(doesP kind key val s.L).1.1],s.vs++[(doesP kind key val s.L).1.2],1,(doesP kind key val s.L).2⟩:=by
 unfold alStep akOf;simp only[if_pos h]
theorem alStep_two (val key:ByteArray)(s:AlS)(h:kind=2):alStep kind val key s=⟨s.bs,s.vs,s.ak,(doesP kind key val s.L).2⟩:=by
 have h1:¬kind=1:=by omega
 have h3:¬kind=3:=by omega
 unfold alStep akOf;simp only[if_neg h1,if_neg h3]
theorem alStep_three (val key:ByteArray)(s:AlS)(h:kind=3):alStep kind val key s=⟨s.bs,s.vs,if(doesP kind key val s.L).1.1=true then 3 else 4,(doesP kind key val s.L).2⟩:=by
 have h1:¬kind=1:=by omega
 unfold alStep akOf;simp only[if_neg h1,if_pos h]
theorem alone_any (d:Int)(a:Option Addr)(n c:Nat)(cs:List Cmd)(lo:Nat)(w:World)(hd:d=1∨d=2∨d=3)(hc:CmdsIn w lo (.slice a n c) cs)(hn:cs.length=n)(hg:∀x∈cs,GoodC d x)(hn50:n≤50):Calls Tryz.prog 55 #[.int .i64 d,.slice a n c] w fun e w'=>e= .returned (.tuple #[.string (mkB (alRun d 0 cs ([],[])).1),.bool true])∧Below w.heap.size w w':=by
 obtain⟨kvs,hc1,hc2,hc3,hc4⟩:=hc;have HCm:Hid (∀(wr:World) (j:Nat) (x:Cmd),Below w.heap.size w wr→cs[j]?=some x→∃g ka kn kc,a=some ⟨g,0,none⟩∧g<wr.heap.size∧n≤c∧kvs[j]?=some (.slice ka kn kc)∧x.keys.length=kn∧KeysIn w lo (.slice ka kn kc) x.keys∧∀i,i<6→wr.cell? ⟨g,j*6+i,none⟩=(cmdA x (.slice ka kn kc))[i]?):=fun wr j x hb hx=>by
  have hj:j<cs.length:=(List.getElem?_eq_some_iff.1 hx).1;obtain⟨kv,hkv⟩:∃kv,kvs[j]?=some kv:=⟨_,List.getElem?_eq_getElem (by omega)⟩
  obtain⟨ka,kn,kc,rfl⟩:=hc3 kv (List.mem_of_getElem? hkv);rw[hn]at hc2;have hc2':=hc2;rcases hc2.2 with⟨e,e2⟩|⟨g,cap,cur,e,_,hh,hnc,_,_,ht⟩
  ·omega
  ·cases e;have hk:=hc4 j x _ hx hkv;refine⟨g,ka,kn,kc,rfl,Nat.lt_of_lt_of_le (blkLt hh) hb.size,hnc,hkv,(keysIn_cells hk).1,hk,fun i hi=>?_⟩;rw[hb.cell (p:=⟨g,j*6+i,none⟩) (blkLt hh)];have h6:=cmdCells_get cs kvs j i x _ hx hkv hi;rw[Nat.mul_comm]at h6;rw[←h6];have hi6:i<(cmdA x (.slice ka kn kc)).size:=hi;have hs:(cmdA x (.slice ka kn kc))[i]?=some ((cmdA x (.slice ka kn kc))[i]'hi6):=Array.getElem?_eq_getElem hi6;rw[h6,hs];rw[hs]at h6;rw[←ht]at h6;rw[blkCell hh];have hlt:j*6+i<n*6:=by omega
   rw[List.getElem?_take_of_lt hlt]at h6;simpa using h6
 have HGd:=hide' hg;have HNN:=hide' hn;have HA0:Hid (AlW w (w.alloc (.cells #[.slice none 0 0] 66)) [] (.slice none 0 0)):=⟨(Below.refl _ _).alloc (Nat.le_refl _) _,blkNew w _,World.ownsRow_nil _ _ _ _,fun b e=>(by cases e)⟩
 clear hc1 hc2 hc3 hc4 hg hn;go_enter Tryz.func55,Tryz.ntmps55;go_wp2;go_loopw [7,8,9,10,11,12,13,14,15] (fun out i _ _ _ _ _ _ _ wr=>∃(j:Nat) (S:ByteArray) (sv:Value) (L:List (ByteArray×ByteArray)),out= .string S∧i= .int .i64 (j:Int)∧j≤n∧S.size≤1000*j∧L.length≤4*j∧Hid (AlW w wr L sv∧Small L∧(S.data.toList,L)=alRun d 0 (cs.take j) ([],[]))) (fun _ i _ _ _ _ _ _ _ _=>n-(intOf i).toNat)
 case atStart=>exact⟨0,⟨#[]⟩,_,[],rfl,rfl,Nat.zero_le _,Nat.zero_le _,Nat.zero_le _,HA0.out,fun p hp=>(by cases hp),by rw[List.take_zero];rfl⟩
 case round=>
  obtain⟨j,S,sv,L,rfl,rfl,hj,hS,hL,HJ⟩:=hrel;generalize hW0:wr=W0 at*;clear hW0;by_cases hlt:j<n
  ·have hlt':(j:Int)<(n:Int):=by omega
   obtain⟨x,hx⟩:∃x,cs[j]?=some x:=⟨_,List.getElem?_eq_getElem (by have:=HNN.out;omega)⟩
   obtain⟨g,ka,kn,kc,rfl,hgl,hnc,hkv,hkl,hki,hcell⟩:=HCm.out W0 j x HJ.out.1.bel hx;have p0:W0.cell? ⟨g,j*6,none⟩=some (.int .i64 x.kind):=hcell 0 (by omega);have p1:W0.cell? ⟨g,j*6+1,none⟩=some (.slice ka kn kc):=hcell 1 (by omega);have p2:W0.cell? ⟨g,j*6+2,none⟩=some (.string x.val):=hcell 2 (by omega);have p3:W0.cell? ⟨g,j*6+3,none⟩=some (.string x.word):=hcell 3 (by omega);have p4:W0.cell? ⟨g,j*6+4,none⟩=some (.bool x.fatal):=hcell 4 (by omega);have p5:W0.cell? ⟨g,j*6+5,none⟩=some (.int .i64 x.id):=hcell 5 (by omega);have HB:=hide' (HJ.out.1.begin x (.slice ka kn kc));have HKI:=hide' (And.intro hki (And.intro hx hkv));clear hcell hki hx hkv;have hx9:=HGd.out x (List.mem_of_getElem? HKI.out.2.1)
   have hAk:=askable_of hx9.cmd;have hl4:=hAk.len4;have hv40:=hAk.val40;have hk123:=hAk.kind;have hszr:=HJ.out.1.bel.size;have HKc:Hid (∀(W:World) (m:Nat) (k:ByteArray),Below w.heap.size w W→x.keys[m]?=some k→∃kb,ka=some ⟨kb,0,none⟩∧kb<W.heap.size∧kn≤kc∧W.cell? ⟨kb,m,none⟩=some (.string k)):=fun W m k hb hk=>by
    rcases HKI.out.1 with⟨_,e⟩|⟨kb,cc,e1,_,Z,hZ,_,hl,hZs⟩
    ·rw[e]at hk;simp at hk
    ·cases e1;refine⟨kb,rfl,Nat.lt_of_lt_of_le (blkLt hZ) hb.size,by omega,?_⟩;rw[hb.cell (p:=⟨kb,m,none⟩) (blkLt hZ),blkCell hZ];exact hZs m k hk
   have HFv:=hide' hx9;clear hx9 hAk;unfold cmdA noB at HB;go_wp2;obtain⟨i4,h41,h42,h43,h44⟩:=info4;have HI4:=hide' (And.intro h41 (And.intro h42 (And.intro h43 h44)));obtain⟨i9,h91,h92,h93,h94⟩:=info9s;have HI9:=hide' (And.intro h91 (And.intro h92 (And.intro h93 h94)));clear h41 h42 h43 h44 h91 h92 h93 h94 p0 p1 p2 p3 p4 p5;go_loopw [11,12,13] (fun k _ _ w2=>∃(m:Nat) (fv vv sv2:Value),k= .int .i64 (m:Int)∧m≤kn∧Hid (AlAt w w2 W0.heap.size (W0.heap.size+1) w.heap.size x (.slice ka kn kc) fv vv sv2 (alKeys x.kind x.val (x.keys.take m) ⟨[],[],2,L⟩).bs (alKeys x.kind x.val (x.keys.take m) ⟨[],[],2,L⟩).vs (alKeys x.kind x.val (x.keys.take m) ⟨[],[],2,L⟩).ak (alKeys x.kind x.val (x.keys.take m) ⟨[],[],2,L⟩).L)) (fun k _ _ _=>kn-(intOf k).toNat)
   case atStart=>
    refine⟨0,.slice none 0 0,.slice none 0 0,sv,rfl,Nat.zero_le _,?_⟩;rw[List.take_zero];exact HB.out
   case round=>
    obtain⟨m,fv,vv,sv2,rfl,hm,HM⟩:=hrel;have hlen:=alKeys_len x.kind x.val (x.keys.take m) ⟨[],[],2,L⟩;rw[List.length_take]at hlen;simp only[List.length_nil,Nat.zero_add]at hlen;by_cases hmk:m<kn
    ·have hmk':(m:Int)<(kn:Int):=by omega
     obtain⟨key,hkey⟩:∃key,x.keys[m]?=some key:=⟨_,List.getElem?_eq_getElem (by omega)⟩
     obtain⟨kb,rfl,hkb,hkc,hkcell⟩:=HKc.out wr m key HM.out.bel hkey;have HSu:=hide' (alTake_succ x.kind x.val x.keys ⟨[],[],2,L⟩ hkey);generalize hsM:alKeys x.kind x.val (x.keys.take m) ⟨[],[],2,L⟩=sM at*;have c0:=blkCell HM.out.hC 0;have c1:=blkCell HM.out.hC 1;have c2:=blkCell HM.out.hC 2;simp[cmdA]at c0 c1 c2;have a0:=blkCell HM.out.hA 0;have a1:=blkCell HM.out.hA 1;have a2:=blkCell HM.out.hA 2;simp at a0 a1 a2;have hCl:=blkLt HM.out.hC;have hAl:=blkLt HM.out.hA;have hSl:=blkLt HM.out.hS;have af:=blkFree HM.out.hA;have HDr:=hide' (HM.out.drewN (w':=wr.drew) (Below.refl _ _).drew);have HDo:=hide' (does_any w.heap.size 66 #[sv2] sM.L sv2 key x.val wr.drew x.kind (by decide) HDr.out.hS rfl HDr.out.rL (by omega))
     have HDid:Hid (∀w3 v',ShTo wr.drew w3 w.heap.size 66 #[sv2] sv2 v' (doesP x.kind key x.val sM.L).2→AlAt w w3 W0.heap.size (W0.heap.size+1) w.heap.size x (.slice (some ⟨kb,0,none⟩) kn kc) fv vv v' sM.bs sM.vs sM.ak (doesP x.kind key x.val sM.L).2):=fun w3 v' h3=>HDr.out.did h3
     unfold DoesTo at HDo;have HKE:=hide' hkey;clear hsM hkey;have HKc2:Hid (∀W,Below w.heap.size w W→W.cell? ⟨kb,m,none⟩=some (.string key)∧kb<W.heap.size):=fun W hW=>by
      obtain⟨kb',e1,e2,_,e3⟩:=HKc.out W m key hW HKE.out;cases e1;exact⟨e3,e2⟩
     go_wp2_with fail
     go_region_held3 (fun W'=>W'.cell? ⟨W0.heap.size,0,none⟩=some (.int .i64 x.kind)∧W'.cell? ⟨W0.heap.size,1,none⟩=some (.slice (some ⟨kb,0,none⟩) kn kc)∧W'.cell? ⟨W0.heap.size,2,none⟩=some (.string x.val)∧W'.cell? ⟨kb,m,none⟩=some (.string key)) (go_keep) (first
      |(go_at_call 61;refine HDo.out.mono ?_;rintro e w3 ⟨rfl,sv3,h3⟩;have h3a:=HDid.out w3 sv3 h3;have HD3:=hide' h3a;have x0:=blkCell h3a.hC 0;have x1:=blkCell h3a.hC 1;have x2:=blkCell h3a.hC 2;simp[cmdA]at x0 x1 x2;have b0:=blkCell h3a.hA 0;have b1:=blkCell h3a.hA 1;have b2:=blkCell h3a.hA 2;simp at b0 b1 b2;have yC:=blkLt h3a.hC;have yA:=blkLt h3a.hA;have bf:=blkFree h3a.hA;have xk:=(HKc2.out w3 h3a.bel).1;have ykb:=(HKc2.out w3 h3a.bel).2;clear h3 h3a c0 c1 c2 a0 a1 a2 hkcell hCl hAl hSl af hkb)
      |fail)
     rename_i hHeld;clear hHeld x1 x2 xk ykb HDo HDid HKc2;have hrow4:∃a c,fv= .slice a sM.bs.length c:=by
      rcases HD3.out.rF.2 with⟨e,e2⟩|⟨g,cap,cur,e,_⟩
      ·exact⟨none,0,by rw[e,e2]⟩
      ·exact⟨_,_,e⟩
     have hrow9:∃a c,vv= .slice a sM.vs.length c:=by
      rcases HD3.out.rV.2 with⟨e,e2⟩|⟨g,cap,cur,e,_⟩
      ·exact⟨none,0,by rw[e,e2]⟩
      ·exact⟨_,_,e⟩
     obtain⟨fa,fc,rfl⟩:=hrow4;obtain⟨va,vc,rfl⟩:=hrow9;have hnb:sM.bs.length≤4:=by omega
     have hnv:sM.vs.length≤4:=by omega
     rcases hk123 with hk|hk|hk
     ·rw[hk]at x0;rw[alStep_one _ _ _ hk]at HSu;have HK:=hide' hk;clear hk;generalize hdp:doesP x.kind key x.val sM.L=dp at*;obtain⟨⟨d1,d2⟩,dL⟩:=dp;simp only at HSu HD3;have HK1:=hide' (HD3.out.kind 1);clear HD3;go_upto_region 14 with fail
      generalize w3.setCell ⟨W0.heap.size+1,0,none⟩ (.int .i64 1)=w4 at*;clear b0 b1 b2 x0 yC yA bf;have x0:=blkCell HK1.out.hC 0;have b1:=blkCell HK1.out.hA 1;have bf:=blkFree HK1.out.hA;have yA:=blkLt HK1.out.hA;have yC:=blkLt HK1.out.hC;simp[cmdA]at x0 b1;rw[HK.out]at x0;have HF1:Hid (∀(O:Obj) (g2 cap2:Nat) (w9:World),w9.ownsRow 0 4 1 (.slice (some ⟨g2,0,none⟩) (sM.bs.length+1) cap2) (sM.bs.length+1) (sM.bs.map .bool++[.bool d1])→(w4.alloc O).grownBy w9 (Value.slice fa sM.bs.length fc).ownBlock→((Value.slice fa sM.bs.length fc).ownBlock=some g2∨g2=w4.heap.size+1)→_):=fun O g2 cap2 w9 h1 h2 h3=>HK1.out.found (O:=O) d1 h1 h2 h3
      have HRF:Hid (∀O,(w4.alloc O).ownsRow 0 4 1 (.slice fa sM.bs.length fc) sM.bs.length (sM.bs.map .bool)):=fun O=>World.ownsRow.alloc HK1.out.rF O
      go_upto_region 15 with(first
       |(at_builtin;refine wpList_append_lies _ rfl _ _ _ rfl 0 4 i4 (.bool false) 1 1 Tryz.underlying89 HI4.out.1 HI4.out.2.1 HI4.out.2.2.1 HI4.out.2.2.2 rfl (by omega) (.slice fa sM.bs.length fc) sM.bs.length (sM.bs.map .bool) rfl (HRF.out _) ⟨w4.heap.size,0,none⟩ 1 1 [.bool d1] rfl rfl (World.news_of_block (hs_new (by simp))) (fun u hu=>by simp at hu;subst hu;rfl) (by omega) (by unfold maxLen;omega) (by omega) (Nat.zero_le _) _ rfl ?_;intro g2 cap2 w9 hown hgr hat hlt;have hp:=HF1.out _ g2 cap2 w9 hown hgr (by rcases hat with e|e;exact Or.inl e;exact Or.inr (by simpa using e));have HQ:=hide' hp.1;have cf9:=hp.2.1;have hBl9:=hp.2.2.1;have cc9:=hp.2.2.2;clear hown hgr hat hp)
       |fail)
      clear b1 bf yA yC x0 HK1 HF1 HRF cf9 hBl9 cc9;generalize w9.setCell ⟨W0.heap.size+1,1,none⟩ (.slice (some ⟨g2,0,none⟩) (sM.bs.length+1) cap2)=w5 at*;have x0:=blkCell HQ.out.hC 0;have b2:=blkCell HQ.out.hA 2;have bf:=blkFree HQ.out.hA;have yA:=blkLt HQ.out.hA;have yC:=blkLt HQ.out.hC;simp[cmdA]at x0 b2;rw[HK.out]at x0;have HF1:Hid (∀(O:Obj) (g3 cap3:Nat) (w9:World),w9.ownsRow 0 9 1 (.slice (some ⟨g3,0,none⟩) (sM.vs.length+1) cap3) (sM.vs.length+1) (sM.vs.map .string++[.string d2])→(w5.alloc O).grownBy w9 (Value.slice va sM.vs.length vc).ownBlock→((Value.slice va sM.vs.length vc).ownBlock=some g3∨g3=w5.heap.size+1)→_):=fun O g3 cap3 w9 h1 h2 h3=>HQ.out.value (O:=O) d2 h1 h2 h3
      have HRF:Hid (∀O,(w5.alloc O).ownsRow 0 9 1 (.slice va sM.vs.length vc) sM.vs.length (sM.vs.map .string)):=fun O=>World.ownsRow.alloc HQ.out.rV O
      go_upto_region 16 with(first
       |(at_builtin;refine wpList_append_lies _ rfl _ _ _ rfl 0 9 i9 (.string ⟨#[]⟩) 1 16 Tryz.underlying34 HI9.out.1 HI9.out.2.1 HI9.out.2.2.1 HI9.out.2.2.2 rfl (by omega) (.slice va sM.vs.length vc) sM.vs.length (sM.vs.map .string) rfl (HRF.out _) ⟨w5.heap.size,0,none⟩ 1 1 [.string d2] rfl rfl (World.news_of_block (hs_new (by simp))) (fun u hu=>by simp at hu;subst hu;rfl) (by omega) (by unfold maxLen;omega) (by omega) (Nat.zero_le _) _ rfl ?_;intro g3 cap3 w9 hown hgr hat hlt;have hp:=HF1.out _ g3 cap3 w9 hown hgr (by rcases hat with e|e;exact Or.inl e;exact Or.inr (by simpa using e));have HQ2:=hide' hp.1;have cf9:=hp.2.1;have hBl9:=hp.2.2.1;have cc9:=hp.2.2.2;clear hown hgr hat hp)
       |fail)
      clear b2 bf yA yC x0 HQ HF1 HRF cf9 hBl9 cc9;generalize w9.setCell ⟨W0.heap.size+1,2,none⟩ (.slice (some ⟨g3,0,none⟩) (sM.vs.length+1) cap3)=w6 at*;have x0:=blkCell HQ2.out.hC 0;have yC:=blkLt HQ2.out.hC;simp[cmdA]at x0;rw[HK.out]at x0;go_wp2_with fail
      go_roundw;case rel=>
       refine⟨m+1,.slice (some ⟨g2,0,none⟩) (sM.bs.length+1) cap2,.slice (some ⟨g3,0,none⟩) (sM.vs.length+1) cap3,sv3,by go_num,by omega,?_⟩;rw[HSu.out];exact HQ2
      case measure=>simp[intOf];omega
     ·rw[hk]at x0;rw[alStep_two _ _ _ hk]at HSu;have HK:=hide' hk;clear hk;clear b0 b1 b2 yA bf;go_wp2_with fail
      go_roundw;case rel=>
       refine⟨m+1,.slice fa sM.bs.length fc,.slice va sM.vs.length vc,sv3,by go_num,by omega,?_⟩;rw[HSu.out];exact HD3
      case measure=>simp[intOf];omega
     ·rw[hk]at x0;rw[alStep_three _ _ _ hk]at HSu;have HK:=hide' hk;clear hk;generalize hdp:doesP x.kind key x.val sM.L=dp at*;obtain⟨⟨d1,d2⟩,dL⟩:=dp;simp only at HSu HD3;have HK1:=hide' (HD3.out.kind 4);go_upto_region 18 with fail
      clear HD3;generalize w3.setCell ⟨W0.heap.size+1,0,none⟩ (.int .i64 4)=w4 at*;clear b0 b1 b2 x0 yC yA bf;have b0:=blkCell HK1.out.hA 0;have bf:=blkFree HK1.out.hA;have yA:=blkLt HK1.out.hA;simp at b0;have HK2:=hide' (HK1.out.kind 3);cases d1 with
      |false=>
       go_wp2_with fail
       go_roundw;case rel=>
        refine⟨m+1,.slice fa sM.bs.length fc,.slice va sM.vs.length vc,sv3,by go_num,by omega,?_⟩;rw[HSu.out];exact HK1
       case measure=>simp[intOf];omega
      |true=>
       go_wp2_with fail
       go_roundw;case rel=>
        refine⟨m+1,.slice fa sM.bs.length fc,.slice va sM.vs.length vc,sv3,by go_num,by omega,?_⟩;rw[HSu.out];exact HK2
       case measure=>simp[intOf];omega
    ·have hmk2:x.keys.take m=x.keys:=List.take_of_length_le (by omega);rw[hmk2]at HM hlen;obtain⟨an1,an2,an3,an4,an5,an6⟩:=al_answer HFv.out.cmd HJ.out.2.1;have hmk':¬(m:Int)<(kn:Int):=by omega
     have HSn:alRun d 0 (cs.take (j+1)) ([],[])=alCmd d j x (S.data.toList,L):=by
      rw[List.take_add_one,HKI.out.2.1];have e:=alRun_snoc d (cs.take j) 0 x ([],[]);rw[←HJ.out.2.2,List.length_take,Nat.min_eq_left (by have:=HNN.out;omega),Nat.zero_add]at e;exact e
     unfold alCmd at HSn;generalize alKeys x.kind x.val x.keys ⟨[],[],2,L⟩=sM at*;obtain⟨fa,fc,rfl,hF⟩:=HM.out.bools an4;obtain⟨va,vc,rfl,hV⟩:=HM.out.strs an5 an6;have hStr:StrsIn wr ka kn kc x.keys:=(keysIn_strs HKI.out.1 (by omega) (fun s hs=>keyB_size ((askable_of HFv.out.cmd).keys s hs))).later HM.out.bel;have HTell:=tell_any d x.kind ka kn kc x.keys x.val x.word x.fatal x.id sM.ak fa va sM.bs.length fc sM.vs.length vc sM.bs sM.vs noB (j:Int) wr hStr (by unfold maxLen;omega) hF hV (by decide);have hsay:=al_say hd HFv.out j (by omega);rw[hkl]at hsay;rw[an1,hsay]at HTell;have hTz:=tellS_size (id:=(j:Int)) hd an1;generalize tellS d x.kind sM.ak x.keys sM.bs sM.vs noB (j:Int)=T at*;unfold saidV cmdV6 ansV at HTell
     simp only[Bool.and_self,cond_true]at HTell;have HT:=hide' HTell;have HA9:=hide' (And.intro an2 (And.intro an3 hlen));clear HTell hStr hF hV an1 an2 an3 an4 an5 an6 HB HCm HKc;have c0:=blkCell HM.out.hC 0;have c1:=blkCell HM.out.hC 1;have c2:=blkCell HM.out.hC 2;have c3:=blkCell HM.out.hC 3;have c4:=blkCell HM.out.hC 4;have c5:=blkCell HM.out.hC 5;simp[cmdA]at c0 c1 c2 c3 c4 c5;have a0:=blkCell HM.out.hA 0;have a1:=blkCell HM.out.hA 1;have a2:=blkCell HM.out.hA 2;have a3:=blkCell HM.out.hA 3;simp at a0 a1 a2 a3;have hCl:=blkLt HM.out.hC;have hAl:=blkLt HM.out.hA;have HSN:=hide' HSn;clear HSn;go_upto_region 20 with fail
     go_wp2_with (first
      |(go_at_call 87;refine HT.out.mono ?_;rintro e w4 ⟨rfl,hB4⟩;have HB4:=hide' hB4;clear hB4)
      |fail)
     go_roundw;case rel=>
      refine⟨j+1,S++T,sv2,sM.L,rfl,by go_num,by omega,?_,?_,HM.out.done (S:=0) HB4.out,HA9.out.1,?_⟩
      ·rw[ByteArray.size_append];omega
      ·have:=HA9.out.2.1;omega
      ·rw[HSN.out];simp
     case measure=>simp[intOf];omega
  ·have hjn:j=n:=by omega
   have hlt':¬(j:Int)<(n:Int):=by omega
   have hfin:mkB (alRun d 0 cs ([],[])).1=S:=by
    have e:=HJ.out.2.2;rw[List.take_of_length_le (by have:=HNN.out;omega)]at e;rw[←e];rfl
   have HBel:=hide' HJ.out.1.bel;have HFn:=hide' hfin;clear hfin;go_wp2_with fail
   go_ret2;exact⟨(by rw[HFn.out];rfl),HBel.out⟩
end Go.Proofs.YtlonjggfnleolaaGreatDoor
