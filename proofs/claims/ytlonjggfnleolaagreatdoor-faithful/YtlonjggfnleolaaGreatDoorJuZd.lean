import Derived.Test.YtlonjggfnleolaaGreatDoorDecode
import Derived.Test.YtlonjggfnleolaaGreatDoorJuQ
import Derived.Test.YtlonjggfnleolaaGreatDoorRefD
import Derived.Test.YtlonjggfnleolaaGreatDoorKeepA
import Derived.ArgAppend
import Derived.Conc.SmallLaws
import Derived.Carry
namespace Go.Proofs.YtlonjggfnleolaaGreatDoor
open Go.RowKit
set_option linter.unusedVariables false
variable {d:Int}{bs:List UInt8}{t:StepR}
structure OkC (d:Int)(c:Cmd):Prop where
 or_:(cmdB c.kind c.keys c.val=true∧c.word=noB∧c.fatal=false∧(d=2→c.keys.length=1))∨(c.kind=4∧c.keys=[]∧c.val=noB∧1≤c.word.size)
 line:c.fatal=true→d≠1
theorem okC_wrong {word:ByteArray}{ft:Bool}(h:1≤word.size)(hl:ft=true→d≠1):OkC d (wrongC word ft):=⟨.inr ⟨rfl,rfl,rfl,h⟩,hl⟩
theorem bytesOf_size (bs:List UInt8)(i k:Nat):(bytesOf bs i k).size≤k:=by
 unfold bytesOf;show(List.take k (List.drop i bs)).toArray.size≤k;simp;omega
theorem bytesOf_none (bs:List UInt8)(i:Nat):bytesOf bs i 0=noB:=by simp[bytesOf,noB]
theorem emptyNo:noB.toList.isEmpty=true:=by decide+kernel
theorem cmdB_setA {s val:ByteArray}(hs:keyB s=true)(hv:val.size≤40):cmdB 2 [s] val=true:=by
 have:(val.size:Int)≤40:=by omega
 simp[cmdB,keysB,withinB,hs,this]
theorem fr_ok (h:frR bs=some t):OkC 2 t.c:=by
 unfold frR at h;split at h
 ·cases h
 ·split at h
  ·cases h;exact okC_wrong (by decide) (fun _=>by decide)
  ·rename_i hh;split at h
   ·cases h
   ·split at h
    ·cases h;exact okC_wrong (by decide) (fun _=>by decide)
    ·rename_i hk;cases h;have hk':keyB (bytesOf bs 7 (byAt bs 2))=true:=by simpa using hk
     have hf:frHead bs=true:=by simpa using hh
     simp only[frHead,Bool.and_eq_true,Bool.or_eq_true,decide_eq_true_eq]at hf;obtain⟨⟨⟨⟨⟨_,h1⟩,h3⟩,_⟩,_⟩,hv⟩:=hf;refine⟨.inl ⟨?_,rfl,rfl,fun _=>rfl⟩,fun h=>(by cases h)⟩;show cmdB (byAt bs 1:Int) [bytesOf bs 7 (byAt bs 2)] (bytesOf bs (7+byAt bs 2) (numAt bs 3))=true;have hs:=bytesOf_size bs (7+byAt bs 2) (numAt bs 3);by_cases h2:byAt bs 1=2
     ·rw[h2];have:numAt bs 3≤40:=by rcases hv with h|h<;>omega
      exact cmdB_setA hk' (by omega)
     ·have h0:numAt bs 3=0:=by rcases hv with h|h<;>omega
      rw[h0,bytesOf_none];rcases(show byAt bs 1=1∨byAt bs 1=3 by omega)with h|h
      ·rw[h];simp[cmdB,keysB,withinB,hk',emptyNo]
      ·rw[h];simp[cmdB,keysB,withinB,hk',emptyNo]
theorem set_ok {frm:Nat}{key:ByteArray}{size:Nat}(hk:keyB key=true)(h:setR bs frm key size=some t):OkC 1 t.c:=by
 unfold setR at h;split at h
 ·cases h;exact okC_wrong (by decide) (fun h=>by cases h)
 ·rename_i h40;split at h
  ·cases h
  ·split at h
   ·cases h;exact okC_wrong (by decide) (fun h=>by cases h)
   ·cases h;have hs:=bytesOf_size bs frm size;exact⟨.inl ⟨cmdB_setA (val:=bytesOf bs frm size) hk (by omega),rfl,rfl,fun h=>(by cases h)⟩,fun h=>(by cases h)⟩
theorem ln_ok (h:lnR bs=some t):OkC 1 t.c:=by
 unfold lnR at h;split at h
 ·unfold lineR at h;split at h
  ·rename_i size hsz;refine set_ok ?_ h;unfold setSizeR at hsz;split at hsz
   ·rename_i hc;exact hc.2.2
   ·cases hsz
  ·split at h
   ·cases h;exact okC_wrong (by decide) (fun h=>by cases h)
   ·rename_i hc;cases h;rw[not_or]at hc;exact⟨.inl ⟨by simpa using hc.2,rfl,rfl,fun h=>(by cases h)⟩,fun h=>(by cases h)⟩
 ·split at h
  ·cases h;exact okC_wrong (by decide) (fun h=>by cases h)
  ·cases h
theorem texts_ok (hd:d≠1)(hd2:d≠2)(ts:List ByteArray)(used:Nat):OkC d (textsR ts used).c:=by
 unfold textsR;simp only
 generalize (if kindB (ts.getD 0 noB)=2 then(if(ts.drop 1).length=2 then(ts.drop 1).take 1 else [])else ts.drop 1)=keys;generalize (if kindB (ts.getD 0 noB)=2∧(ts.drop 1).length=2 then(ts.drop 1).getD 1 noB else noB)=val;generalize kindB (ts.getD 0 noB)=k;cases hc:cmdB k keys val with
 |true=>rw[if_pos rfl];exact⟨.inl ⟨hc,rfl,rfl,fun h=>absurd h hd2⟩,fun h=>(by cases h)⟩
 |false=>rw[if_neg (by decide)];exact okC_wrong (by decide) (fun _=>hd)
theorem ls_ok (hd:d≠1)(hd2:d≠2)(h:lsR bs=some t):OkC d t.c:=by
 unfold lsR at h;simp only at h;split at h
 ·cases h;exact okC_wrong (by decide) (fun _=>hd)
 ·split at h
  ·cases h
  ·cases h;exact texts_ok hd hd2 _ _
theorem read_ok (h:readR d bs=some t):OkC d t.c:=by
 unfold readR at h;split at h
 ·rename_i h1;subst h1;exact ln_ok h
 ·split at h
  ·rename_i h2;subst h2;exact fr_ok h
  ·rename_i h1 h2;exact ls_ok h1 h2 h
end Go.Proofs.YtlonjggfnleolaaGreatDoor
namespace Go.Proofs.YtlonjggfnleolaaGreatDoor
open Go.RowKit Go.Shelf Go.Conc
set_option linter.unusedVariables false
set_option maxHeartbeats 1000000
set_option maxRecDepth 100000
variable {d:Int}{bs:List UInt8}{t:StepR}
theorem wrongB_size {c:Cmd}(h:CmdOk c)(hk:c.keys=[]):(wrongB d c).data.toList.length≤1000:=by
 have h5:=(h.wrong hk).2;rw[Array.length_toList];show(wrongB d c).size≤1000;unfold wrongB;split
 ·unfold liTellB;rw[if_neg (by decide),if_neg (by decide),if_neg (by decide),ByteArray.size_append,ByteArray.size_append];show 5+c.word.size+1≤1000;omega
 ·split
  ·unfold headB;rw[strOfNums_size];decide
  ·unfold lsTellB;rw[if_neg (by decide),if_neg (by decide),if_neg (by decide),ByteArray.size_append,ByteArray.size_append];show 1+c.word.size+1≤1000;omega
theorem cmdB_in {k:Int}{ks:List ByteArray}{val:ByteArray}(h:cmdB k ks val=true):(k=1∨k=2∨k=3)∧1≤ks.length∧ks.length≤4∧(∀x∈ks,x.size≤8)∧val.size≤40:=by
 have hkeys:∀(m:Int),m≤4→keysB ks m=true→1≤ks.length∧ks.length≤4∧∀x∈ks,x.size≤8:=fun m hm hk=>by
  unfold keysB withinB at hk;simp only[Bool.and_eq_true,decide_eq_true_eq,List.all_eq_true]at hk;refine⟨by omega,by omega,fun x hx=>?_⟩;have:=hk.2 x hx;unfold keyB withinB at this;simp only[Bool.and_eq_true,decide_eq_true_eq]at this;omega
 have hem:val.toList.isEmpty=true→val.size≤40:=fun he=>by
  rw[emptyB' he];decide
 unfold cmdB at h;split at h
 ·simp only[Bool.and_eq_true]at h;obtain⟨a,b,c⟩:=hkeys 4 (by omega) h.1;exact⟨.inl ‹_›,a,b,c,hem h.2⟩
 ·split at h
  ·simp only[Bool.and_eq_true,decide_eq_true_eq]at h;obtain⟨a,b,c⟩:=hkeys 1 (by omega) h.1;exact⟨.inr (.inl ‹_›),a,b,c,by omega⟩
  ·split at h
   ·simp only[Bool.and_eq_true]at h;obtain⟨a,b,c⟩:=hkeys 1 (by omega) h.1;exact⟨.inr (.inr ‹_›),a,b,c,hem h.2⟩
   ·cases h
theorem texts_word (ts:List ByteArray)(used:Nat):(textsR ts used).c.word.size≤8∧0≤(textsR ts used).c.id∧(textsR ts used).c.id≤65535:=by
 unfold textsR;simp only
 generalize (if kindB (ts.getD 0 noB)=2 then(if(ts.drop 1).length=2 then(ts.drop 1).take 1 else [])else ts.drop 1)=keys;generalize (if kindB (ts.getD 0 noB)=2∧(ts.drop 1).length=2 then(ts.drop 1).getD 1 noB else noB)=val;generalize kindB (ts.getD 0 noB)=k;cases hc:cmdB k keys val with
 |true=>rw[if_pos rfl];exact⟨(by show noB.size≤8;decide),Int.le_refl _,(by show(0:Int)≤65535;omega)⟩
 |false=>rw[if_neg (by decide)];exact⟨(by show dataB.size≤8;decide),Int.le_refl _,(by show(0:Int)≤65535;omega)⟩
theorem read_word (h:readR d bs=some t):t.c.word.size≤8∧0≤t.c.id∧t.c.id≤65535:=by
 have w0:∀(b:ByteArray) (f:Bool),b.size≤8→(wrongC b f).word.size≤8∧0≤(wrongC b f).id∧(wrongC b f).id≤65535:=fun b f hb=>⟨hb,Int.le_refl _,(by show(0:Int)≤65535;omega)⟩
 have n0:noB.size≤8:=by decide
 unfold readR at h;split at h
 ·unfold lnR at h;split at h
  ·unfold lineR at h;split at h
   ·unfold setR at h;split at h
    ·cases h;exact w0 _ _ (by decide)
    ·split at h
     ·cases h
     ·split at h
      ·cases h;exact w0 _ _ (by decide)
      ·cases h;exact⟨n0,Int.le_refl _,(by show(0:Int)≤65535;omega)⟩
   ·split at h
    ·cases h;exact w0 _ _ (by decide)
    ·cases h;exact⟨n0,Int.le_refl _,(by show(0:Int)≤65535;omega)⟩
  ·split at h
   ·cases h;exact w0 _ _ (by decide)
   ·cases h
 ·split at h
  ·unfold frR at h;split at h
   ·cases h
   ·split at h
    ·cases h;exact w0 _ _ (by decide)
    ·split at h
     ·cases h
     ·split at h
      ·cases h;exact w0 _ _ (by decide)
      ·cases h;have h1:=byAt_lt bs 5;have h2:=byAt_lt bs (5+1);refine⟨n0,?_,?_⟩
       ·show(0:Int)≤((numAt bs 5:Nat):Int);omega
       ·show((numAt bs 5:Nat):Int)≤65535;have:numAt bs 5≤65535:=by unfold numAt;omega
        omega
  ·unfold lsR at h;simp only at h;split at h
   ·cases h;exact w0 _ _ (by decide)
   ·split at h
    ·cases h
    ·cases h;exact texts_word _ _
theorem read_cmdOk (h:readR d bs=some t):CmdOk t.c:=by
 obtain⟨hw,hi0,hi1⟩:=read_word h;rcases(read_ok h).or_ with⟨h1,_⟩|⟨h1,h2,h3,_⟩
 ·obtain⟨k,a,b,c,e⟩:=cmdB_in h1;exact⟨b,c,e,hi0,hi1,fun hk=>by rw[hk]at a;simp at a,fun _=>k⟩
 ·refine⟨by rw[h2];simp,by rw[h2];simp,by rw[h3];decide,hi0,hi1,fun _=>⟨h1,hw⟩,fun hk=>absurd h2 hk⟩
theorem jsend_nil (X C q:Nat)(kv:Value)(ka:Option Addr)(kc:Nat)(k:Int)(val wd:ByteArray)(ft:Bool)(cid n:Int)(fa re:Bool)(yv vv:Value)(w:World)(hq:w.heap[q]?=some (quO k (.slice ka 0 kc) val wd ft cid n fa re yv vv)):Calls Tryz.prog 91 #[.pointer (some ⟨X,0,none⟩),.pointer (some ⟨C,0,none⟩),.pointer (some ⟨q,0,none⟩)] w fun e w'=>e= .returned (.tuple #[])∧w'=w:=by
 have q1:w.cell? ⟨q,1,none⟩=some (.slice ka 0 kc):=blkCell hq 1;have hql:=blkLt hq;clear hq;go_enter Tryz.func91,Tryz.ntmps91;go_wp2_with fail
 go_loopw [15] (fun i wr=>i= .int .i64 0∧wr=w) (fun _ _=>0)
 case atStart=>exact⟨rfl,rfl⟩
 case round=>
  obtain⟨rfl,rfl⟩:=hrel;go_wp2;go_end0;exact⟨rfl,rfl⟩
variable {w:World}{M A B:List Nat}
theorem Later.app {w':World}{A' B':List Nat}(h:Later w M (A++B))(hs:w.heap.size≤w'.heap.size)(ha:Later w' A A')(hb:Later w' B B'):Later w M (A'++B'):=fun b hm=>by
 rcases List.mem_append.1 hm with h1|h1
 ·rcases ha b h1 with h2|h2
  ·exact h b (List.mem_append.2 (.inl h2))
  ·exact .inr (by omega)
 ·rcases hb b h1 with h2|h2
  ·exact h b (List.mem_append.2 (.inr h2))
  ·exact .inr (by omega)
theorem Later.left (h:Later w M (A++B)):Later w M A:=fun b hb=>h b (List.mem_append.2 (.inl hb))
def onM (bv:Value)(w:World)(R:Nat):Nat:=match bv with| .bool true=>heldLen w R+1|_=>0
set_option maxHeartbeats 1000000
set_option maxRecDepth 100000
structure JunAt (W:World)(X sv pt win g sc:Nat)(cv:Value)(cis:List CliI)(cs:List CliS)(vs:List SvI)(ss:List SrvS):Prop where
 blk:W.heap[X]?=some (juO sv pt win cv (.slice (some ⟨g,0,none⟩) sv sc))
 gb:∃Zg,W.heap[g]?=some (.cells Zg 137 (0,0))∧∀(j:Nat) (u:SvI),vs[j]?=some u→Zg[j]?=some (.pointer (some ⟨u.S,0,none⟩))
 len:vs.length=sv
 s1:1≤sv
 s4:sv≤4
 sc_:sv≤sc
 pt_:pt≤16
 row:W.ownsRow 0 116 1 cv cis.length (cis.map (fun v=>ptrV v.C))
 cl:cis.length=cs.length
 cli:∀(i:Nat) (v:CliI) (s:CliS),cis[i]?=some v→cs[i]?=some s→CliOk W win v s
 cap:∀(i j:Nat) (v u:CliI),i≠j→cis[i]?=some v→cis[j]?=some u→∀b∈v.foot,b∉u.foot
 srv:SvsAt W vs ss
 ap:∀(i:Nat) (v:CliI),cis[i]?=some v→∀b∈v.foot,b∉feetV vs
def footJ (X:Nat)(cv:Value)(cis:List CliI)(vs:List SvI):List Nat:=X::(cv.ownBlock.toList++((cis.map CliI.foot).flatten++feetV vs))
theorem at_yes (F:Nat)(hF:F=56∨F=60)(g n c k b:Nat)(w:World)(hn:n≤1000000)(h:k<n)(hc:w.cell? ⟨g,k,none⟩=some (.pointer (some ⟨b,0,none⟩)))(hl:g<w.heap.size):Calls Tryz.prog F #[.slice (some ⟨g,0,none⟩) n c,.int .i64 (k:Int)] w fun e w'=>e= .returned (.tuple #[.pointer (some ⟨b,0,none⟩),.int .i64 0])∧w'=w:=by
 have h0:¬(k:Int)<0:=by omega
 have h1:¬(n:Int)≤(k:Int):=by omega
 have h2:(k:Int)<(n:Int):=by omega
 rcases hF with rfl|rfl
 ·go_enter Tryz.func56,Tryz.ntmps56;go_wp2;go_ret2;exact⟨rfl,rfl⟩
 ·go_enter Tryz.func60,Tryz.ntmps60;go_wp2;go_ret2;exact⟨rfl,rfl⟩
theorem set_same {α:Type}{l:List α}{i:Nat}{x:α}(h:l[i]?=some x):l.set i x=l:=by
 apply List.ext_getElem?;intro j;rw[List.getElem?_set];split
 ·rename_i e;subst e;rw[h];simp[(List.getElem?_eq_some_iff.1 h).1]
 ·rfl
end Go.Proofs.YtlonjggfnleolaaGreatDoor
namespace Go.Proofs.YtlonjggfnleolaaGreatDoor
open Go.RowKit
set_option linter.unusedVariables false
variable {w:World}{lo e size n:Nat}{v:Value}{xs:List Value}
def Row (w:World)(lo e size:Nat)(v:Value)(n:Nat)(xs:List Value):Prop:=
 xs.length=n*size∧((v= .slice none 0 0∧n=0)∨∃g cap cur,v= .slice (some ⟨g,0,none⟩) n cap∧lo≤g∧w.heap[g]?=some (.cells cur e (0,0))∧n≤cap∧cur.size=cap*size∧cur.toList.take (n*size)=xs)
theorem Row.of_own (h:w.ownsRow lo e size v n xs):Row w lo e size v n xs:=by
 obtain⟨h1,h2|⟨g,cap,cur,a,b,c,d,_,f,k⟩⟩:=h
 ·exact⟨h1,.inl h2⟩
 ·exact⟨h1,.inr ⟨g,cap,cur,a,b,c,d,f,k⟩⟩
theorem Row.form (h:Row w lo e size v n xs):∃a c,v= .slice a n c:=by
 obtain⟨h1,⟨rfl,rfl⟩|⟨g,cap,cur,rfl,_⟩⟩:=h
 ·exact⟨_,_,rfl⟩
 ·exact⟨_,_,rfl⟩
end Go.Proofs.YtlonjggfnleolaaGreatDoor
namespace Go.Proofs.YtlonjggfnleolaaGreatDoor
open Go.RowKit Go.Shelf Go.Conc
set_option linter.unusedVariables false
set_option maxHeartbeats 400000
set_option maxRecDepth 100000
theorem info159:∃i,Tryz.prog.info? 159=some i∧i.bytes=0:=by
 have h:(Tryz.prog.info? 159).map (·.bytes)=some 0:=by kernel_rfl
 obtain⟨i,hi,hz⟩:=Option.map_eq_some_iff.1 h;exact⟨i,hi,hz⟩
theorem newClient_any (R win:Nat)(w:World)(hw:win≤6):Calls Tryz.prog 86 #[.pointer (some ⟨R,0,none⟩),.int .i64 (win:Int)] w fun e w'=>e= .returned (.pointer (some ⟨w.heap.size+1,0,none⟩))∧w'=(w.alloc (.chan win #[] false 0 0 false)).alloc (clO R w.heap.size (.slice none 0 0) (.pointer none) (.slice none 0 0)):=by
 unfold clO;have hmm:∀W:World,(Instr.makeChan 119 (.int .i64 (win:Int))).run Tryz.prog W= .ok (.chan (some W.heap.size)) (W.alloc (.chan win #[] false 0 0 false)):=fun W=>by
  obtain⟨i,hi,hb⟩:=info159;exact run_makeChan (P:=Tryz.prog) (w:=W) Tryz.underlying119 hi .i64 win (by omega) (by rw[hb];omega)
 go_enter Tryz.func86,Tryz.ntmps86;go_wp2;go_ret;exact⟨rfl,rfl⟩
theorem newServer_any (w:World):Calls Tryz.prog 85 #[] w fun e w'=>e= .returned (.pointer (some ⟨w.heap.size+1,0,none⟩))∧w'=(w.alloc (.map #[] 0)).alloc (svO false 0 w.heap.size (.slice none 0 0) 0 false false (.pointer none) (.slice none 0 0)):=by
 unfold svO;have hmm:= @run_makeMap Tryz.prog;go_enter Tryz.func85,Tryz.ntmps85;go_wp2;go_ret;exact⟨rfl,rfl⟩
theorem info116:∃i,Tryz.prog.info? 116=some i∧i.zero=some (.pointer none)∧i.size=1∧i.bytes=8:=by
 have h:(Tryz.prog.info? 116).map (fun i=>(i.zero,i.size,i.bytes))=some (some (.pointer none),1,8):=by kernel_rfl
 obtain⟨i,hi,hz⟩:=Option.map_eq_some_iff.1 h;simp only[Prod.mk.injEq]at hz;exact⟨i,hi,hz.1,hz.2.1,hz.2.2⟩
def newI (C R ch t:Nat):CliI:=⟨C,R,ch,t,none,.slice none 0 0,.pointer none,.slice none 0 0,[]⟩
def newC (d:Int):CliS:=⟨d,st0,[],[]⟩
theorem CliOk.new {W:World}{C R ch t win:Nat}{d:Int}(hd:dT d t)(hR:W.heap[R]?=some (rdO t (.slice none 0 0) 0 false false))(hch:W.heap[ch]?=some (.chan win #[] false 0 0 false))(hC:W.heap[C]?=some (clO R ch (.slice none 0 0) (.pointer none) (.slice none 0 0))):CliOk W win (newI C R ch t) (newC d):=
 ⟨hC,⟨⟨.slice none 0 0,0,hR,⟨⟨[],World.ownsRow_nil _ _ _ _,Nat.le_refl _,rfl,by simp⟩,rfl⟩,.inl rfl⟩,by simp[newI]⟩,hd,⟨#[],0,0,false,hch,rfl⟩,World.ownsRow_nil _ _ _ _,rfl,fun i q c hq _=>(by simp[newI]at hq),.inl rfl,BldRow.nil _,fun b hb=>(by cases hb),fun c hc=>(by simp[newC]at hc)⟩
set_option maxHeartbeats 1000000
set_option maxRecDepth 100000
variable {W:World}{vs:List SvI}
def configB (sv pt win:Int):Bool:=ringB sv pt&&withinB 1 win 6
theorem config_any (sv pt win:Int)(w:World):Calls Tryz.prog 84 #[.agg #[.int .i64 sv,.int .i64 pt,.int .i64 win]] w fun e w'=>e= .returned (.bool (configB sv pt win))∧Below w.heap.size w w':=by
 have HB:Hid (∀o,Below w.heap.size w (w.alloc o)):=fun o=>(Below.refl _ _).alloc (Nat.le_refl _) o
 have HR:Hid (∀W,Calls Tryz.prog 49 #[.int .i64 sv,.int .i64 pt] W fun e w'=>e= .returned (.bool (ringB sv pt))∧w'=W):=fun W=>ring_any sv pt W
 have HW:Hid (∀W,Calls Tryz.prog 77 #[.int .i64 win,.int .i64 1,.int .i64 6] W fun e w'=>e= .returned (.bool (withinB 1 win 6))∧w'=W):=fun W=>within_any win 1 6 W
 unfold configB;cases hr:ringB sv pt with
 |false=>
  rw[hr]at HR;go_enter Tryz.func84,Tryz.ntmps84;go_wp2_with fail
  go_at_call 49;refine(HR.out _).mono ?_;rintro e w1 ⟨rfl,hw1⟩;subst hw1;go_wp2;go_ret;exact⟨rfl,HB.out _⟩
 |true=>
  rw[hr]at HR;go_enter Tryz.func84,Tryz.ntmps84;go_wp2_with fail
  go_at_call 49;refine(HR.out _).mono ?_;rintro e w1 ⟨rfl,hw1⟩;subst hw1;go_wp2_with fail
  go_at_call 77;refine(HW.out _).mono ?_;rintro e w2 ⟨rfl,hw2⟩;subst hw2;go_wp2;go_ret;exact⟨by simp,HB.out _⟩
def newS (S m:Nat):SvI:=⟨S,m,.slice none 0 0,0,false,false,.pointer none,.slice none 0 0,[]⟩
theorem SvOk.new {S m:Nat}(hS:W.heap[S]?=some (svO false 0 m (.slice none 0 0) 0 false false (.pointer none) (.slice none 0 0)))(hm:W.heap[m]?=some (.map #[] 0)):SvOk W (newS S m) ⟨0,[]⟩:=
 ⟨hS,⟨#[],0,hm,rfl⟩,fun p hp=>(by simp[newS]at hp),fun p hp=>(by simp[newS]at hp),.inl rfl,BldRow.nil _⟩
theorem SvsAt.snoc {W':World}{ss:List SrvS}(h:SvsAt W vs ss)(k:∀b∈feetV vs,W'.heap[b]?=W.heap[b]?){v:SvI}{s:SrvS}(hn:SvOk W' v s)(hf:∀b∈v.foot,W.heap.size≤b):SvsAt W' (vs++[v]) (ss++[s]):=by
 have h':=h.keep k;have hcut:∀(j:Nat) (u:SvI),(vs++[v])[j]?=some u→(j<vs.length∧vs[j]?=some u)∨(j=vs.length∧u=v):=fun j u hu=>by
  by_cases hj:j<vs.length
  ·rw[List.getElem?_append_left hj]at hu;exact .inl ⟨hj,hu⟩
  ·have hj2:=(List.getElem?_eq_some_iff.1 hu).1;simp at hj2;have hj3:j=vs.length:=by omega
   subst hj3;rw[List.getElem?_append_right (Nat.le_refl _)]at hu;simp at hu;exact .inr ⟨rfl,hu.symm⟩
 refine⟨by simp[h.len],fun j u s' hu hs=>?_,fun i j u1 u2 hij h1 h2 b hb1 hb2=>?_⟩
 ·rcases hcut j u hu with⟨hj,hu'⟩|⟨hj,rfl⟩
  ·rw[List.getElem?_append_left (by rw[←h.len];exact hj)]at hs;exact h'.ok j u s' hu' hs
  ·rw[hj,h.len,List.getElem?_append_right (Nat.le_refl _)]at hs;simp at hs;rw[←hs];exact hn
 ·rcases hcut i u1 h1 with⟨hi,h1'⟩|⟨hi,rfl⟩
  ·rcases hcut j u2 h2 with⟨hj,h2'⟩|⟨hj,rfl⟩
   ·exact h.ap i j u1 u2 hij h1' h2' b hb1 hb2
   ·have a1:=h.old b (mem_feetV.2 ⟨i,u1,h1',hb1⟩);have a2:=hf b hb2;omega
  ·rcases hcut j u2 h2 with⟨hj,h2'⟩|⟨hj,rfl⟩
   ·have a1:=h.old b (mem_feetV.2 ⟨j,u2,h2',hb2⟩);have a2:=hf b hb1;omega
   ·omega
structure MakeAt (w0 W:World)(X:Nat)(sv pt win:Int)(j:Nat)(rv:Value)(vs:List SvI):Prop where
 blk:W.heap[X]?=some (juO sv pt win (.slice none 0 0) rv)
 row:W.ownsRow 0 137 1 rv j (vs.map (fun v=>ptrV v.S))
 len:vs.length=j
 srv:SvsAt W vs (List.replicate j ⟨0,[]⟩)
 bel:Below w0.heap.size w0 W
 ge:w0.heap.size≤X
 gr:∀b,rv.ownBlock=some b→w0.heap.size≤b
 gs:∀b∈feetV vs,w0.heap.size≤b
 fr:∀v∈vs,∃S m,v=newS S m
theorem info137:∃i,Tryz.prog.info? 137=some i∧i.zero=some (.pointer none)∧i.size=1∧i.bytes=8:=by
 have h:(Tryz.prog.info? 137).map (fun i=>(i.zero,i.size,i.bytes))=some (some (.pointer none),1,8):=by kernel_rfl
 obtain⟨i,hi,hz⟩:=Option.map_eq_some_iff.1 h;simp only[Prod.mk.injEq]at hz;exact⟨i,hi,hz.1,hz.2.1,hz.2.2⟩
theorem MakeAt.more {w0 W3 Wa:World}{X j g2 cap2:Nat}{sv pt win:Int}{rv:Value}(h:MakeAt w0 W X sv pt win j rv vs)(hw3:W3=(W.drew.alloc (.map #[] 0)).alloc (svO false 0 W.heap.size (.slice none 0 0) 0 false false (.pointer none) (.slice none 0 0)))(hown:Wa.ownsRow 0 137 1 (.slice (some ⟨g2,0,none⟩) (j+1) cap2) (j+1) (vs.map (fun v=>ptrV v.S)++[.pointer (some ⟨W.heap.size+1,0,none⟩)]))(hgrow:(W3.alloc (.cells #[.pointer (some ⟨W.heap.size+1,0,none⟩)] 137)).grownBy Wa rv.ownBlock)(hat:rv.ownBlock=some g2∨g2=(W3.alloc (.cells #[.pointer (some ⟨W.heap.size+1,0,none⟩)] 137)).heap.size):MakeAt w0 (Wa.setCell ⟨X,4,none⟩ (.slice (some ⟨g2,0,none⟩) (j+1) cap2)) X sv pt win (j+1) (.slice (some ⟨g2,0,none⟩) (j+1) cap2) (vs++[newS (W.heap.size+1) W.heap.size]):=by
 have hb3:Below W.heap.size W W3:=by rw[hw3];exact((Below.refl _ W).drew.alloc (Nat.le_refl _) _).alloc (by simp) _
 have hb4:Below W.heap.size W (W3.alloc (.cells #[.pointer (some ⟨W.heap.size+1,0,none⟩)] 137)):=hb3.alloc hb3.size _;have sz3:=hb3.size;have hlX:=blkLt h.blk;have hcv:∀b,rv.ownBlock=some b→b<W.heap.size:=fun b e=>by
  obtain⟨cur,hc⟩:=ownsRow_blk h.row e;exact blkLt hc
 have nX:rv.ownBlock≠some X:=fun e=>by
  obtain⟨cur,hc⟩:=ownsRow_blk h.row e;have hb:=h.blk;unfold juO at hb;rw[hb]at hc;cases hc
 have keep:∀b,b<W.heap.size→rv.ownBlock≠some b→b≠X→(Wa.setCell ⟨X,4,none⟩ (.slice (some ⟨g2,0,none⟩) (j+1) cap2)).heap[b]?=W.heap[b]?:=fun b hb h1 h2=>(Below.heap_setCell Wa ⟨X,4,none⟩ _ b h2).trans ((hgrow.block b (by rw[World.size_alloc];omega) (fun e=>h1 e.symm)).trans (hb4.block b hb))
 have keep3:∀(b:Nat) (o:Obj),W3.heap[b]?=some o→W.heap.size≤b→(Wa.setCell ⟨X,4,none⟩ (.slice (some ⟨g2,0,none⟩) (j+1) cap2)).heap[b]?=some o:=fun b o hb hle=>(Below.heap_setCell Wa ⟨X,4,none⟩ _ b (by show b≠X;omega)).trans ((hgrow.block b (by rw[World.size_alloc];have:=blkLt hb;omega) (fun e=>by have:=hcv b e.symm;omega)).trans ((Below.heap_alloc _ _ _ (blkLt hb)).trans hb))
 have hXa:Wa.heap[X]?=some (juO sv pt win (.slice none 0 0) rv):=(hgrow.block X (by rw[World.size_alloc];omega) (fun e=>nX e.symm)).trans ((hb4.block X hlX).trans h.blk);have hm3:W3.heap[W.heap.size]?=some (.map #[] 0):=by
  rw[hw3,Below.heap_alloc _ _ _ (by simp)];exact blkNew W.drew _
 have hS3:W3.heap[W.heap.size+1]?=some (svO false 0 W.heap.size (.slice none 0 0) 0 false false (.pointer none) (.slice none 0 0)):=by
  rw[hw3];exact hs_new (by simp)
 have hnf:∀b∈(newS (W.heap.size+1) W.heap.size).foot,W.heap.size≤b:=fun b hb=>by
  simp[SvI.foot,newS,Value.ownBlock]at hb;omega
 have sz0:=h.bel.size;refine⟨blkSet (i:=4) hXa _,?_,by simp[h.len],?_,?_,h.ge,fun b hb=>?_,fun b hb=>?_,fun u hu=>?_⟩
 ·rw[List.map_append];exact ownsRow_other hown (fun gg hg=>by
   cases hg;refine Below.heap_setCell Wa ⟨X,4,none⟩ _ g2 (fun e=>?_);obtain⟨cur,hc⟩:=ownsRow_blk hown rfl;rw[show g2=X from e,hXa]at hc;unfold juO at hc;cases hc)
 ·rw[List.replicate_succ'];refine h.srv.snoc (fun b hb=>keep b (h.srv.old b hb) (fun e=>?_) (fun e=>?_)) (SvOk.new (keep3 _ _ hS3 (by omega)) (keep3 _ _ hm3 (Nat.le_refl _))) hnf
  ·obtain⟨cur,hc⟩:=ownsRow_blk h.row e;exact h.srv.apart hc (by decide) (by decide) hb
  ·have hb':=h.blk;unfold juO at hb';exact h.srv.apart hb' (by decide) (by decide) (by rw[←e];exact hb)
 ·have k:Chg (X::rv.ownBlock.toList) W (Wa.setCell ⟨X,4,none⟩ (.slice (some ⟨g2,0,none⟩) (j+1) cap2)):=((Chg.of_below hb4).grown hgrow (fun b e=> .inl (by simp[e]))).set (.inl (by simp)) _;exact⟨k.os.trans h.bel.os,k.tape.trans h.bel.tape,k.output.trans h.bel.output,Nat.le_trans sz0 k.size,fun b hb=>(k.block b (by omega) (fun hm=>by
   rcases List.mem_cons.1 hm with e|e
   ·have:=h.ge;omega
   ·have:=h.gr b (optMem e);omega)).trans (h.bel.block b hb)⟩
 ·have e':g2=b:=by simpa [Value.ownBlock]using hb
  rcases hat with e|e
  ·exact h.gr b (by rw[e,e'])
  ·rw[World.size_alloc]at e;omega
 ·obtain⟨i,u,hu,hbu⟩:=mem_feetV.1 hb;by_cases hi:i<vs.length
  ·rw[List.getElem?_append_left hi]at hu;exact h.gs b (mem_feetV.2 ⟨i,u,hu,hbu⟩)
  ·rw[List.getElem?_append_right (by omega)]at hu;have hu':=List.mem_of_getElem? hu;simp at hu';rw[hu']at hbu;have:=hnf b hbu;omega
 ·rcases List.mem_append.1 hu with hu|hu
  ·exact h.fr u hu
  ·simp at hu;exact⟨_,_,hu⟩
end Go.Proofs.YtlonjggfnleolaaGreatDoor
