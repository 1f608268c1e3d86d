import Derived.Test.YtlonjggfnleolaaGreatDoorKpJ
namespace Go.Proofs.YtlonjggfnleolaaGreatDoor
open Go.RowKit Go.Shelf
set_option linter.unusedVariables false
variable {W:World}{b i:Nat}
structure Rw where
 e:Nat
 v:Value
 xs:List Value
structure SvG where
 b:Nat
 sv:Value
 L:List (ByteArray×ByteArray)
 rd:Nat
 mv:Value
 made:List ByteArray
def SvG.foot (s:SvG):List Nat:=s.b::(s.sv.ownBlock.toList++s.mv.ownBlock.toList)
structure SvK (W:World)(s:SvG):Prop where
 blk:W.heap[s.b]?=some (.cells #[s.sv,.int .i64 (s.rd:Int),s.mv] 68 (0,0))
 rL:W.ownsRow 0 181 2 s.sv s.L.length (cellsI s.L)
 rM:W.ownsRow 0 9 1 s.mv s.made.length (s.made.map .string)
theorem SvK.keep {W':World}{s:SvG}(h:SvK W s)(k:∀b∈s.foot,W'.heap[b]?=W.heap[b]?):SvK W' s:=
 ⟨(k _ (by simp[SvG.foot])).trans h.blk,ownsRow_other h.rL (fun g hg=>k g (by simp[SvG.foot,hg])),ownsRow_other h.rM (fun g hg=>k g (by simp[SvG.foot,hg]))⟩
theorem SvK.old {s:SvG}(h:SvK W s):∀b∈s.foot,b<W.heap.size:=by
 intro b hb;unfold SvG.foot at hb;rcases List.mem_cons.1 hb with e|e
 ·rw[e];exact blkLt h.blk
 ·rcases List.mem_append.1 e with e|e
  ·obtain⟨cur,hc⟩:=ownsRow_blk h.rL (mem_own e);exact blkLt hc
  ·obtain⟨cur,hc⟩:=ownsRow_blk h.rM (mem_own e);exact blkLt hc
theorem SvK.type {s:SvG}(h:SvK W s)(hb:b∈s.foot):∃cur,W.heap[b]?=some (.cells cur 68 (0,0))∨W.heap[b]?=some (.cells cur 181 (0,0))∨W.heap[b]?=some (.cells cur 9 (0,0)):=by
 unfold SvG.foot at hb;rcases List.mem_cons.1 hb with e|e
 ·rw[e];exact⟨_,.inl h.blk⟩
 ·rcases List.mem_append.1 e with e|e
  ·obtain⟨cur,hc⟩:=ownsRow_blk h.rL (mem_own e);exact⟨cur,.inr (.inl hc)⟩
  ·obtain⟨cur,hc⟩:=ownsRow_blk h.rM (mem_own e);exact⟨cur,.inr (.inr hc)⟩
def FK (P:Nat)(R:List Rw)(S:List SvG)(b:Nat):Prop:=b=P∨(∃r∈R,r.v.ownBlock=some b)∨∃s∈S,b∈s.foot
structure PlAt (base:Nat)(W:World)(P X:Nat)(R:List Rw)(S:List SvG)(M:List Nat):Prop where
 blk:W.heap[P]?=some (.cells (ptrV X::R.map (·.v)).toArray 56 (0,0))
 row:∀r∈R,W.ownsRow 0 r.e 1 r.v r.xs.length r.xs
 srv:∀s∈S,SvK W s
 et:∀r∈R,r.e=62∨r.e=9∨r.e=3
 apR:∀(i j:Nat) (r r':Rw) (b:Nat),i≠j→R[i]?=some r→R[j]?=some r'→r.v.ownBlock=some b→r'.v.ownBlock≠some b
 apS:∀(i j:Nat) (s s':SvG) (b:Nat),i≠j→S[i]?=some s→S[j]?=some s'→b∈s.foot→b∉s'.foot
 apB:∀r∈R,∀s∈S,∀b,r.v.ownBlock=some b→b∉s.foot
 apM:∀b,FK P R S b→b∉M∧base≤b
 loM:∀b∈M,base≤b
section
variable {base:Nat}{W W':World}{P X:Nat}{R:List Rw}{S:List SvG}{M M':List Nat}
theorem PlAt.old (h:PlAt base W P X R S M)(hb:FK P R S b):b<W.heap.size:=by
 rcases hb with e|⟨r,hr,e⟩|⟨s,hs,e⟩
 ·rw[e];exact blkLt h.blk
 ·obtain⟨cur,hc⟩:=ownsRow_blk (h.row r hr) e;exact blkLt hc
 ·exact(h.srv s hs).old b e
theorem PlAt.noP (h:PlAt base W P X R S M){r:Rw}(hr:r∈R):r.v.ownBlock≠some P:=by
 intro e;obtain⟨cur,hc⟩:=ownsRow_blk (h.row r hr) e;rw[h.blk]at hc;have h2:=h.et r hr;have e5:(56:Nat)=r.e:=by
  injection hc with hc;injection hc
 omega
theorem PlAt.noPS (h:PlAt base W P X R S M){s:SvG}(hs:s∈S):P∉s.foot:=fun e=>by
 obtain⟨cur,hc|hc|hc⟩:=(h.srv s hs).type e<;>(rw[h.blk]at hc;cases hc)
theorem PlAt.keep (h:PlAt base W P X R S M)(k:∀b,FK P R S b→W'.heap[b]?=W.heap[b]?)(hm:∀b,FK P R S b→b∉M')(hl:∀b∈M',base≤b):PlAt base W' P X R S M':=
 ⟨(k P (.inl rfl)).trans h.blk,fun r hr=>ownsRow_other (h.row r hr) (fun g hg=>k g (.inr (.inl ⟨r,hr,hg⟩))),fun s hs=>(h.srv s hs).keep (fun b hb=>k b (.inr (.inr ⟨s,hs,hb⟩))),h.et,h.apR,h.apS,h.apB,fun b hb=>⟨hm b hb,(h.apM b hb).2⟩,hl⟩
theorem PlAt.below (h:PlAt base W P X R S M)(hb:Below W.heap.size W W'):PlAt base W' P X R S M:=
 h.keep (fun b hb'=>hb.block b (h.old hb')) (fun b hb'=>(h.apM b hb').1) h.loM
theorem PlAt.jun (h:PlAt base W P X R S M)(k:Chg M W W')(l:Later W M M')(hs:base≤W.heap.size):PlAt base W' P X R S M':=by
 refine h.keep (fun b hb=>k.block b (h.old hb) (h.apM b hb).1) (fun b hb hm=>?_) (fun b hm=>?_)
 ·rcases l b hm with e|e
  ·exact(h.apM b hb).1 e
  ·have:=h.old hb;omega
 ·rcases l b hm with e|e
  ·exact h.loM b e
  ·omega
theorem PlAt.jkeep (h:PlAt base W P X R S M){K:List Nat}{sv pt win T:Nat}{st:List CliQ×List SrvQ}(hj:JPl W X sv pt win T st M)(k:Chg K W W')(hK:∀b∈K,FK P R S b):JPl W' X sv pt win T st M:=
 hj.keep (fun b hb=>k.block b (hj.old b hb) (fun hm=>(h.apM b (hK b hm)).1 hb))
theorem get_set {α:Type}{l:List α}{j:Nat}{x y:α}(h:(l.set i x)[j]?=some y):(j=i∧y=x)∨(j≠i∧l[j]?=some y):=by
 rw[List.getElem?_set]at h;split at h
 ·rename_i e;split at h
  ·exact .inl ⟨e.symm,by cases h;rfl⟩
  ·cases h
 ·rename_i e;exact .inr ⟨fun e'=>e e'.symm,h⟩
theorem mem_set {α:Type}{l:List α}{x y:α}(h:y∈l.set i x):y=x∨∃j,j≠i∧l[j]?=some y:=by
 obtain⟨j,hj⟩:=List.mem_iff_getElem?.1 h;rcases get_set hj with⟨_,e⟩|⟨e,e2⟩
 ·exact .inl e
 ·exact .inr ⟨j,e,e2⟩
theorem PlAt.grow (h:PlAt base W P X R S M){r:Rw}(hr:R[i]?=some r){w9:World}{v':Value}{xs':List Value}(k:Chg r.v.ownBlock.toList W w9)(hrow:w9.ownsRow 0 r.e 1 v' xs'.length xs')(ho:∀b,v'.ownBlock=some b→r.v.ownBlock=some b∨W.heap.size≤b)(hsz:base≤W.heap.size)(hM:∀b∈M,b<W.heap.size):PlAt base (w9.setCell ⟨P,i+1,none⟩ v') P X (R.set i ⟨r.e,v',xs'⟩) S M∧w9.frozen? ⟨P,i+1,none⟩=false∧P<w9.heap.size∧w9.cell? ⟨P,i+1,none⟩=some r.v∧Chg (P::r.v.ownBlock.toList) W (w9.setCell ⟨P,i+1,none⟩ v'):=by
 have hrm:=List.mem_of_getElem? hr;have hP9:w9.heap[P]?=some (.cells (ptrV X::R.map (·.v)).toArray 56 (0,0)):=k.keep h.blk (fun hm=>h.noP hrm (mem_own hm));have hi:=(List.getElem?_eq_some_iff.1 hr).1;have c9:=blkCell hP9 (i+1);have nP:∀b,FK P (R.set i ⟨r.e,v',xs'⟩) S b→b≠P→(w9.setCell ⟨P,i+1,none⟩ v').heap[b]?=w9.heap[b]?:=fun b _ hne=>Below.heap_setCell _ _ _ _ hne
 have hvP:v'.ownBlock≠some P:=fun e=>by
  rcases ho P e with e'|e'
  ·exact h.noP hrm e'
  ·have:=blkLt h.blk;omega
 refine⟨⟨?_,?_,?_,?_,?_,h.apS,?_,?_,h.loM⟩,blkFree hP9 _,blkLt hP9,?_,?_⟩
 ·have:=blkSet (i:=i+1) hP9 v';rw[this,List.map_set];simp
 ·intro r2 h2;rcases mem_set h2 with e|⟨j,hj,h3⟩
  ·rw[e];exact ownsRow_other hrow (fun g hg=>Below.heap_setCell _ _ _ _ (fun e'=>hvP ((show g=P from e')▸hg)))
  ·have hm:=List.mem_of_getElem? h3;refine ownsRow_other (h.row r2 hm) (fun g hg=>?_);rw[Below.heap_setCell w9 ⟨P,i+1,none⟩ v' g (fun e'=>h.noP hm ((show g=P from e')▸hg))];exact k.block g (h.old (.inr (.inl ⟨r2,hm,hg⟩))) (fun hm2=>h.apR i j r r2 g (fun e=>hj e.symm) hr h3 (mem_own hm2) hg)
 ·intro s hs;refine(h.srv s hs).keep (fun b hb=>?_);rw[Below.heap_setCell w9 ⟨P,i+1,none⟩ v' b (fun e'=>h.noPS hs ((show b=P from e')▸hb))];exact k.block b ((h.srv s hs).old b hb) (fun hm=>h.apB r hrm s hs b (mem_own hm) hb)
 ·intro r2 h2;rcases mem_set h2 with e|⟨j,hj,h3⟩
  ·rw[e];exact h.et r hrm
  ·exact h.et r2 (List.mem_of_getElem? h3)
 ·intro a b r1 r2 g hab h1 h2 hg hg2;rcases get_set h1 with⟨e1,e2⟩|⟨e1,e2⟩<;>rcases get_set h2 with⟨f1,f2⟩|⟨f1,f2⟩
  ·omega
  ·rw[e2]at hg;rcases ho g hg with e|e
   ·exact h.apR i b r r2 g (by omega) hr f2 e hg2
   ·have:=h.old (.inr (.inl ⟨r2,List.mem_of_getElem? f2,hg2⟩));omega
  ·rw[f2]at hg2;rcases ho g hg2 with e|e
   ·exact h.apR i a r r1 g (by omega) hr e2 e hg
   ·have:=h.old (.inr (.inl ⟨r1,List.mem_of_getElem? e2,hg⟩));omega
  ·exact h.apR a b r1 r2 g hab e2 f2 hg hg2
 ·intro r2 h2 s hs b hb;rcases mem_set h2 with e|⟨j,hj,h3⟩
  ·rw[e]at hb;rcases ho b hb with e|e
   ·exact h.apB r hrm s hs b e
   ·exact fun hf=>by have:=(h.srv s hs).old b hf;omega
  ·exact h.apB r2 (List.mem_of_getElem? h3) s hs b hb
 ·intro b hb;rcases hb with e|⟨r2,h2,e⟩|e
  ·exact h.apM b (.inl e)
  ·rcases mem_set h2 with e2|⟨j,hj,h3⟩
   ·rw[e2]at e;rcases ho b e with e3|e3
    ·exact h.apM b (.inr (.inl ⟨r,hrm,e3⟩))
    ·exact⟨fun hm=>by have:=hM b hm;omega,by omega⟩
   ·exact h.apM b (.inr (.inl ⟨r2,List.mem_of_getElem? h3,e⟩))
  ·exact h.apM b (.inr (.inr e))
 ·rw[c9];simp[hr]
 ·exact⟨k.os,k.tape,k.output,by rw[World.size_setCell];exact k.size,fun b hb hm=>by
   rw[List.mem_cons,not_or]at hm;rw[Below.heap_setCell _ _ _ _ hm.1];exact k.block b hb hm.2⟩
theorem PlAt.addSrv (h:PlAt base W P X R S M){s:SvG}(hb:Below W.heap.size W W')(hs:SvK W' s)(hf:∀b∈s.foot,W.heap.size≤b)(hsz:base≤W.heap.size)(hM:∀b∈M,b<W.heap.size):PlAt base W' P X R (S++[s]) M:=by
 have g:=h.below hb;refine⟨g.blk,g.row,fun t ht=>?_,h.et,h.apR,?_,?_,?_,h.loM⟩
 ·rcases List.mem_append.1 ht with e|e
  ·exact g.srv t e
  ·simp at e;rw[e];exact hs
 ·intro a b t t' q hab h1 h2 hq hq2;have key:∀(i:Nat) (t:SvG),(S++[s])[i]?=some t→(i<S.length∧S[i]?=some t)∨(i=S.length∧t=s):=fun i t hi=>by
   by_cases hl:i<S.length
   ·rw[List.getElem?_append_left hl]at hi;exact .inl ⟨hl,hi⟩
   ·rw[List.getElem?_append_right (by omega)]at hi;cases hk:i-S.length with
    |zero=>rw[hk]at hi;simp at hi;exact .inr ⟨by omega,hi.symm⟩
    |succ k=>rw[hk]at hi;simp at hi
  rcases key a t h1 with⟨l1,e1⟩|⟨l1,e1⟩<;>rcases key b t' h2 with⟨l2,e2⟩|⟨l2,e2⟩
  ·exact h.apS a b t t' q hab e1 e2 hq hq2
  ·rw[e2]at hq2;have:=hf q hq2;have:=(h.srv t (List.mem_of_getElem? e1)).old q hq;omega
  ·rw[e1]at hq;have:=hf q hq;have:=(h.srv t' (List.mem_of_getElem? e2)).old q hq2;omega
  ·omega
 ·intro r hr t ht b hb2;rcases List.mem_append.1 ht with e|e
  ·exact h.apB r hr t e b hb2
  ·simp at e;rw[e];intro hq;have:=hf b hq;have:=h.old (.inr (.inl ⟨r,hr,hb2⟩));omega
 ·intro b hb2;rcases hb2 with e|e|⟨t,ht,e⟩
  ·exact h.apM b (.inl e)
  ·exact h.apM b (.inr (.inl e))
  ·rcases List.mem_append.1 ht with e2|e2
   ·exact h.apM b (.inr (.inr ⟨t,e2,e⟩))
   ·simp at e2;rw[e2]at e;have:=hf b e;exact⟨fun hm=>by have:=hM b hm;omega,by omega⟩
end
def FrsOk (fs:List Fr):Prop:=∀f∈fs,FrOk f
section
variable {d:Int}{cs:List Cmd}{rest:List UInt8}{Q:Int→PS→Prop}{P:List UInt8→Nat→Prop}
end
section
variable {p:Ply}{sv pt win:Nat}{rest:Nat→List UInt8}{F:Nat→Prop}{st:List CliQ×List SrvQ}
theorem runsJ_in (sv pt win:Nat)(st:List CliQ×List SrvQ):∀n,SameIn st.2 (runsJ sv pt win n st).2:=by
 intro n;induction n with
 |zero=>exact SameIn.refl _
 |succ n ih=>rw[runsJ_succ];exact ih.trans (runJ_in _ _ _ _ _)
theorem lisF_len (sv pt win o:Nat):∀(f:Nat) (st:List CliQ×List SrvQ),(lisF sv pt win o f st).1.1.length=st.1.length:=by
 intro f;induction f with
 |zero=>intro st;rfl
 |succ f ih=>
  intro st;unfold lisF;split
  ·rfl
  ·split
   ·rfl
   ·rw[ih,runJ_len];show(anJ _ _ _ _ _).length=_;unfold anJ;split<;>simp
theorem fallJ_len (sv pt win o:Nat)(st:List CliQ×List SrvQ):(fallJ sv pt win o st).1.length=st.1.length:=by
 unfold fallJ;rw[runsJ_len];simp
theorem saidJ_len (sv pt win i:Nat)(piece:List UInt8)(st:List CliQ×List SrvQ):(saidJ sv pt win i piece st).1.length=st.1.length:=by
 unfold saidJ;split
 ·rfl
 ·rw[runJ_len];simp
theorem answeredJ_len (sv pt win o:Nat)(piece:List UInt8)(st:List CliQ×List SrvQ):(answeredJ sv pt win o piece st).1.length=st.1.length:=by
 unfold answeredJ;split
 ·rfl
 ·unfold listenJ;split
  ·unfold lisJ;rw[lisF_len]
  ·rw[fallJ_len];unfold lisJ;rw[lisF_len]
end
def ansF (there:Bool)(v:ByteArray)(id:Nat):ByteArray:=strOfNums [2,if there=true then 0 else 1,0,(v.size:Int),0,((id % 256:Nat):Int),((id / 256:Nat):Int)]++v
theorem strOfNums_size (l:List Int):(strOfNums l).size=l.length:=by
 unfold strOfNums;simp[ByteArray.size]
theorem ansF_size (t:Bool)(v:ByteArray)(id:Nat):(ansF t v id).size=7+v.size:=by
 unfold ansF;rw[ByteArray.size_append,strOfNums_size];rfl
theorem Fr.by_len {f:Fr}(h:FrOk f):7≤f.by_.length∧f.by_.length≤60:=by
 have hk:=keyB_size' h.key;have hv:=h.val;rw[f.by_eq h];have lk:=len_size' f.key;have lv:=len_size' f.val;simp;omega
variable {W:World}{i n:Nat}{r:Rw}
structure PlD where
 S:List SvG
 txt:List ByteArray
 sd:List Nat
 wnt:List ByteArray
 mn:List Nat
 byt:List ByteArray
 v1:Value
 v2:Value
 v3:Value
 v4:Value
 v5:Value
 v6:Value
def intsV (l:List Nat):List Value:=l.map (fun(n:Nat)=>Value.int .i64 (n:Int))
def PlD.rows (D:PlD):List Rw:=[⟨62,D.v1,D.S.map (fun s=>ptrV s.b)⟩,⟨9,D.v2,D.txt.map .string⟩,⟨3,D.v3,intsV D.sd⟩,⟨9,D.v4,D.wnt.map .string⟩,⟨3,D.v5,intsV D.mn⟩,⟨9,D.v6,D.byt.map .string⟩]
theorem below_chg {base:Nat}{w0 W':World}{K:List Nat}(h:Below base w0 W)(hs:base≤W.heap.size)(k:Chg K W W')(hK:∀b∈K,base≤b):Below base w0 W':=
 h.trans ⟨k.os,k.tape,k.output,k.size,fun b hb=>k.block b (by omega) (fun hm=>by have:=hK b hm;omega)⟩
def PlayV (w0 W:World)(P X sv pt win T:Nat)(st:List CliQ×List SrvQ)(D:PlD):Prop:=∃M,PlAt w0.heap.size W P X D.rows D.S M∧JPl W X sv pt win T st M∧Below w0.heap.size w0 W
section
variable {w0 W W':World}{P X sv pt win T:Nat}{st st':List CliQ×List SrvQ}{D:PlD}
theorem PlayV.blk (h:PlayV w0 W P X sv pt win T st D):W.heap[P]?=some (.cells #[ptrV X,D.v1,D.v2,D.v3,D.v4,D.v5,D.v6] 56 (0,0)):=by
 obtain⟨M,h1,_⟩:=h;exact h1.blk
theorem PlayV.bel (h:PlayV w0 W P X sv pt win T st D):Below w0.heap.size w0 W:=by
 obtain⟨M,_,_,h1⟩:=h;exact h1
theorem PlayV.below (h:PlayV w0 W P X sv pt win T st D)(hb:Below W.heap.size W W'):PlayV w0 W' P X sv pt win T st D:=by
 obtain⟨M,h1,h2,h3⟩:=h;exact⟨M,h1.below hb,h2.below hb,h3.trans (hb.mono h3.size)⟩
theorem PlayV.row (h:PlayV w0 W P X sv pt win T st D)(hr:D.rows[i]?=some r):W.ownsRow 0 r.e 1 r.v r.xs.length r.xs:=by
 obtain⟨M,h1,_⟩:=h;exact h1.row r (List.mem_of_getElem? hr)
theorem row_sl {e:Nat}{v:Value}{xs:List Value}(h:W.ownsRow 0 e 1 v n xs):∃a c,v= .slice a n c∧n≤c∧(∀i u,xs[i]?=some u→∃g,a=some ⟨g,0,none⟩∧g<W.heap.size∧W.cell? ⟨g,i,none⟩=some u):=by
 have h0:=h;rcases h.2 with⟨e1,e2⟩|⟨g,cap,cur,e1,_,hh,hnc,_,_,ht⟩
 ·refine⟨none,0,by rw[e1,e2],by omega,fun i u hu=>?_⟩;have hl:=h.1;rw[e2]at hl;have:=(List.getElem?_eq_some_iff.1 hu).1;omega
 ·refine⟨some ⟨g,0,none⟩,cap,e1,hnc,fun i u hu=>⟨g,rfl,blkLt hh,?_⟩⟩;rw[e1]at h0;exact cells_of_row h0 hu
theorem PlayV.jun {T':Nat}(h:∃M,PlAt w0.heap.size W P X D.rows D.S M∧JTo W W' X sv pt win T' st' M∧Below w0.heap.size w0 W):PlayV w0 W' P X sv pt win T' st' D:=by
 obtain⟨M,h1,⟨M',a1,a2,a3⟩,h3⟩:=h;exact⟨M',h1.jun a2 a3 h3.size,a1,below_chg h3 h3.size a2 h1.loM⟩
theorem PlayV.pushG (h:PlayV w0 W P X sv pt win T st D)(hr:D.rows[i]?=some r){O:Obj}{w9:World}{g cap:Nat}{u:Value}(hn:r.xs.length=n)(hown:w9.ownsRow 0 r.e 1 (.slice (some ⟨g,0,none⟩) (n+1) cap) (n+1) (r.xs++[u]))(hgr:(W.alloc O).grownBy w9 r.v.ownBlock)(hat:r.v.ownBlock=some g∨g=W.heap.size+1){D':PlD}(hS:D'.S=D.S)(hD:D'.rows=D.rows.set i ⟨r.e,.slice (some ⟨g,0,none⟩) (n+1) cap,r.xs++[u]⟩):PlayV w0 (w9.setCell ⟨P,i+1,none⟩ (.slice (some ⟨g,0,none⟩) (n+1) cap)) P X sv pt win T st D'∧w9.frozen? ⟨P,i+1,none⟩=false∧P<w9.heap.size∧w9.cell? ⟨P,i+1,none⟩=some r.v:=by
 obtain⟨M,h1,h2,h3⟩:=h;have hk:Chg r.v.ownBlock.toList W w9:=((Chg.of_below ((Below.refl _ _).alloc (Nat.le_refl _) O)).trans (Chg.refl _ _) (Later.refl _ _)).grown hgr (fun b e=> .inl (by simp[e]));have hl:(r.xs++[u]).length=n+1:=by rw[List.length_append,hn];rfl
 obtain⟨a1,a2,a3,a4,a5⟩:=h1.grow hr hk (by rw[hl];exact hown) (fun b e=>by
  have e1:g=b:=by cases e;rfl
  subst e1;rcases hat with e2|e2
  ·exact .inl e2
  ·exact .inr (by omega)) h3.size h2.old
 have hF:∀b∈P::r.v.ownBlock.toList,FK P D.rows D.S b:=fun b hb=>by
  rcases List.mem_cons.1 hb with e|e
  ·exact .inl e
  ·exact .inr (.inl ⟨r,List.mem_of_getElem? hr,mem_own e⟩)
 refine⟨⟨M,?_,h1.jkeep h2 a5 hF,below_chg h3 h3.size a5 (fun b hb=>(h1.apM b (hF b hb)).2)⟩,a2,a3,a4⟩;rw[hS,hD];exact a1
end
structure LisIn (w:World)(a:Option Addr)(n c:Nat)(ls:List (List Int)):Prop where
 len:ls.length=n
 cap:n≤c
 small:n≤140737488355328
 by_:∀(i:Nat) (xs:List Int),ls[i]?=some xs→∃g o ia im ic,a=some ⟨g,o,none⟩∧g<w.heap.size∧w.cell? ⟨g,o+i,none⟩=some (.slice ia im ic)∧RawIn w ia im ic xs
def dOf (gs:List Int)(i:Nat):Nat:=1+pickN (rawN gs (3+i)) 3
theorem dOf_123 (gs:List Int)(i:Nat):((dOf gs i:Nat):Int)=1∨((dOf gs i:Nat):Int)=2∨((dOf gs i:Nat):Int)=3:=by
 have:=pickN_lt (rawN gs (3+i)) 3 (by omega);unfold dOf;omega
def txtOf (gs:List Int)(css:List (List Cmd)):List ByteArray:=css.mapIdx (fun i cs=>mkB (asksFrom (dOf gs i) 0 cs))
def wntOf (gs:List Int)(css:List (List Cmd)):List ByteArray:=css.mapIdx (fun i cs=>mkB (alRun (dOf gs i) 0 cs ([],[])).1)
def manyOf (css:List (List Cmd)):List Nat:=css.map (·.length)
def cliOf (gs:List Int)(css:List (List Cmd)):List CliQ:=css.mapIdx (fun i _=>newQ (dOf gs i))
structure Saids (gs:List Int)(css:List (List Cmd)):Prop where
 good:∀(i:Nat) (cs:List Cmd),css[i]?=some cs→∀x∈cs,GoodC (dOf gs i) x
 mine:∀(i:Nat) (cs:List Cmd),css[i]?=some cs→∀x∈cs,∀k∈x.keys,ownK i k
 short:∀(i:Nat) (cs:List Cmd),css[i]?=some cs→cs.length≤40
 size:∀(i:Nat) (cs:List Cmd),css[i]?=some cs→(asksFrom (dOf gs i) 0 cs).length≤15000
theorem Saids.snoc {gs:List Int}{css:List (List Cmd)}(h:Saids gs css){cs:List Cmd}(h1:∀x∈cs,GoodC (dOf gs css.length) x)(h2:∀x∈cs,∀k∈x.keys,ownK css.length k)(h3:cs.length≤40)(h4:(asksFrom (dOf gs css.length) 0 cs).length≤15000):Saids gs (css++[cs]):=by
 have key:∀(i:Nat) (t:List Cmd),(css++[cs])[i]?=some t→css[i]?=some t∨(i=css.length∧t=cs):=fun i t hi=>by
  by_cases hl:i<css.length
  ·rw[List.getElem?_append_left hl]at hi;exact .inl hi
  ·rw[List.getElem?_append_right (by omega)]at hi;cases hk:i-css.length with
   |zero=>rw[hk]at hi;simp at hi;exact .inr ⟨by omega,hi.symm⟩
   |succ k=>rw[hk]at hi;simp at hi
 refine⟨fun i t hi=>?_,fun i t hi=>?_,fun i t hi=>?_,fun i t hi=>?_⟩
 ·rcases key i t hi with e|⟨e1,e2⟩
  ·exact h.good i t e
  ·subst e1 e2;exact h1
 ·rcases key i t hi with e|⟨e1,e2⟩
  ·exact h.mine i t e
  ·subst e1 e2;exact h2
 ·rcases key i t hi with e|⟨e1,e2⟩
  ·exact h.short i t e
  ·subst e1 e2;exact h3
 ·rcases key i t hi with e|⟨e1,e2⟩
  ·exact h.size i t e
  ·subst e1 e2;exact h4
theorem info62:∃i,Tryz.prog.info? 62=some i∧i.zero=some (.pointer none)∧i.size=1∧i.bytes=8:=by
 have h:(Tryz.prog.info? 62).map (fun i=>(i.zero,i.size,i.bytes))=some (some (.pointer none),1,8):=by kernel_rfl
 cases hi:Tryz.prog.info? 62 with
 |none=>rw[hi]at h;cases h
 |some i=>
  rw[hi]at h;simp at h;exact⟨i,rfl,h.1,h.2.1,h.2.2⟩
theorem info3k:∃i,Tryz.prog.info? 3=some i∧i.zero=some (.int .i64 0)∧i.size=1∧i.bytes=8:=by
 have h:(Tryz.prog.info? 3).map (fun i=>(i.zero,i.size,i.bytes))=some (some (.int .i64 0),1,8):=by kernel_rfl
 cases hi:Tryz.prog.info? 3 with
 |none=>rw[hi]at h;cases h
 |some i=>
  rw[hi]at h;simp at h;exact⟨i,rfl,h.1,h.2.1,h.2.2⟩
end Go.Proofs.YtlonjggfnleolaaGreatDoor
