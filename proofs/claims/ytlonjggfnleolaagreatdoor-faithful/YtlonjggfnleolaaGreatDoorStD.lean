import Derived.Test.YtlonjggfnleolaaGreatDoorKpJ
namespace Go.Proofs.YtlonjggfnleolaaGreatDoor
open Go.RowKit Go.Shelf
set_option linter.unusedVariables false
variable {W:World}{b i n:Nat}{xs':List Value}
structure Rw where
 e:Nat
 v:Value
 xs:List Value
structure SvG where
 b:Nat
 sv:Value
 L:List (ByteArray×ByteArray)
 rd:Nat
 mv:Value
 made:List ByteArray
def SvG.foot (s:SvG):List Nat:=s.b::(s.sv.ownBlock.toList++s.mv.ownBlock.toList)
structure SvK (W:World)(s:SvG):Prop where
 blk:W.heap[s.b]?=some (.cells #[s.sv,.int .i64 (s.rd:Int),s.mv] 68 (0,0))
 rL:W.ownsRow 0 181 2 s.sv s.L.length (cellsI s.L)
 rM:W.ownsRow 0 9 1 s.mv s.made.length (s.made.map .string)
theorem SvK.keep {W':World}{s:SvG}(h:SvK W s)(k:∀b∈s.foot,W'.heap[b]?=W.heap[b]?):SvK W' s:=
 ⟨(k _ (by simp[SvG.foot])).trans h.blk,ownsRow_other h.rL (fun g hg=>k g (by simp[SvG.foot,hg])),ownsRow_other h.rM (fun g hg=>k g (by simp[SvG.foot,hg]))⟩
theorem SvK.old {s:SvG}(h:SvK W s):∀b∈s.foot,b<W.heap.size:=by
 intro b hb;unfold SvG.foot at hb;rcases List.mem_cons.1 hb with e|e
 ·rw[e];exact blkLt h.blk
 ·rcases List.mem_append.1 e with e|e
  ·obtain⟨cur,hc⟩:=ownsRow_blk h.rL (mem_own e);exact blkLt hc
  ·obtain⟨cur,hc⟩:=ownsRow_blk h.rM (mem_own e);exact blkLt hc
theorem SvK.type {s:SvG}(h:SvK W s)(hb:b∈s.foot):∃cur,W.heap[b]?=some (.cells cur 68 (0,0))∨W.heap[b]?=some (.cells cur 181 (0,0))∨W.heap[b]?=some (.cells cur 9 (0,0)):=by
 unfold SvG.foot at hb;rcases List.mem_cons.1 hb with e|e
 ·rw[e];exact⟨_,.inl h.blk⟩
 ·rcases List.mem_append.1 e with e|e
  ·obtain⟨cur,hc⟩:=ownsRow_blk h.rL (mem_own e);exact⟨cur,.inr (.inl hc)⟩
  ·obtain⟨cur,hc⟩:=ownsRow_blk h.rM (mem_own e);exact⟨cur,.inr (.inr hc)⟩
def FK (P:Nat)(R:List Rw)(S:List SvG)(b:Nat):Prop:=b=P∨(∃r∈R,r.v.ownBlock=some b)∨∃s∈S,b∈s.foot
structure PlAt (base:Nat)(W:World)(P X:Nat)(R:List Rw)(S:List SvG)(M:List Nat):Prop where
 blk:W.heap[P]?=some (.cells (ptrV X::R.map (·.v)).toArray 56 (0,0))
 row:∀r∈R,W.ownsRow 0 r.e 1 r.v r.xs.length r.xs
 srv:∀s∈S,SvK W s
 et:∀r∈R,r.e=62∨r.e=9∨r.e=3
 apR:∀(i j:Nat) (r r':Rw) (b:Nat),i≠j→R[i]?=some r→R[j]?=some r'→r.v.ownBlock=some b→r'.v.ownBlock≠some b
 apS:∀(i j:Nat) (s s':SvG) (b:Nat),i≠j→S[i]?=some s→S[j]?=some s'→b∈s.foot→b∉s'.foot
 apB:∀r∈R,∀s∈S,∀b,r.v.ownBlock=some b→b∉s.foot
 apM:∀b,FK P R S b→b∉M∧base≤b
 loM:∀b∈M,base≤b
section
variable {base:Nat}{W W':World}{P X:Nat}{R:List Rw}{S:List SvG}{M M':List Nat}
theorem PlAt.old (h:PlAt base W P X R S M)(hb:FK P R S b):b<W.heap.size:=by
 rcases hb with e|⟨r,hr,e⟩|⟨s,hs,e⟩
 ·rw[e];exact blkLt h.blk
 ·obtain⟨cur,hc⟩:=ownsRow_blk (h.row r hr) e;exact blkLt hc
 ·exact(h.srv s hs).old b e
theorem PlAt.noP (h:PlAt base W P X R S M){r:Rw}(hr:r∈R):r.v.ownBlock≠some P:=by
 intro e;obtain⟨cur,hc⟩:=ownsRow_blk (h.row r hr) e;rw[h.blk]at hc;have h2:=h.et r hr;have e5:(56:Nat)=r.e:=by
  injection hc with hc;injection hc
 omega
theorem PlAt.noPS (h:PlAt base W P X R S M){s:SvG}(hs:s∈S):P∉s.foot:=fun e=>by
 obtain⟨cur,hc|hc|hc⟩:=(h.srv s hs).type e<;>(rw[h.blk]at hc;cases hc)
theorem PlAt.keep (h:PlAt base W P X R S M)(k:∀b,FK P R S b→W'.heap[b]?=W.heap[b]?)(hm:∀b,FK P R S b→b∉M')(hl:∀b∈M',base≤b):PlAt base W' P X R S M':=
 ⟨(k P (.inl rfl)).trans h.blk,fun r hr=>ownsRow_other (h.row r hr) (fun g hg=>k g (.inr (.inl ⟨r,hr,hg⟩))),fun s hs=>(h.srv s hs).keep (fun b hb=>k b (.inr (.inr ⟨s,hs,hb⟩))),h.et,h.apR,h.apS,h.apB,fun b hb=>⟨hm b hb,(h.apM b hb).2⟩,hl⟩
theorem PlAt.below (h:PlAt base W P X R S M)(hb:Below W.heap.size W W'):PlAt base W' P X R S M:=
 h.keep (fun b hb'=>hb.block b (h.old hb')) (fun b hb'=>(h.apM b hb').1) h.loM
theorem PlAt.jun (h:PlAt base W P X R S M)(k:Chg M W W')(l:Later W M M')(hs:base≤W.heap.size):PlAt base W' P X R S M':=by
 refine h.keep (fun b hb=>k.block b (h.old hb) (h.apM b hb).1) (fun b hb hm=>?_) (fun b hm=>?_)
 ·rcases l b hm with e|e
  ·exact(h.apM b hb).1 e
  ·have:=h.old hb;omega
 ·rcases l b hm with e|e
  ·exact h.loM b e
  ·omega
theorem PlAt.jkeep (h:PlAt base W P X R S M){K:List Nat}{sv pt win T:Nat}{st:List CliQ×List SrvQ}(hj:JPl W X sv pt win T st M)(k:Chg K W W')(hK:∀b∈K,FK P R S b):JPl W' X sv pt win T st M:=
 hj.keep (fun b hb=>k.block b (hj.old b hb) (fun hm=>(h.apM b (hK b hm)).1 hb))
theorem get_set {α:Type}{l:List α}{j:Nat}{x y:α}(h:(l.set i x)[j]?=some y):(j=i∧y=x)∨(j≠i∧l[j]?=some y):=by
 rw[List.getElem?_set]at h;split at h
 ·rename_i e;split at h
  ·exact .inl ⟨e.symm,by cases h;rfl⟩
  ·cases h
 ·rename_i e;exact .inr ⟨fun e'=>e e'.symm,h⟩
theorem mem_set {α:Type}{l:List α}{x y:α}(h:y∈l.set i x):y=x∨∃j,j≠i∧l[j]?=some y:=by
 obtain⟨j,hj⟩:=List.mem_iff_getElem?.1 h;rcases get_set hj with⟨_,e⟩|⟨e,e2⟩
 ·exact .inl e
 ·exact .inr ⟨j,e,e2⟩
theorem PlAt.grow (h:PlAt base W P X R S M){r:Rw}(hr:R[i]?=some r){w9:World}{v':Value}(k:Chg r.v.ownBlock.toList W w9)(hrow:w9.ownsRow 0 r.e 1 v' xs'.length xs')(ho:∀b,v'.ownBlock=some b→r.v.ownBlock=some b∨W.heap.size≤b)(hsz:base≤W.heap.size)(hM:∀b∈M,b<W.heap.size):PlAt base (w9.setCell ⟨P,i+1,none⟩ v') P X (R.set i ⟨r.e,v',xs'⟩) S M∧w9.frozen? ⟨P,i+1,none⟩=false∧P<w9.heap.size∧w9.cell? ⟨P,i+1,none⟩=some r.v∧Chg (P::r.v.ownBlock.toList) W (w9.setCell ⟨P,i+1,none⟩ v'):=by
 have hrm:=List.mem_of_getElem? hr;have hP9:w9.heap[P]?=some (.cells (ptrV X::R.map (·.v)).toArray 56 (0,0)):=k.keep h.blk (fun hm=>h.noP hrm (mem_own hm));have hi:=(List.getElem?_eq_some_iff.1 hr).1;have c9:=blkCell hP9 (i+1);have nP:∀b,FK P (R.set i ⟨r.e,v',xs'⟩) S b→b≠P→(w9.setCell ⟨P,i+1,none⟩ v').heap[b]?=w9.heap[b]?:=fun b _ hne=>Below.heap_setCell _ _ _ _ hne
 have hvP:v'.ownBlock≠some P:=fun e=>by
  rcases ho P e with e'|e'
  ·exact h.noP hrm e'
  ·have:=blkLt h.blk;omega
 refine⟨⟨?_,?_,?_,?_,?_,h.apS,?_,?_,h.loM⟩,blkFree hP9 _,blkLt hP9,?_,?_⟩
 ·have:=blkSet (i:=i+1) hP9 v';rw[this,List.map_set];simp
 ·intro r2 h2;rcases mem_set h2 with e|⟨j,hj,h3⟩
  ·rw[e];exact ownsRow_other hrow (fun g hg=>Below.heap_setCell _ _ _ _ (fun e'=>hvP ((show g=P from e')▸hg)))
  ·have hm:=List.mem_of_getElem? h3;refine ownsRow_other (h.row r2 hm) (fun g hg=>?_);rw[Below.heap_setCell w9 ⟨P,i+1,none⟩ v' g (fun e'=>h.noP hm ((show g=P from e')▸hg))];exact k.block g (h.old (.inr (.inl ⟨r2,hm,hg⟩))) (fun hm2=>h.apR i j r r2 g (fun e=>hj e.symm) hr h3 (mem_own hm2) hg)
 ·intro s hs;refine(h.srv s hs).keep (fun b hb=>?_);rw[Below.heap_setCell w9 ⟨P,i+1,none⟩ v' b (fun e'=>h.noPS hs ((show b=P from e')▸hb))];exact k.block b ((h.srv s hs).old b hb) (fun hm=>h.apB r hrm s hs b (mem_own hm) hb)
 ·intro r2 h2;rcases mem_set h2 with e|⟨j,hj,h3⟩
  ·rw[e];exact h.et r hrm
  ·exact h.et r2 (List.mem_of_getElem? h3)
 ·intro a b r1 r2 g hab h1 h2 hg hg2;rcases get_set h1 with⟨e1,e2⟩|⟨e1,e2⟩<;>rcases get_set h2 with⟨f1,f2⟩|⟨f1,f2⟩
  ·omega
  ·rw[e2]at hg;rcases ho g hg with e|e
   ·exact h.apR i b r r2 g (by omega) hr f2 e hg2
   ·have:=h.old (.inr (.inl ⟨r2,List.mem_of_getElem? f2,hg2⟩));omega
  ·rw[f2]at hg2;rcases ho g hg2 with e|e
   ·exact h.apR i a r r1 g (by omega) hr e2 e hg
   ·have:=h.old (.inr (.inl ⟨r1,List.mem_of_getElem? e2,hg⟩));omega
  ·exact h.apR a b r1 r2 g hab e2 f2 hg hg2
 ·intro r2 h2 s hs b hb;rcases mem_set h2 with e|⟨j,hj,h3⟩
  ·rw[e]at hb;rcases ho b hb with e|e
   ·exact h.apB r hrm s hs b e
   ·exact fun hf=>by have:=(h.srv s hs).old b hf;omega
  ·exact h.apB r2 (List.mem_of_getElem? h3) s hs b hb
 ·intro b hb;rcases hb with e|⟨r2,h2,e⟩|e
  ·exact h.apM b (.inl e)
  ·rcases mem_set h2 with e2|⟨j,hj,h3⟩
   ·rw[e2]at e;rcases ho b e with e3|e3
    ·exact h.apM b (.inr (.inl ⟨r,hrm,e3⟩))
    ·exact⟨fun hm=>by have:=hM b hm;omega,by omega⟩
   ·exact h.apM b (.inr (.inl ⟨r2,List.mem_of_getElem? h3,e⟩))
  ·exact h.apM b (.inr (.inr e))
 ·rw[c9];simp[hr]
 ·exact⟨k.os,k.tape,k.output,by rw[World.size_setCell];exact k.size,fun b hb hm=>by
   rw[List.mem_cons,not_or]at hm;rw[Below.heap_setCell _ _ _ _ hm.1];exact k.block b hb hm.2⟩
theorem PlAt.put (h:PlAt base W P X R S M){r:Rw}(hr:R[i]?=some r){g cap c:Nat}(hv:r.v= .slice (some ⟨g,0,none⟩) n cap){u:Value}(hrow:(W.setCell ⟨g,c,none⟩ u).ownsRow 0 r.e 1 r.v xs'.length xs'):PlAt base (W.setCell ⟨g,c,none⟩ u) P X (R.set i ⟨r.e,r.v,xs'⟩) S M∧Chg [g] W (W.setCell ⟨g,c,none⟩ u)∧FK P R S g:=by
 have hrm:=List.mem_of_getElem? hr;have hg:r.v.ownBlock=some g:=by rw[hv];rfl
 have hPg:P≠g:=fun e=>h.noP hrm (by rw[hg,e])
 have e1:(R.set i ⟨r.e,r.v,xs'⟩).map (·.v)=R.map (·.v):=by
  rw[List.map_set];refine List.ext_getElem? (fun j=>?_);rw[List.getElem?_set];split
  ·rename_i e;split
   ·rw[←e,List.getElem?_map,hr];rfl
   ·rename_i hn;rw[List.getElem?_eq_none (by omega)]
  ·rfl
 have kk:∀b,b≠g→(W.setCell ⟨g,c,none⟩ u).heap[b]?=W.heap[b]?:=fun b hb=>Below.heap_setCell _ _ _ _ hb
 have hFK:∀b,FK P (R.set i ⟨r.e,r.v,xs'⟩) S b→FK P R S b:=fun b hb=>by
  rcases hb with e|⟨r2,h2,e⟩|e
  ·exact .inl e
  ·rcases mem_set h2 with e2|⟨j,hj,h3⟩
   ·rw[e2]at e;exact .inr (.inl ⟨r,hrm,e⟩)
   ·exact .inr (.inl ⟨r2,List.mem_of_getElem? h3,e⟩)
  ·exact .inr (.inr e)
 refine⟨⟨?_,?_,?_,?_,?_,h.apS,?_,fun b hb=>h.apM b (hFK b hb),h.loM⟩,⟨rfl,rfl,rfl,by rw[World.size_setCell];exact Nat.le_refl _,fun b hb hm=>kk b (by simpa using hm)⟩,.inr (.inl ⟨r,hrm,hg⟩)⟩
 ·rw[e1];exact(kk P hPg).trans h.blk
 ·intro r2 h2;rcases mem_set h2 with e|⟨j,hj,h3⟩
  ·rw[e];exact hrow
  ·have hm:=List.mem_of_getElem? h3;exact ownsRow_other (h.row r2 hm) (fun b hb=>kk b (fun e=>h.apR i j r r2 b (fun e=>hj e.symm) hr h3 (by rw[hg,e]) hb))
 ·intro s hs;exact(h.srv s hs).keep (fun b hb=>kk b (fun e=>h.apB r hrm s hs b (by rw[hg,e]) hb))
 ·intro r2 h2;rcases mem_set h2 with e|⟨j,hj,h3⟩
  ·rw[e];exact h.et r hrm
  ·exact h.et r2 (List.mem_of_getElem? h3)
 ·intro a b r1 r2 q hab h1 h2 hq hq2;rcases get_set h1 with⟨e1,e2⟩|⟨e1,e2⟩<;>rcases get_set h2 with⟨f1,f2⟩|⟨f1,f2⟩
  ·omega
  ·rw[e2]at hq;exact h.apR i b r r2 q (by omega) hr f2 hq hq2
  ·rw[f2]at hq2;exact h.apR i a r r1 q (by omega) hr e2 hq2 hq
  ·exact h.apR a b r1 r2 q hab e2 f2 hq hq2
 ·intro r2 h2 s hs b hb;rcases mem_set h2 with e|⟨j,hj,h3⟩
  ·rw[e]at hb;exact h.apB r hrm s hs b hb
  ·exact h.apB r2 (List.mem_of_getElem? h3) s hs b hb
theorem PlAt.server (h:PlAt base W P X R S M){s s':SvG}(hs:S[n]?=some s)(k:Chg s.foot W W')(hs':SvK W' s')(hf:∀b∈s'.foot,b∈s.foot∨W.heap.size≤b)(hsz:base≤W.heap.size)(hM:∀b∈M,b<W.heap.size):PlAt base W' P X R (S.set n s') M:=by
 have hsm:=List.mem_of_getElem? hs;refine⟨k.keep h.blk (h.noPS hsm),fun r hr=>?_,fun t ht=>?_,h.et,h.apR,?_,?_,?_,h.loM⟩
 ·exact ownsRow_other (h.row r hr) (fun g hg=>k.block g (h.old (.inr (.inl ⟨r,hr,hg⟩))) (h.apB r hr s hsm g hg))
 ·rcases mem_set ht with e|⟨j,hj,h3⟩
  ·rw[e];exact hs'
  ·have hm:=List.mem_of_getElem? h3;exact(h.srv t hm).keep (fun b hb=>k.block b ((h.srv t hm).old b hb) (h.apS j n t s b hj h3 hs hb))
 ·intro a b t t' g hab h1 h2 hg;rcases get_set h1 with⟨e1,e2⟩|⟨e1,e2⟩<;>rcases get_set h2 with⟨f1,f2⟩|⟨f1,f2⟩
  ·omega
  ·rw[e2]at hg;rcases hf g hg with e|e
   ·exact h.apS n b s t' g (by omega) hs f2 e
   ·exact fun hq=>by have:=(h.srv t' (List.mem_of_getElem? f2)).old g hq;omega
  ·rw[f2];intro hq;rcases hf g hq with e|e
   ·exact h.apS n a s t g (by omega) hs e2 e hg
   ·have:=(h.srv t (List.mem_of_getElem? e2)).old g hg;omega
  ·exact h.apS a b t t' g hab e2 f2 hg
 ·intro r hr t ht b hb;rcases mem_set ht with e|⟨j,hj,h3⟩
  ·rw[e];intro hq;rcases hf b hq with e|e
   ·exact h.apB r hr s hsm b hb e
   ·have:=h.old (.inr (.inl ⟨r,hr,hb⟩));omega
  ·exact h.apB r hr t (List.mem_of_getElem? h3) b hb
 ·intro b hb;rcases hb with e|e|⟨t,ht,e⟩
  ·exact h.apM b (.inl e)
  ·exact h.apM b (.inr (.inl e))
  ·rcases mem_set ht with e2|⟨j,hj,h3⟩
   ·rw[e2]at e;rcases hf b e with e3|e3
    ·exact h.apM b (.inr (.inr ⟨s,hsm,e3⟩))
    ·exact⟨fun hm=>by have:=hM b hm;omega,by omega⟩
   ·exact h.apM b (.inr (.inr ⟨t,List.mem_of_getElem? h3,e⟩))
theorem PlAt.addSrv (h:PlAt base W P X R S M){s:SvG}(hb:Below W.heap.size W W')(hs:SvK W' s)(hf:∀b∈s.foot,W.heap.size≤b)(hsz:base≤W.heap.size)(hM:∀b∈M,b<W.heap.size):PlAt base W' P X R (S++[s]) M:=by
 have g:=h.below hb;refine⟨g.blk,g.row,fun t ht=>?_,h.et,h.apR,?_,?_,?_,h.loM⟩
 ·rcases List.mem_append.1 ht with e|e
  ·exact g.srv t e
  ·simp at e;rw[e];exact hs
 ·intro a b t t' q hab h1 h2 hq hq2;have key:∀(i:Nat) (t:SvG),(S++[s])[i]?=some t→(i<S.length∧S[i]?=some t)∨(i=S.length∧t=s):=fun i t hi=>by
   by_cases hl:i<S.length
   ·rw[List.getElem?_append_left hl]at hi;exact .inl ⟨hl,hi⟩
   ·rw[List.getElem?_append_right (by omega)]at hi;cases hk:i-S.length with
    |zero=>rw[hk]at hi;simp at hi;exact .inr ⟨by omega,hi.symm⟩
    |succ k=>rw[hk]at hi;simp at hi
  rcases key a t h1 with⟨l1,e1⟩|⟨l1,e1⟩<;>rcases key b t' h2 with⟨l2,e2⟩|⟨l2,e2⟩
  ·exact h.apS a b t t' q hab e1 e2 hq hq2
  ·rw[e2]at hq2;have:=hf q hq2;have:=(h.srv t (List.mem_of_getElem? e1)).old q hq;omega
  ·rw[e1]at hq;have:=hf q hq;have:=(h.srv t' (List.mem_of_getElem? e2)).old q hq2;omega
  ·omega
 ·intro r hr t ht b hb2;rcases List.mem_append.1 ht with e|e
  ·exact h.apB r hr t e b hb2
  ·simp at e;rw[e];intro hq;have:=hf b hq;have:=h.old (.inr (.inl ⟨r,hr,hb2⟩));omega
 ·intro b hb2;rcases hb2 with e|e|⟨t,ht,e⟩
  ·exact h.apM b (.inl e)
  ·exact h.apM b (.inr (.inl e))
  ·rcases List.mem_append.1 ht with e2|e2
   ·exact h.apM b (.inr (.inr ⟨t,e2,e⟩))
   ·simp at e2;rw[e2]at e;have:=hf b e;exact⟨fun hm=>by have:=hM b hm;omega,by omega⟩
end
variable {W:World}{i n:Nat}{r:Rw}
structure PlD where
 S:List SvG
 txt:List ByteArray
 sd:List Nat
 wnt:List ByteArray
 mn:List Nat
 byt:List ByteArray
 v1:Value
 v2:Value
 v3:Value
 v4:Value
 v5:Value
 v6:Value
def intsV (l:List Nat):List Value:=l.map (fun(n:Nat)=>Value.int .i64 (n:Int))
def PlD.rows (D:PlD):List Rw:=[⟨62,D.v1,D.S.map (fun s=>ptrV s.b)⟩,⟨9,D.v2,D.txt.map .string⟩,⟨3,D.v3,intsV D.sd⟩,⟨9,D.v4,D.wnt.map .string⟩,⟨3,D.v5,intsV D.mn⟩,⟨9,D.v6,D.byt.map .string⟩]
theorem below_chg {base:Nat}{w0 W':World}{K:List Nat}(h:Below base w0 W)(hs:base≤W.heap.size)(k:Chg K W W')(hK:∀b∈K,base≤b):Below base w0 W':=
 h.trans ⟨k.os,k.tape,k.output,k.size,fun b hb=>k.block b (by omega) (fun hm=>by have:=hK b hm;omega)⟩
def PlayV (w0 W:World)(P X sv pt win T:Nat)(st:List CliQ×List SrvQ)(D:PlD):Prop:=∃M,PlAt w0.heap.size W P X D.rows D.S M∧JPl W X sv pt win T st M∧Below w0.heap.size w0 W
section
variable {w0 W W':World}{P X sv pt win T:Nat}{st st':List CliQ×List SrvQ}{D:PlD}
theorem PlayV.blk (h:PlayV w0 W P X sv pt win T st D):W.heap[P]?=some (.cells #[ptrV X,D.v1,D.v2,D.v3,D.v4,D.v5,D.v6] 56 (0,0)):=by
 obtain⟨M,h1,_⟩:=h;exact h1.blk
theorem PlayV.bel (h:PlayV w0 W P X sv pt win T st D):Below w0.heap.size w0 W:=by
 obtain⟨M,_,_,h1⟩:=h;exact h1
theorem PlayV.below (h:PlayV w0 W P X sv pt win T st D)(hb:Below W.heap.size W W'):PlayV w0 W' P X sv pt win T st D:=by
 obtain⟨M,h1,h2,h3⟩:=h;exact⟨M,h1.below hb,h2.below hb,h3.trans (hb.mono h3.size)⟩
theorem PlayV.row (h:PlayV w0 W P X sv pt win T st D)(hr:D.rows[i]?=some r):W.ownsRow 0 r.e 1 r.v r.xs.length r.xs:=by
 obtain⟨M,h1,_⟩:=h;exact h1.row r (List.mem_of_getElem? hr)
theorem row_sl {e:Nat}{v:Value}{xs:List Value}(h:W.ownsRow 0 e 1 v n xs):∃a c,v= .slice a n c∧n≤c∧(∀i u,xs[i]?=some u→∃g,a=some ⟨g,0,none⟩∧g<W.heap.size∧W.cell? ⟨g,i,none⟩=some u):=by
 have h0:=h;rcases h.2 with⟨e1,e2⟩|⟨g,cap,cur,e1,_,hh,hnc,_,_,ht⟩
 ·refine⟨none,0,by rw[e1,e2],by omega,fun i u hu=>?_⟩;have hl:=h.1;rw[e2]at hl;have:=(List.getElem?_eq_some_iff.1 hu).1;omega
 ·refine⟨some ⟨g,0,none⟩,cap,e1,hnc,fun i u hu=>⟨g,rfl,blkLt hh,?_⟩⟩;rw[e1]at h0;exact cells_of_row h0 hu
theorem PlayV.jun {T':Nat}(h:∃M,PlAt w0.heap.size W P X D.rows D.S M∧JTo W W' X sv pt win T' st' M∧Below w0.heap.size w0 W):PlayV w0 W' P X sv pt win T' st' D:=by
 obtain⟨M,h1,⟨M',a1,a2,a3⟩,h3⟩:=h;exact⟨M',h1.jun a2 a3 h3.size,a1,below_chg h3 h3.size a2 h1.loM⟩
theorem PlayV.pushG (h:PlayV w0 W P X sv pt win T st D)(hr:D.rows[i]?=some r){O:Obj}{w9:World}{g cap:Nat}{u:Value}(hn:r.xs.length=n)(hown:w9.ownsRow 0 r.e 1 (.slice (some ⟨g,0,none⟩) (n+1) cap) (n+1) (r.xs++[u]))(hgr:(W.alloc O).grownBy w9 r.v.ownBlock)(hat:r.v.ownBlock=some g∨g=W.heap.size+1){D':PlD}(hS:D'.S=D.S)(hD:D'.rows=D.rows.set i ⟨r.e,.slice (some ⟨g,0,none⟩) (n+1) cap,r.xs++[u]⟩):PlayV w0 (w9.setCell ⟨P,i+1,none⟩ (.slice (some ⟨g,0,none⟩) (n+1) cap)) P X sv pt win T st D'∧w9.frozen? ⟨P,i+1,none⟩=false∧P<w9.heap.size∧w9.cell? ⟨P,i+1,none⟩=some r.v:=by
 obtain⟨M,h1,h2,h3⟩:=h;have hk:Chg r.v.ownBlock.toList W w9:=((Chg.of_below ((Below.refl _ _).alloc (Nat.le_refl _) O)).trans (Chg.refl _ _) (Later.refl _ _)).grown hgr (fun b e=> .inl (by simp[e]));have hl:(r.xs++[u]).length=n+1:=by rw[List.length_append,hn];rfl
 obtain⟨a1,a2,a3,a4,a5⟩:=h1.grow hr hk (by rw[hl];exact hown) (fun b e=>by
  have e1:g=b:=by cases e;rfl
  subst e1;rcases hat with e2|e2
  ·exact .inl e2
  ·exact .inr (by omega)) h3.size h2.old
 have hF:∀b∈P::r.v.ownBlock.toList,FK P D.rows D.S b:=fun b hb=>by
  rcases List.mem_cons.1 hb with e|e
  ·exact .inl e
  ·exact .inr (.inl ⟨r,List.mem_of_getElem? hr,mem_own e⟩)
 refine⟨⟨M,?_,h1.jkeep h2 a5 hF,below_chg h3 h3.size a5 (fun b hb=>(h1.apM b (hF b hb)).2)⟩,a2,a3,a4⟩;rw[hS,hD];exact a1
end
structure LisIn (w:World)(a:Option Addr)(n c:Nat)(ls:List (List Int)):Prop where
 len:ls.length=n
 cap:n≤c
 small:n≤140737488355328
 by_:∀(i:Nat) (xs:List Int),ls[i]?=some xs→∃g o ia im ic,a=some ⟨g,o,none⟩∧g<w.heap.size∧w.cell? ⟨g,o+i,none⟩=some (.slice ia im ic)∧RawIn w ia im ic xs
def dOf (gs:List Int)(i:Nat):Nat:=1+pickN (rawN gs (3+i)) 3
theorem dOf_123 (gs:List Int)(i:Nat):((dOf gs i:Nat):Int)=1∨((dOf gs i:Nat):Int)=2∨((dOf gs i:Nat):Int)=3:=by
 have:=pickN_lt (rawN gs (3+i)) 3 (by omega);unfold dOf;omega
def txtOf (gs:List Int)(css:List (List Cmd)):List ByteArray:=css.mapIdx (fun i cs=>mkB (asksFrom (dOf gs i) 0 cs))
def wntOf (gs:List Int)(css:List (List Cmd)):List ByteArray:=css.mapIdx (fun i cs=>mkB (alRun (dOf gs i) 0 cs ([],[])).1)
def manyOf (css:List (List Cmd)):List Nat:=css.map (·.length)
def cliOf (gs:List Int)(css:List (List Cmd)):List CliQ:=css.mapIdx (fun i _=>newQ (dOf gs i))
structure Saids (gs:List Int)(css:List (List Cmd)):Prop where
 good:∀(i:Nat) (cs:List Cmd),css[i]?=some cs→∀x∈cs,GoodC (dOf gs i) x
 mine:∀(i:Nat) (cs:List Cmd),css[i]?=some cs→∀x∈cs,∀k∈x.keys,ownK i k
 short:∀(i:Nat) (cs:List Cmd),css[i]?=some cs→cs.length≤40
 size:∀(i:Nat) (cs:List Cmd),css[i]?=some cs→(asksFrom (dOf gs i) 0 cs).length≤15000
theorem Saids.snoc {gs:List Int}{css:List (List Cmd)}(h:Saids gs css){cs:List Cmd}(h1:∀x∈cs,GoodC (dOf gs css.length) x)(h2:∀x∈cs,∀k∈x.keys,ownK css.length k)(h3:cs.length≤40)(h4:(asksFrom (dOf gs css.length) 0 cs).length≤15000):Saids gs (css++[cs]):=by
 have key:∀(i:Nat) (t:List Cmd),(css++[cs])[i]?=some t→css[i]?=some t∨(i=css.length∧t=cs):=fun i t hi=>by
  by_cases hl:i<css.length
  ·rw[List.getElem?_append_left hl]at hi;exact .inl hi
  ·rw[List.getElem?_append_right (by omega)]at hi;cases hk:i-css.length with
   |zero=>rw[hk]at hi;simp at hi;exact .inr ⟨by omega,hi.symm⟩
   |succ k=>rw[hk]at hi;simp at hi
 refine⟨fun i t hi=>?_,fun i t hi=>?_,fun i t hi=>?_,fun i t hi=>?_⟩
 ·rcases key i t hi with e|⟨e1,e2⟩
  ·exact h.good i t e
  ·subst e1 e2;exact h1
 ·rcases key i t hi with e|⟨e1,e2⟩
  ·exact h.mine i t e
  ·subst e1 e2;exact h2
 ·rcases key i t hi with e|⟨e1,e2⟩
  ·exact h.short i t e
  ·subst e1 e2;exact h3
 ·rcases key i t hi with e|⟨e1,e2⟩
  ·exact h.size i t e
  ·subst e1 e2;exact h4
theorem info62:∃i,Tryz.prog.info? 62=some i∧i.zero=some (.pointer none)∧i.size=1∧i.bytes=8:=by
 have h:(Tryz.prog.info? 62).map (fun i=>(i.zero,i.size,i.bytes))=some (some (.pointer none),1,8):=by kernel_rfl
 cases hi:Tryz.prog.info? 62 with
 |none=>rw[hi]at h;cases h
 |some i=>
  rw[hi]at h;simp at h;exact⟨i,rfl,h.1,h.2.1,h.2.2⟩
theorem info3k:∃i,Tryz.prog.info? 3=some i∧i.zero=some (.int .i64 0)∧i.size=1∧i.bytes=8:=by
 have h:(Tryz.prog.info? 3).map (fun i=>(i.zero,i.size,i.bytes))=some (some (.int .i64 0),1,8):=by kernel_rfl
 cases hi:Tryz.prog.info? 3 with
 |none=>rw[hi]at h;cases h
 |some i=>
  rw[hi]at h;simp at h;exact⟨i,rfl,h.1,h.2.1,h.2.2⟩
def newSv (b:Nat):SvG:=⟨b,.slice none 0 0,[],0,.slice none 0 0,[]⟩
def newD (S:List SvG)(byt:List ByteArray)(v1 v6:Value):PlD:=⟨S,[],[],[],[],byt,v1,.slice none 0 0,.slice none 0 0,.slice none 0 0,.slice none 0 0,v6⟩
section
variable {w0 W:World}{P X sv pt win T:Nat}{st:List CliQ×List SrvQ}{D:PlD}
theorem PlayV.first {M:List Nat}(hj:JPl W X sv pt win T st M)(hM:∀b∈M,w0.heap.size≤b)(hs:Below w0.heap.size w0 W):PlayV w0 (W.alloc (.cells #[ptrV X,.slice none 0 0,.slice none 0 0,.slice none 0 0,.slice none 0 0,.slice none 0 0,.slice none 0 0] 56)) W.heap.size X sv pt win T st (newD [] [] (.slice none 0 0) (.slice none 0 0)):=by
 have hb:Below W.heap.size W (W.alloc (.cells #[ptrV X,.slice none 0 0,.slice none 0 0,.slice none 0 0,.slice none 0 0,.slice none 0 0,.slice none 0 0] 56)):=(Below.refl _ _).alloc (Nat.le_refl _) _;have hr:∀r∈(newD [] [] (.slice none 0 0) (.slice none 0 0)).rows,r.v= .slice none 0 0∧r.xs=[]∧(r.e=62∨r.e=9∨r.e=3):=by
  intro r hr;simp[PlD.rows,newD,intsV]at hr;rcases hr with e|e|e|e|e|e<;>(rw[e];simp)
 refine⟨M,⟨blkNew W _,fun r h=>?_,fun s h=>(by cases h),fun r h=>(hr r h).2.2,fun i j r r' b _ h1 _ h3=>?_,fun i j s s' b _ h1=>(by simp[newD]at h1),fun r _ s h=>(by cases h),fun b hb2=>?_,hM⟩,hj.below hb,hs.trans (hb.mono hs.size)⟩
 ·obtain⟨e1,e2,_⟩:=hr r h;rw[e1,e2];exact World.ownsRow_nil _ _ _ _
 ·rw[(hr r (List.mem_of_getElem? h1)).1]at h3;cases h3
 ·rcases hb2 with e|⟨r,h,e⟩|⟨s,h,_⟩
  ·rw[e];exact⟨fun hm=>by have:=hj.old _ hm;omega,hs.size⟩
  ·rw[(hr r h).1]at e;cases e
  ·cases h
theorem PlayV.server (h:PlayV w0 W P X sv pt win T st D){O:Obj}{w9:World}{g cap:Nat}(hown:w9.ownsRow 0 62 1 (.slice (some ⟨g,0,none⟩) (D.S.length+1) cap) (D.S.length+1) (D.S.map (fun s=>ptrV s.b)++[ptrV W.heap.size]))(hgr:((W.alloc (.cells #[.slice none 0 0,.int .i64 0,.slice none 0 0] 68)).alloc O).grownBy w9 D.v1.ownBlock)(hat:D.v1.ownBlock=some g∨g=W.heap.size+2):PlayV w0 (w9.setCell ⟨P,1,none⟩ (.slice (some ⟨g,0,none⟩) (D.S.length+1) cap)) P X sv pt win T st {D with S:=D.S++[newSv W.heap.size],v1:= .slice (some ⟨g,0,none⟩) (D.S.length+1) cap}∧w9.frozen? ⟨P,1,none⟩=false∧P<w9.heap.size∧w9.cell? ⟨P,1,none⟩=some D.v1:=by
 obtain⟨M,h1,h2,h3⟩:=h;have hb:Below W.heap.size W (W.alloc (.cells #[.slice none 0 0,.int .i64 0,.slice none 0 0] 68)):=(Below.refl _ _).alloc (Nat.le_refl _) _;have hs:SvK (W.alloc (.cells #[.slice none 0 0,.int .i64 0,.slice none 0 0] 68)) (newSv W.heap.size):=⟨blkNew W _,World.ownsRow_nil _ _ _ _,World.ownsRow_nil _ _ _ _⟩
 have g1:=h1.addSrv hb hs (fun b hb=>by simp[SvG.foot,newSv,Value.ownBlock]at hb;omega) h3.size h2.old;have hsz:W.heap.size+1=(W.alloc (.cells #[.slice none 0 0,.int .i64 0,.slice none 0 0] 68)).heap.size:=by simp
 have hk:Chg D.v1.ownBlock.toList (W.alloc (.cells #[.slice none 0 0,.int .i64 0,.slice none 0 0] 68)) w9:=((Chg.of_below ((Below.refl _ _).alloc (Nat.le_refl _) O)).trans (Chg.refl _ _) (Later.refl _ _)).grown hgr (fun b e=> .inl (by simp[e]));have hr:D.rows[0]?=some ⟨62,D.v1,D.S.map (fun s=>ptrV s.b)⟩:=rfl;have hl:(D.S.map (fun s=>ptrV s.b)++[ptrV W.heap.size]).length=D.S.length+1:=by simp
 obtain⟨a1,a2,a3,a4,a5⟩:=g1.grow hr (w9:=w9) hk (by rw[hl];exact hown) (fun b e=>by
  have e1:g=b:=by cases e;rfl
  subst e1;rcases hat with e2|e2
  ·exact .inl e2
  ·exact .inr (by simp;omega)) (Nat.le_trans h3.size hb.size) (fun b hb'=>Nat.lt_of_lt_of_le (h2.old b hb') hb.size)
 have hF:∀b∈P::D.v1.ownBlock.toList,FK P D.rows (D.S++[newSv W.heap.size]) b:=fun b hb=>by
  rcases List.mem_cons.1 hb with e|e
  ·exact .inl e
  ·exact .inr (.inl ⟨_,List.mem_of_getElem? hr,mem_own e⟩)
 refine⟨⟨M,?_,g1.jkeep (h2.below hb) a5 hF,below_chg (h3.trans (hb.mono h3.size)) (Nat.le_trans h3.size hb.size) a5 (fun b hb=>(g1.apM b (hF b hb)).2)⟩,a2,a3,a4⟩
 ·have e:({D with S:=D.S++[newSv W.heap.size],v1:= .slice (some ⟨g,0,none⟩) (D.S.length+1) cap}:PlD).rows=D.rows.set 0 ⟨62,.slice (some ⟨g,0,none⟩) (D.S.length+1) cap,D.S.map (fun s=>ptrV s.b)++[ptrV W.heap.size]⟩:=by
   simp[PlD.rows,newSv]
  rw[e];exact a1
end
set_option maxHeartbeats 4000000
set_option maxRecDepth 20000
theorem PlayV.rowAt {w0 W:World}{P X sv pt win T:Nat}{st:List CliQ×List SrvQ}{D:PlD}(h:PlayV w0 W P X sv pt win T st D){i n:Nat}{r:Rw}(hr:D.rows[i]?=some r)(hn:r.xs.length=n):∃a c,r.v= .slice a n c∧n≤c∧∀O,(W.alloc O).ownsRow 0 r.e 1 (.slice a n c) n r.xs:=by
 have h1:=h.row hr;rw[hn]at h1;obtain⟨a,c,e1,e2,_⟩:=row_sl h1;refine⟨a,c,e1,e2,fun O=>?_⟩;rw[←e1];exact World.ownsRow.alloc h1 O
theorem config_pl {p0 p1 p2:Nat}(h0:p0<4)(h1:p1<16)(h2:p2<6):configB ((1+p0:Nat):Int) ((1+p1:Nat):Int) ((1+p2:Nat):Int)=true:=by
 simp only[configB,ringB,withinB,Bool.and_eq_true,decide_eq_true_eq]
 omega
def Bg1 (w W:World)(P X sv pt win:Nat)(j:Nat):Prop:=∃S byt v1 v6,PlayV w W P X sv pt win 0 ([],List.replicate sv ⟨true,0,[],[]⟩) (newD S byt v1 v6)∧S.length=j∧(∀s∈S,∃b,s=newSv b)∧byt=List.replicate j noB
structure Bg2 (gs:List Int)(w W:World)(P X sv pt win:Nat)(css:List (List Cmd))(D:PlD):Prop where
 pl:PlayV w W P X sv pt win 0 (cliOf gs css,List.replicate sv ⟨true,0,[],[]⟩) D
 said:Saids gs css
 lS:D.S.length=sv
 nS:∀s∈D.S,∃b,s=newSv b
 txt:D.txt=txtOf gs css
 sd:D.sd=List.replicate css.length 0
 wnt:D.wnt=wntOf gs css
 mn:D.mn=manyOf css
 byt:D.byt=List.replicate sv noB
theorem begun_any (ga:Option Addr)(gn gc:Nat)(gs:List Int)(la:Option Addr)(ln lc:Nat)(ls:List (List Int))(w:World)(hg:RawIn w ga gn gc gs)(hl:LisIn w la ln lc ls):Calls Tryz.prog 24 #[.slice ga gn gc,.slice la ln lc] w fun e w'=>∃P X css D,e= .returned (.pointer (some ⟨P,0,none⟩))∧Bg2 gs w w' P X (1+pickN (rawN gs 0) 4) (1+pickN (rawN gs 1) 16) (1+pickN (rawN gs 2) 6) css D∧css.length=min ln 4:=by
 have HRaw:Hid (∀W,Below w.heap.size w W→∀i:Nat,i≤140737488355328→Calls Tryz.prog 37 #[.slice ga gn gc,.int .i64 (i:Int)] W fun e w'=>e= .returned (.int .i64 (rawN gs i))∧w'=W):=fun W hW i hi=>raw_any ga gn gc gs i W (hg.later hW) hi
 have HWf:=hide' (fun i=>rawN_wf hg i);have HR0:Hid (∀W,Below w.heap.size w W→Calls Tryz.prog 37 #[.slice ga gn gc,.int .i64 0] W fun e w'=>e= .returned (.int .i64 (rawN gs 0))∧w'=W):=fun W hW=>HRaw.out W hW 0 (by omega)
 have HR1:Hid (∀W,Below w.heap.size w W→Calls Tryz.prog 37 #[.slice ga gn gc,.int .i64 1] W fun e w'=>e= .returned (.int .i64 (rawN gs 1))∧w'=W):=fun W hW=>HRaw.out W hW 1 (by omega)
 have HR2:Hid (∀W,Below w.heap.size w W→Calls Tryz.prog 37 #[.slice ga gn gc,.int .i64 2] W fun e w'=>e= .returned (.int .i64 (rawN gs 2))∧w'=W):=fun W hW=>HRaw.out W hW 2 (by omega)
 have HP0:=hide' (fun W=>pick_big (rawN gs 0) 4 W (HWf.out _) (by omega) (by omega));have HP1:=hide' (fun W=>pick_big (rawN gs 1) 16 W (HWf.out _) (by omega) (by omega));have HP2:=hide' (fun W=>pick_big (rawN gs 2) 6 W (HWf.out _) (by omega) (by omega));have hp0:=pickN_lt (rawN gs 0) 4 (by omega);have hp1:=pickN_lt (rawN gs 1) 16 (by omega);have hp2:=pickN_lt (rawN gs 2) 6 (by omega);generalize pickN (rawN gs 0) 4=p0 at*;generalize pickN (rawN gs 1) 16=p1 at*;generalize pickN (rawN gs 2) 6=p2 at*;have HLi:=hide' hl;have hln:=hl.small;clear hg hl;have HHd:=hide' (khead_any w);have HNw:Hid (∀W,Calls Tryz.prog 53 #[.agg #[.int .i64 (1+(p0:Int)),.int .i64 (1+(p1:Int)),.int .i64 (1+(p2:Int))]] W fun e w'=>∃X M,e= .returned (.tuple #[.pointer (some ⟨X,0,none⟩),.int .i64 0])∧JPl w' X (1+p0) (1+p1) (1+p2) 0 ([],List.replicate (1+p0) ⟨true,0,[],[]⟩) M∧Below W.heap.size W w'∧∀b∈M,W.heap.size≤b):=fun W=>by
  have h:=new_pl (1+p0) (1+p1) (1+p2) W (config_pl hp0 hp1 hp2);rw[show((1+p0:Nat):Int)=1+(p0:Int)by omega,show((1+p1:Nat):Int)=1+(p1:Int)by omega,show((1+p2:Nat):Int)=1+(p2:Int)by omega]at h;exact h
 go_enter Tryz.func24,Tryz.ntmps24;go_wp2_with fail
 go_at_call 52;refine HHd.out.mono ?_;rintro e w1 ⟨rfl,hb1⟩;have HB1:=hide' hb1;clear hb1 HHd;go_wp2_with fail
 go_at_call 37;refine(HR0.out _ HB1.out).mono ?_;rintro e w2 ⟨rfl,hw2⟩;subst hw2;go_wp2_with fail
 go_at_call 17;refine(HP0.out _).mono ?_;rintro e w1 ⟨rfl,hw2⟩;subst hw2;go_wp2_with fail
 go_at_call 37;refine(HR1.out _ HB1.out).mono ?_;rintro e w2 ⟨rfl,hw2⟩;subst hw2;go_wp2_with fail
 go_at_call 17;refine(HP1.out _).mono ?_;rintro e w1 ⟨rfl,hw2⟩;subst hw2;go_wp2_with fail
 go_at_call 37;refine(HR2.out _ HB1.out).mono ?_;rintro e w2 ⟨rfl,hw2⟩;subst hw2;go_wp2_with fail
 go_at_call 17;refine(HP2.out _).mono ?_;rintro e w1 ⟨rfl,hw2⟩;subst hw2;go_wp2_with fail
 go_at_call 53;refine(HNw.out _).mono ?_;rintro e w3 ⟨X,M,rfl,hj3,hb3,hm3⟩;have HF:=hide' (PlayV.first (w0:=w) hj3 (fun b hb=>Nat.le_trans HB1.out.size (hm3 b hb)) (HB1.out.trans (hb3.mono HB1.out.size)));clear hj3 hb3 hm3 HB1 HR1 HR2 HP1 HP2 HNw;obtain⟨i62,h41,h42,h43,h44⟩:=info62;have HI62:=hide' (And.intro h41 (And.intro h42 (And.intro h43 h44)));obtain⟨i9,h91,h92,h93,h94⟩:=info9s;have HI9:=hide' (And.intro h91 (And.intro h92 (And.intro h93 h94)));obtain⟨i3,h31,h32,h33,h34⟩:=info3k;have HI3:=hide' (And.intro h31 (And.intro h32 (And.intro h33 h34)));clear h41 h42 h43 h44 h91 h92 h93 h94 h31 h32 h33 h34;go_wp2_with fail
 unfold ptrV at HF;generalize hW4:w3.alloc (.cells #[.pointer (some ⟨X,0,none⟩),.slice none 0 0,.slice none 0 0,.slice none 0 0,.slice none 0 0,.slice none 0 0,.slice none 0 0] 56)=W4 at*;have hP4:w3.heap.size<W4.heap.size:=by rw[←hW4];simp
 generalize w3.heap.size=P at*;clear hW4;go_loopw [9] (fun i wr=>∃(j:Nat),i= .int .i64 (j:Int)∧j≤1+p0∧Hid (Bg1 w wr P X (1+p0) (1+p1) (1+p2) j)) (fun i _=>1+p0-(intOf i).toNat)
 case atStart=>exact⟨0,rfl,Nat.zero_le _,[],[],_,_,HF.out,rfl,fun s hs=>(by cases hs),rfl⟩
 case round=>
  obtain⟨j,rfl,hj,S,byt,v1,v6,hpl,hS,hnS,hby⟩:=hrel;have HPl:=hide' hpl;have HQ:=hide' (And.intro hS (And.intro hnS hby));clear hpl hS hnS hby HF;have HR0':=hide' (HR0.out wr HPl.out.bel);have HP0':=hide' (HP0.out wr);by_cases hlt:j<1+p0
  ·have hlt':(j:Int)≤(p0:Int):=by omega
   go_wp2_with fail
   go_at_call 37;refine HR0'.out.mono ?_;rintro e w5 ⟨rfl,hw5⟩;subst hw5;go_wp2_with fail
   go_at_call 17;refine HP0'.out.mono ?_;rintro e w6 ⟨rfl,hw6⟩;subst hw6;obtain⟨a1,c1,e1,hc1,hR1⟩:=(HPl.out.below ((Below.refl _ w6).alloc (Nat.le_refl _) (.cells #[.slice none 0 0,.int .i64 0,.slice none 0 0] 68))).rowAt (i:=0) (n:=j) rfl (by show(S.map _).length=j;rw[List.length_map];exact HQ.out.1);change v1=_ at e1;subst e1;have HRF:=hide' hR1;have hSj:(newD S byt (.slice a1 j c1) v6).S.length=j:=HQ.out.1;have HPu:Hid (∀(O:Obj) (g2 cap2:Nat) (w9:World),w9.ownsRow 0 62 1 (.slice (some ⟨g2,0,none⟩) (j+1) cap2) (j+1) (S.map (fun s=>ptrV s.b)++[ptrV w6.heap.size])→((w6.alloc (.cells #[.slice none 0 0,.int .i64 0,.slice none 0 0] 68)).alloc O).grownBy w9 (Value.slice a1 j c1).ownBlock→((Value.slice a1 j c1).ownBlock=some g2∨g2=w6.heap.size+2)→PlayV w (w9.setCell ⟨P,1,none⟩ (.slice (some ⟨g2,0,none⟩) (j+1) cap2)) P X (1+p0) (1+p1) (1+p2) 0 ([],List.replicate (1+p0) ⟨true,0,[],[]⟩) (newD (S++[newSv w6.heap.size]) byt (.slice (some ⟨g2,0,none⟩) (j+1) cap2) v6)∧w9.frozen? ⟨P,1,none⟩=false∧P<w9.heap.size∧w9.cell? ⟨P,1,none⟩=some (Value.slice a1 j c1)):=fun O g2 cap2 w9 h1 h2 h3=>by
    have:=HPl.out.server (O:=O) (w9:=w9) (g:=g2) (cap:=cap2) (by rw[hSj];exact h1) h2 h3;rw[hSj]at this;exact this
   have b1:=blkCell HPl.out.blk 1;have hPl:=blkLt HPl.out.blk;simp[newD]at b1;clear hR1 hSj;unfold ptrV at HPu HRF;go_upto_region 10 with(first
    |(at_builtin;refine wpList_append_lies _ rfl _ _ _ rfl 0 62 i62 (.pointer none) 1 8 Tryz.underlying54 HI62.out.1 HI62.out.2.1 HI62.out.2.2.1 HI62.out.2.2.2 rfl (by omega) (.slice a1 j c1) j _ rfl (HRF.out _) ⟨w6.heap.size+1,0,none⟩ 1 1 [.pointer (some ⟨w6.heap.size,0,none⟩)] rfl rfl (World.news_of_block (hs_new (by simp))) (fun u hu=>by simp at hu;subst hu;rfl) (by omega) (by unfold maxLen;omega) (by omega) (Nat.zero_le _) _ rfl ?_;intro g2 cap2 w9 hown hgr hat hlt;have hp:=HPu.out _ g2 cap2 w9 hown hgr (by rcases hat with e|e;exact Or.inl e;exact Or.inr (by simpa using e));have HPl2:=hide' hp.1;have cf9:=hp.2.1;have hBl9:=hp.2.2.1;have cc9:=hp.2.2.2;clear hown hgr hat hp)
    |fail)
   clear HPu HRF HPl b1 hPl cf9 hBl9 cc9;generalize hS2:S++[newSv w6.heap.size]=S2 at*;have HS2:=hide' hS2;clear hS2;generalize w9.setCell ⟨P,1,none⟩ (.slice (some ⟨g2,0,none⟩) (j+1) cap2)=w7 at*;have hbl:(byt.map Value.string).length=j:=by rw[List.length_map,HQ.out.2.2,List.length_replicate]
   obtain⟨a6,c6,e6,hc6,hR6⟩:=HPl2.out.rowAt (i:=5) (n:=j) rfl hbl;change v6=_ at e6;subst e6;have HRF:=hide' hR6;have HPu:Hid (∀(O:Obj) (g3 cap3:Nat) (w9:World),w9.ownsRow 0 9 1 (.slice (some ⟨g3,0,none⟩) (j+1) cap3) (j+1) (byt.map .string++[.string ⟨#[]⟩])→(w7.alloc O).grownBy w9 (Value.slice a6 j c6).ownBlock→((Value.slice a6 j c6).ownBlock=some g3∨g3=w7.heap.size+1)→_):=fun O g3 cap3 w9 h1 h2 h3=>HPl2.out.pushG (O:=O) (i:=5) rfl hbl h1 h2 h3 (D':=newD S2 (byt++[noB]) (.slice (some ⟨g2,0,none⟩) (j+1) cap2) (.slice (some ⟨g3,0,none⟩) (j+1) cap3)) rfl (by simp[PlD.rows,newD,noB])
   have b6:=blkCell HPl2.out.blk 6;have hPl:=blkLt HPl2.out.blk;simp[newD]at b6;clear hR6 hbl;go_upto_region 8 with(first
    |(at_builtin;refine wpList_append_lies _ rfl _ _ _ rfl 0 9 i9 (.string ⟨#[]⟩) 1 16 Tryz.underlying34 HI9.out.1 HI9.out.2.1 HI9.out.2.2.1 HI9.out.2.2.2 rfl (by omega) (.slice a6 j c6) j _ rfl (HRF.out _) ⟨w7.heap.size,0,none⟩ 1 1 [.string ⟨#[]⟩] rfl rfl (World.news_of_block (hs_new (by simp))) (fun u hu=>by simp at hu;subst hu;rfl) (by omega) (by unfold maxLen;omega) (by omega) (Nat.zero_le _) _ rfl ?_;intro g3 cap3 w9 hown hgr hat hlt;have hp:=HPu.out _ g3 cap3 w9 hown hgr (by rcases hat with e|e;exact Or.inl e;exact Or.inr (by simpa using e));have HPl3:=hide' hp.1;have cf9:=hp.2.1;have hBl9:=hp.2.2.1;have cc9:=hp.2.2.2;clear hown hgr hat hp)
    |fail)
   clear HPu HRF HPl2 b6 hPl cf9 hBl9 cc9;go_wp2_with fail
   go_roundw;case rel=>
    refine⟨j+1,by go_num,by omega,S2,byt++[noB],_,_,HPl3.out,?_,?_,?_⟩
    ·rw[←HS2.out,List.length_append,HQ.out.1];rfl
    ·intro s hs;rw[←HS2.out]at hs;rcases List.mem_append.1 hs with e|e
     ·exact HQ.out.2.1 s e
     ·simp at e;exact⟨_,e⟩
    ·rw[HQ.out.2.2,List.replicate_succ']
   case measure=>simp[intOf];omega
  ·have hlt':¬(j:Int)≤(p0:Int):=by omega
   have hj2:j=1+p0:=by omega
   have HB0:Hid (Bg2 gs w wr P X (1+p0) (1+p1) (1+p2) [] (newD S byt v1 v6)):=by
    refine⟨HPl.out,⟨fun i cs h=>(by simp at h),fun i cs h=>(by simp at h),fun i cs h=>(by simp at h),fun i cs h=>(by simp at h)⟩,?_,HQ.out.2.1,rfl,rfl,rfl,rfl,?_⟩
    ·exact HQ.out.1.trans hj2
    ·exact HQ.out.2.2.trans (by rw[hj2])
   generalize newD S byt v1 v6=D0 at*;clear HPl HQ hj2;go_wp2_with fail
   go_at_call 37;refine HR0'.out.mono ?_;rintro e w5 ⟨rfl,hw5⟩;subst hw5;go_wp2_with fail
   go_at_call 17;refine HP0'.out.mono ?_;rintro e w6 ⟨rfl,hw6⟩;subst hw6;clear HR0' HP0' HR0 HP0 HI62;go_wp2_with fail
   have hdd:decide (j≤p0)=false:=by simp;omega
   simp only[hdd]
   clear hdd hlt hlt';go_loopw [10,11,12,13,14,15,16,17,18] (fun i _ _ _ _ _ _ _ _ wr=>∃(j:Nat),i= .int .i64 (j:Int)∧j≤4∧j≤ln∧Hid (∃css D,Bg2 gs w wr P X (1+p0) (1+p1) (1+p2) css D∧css.length=j)) (fun i _ _ _ _ _ _ _ _ _=>4-(intOf i).toNat)
   case atStart=>exact⟨0,rfl,by omega,by omega,[],D0,HB0.out,rfl⟩
   case round=>
    obtain⟨j,rfl,hj4,hjn,css,D,hB,hcl⟩:=hrel;have HB:=hide' hB;have HCl:=hide' hcl;clear hB hcl HB0;by_cases hgo:j<ln∧j<4
    ·obtain⟨g1,g2⟩:=hgo;have g1':(j:Int)<(ln:Int):=by omega
     have g2':(j:Int)<4:=by omega
     obtain⟨S,txt,sd,wnt,mn,byt,v1,v2,v3,v4,v5,v6⟩:=D;have hdl:=HCl.out;obtain⟨xs,hxs⟩:∃xs,ls[j]?=some xs:=⟨_,List.getElem?_eq_getElem (by have:=HLi.out.len;omega)⟩
     obtain⟨lg,lo,ia,im,ic,rfl,hlg,hlcell,hraw⟩:=HLi.out.by_ j xs hxs;have hlc:=HLi.out.cap;have HRw:=hide' hraw;have HLc:=hide' (And.intro hlg hlcell);clear hraw hlg hlcell hxs;have HRj:Hid (Calls Tryz.prog 37 #[.slice ga gn gc,.int .i64 (3+(j:Int))] wr fun e w'=>e= .returned (.int .i64 (rawN gs (3+j)))∧w'=wr):=by
      have h:=HRaw.out wr HB.out.pl.bel (3+j) (by omega);rw[show((3+j:Nat):Int)=3+(j:Int)by omega]at h;exact h
     have HPj:=hide' (pick_big (rawN gs (3+j)) 3 wr (HWf.out _) (by omega) (by omega));have hp3:=pickN_lt (rawN gs (3+j)) 3 (by omega);have HD:Hid (((dOf gs j:Nat):Int)=1+(pickN (rawN gs (3+j)) 3:Int)):=by
      have e:((dOf gs j:Nat):Int)=1+(pickN (rawN gs (3+j)) 3:Int):=by unfold dOf;omega
      exact e
     generalize pickN (rawN gs (3+j)) 3=p at*;have HOp:Hid (Calls Tryz.prog 54 #[.pointer (some ⟨X,0,none⟩),.int .i64 (1+(p:Int))] wr fun e w'=>e= .returned (.tuple #[.int .i64 (j:Int),.int .i64 0])∧PlayV w w' P X (1+p0) (1+p1) (1+p2) 0 (cliOf gs css++[newQ (dOf gs j)],List.replicate (1+p0) ⟨true,0,[],[]⟩) ⟨S,txt,sd,wnt,mn,byt,v1,v2,v3,v4,v5,v6⟩):=by
      obtain⟨M,h1,h2,h3⟩:=HB.out.pl;have hcl:(cliOf gs css).length=j:=by unfold cliOf;rw[List.length_mapIdx];exact HCl.out
      have h:=open_pl h2 (dOf gs j) (dOf_123 gs j) (by rw[hcl];exact g2);rw[←HD.out];refine h.mono ?_;rintro e w' ⟨rfl,hj⟩;exact⟨by rw[hcl],PlayV.jun ⟨M,h1,hj,h3⟩⟩
     have HSd:Hid (∀W,Below w.heap.size w W→Calls Tryz.prog 18 #[.int .i64 (1+(p:Int)),.int .i64 (j:Int),.slice ia im ic,.int .i64 40] W fun e w'=>∃v s cs,e= .returned (.tuple #[v,.string s,.bool true])∧CmdsIn w' W.heap.size v cs∧s.data.toList=asksFrom (dOf gs j) 0 cs∧(∀x∈cs,GoodC (dOf gs j) x)∧cs.length≤40∧s.size≤15000∧Below W.heap.size W w'∧(∀x∈cs,∀k∈x.keys,ownK j k)):=fun W hW=>by
      rw[←HD.out];exact said_own (dOf gs j) j ia im ic xs 40 W (HRw.out.later hW) (dOf_123 gs j) (by omega) (by omega)
     have HAl:Hid (∀W va vn vc cs lo,CmdsIn W lo (.slice va vn vc) cs→cs.length=vn→(∀x∈cs,GoodC (dOf gs j) x)→vn≤50→Calls Tryz.prog 55 #[.int .i64 (1+(p:Int)),.slice va vn vc] W fun e w'=>e= .returned (.tuple #[.string (mkB (alRun (dOf gs j) 0 cs ([],[])).1),.bool true])∧Below W.heap.size W w'):=fun W va vn vc cs lo h1 h2 h3 h4=>by
      rw[←HD.out];exact alone_any (dOf gs j) va vn vc cs lo W (dOf_123 gs j) h1 h2 h3 h4
     clear HD;go_wp2_with fail
     go_at_call 37;refine HRj.out.mono ?_;rintro e w2 ⟨rfl,hw2⟩;subst hw2;go_wp2_with fail
     go_at_call 17;refine HPj.out.mono ?_;rintro e w2 ⟨rfl,hw2⟩;subst hw2;go_wp2_with fail
     go_at_call 54;refine HOp.out.mono ?_;rintro e w3 ⟨rfl,hpl3⟩;have HPl3:=hide' hpl3;have hlc3:=(hpl3.bel.cell (p:=⟨lg,lo+j,none⟩) HLc.out.1).trans HLc.out.2;have hlg3:=Nat.lt_of_lt_of_le HLc.out.1 hpl3.bel.size;clear hpl3 HOp HRj HPj;go_wp2_with fail
     go_at_call 18;refine(HSd.out _ HPl3.out.bel).mono ?_;rintro e w4 ⟨v,s,cs,rfl,hci,hsl,hgd,hcl40,hs15,hb4,hmine⟩;have hvf:∃va vc,v= .slice va cs.length vc:=by
      obtain⟨kvs,_,hr,_⟩:=hci;rcases hr.2 with⟨e1,e2⟩|⟨g,cap,cur,e1,_⟩
      ·exact⟨none,0,by rw[e1,e2]⟩
      ·exact⟨_,_,e1⟩
     obtain⟨va,vc,rfl⟩:=hvf;have HAl4:=hide' (HAl.out w4 va cs.length vc cs _ hci rfl hgd (by omega));have HPl4:=hide' (HPl3.out.below hb4);have HC4:=hide' (And.intro hsl (And.intro hgd (And.intro hcl40 (And.intro hs15 hmine))));clear hci hsl hgd hcl40 hs15 hb4 hmine HPl3 HSd HAl hlc3 hlg3;go_wp2_with fail
     go_at_call 55;refine HAl4.out.mono ?_;rintro e w5 ⟨rfl,hb5⟩;have HPl5:=hide' (HPl4.out.below hb5);clear hb5 HPl4 HAl4;generalize hT:mkB (alRun (dOf gs j) 0 cs ([],[])).1=T at*;have HT:=hide' hT;clear hT;have HLn:=hide' HC4.out.2.2.1;generalize hcn:cs.length=cn at*;have HCn:=hide' hcn;clear hcn;go_upto_region 20 with fail
     have hbl:(txt.map Value.string).length=j:=by rw[List.length_map];have e:txt=txtOf gs css:=HB.out.txt;rw[e];unfold txtOf;rw[List.length_mapIdx];exact HCl.out
     obtain⟨a2,c2,e2,hc2,hR2⟩:=HPl5.out.rowAt (i:=1) (n:=j) rfl hbl;change v2=_ at e2;subst e2;have HRF:=hide' hR2;have HPu:Hid (∀(O:Obj) (gq capq:Nat) (w9:World),w9.ownsRow 0 9 1 (.slice (some ⟨gq,0,none⟩) (j+1) capq) (j+1) (txt.map Value.string++[Value.string s])→(w5.alloc O).grownBy w9 (Value.slice a2 j c2).ownBlock→((Value.slice a2 j c2).ownBlock=some gq∨gq=w5.heap.size+1)→_):=fun O gq capq w9 h1 h2 h3=>HPl5.out.pushG (O:=O) (i:=1) rfl hbl h1 h2 h3 (D':=⟨S,txt++[s],sd,wnt,mn,byt,v1,.slice (some ⟨gq,0,none⟩) (j+1) capq,v3,v4,v5,v6⟩) rfl (by simp[PlD.rows,intsV])
     have bb:=blkCell HPl5.out.blk 2;have hPl:=blkLt HPl5.out.blk;simp at bb;clear hR2 hbl;go_upto_region 21 with(first
      |(at_builtin;refine wpList_append_lies _ rfl _ _ _ rfl 0 9 i9 (.string ⟨#[]⟩) 1 16 Tryz.underlying34 HI9.out.1 HI9.out.2.1 HI9.out.2.2.1 HI9.out.2.2.2 rfl (by omega) (.slice a2 j c2) j _ rfl (HRF.out _) ⟨w5.heap.size,0,none⟩ 1 1 [Value.string s] rfl rfl (World.news_of_block (hs_new (by simp))) (fun u hu=>by simp at hu;subst hu;rfl) (by omega) (by unfold maxLen;omega) (by omega) (Nat.zero_le _) _ rfl ?_;intro k2 cap2 w9 hown hgr hat hlt;have hp:=HPu.out _ k2 cap2 w9 hown hgr (by rcases hat with e|e;exact Or.inl e;exact Or.inr (by simpa using e));have HPl6:=hide' hp.1;have cf9:=hp.2.1;have hBl9:=hp.2.2.1;have cc9:=hp.2.2.2;clear hown hgr hat hp)
      |fail)
     clear HPu HRF HPl5 bb hPl cf9 hBl9 cc9;generalize w9.setCell ⟨P,2,none⟩ (.slice (some ⟨k2,0,none⟩) (j+1) cap2)=w6 at*;have hbl:(intsV sd).length=j:=by unfold intsV;rw[List.length_map];have e:sd=List.replicate css.length 0:=HB.out.sd;rw[e,List.length_replicate];exact HCl.out
     obtain⟨a3,c3,e3,hc3,hR3⟩:=HPl6.out.rowAt (i:=2) (n:=j) rfl hbl;change v3=_ at e3;subst e3;have HRF:=hide' hR3;have HPu:Hid (∀(O:Obj) (gq capq:Nat) (w9:World),w9.ownsRow 0 3 1 (.slice (some ⟨gq,0,none⟩) (j+1) capq) (j+1) (intsV sd++[Value.int .i64 0])→(w6.alloc O).grownBy w9 (Value.slice a3 j c3).ownBlock→((Value.slice a3 j c3).ownBlock=some gq∨gq=w6.heap.size+1)→_):=fun O gq capq w9 h1 h2 h3=>HPl6.out.pushG (O:=O) (i:=2) rfl hbl h1 h2 h3 (D':=⟨S,txt++[s],sd++[0],wnt,mn,byt,v1,.slice (some ⟨k2,0,none⟩) (j+1) cap2,.slice (some ⟨gq,0,none⟩) (j+1) capq,v4,v5,v6⟩) rfl (by simp[PlD.rows,intsV])
     have bb:=blkCell HPl6.out.blk 3;have hPl:=blkLt HPl6.out.blk;simp at bb;clear hR3 hbl;go_upto_region 22 with(first
      |(at_builtin;refine wpList_append_lies _ rfl _ _ _ rfl 0 3 i3 (.int .i64 0) 1 8 Tryz.underlying25 HI3.out.1 HI3.out.2.1 HI3.out.2.2.1 HI3.out.2.2.2 rfl (by omega) (.slice a3 j c3) j _ rfl (HRF.out _) ⟨w6.heap.size,0,none⟩ 1 1 [Value.int .i64 0] rfl rfl (World.news_of_block (hs_new (by simp))) (fun u hu=>by simp at hu;subst hu;rfl) (by omega) (by unfold maxLen;omega) (by omega) (Nat.zero_le _) _ rfl ?_;intro k3 cap3 w9 hown hgr hat hlt;have hp:=HPu.out _ k3 cap3 w9 hown hgr (by rcases hat with e|e;exact Or.inl e;exact Or.inr (by simpa using e));have HPl7:=hide' hp.1;have cf9:=hp.2.1;have hBl9:=hp.2.2.1;have cc9:=hp.2.2.2;clear hown hgr hat hp)
      |fail)
     clear HPu HRF HPl6 bb hPl cf9 hBl9 cc9;generalize w9.setCell ⟨P,3,none⟩ (.slice (some ⟨k3,0,none⟩) (j+1) cap3)=w7 at*;have hbl:(wnt.map Value.string).length=j:=by rw[List.length_map];have e:wnt=wntOf gs css:=HB.out.wnt;rw[e];unfold wntOf;rw[List.length_mapIdx];exact HCl.out
     obtain⟨a4,c4,e4,hc4,hR4⟩:=HPl7.out.rowAt (i:=3) (n:=j) rfl hbl;change v4=_ at e4;subst e4;have HRF:=hide' hR4;have HPu:Hid (∀(O:Obj) (gq capq:Nat) (w9:World),w9.ownsRow 0 9 1 (.slice (some ⟨gq,0,none⟩) (j+1) capq) (j+1) (wnt.map Value.string++[Value.string T])→(w7.alloc O).grownBy w9 (Value.slice a4 j c4).ownBlock→((Value.slice a4 j c4).ownBlock=some gq∨gq=w7.heap.size+1)→_):=fun O gq capq w9 h1 h2 h3=>HPl7.out.pushG (O:=O) (i:=3) rfl hbl h1 h2 h3 (D':=⟨S,txt++[s],sd++[0],wnt++[T],mn,byt,v1,.slice (some ⟨k2,0,none⟩) (j+1) cap2,.slice (some ⟨k3,0,none⟩) (j+1) cap3,.slice (some ⟨gq,0,none⟩) (j+1) capq,v5,v6⟩) rfl (by simp[PlD.rows,intsV])
     have bb:=blkCell HPl7.out.blk 4;have hPl:=blkLt HPl7.out.blk;simp at bb;clear hR4 hbl;go_upto_region 23 with(first
      |(at_builtin;refine wpList_append_lies _ rfl _ _ _ rfl 0 9 i9 (.string ⟨#[]⟩) 1 16 Tryz.underlying34 HI9.out.1 HI9.out.2.1 HI9.out.2.2.1 HI9.out.2.2.2 rfl (by omega) (.slice a4 j c4) j _ rfl (HRF.out _) ⟨w7.heap.size,0,none⟩ 1 1 [Value.string T] rfl rfl (World.news_of_block (hs_new (by simp))) (fun u hu=>by simp at hu;subst hu;rfl) (by omega) (by unfold maxLen;omega) (by omega) (Nat.zero_le _) _ rfl ?_;intro k4 cap4 w9 hown hgr hat hlt;have hp:=HPu.out _ k4 cap4 w9 hown hgr (by rcases hat with e|e;exact Or.inl e;exact Or.inr (by simpa using e));have HPl8:=hide' hp.1;have cf9:=hp.2.1;have hBl9:=hp.2.2.1;have cc9:=hp.2.2.2;clear hown hgr hat hp)
      |fail)
     clear HPu HRF HPl7 bb hPl cf9 hBl9 cc9;generalize w9.setCell ⟨P,4,none⟩ (.slice (some ⟨k4,0,none⟩) (j+1) cap4)=w8 at*;have hbl:(intsV mn).length=j:=by unfold intsV;rw[List.length_map];have e:mn=manyOf css:=HB.out.mn;rw[e];unfold manyOf;rw[List.length_map];exact HCl.out
     obtain⟨a5,c5,e5,hc5,hR5⟩:=HPl8.out.rowAt (i:=4) (n:=j) rfl hbl;change v5=_ at e5;subst e5;have HRF:=hide' hR5;have HPu:Hid (∀(O:Obj) (gq capq:Nat) (w9:World),w9.ownsRow 0 3 1 (.slice (some ⟨gq,0,none⟩) (j+1) capq) (j+1) (intsV mn++[Value.int .i64 (cn:Int)])→(w8.alloc O).grownBy w9 (Value.slice a5 j c5).ownBlock→((Value.slice a5 j c5).ownBlock=some gq∨gq=w8.heap.size+1)→_):=fun O gq capq w9 h1 h2 h3=>HPl8.out.pushG (O:=O) (i:=4) rfl hbl h1 h2 h3 (D':=⟨S,txt++[s],sd++[0],wnt++[T],mn++[cn],byt,v1,.slice (some ⟨k2,0,none⟩) (j+1) cap2,.slice (some ⟨k3,0,none⟩) (j+1) cap3,.slice (some ⟨k4,0,none⟩) (j+1) cap4,.slice (some ⟨gq,0,none⟩) (j+1) capq,v6⟩) rfl (by simp[PlD.rows,intsV])
     have bb:=blkCell HPl8.out.blk 5;have hPl:=blkLt HPl8.out.blk;simp at bb;clear hR5 hbl;go_upto_region 13 with(first
      |(at_builtin;refine wpList_append_lies _ rfl _ _ _ rfl 0 3 i3 (.int .i64 0) 1 8 Tryz.underlying25 HI3.out.1 HI3.out.2.1 HI3.out.2.2.1 HI3.out.2.2.2 rfl (by omega) (.slice a5 j c5) j _ rfl (HRF.out _) ⟨w8.heap.size,0,none⟩ 1 1 [Value.int .i64 (cn:Int)] rfl rfl (World.news_of_block (hs_new (by simp))) (fun u hu=>by simp at hu;subst hu;rfl) (by omega) (by unfold maxLen;omega) (by omega) (Nat.zero_le _) _ rfl ?_;intro k5 cap5 w9 hown hgr hat hlt;have hp:=HPu.out _ k5 cap5 w9 hown hgr (by rcases hat with e|e;exact Or.inl e;exact Or.inr (by simpa using e));have HPl9:=hide' hp.1;have cf9:=hp.2.1;have hBl9:=hp.2.2.1;have cc9:=hp.2.2.2;clear hown hgr hat hp)
      |fail)
     clear HPu HRF HPl8 bb hPl cf9 hBl9 cc9;generalize w9.setCell ⟨P,5,none⟩ (.slice (some ⟨k5,0,none⟩) (j+1) cap5)=w10 at*;go_wp2_with fail
     go_roundw;case rel=>
      refine⟨j+1,by go_num,by omega,by omega,css++[cs],⟨S,txt++[s],sd++[0],wnt++[T],mn++[cn],byt,v1,.slice (some ⟨k2,0,none⟩) (j+1) cap2,.slice (some ⟨k3,0,none⟩) (j+1) cap3,.slice (some ⟨k4,0,none⟩) (j+1) cap4,.slice (some ⟨k5,0,none⟩) (j+1) cap5,v6⟩,⟨?_,?_,HB.out.lS,HB.out.nS,?_,?_,?_,?_,HB.out.byt⟩,?_⟩
      ·have e:cliOf gs (css++[cs])=cliOf gs css++[newQ (dOf gs j)]:=by unfold cliOf;rw[List.mapIdx_concat,HCl.out]
       rw[e];exact HPl9.out
      ·have h4:=HC4.out;rw[←HCl.out]at h4;refine HB.out.said.snoc h4.2.1 h4.2.2.2.2 (by rw[HCn.out];exact HLn.out) ?_;rw[←h4.1,len_size];exact h4.2.2.2.1
      ·show txt++[s]=_;have e:txt=txtOf gs css:=HB.out.txt;rw[e];unfold txtOf;rw[List.mapIdx_concat,HCl.out,←HC4.out.1];rfl
      ·show sd++[0]=_;have e:sd=List.replicate css.length 0:=HB.out.sd;rw[e,List.length_append];exact List.replicate_succ'.symm
      ·show wnt++[T]=_;have e:wnt=wntOf gs css:=HB.out.wnt;rw[e,←HT.out];unfold wntOf;rw[List.mapIdx_concat,HCl.out]
      ·show mn++[cn]=_;have e:mn=manyOf css:=HB.out.mn;rw[e,←HCn.out];unfold manyOf;rw[List.map_append];rfl
      ·rw[List.length_append,HCl.out];rfl
     case measure=>simp[intOf];omega
    ·have HGo:=hide' hgo;clear hgo;have fin:∃P' X' css D,Ending.returned (.pointer (some ⟨P,0,none⟩))= .returned (.pointer (some ⟨P',0,none⟩))∧Bg2 gs w wr P' X' (1+p0) (1+p1) (1+p2) css D∧css.length=min ln 4:=⟨P,X,css,D,rfl,HB.out,by
      rw[HCl.out];have:=HGo.out;omega⟩
     have HFi:=hide' fin;clear fin;by_cases g1:j<ln
     ·have g1':(j:Int)<(ln:Int):=by omega
      have g2':¬(j:Int)<4:=by intro h;exact HGo.out ⟨g1,by omega⟩
      go_wp2_with fail
      go_ret;obtain⟨P',X',css',D',e1,h1,h2⟩:=HFi.out;cases e1;exact⟨P,rfl,X',css',⟨D',h1⟩,h2⟩
     ·have g1':¬(j:Int)<(ln:Int):=by omega
      go_wp2_with fail
      go_ret;obtain⟨P',X',css',D',e1,h1,h2⟩:=HFi.out;cases e1;exact⟨P,rfl,X',css',⟨D',h1⟩,h2⟩
def FrsOk (fs:List Fr):Prop:=∀f∈fs,FrOk f
section
variable {d:Int}{cs:List Cmd}{rest:List UInt8}{Q:Int→PS→Prop}{P:List UInt8→Nat→Prop}
end
section
variable {p:Ply}{sv pt win:Nat}{rest:Nat→List UInt8}{F:Nat→Prop}{st:List CliQ×List SrvQ}
theorem lisF_len (sv pt win o:Nat):∀(f:Nat) (st:List CliQ×List SrvQ),(lisF sv pt win o f st).1.1.length=st.1.length:=by
 intro f;induction f with
 |zero=>intro st;rfl
 |succ f ih=>
  intro st;unfold lisF;split
  ·rfl
  ·split
   ·rfl
   ·rw[ih,runJ_len];show(anJ _ _ _ _ _).length=_;unfold anJ;split<;>simp
theorem fallJ_len (sv pt win o:Nat)(st:List CliQ×List SrvQ):(fallJ sv pt win o st).1.length=st.1.length:=by
 unfold fallJ;rw[runsJ_len];simp
theorem saidJ_len (sv pt win i:Nat)(piece:List UInt8)(st:List CliQ×List SrvQ):(saidJ sv pt win i piece st).1.length=st.1.length:=by
 unfold saidJ;split
 ·rfl
 ·rw[runJ_len];simp
theorem answeredJ_len (sv pt win o:Nat)(piece:List UInt8)(st:List CliQ×List SrvQ):(answeredJ sv pt win o piece st).1.length=st.1.length:=by
 unfold answeredJ;split
 ·rfl
 ·unfold listenJ;split
  ·unfold lisJ;rw[lisF_len]
  ·rw[fallJ_len];unfold lisJ;rw[lisF_len]
end
variable {w a b c:World}{s t:SvG}
def ansF (there:Bool)(v:ByteArray)(id:Nat):ByteArray:=strOfNums [2,if there=true then 0 else 1,0,(v.size:Int),0,((id % 256:Nat):Int),((id / 256:Nat):Int)]++v
def workP (st:List (ByteArray×ByteArray)×List ByteArray)(f:Fr):List (ByteArray×ByteArray)×List ByteArray:=
 ((doesP f.k f.key f.val st.1).2,st.2++[ansF (doesP f.k f.key f.val st.1).1.1 (doesP f.k f.key f.val st.1).1.2 f.id])
def worksP (fs:List Fr)(st:List (ByteArray×ByteArray)×List ByteArray):List (ByteArray×ByteArray)×List ByteArray:=fs.foldl workP st
structure SvTo (w w':World)(s s':SvG):Prop where
 at_:SvK w' s'
 b:s'.b=s.b
 chg:Chg s.foot w w'
 lat:∀b∈s'.foot,b∈s.foot∨w.heap.size≤b
theorem SvTo.refl (h:SvK w s):SvTo w w s s:=⟨h,rfl,Chg.refl _ _,fun b hb=> .inl hb⟩
theorem SvTo.trans {u:SvG}(h:SvTo a b s t)(k:SvTo b c t u):SvTo a c s u:=
 ⟨k.at_,k.b.trans h.b,h.chg.trans k.chg h.lat,fun x hx=>by
  rcases k.lat x hx with e|e
  ·exact h.lat x e
  ·exact .inr (Nat.le_trans h.chg.size e)⟩
theorem SvTo.below (h:SvTo a b s t)(k:Below b.heap.size b c):SvTo a c s t:=
 h.trans ⟨h.at_.keep (fun x hx=>k.block x (h.at_.old x hx)),rfl,Chg.of_below k,fun x hx=> .inl hx⟩
theorem SvK.apart (h:SvK w s):s.sv.ownBlock≠some s.b∧s.mv.ownBlock≠some s.b∧∀g,s.sv.ownBlock=some g→s.mv.ownBlock≠some g:=
 ⟨row_type h.rL h.blk (by decide),row_type h.rM h.blk (by decide),fun g hg=>row_row h.rL h.rM (by decide) hg⟩
theorem SvK.does {w':World}(h:SvK w s){v':Value}{L':List (ByteArray×ByteArray)}(hd:ShTo w w' s.b 68 #[s.sv,.int .i64 (s.rd:Int),s.mv] s.sv v' L'):SvTo w w' s {s with sv:=v',L:=L'}:=by
 obtain⟨a1,a2,a3⟩:=h.apart;refine⟨⟨hd.blk,hd.row,ownsRow_other h.rM (fun g hg=>?_)⟩,rfl,hd.chg.more (fun b hb=>?_),fun b hb=>?_⟩
 ·obtain⟨cur,hc⟩:=ownsRow_blk h.rM hg;refine hd.chg.block g (blkLt hc) (fun hm=>?_);rcases List.mem_cons.1 hm with e|e
  ·exact a2 (by rw[hg,e])
  ·exact a3 g (mem_own e) hg
 ·rcases List.mem_cons.1 hb with e|e
  ·rw[e];simp[SvG.foot]
  ·simp only[SvG.foot,List.mem_cons,List.mem_append];exact .inr (.inl e)
 ·unfold SvG.foot at hb;rcases List.mem_cons.1 hb with e|e
  ·exact .inl (by rw[e];simp[SvG.foot])
  ·rcases List.mem_append.1 e with e|e
   ·rcases hd.own b (mem_own e)with f|f
    ·exact .inl (by simp[SvG.foot,f])
    ·exact .inr f
   ·exact .inl (by simp only[SvG.foot,List.mem_cons,List.mem_append];exact .inr (.inr e))
theorem SvK.push {w9:World}(h:SvK w s){O O2:Obj}{g cap n:Nat}{x:ByteArray}(hn:s.made.length=n)(hown:w9.ownsRow 0 9 1 (.slice (some ⟨g,0,none⟩) (n+1) cap) (n+1) (s.made.map .string++[.string x]))(hgr:((w.alloc O).alloc O2).grownBy w9 s.mv.ownBlock)(hat:s.mv.ownBlock=some g∨g=w.heap.size+2):SvTo w (w9.setCell ⟨s.b,2,none⟩ (.slice (some ⟨g,0,none⟩) (n+1) cap)) s {s with mv:= .slice (some ⟨g,0,none⟩) (n+1) cap,made:=s.made++[x]}∧w9.frozen? ⟨s.b,2,none⟩=false∧s.b<w9.heap.size∧w9.cell? ⟨s.b,2,none⟩=some s.mv∧w9.cell? ⟨s.b,1,none⟩=some (.int .i64 (s.rd:Int)):=by
 obtain⟨a1,a2,a3⟩:=h.apart;have hk:Chg s.mv.ownBlock.toList w w9:=((Chg.of_below (((Below.refl _ _).alloc (Nat.le_refl _) O).alloc (by simp) O2)).trans (Chg.refl _ _) (Later.refl _ _)).grown hgr (fun b e=> .inl (by simp[e]));have hb9:w9.heap[s.b]?=some (.cells #[s.sv,.int .i64 (s.rd:Int),s.mv] 68 (0,0)):=hk.keep h.blk (fun hm=>a2 (mem_own hm));have hgb:g≠s.b:=fun e=>by
  rcases hat with f|f
  ·exact a2 (by rw[f,e])
  ·have:=blkLt h.blk;omega
 refine⟨⟨⟨(blkSet (i:=2) hb9 _).trans rfl,ownsRow_other h.rL (fun q hq=>?_),?_⟩,rfl,?_,fun b hb=>?_⟩,blkFree hb9 2,blkLt hb9,blkCell hb9 2,blkCell hb9 1⟩
 ·obtain⟨cur,hc⟩:=ownsRow_blk h.rL hq;rw[Below.heap_setCell w9 ⟨s.b,2,none⟩ _ q (fun e=>a1 ((show q=s.b from e)▸hq))];exact hk.block q (blkLt hc) (fun hm=>a3 q hq (mem_own hm))
 ·have e:(s.made++[x]).length=n+1:=by rw[List.length_append,hn];rfl
  show(w9.setCell _ _).ownsRow 0 9 1 _ (s.made++[x]).length ((s.made++[x]).map Value.string);rw[e,List.map_append];exact ownsRow_other hown (fun q hq=>by
   have e1:g=q:=by cases hq;rfl
   subst e1;exact Below.heap_setCell w9 ⟨s.b,2,none⟩ _ g hgb)
 ·exact⟨hk.os,hk.tape,hk.output,by rw[World.size_setCell];exact hk.size,fun b hb hm=>by
   simp only[SvG.foot,List.mem_cons,List.mem_append,not_or]at hm;rw[Below.heap_setCell w9 ⟨s.b,2,none⟩ _ b hm.1];exact hk.block b hb hm.2.2⟩
 ·unfold SvG.foot at hb;rcases List.mem_cons.1 hb with e|e
  ·exact .inl (by rw[e];simp[SvG.foot])
  ·rcases List.mem_append.1 e with e|e
   ·exact .inl (by simp only[SvG.foot,List.mem_cons,List.mem_append];exact .inr (.inl e))
   ·have e1:g=b:=by have:=mem_own e;cases this;rfl
    subst e1;rcases hat with f|f
    ·exact .inl (by simp[SvG.foot,f])
    ·exact .inr (by omega)
theorem SvK.reads (h:SvK w s)(n:Nat):SvTo w (w.setCell ⟨s.b,1,none⟩ (.int .i64 (n:Int))) s {s with rd:=n}:=by
 obtain⟨a1,a2,a3⟩:=h.apart;refine⟨⟨(blkSet (i:=1) h.blk _).trans rfl,ownsRow_other h.rL (fun q hq=>Below.heap_setCell w ⟨s.b,1,none⟩ _ q (fun e=>a1 ((show q=s.b from e)▸hq))),ownsRow_other h.rM (fun q hq=>Below.heap_setCell w ⟨s.b,1,none⟩ _ q (fun e=>a2 ((show q=s.b from e)▸hq)))⟩,rfl,?_,fun b hb=> .inl hb⟩;exact⟨rfl,rfl,rfl,by rw[World.size_setCell];exact Nat.le_refl _,fun b hb hm=>Below.heap_setCell w ⟨s.b,1,none⟩ _ b (fun e=>hm (by rw[show b=s.b from e];simp[SvG.foot]))⟩
variable {f:Fr}
theorem worksP_snoc (fs:List Fr)(f:Fr)(st:List (ByteArray×ByteArray)×List ByteArray):worksP (fs++[f]) st=workP (worksP fs st) f:=by
 unfold worksP;rw[List.foldl_append];rfl
theorem strOfNums_size (l:List Int):(strOfNums l).size=l.length:=by
 unfold strOfNums;simp[ByteArray.size]
theorem ansF_size (t:Bool)(v:ByteArray)(id:Nat):(ansF t v id).size=7+v.size:=by
 unfold ansF;rw[ByteArray.size_append,strOfNums_size];rfl
def WkOk (st:List (ByteArray×ByteArray)×List ByteArray):Prop:=Small st.1∧∀m∈st.2,m.size≤47
theorem workP_ok (hf:FrOk f){st:List (ByteArray×ByteArray)×List ByteArray}(h:WkOk st):WkOk (workP st f)∧(workP st f).1.length≤st.1.length+1∧(workP st f).2.length=st.2.length+1:=by
 obtain⟨a1,a2,_,a4⟩:=doesP_small (kind:=f.k) (k:=f.key) h.1 hf.val;refine⟨⟨a1,fun m hm=>?_⟩,a4,by simp[workP]⟩;rcases List.mem_append.1 (show m∈st.2++[_]from hm)with e|e
 ·exact h.2 m e
 ·rw[List.mem_singleton.1 e,ansF_size];omega
theorem worksP_ok:∀(fs:List Fr) (st:List (ByteArray×ByteArray)×List ByteArray),FrsOk fs→WkOk st→WkOk (worksP fs st)∧(worksP fs st).1.length≤st.1.length+fs.length∧(worksP fs st).2.length=st.2.length+fs.length:=by
 intro fs;induction fs with
 |nil=>intro st _ h;exact⟨h,Nat.le_refl _,rfl⟩
 |cons f fs ih=>
  intro st hf h;obtain⟨a1,a2,a3⟩:=workP_ok (hf f (by simp)) h;obtain⟨b1,b2,b3⟩:=ih (workP st f) (fun g hg=>hf g (by simp[hg])) a1;have e:worksP (f::fs) st=worksP fs (workP st f):=rfl;rw[e];refine⟨b1,?_,?_⟩
  ·rw[List.length_cons];omega
  ·rw[b3,a3,List.length_cons];omega
theorem Fr.by_len (h:FrOk f):7≤f.by_.length∧f.by_.length≤60:=by
 have hk:=keyB_size' h.key;have hv:=h.val;rw[f.by_eq h];have lk:=len_size' f.key;have lv:=len_size' f.val;simp;omega
variable {css:List (List Cmd)}{i:Nat}{gs:List Int}{s:CliQ}
def csOf (css:List (List Cmd))(i:Nat):List Cmd:=(css[i]?).getD []
theorem csOf_some {cs:List Cmd}(h:css[i]?=some cs):csOf css i=cs:=by unfold csOf;rw[h];rfl
theorem csOf_mem {x:Cmd}(h:x∈csOf css i):∃cs,css[i]?=some cs∧x∈cs:=by
 unfold csOf at h;cases hc:css[i]?with
 |none=>rw[hc]at h;cases h
 |some cs=>rw[hc]at h;exact⟨cs,rfl,h⟩
theorem Saids.good' (h:Saids gs css)(i:Nat):∀x∈csOf css i,GoodC (dOf gs i) x:=fun x hx=>by
 obtain⟨cs,h1,h2⟩:=csOf_mem hx
 exact h.good i cs h1 x h2
theorem Saids.short' (h:Saids gs css)(i:Nat):(csOf css i).length≤40:=by
 unfold csOf;cases hc:css[i]?with
 |none=>exact Nat.zero_le _
 |some cs=>exact h.short i cs hc
def txI (gs:List Int)(css:List (List Cmd))(i:Nat):List UInt8:=asksFrom (dOf gs i) 0 (csOf css i)
theorem Saids.size' (h:Saids gs css)(i:Nat):(txI gs css i).length≤15000:=by
 unfold txI csOf;cases hc:css[i]?with
 |none=>exact Nat.zero_le _
 |some cs=>exact h.size i cs hc
def restOf (gs:List Int)(css:List (List Cmd))(sd:List Nat)(i:Nat):List UInt8:=(txI gs css i).drop ((sd[i]?).getD 0)
theorem sum_set:∀(l:List Nat) (i n k:Nat),l[i]?=some n→(l.set i (n+k)).sum=l.sum+k:=by
 intro l;induction l with
 |nil=>intro i n k h;simp at h
 |cons x l ih=>
  intro i n k h;cases i with
  |zero=>simp at h;subst h;simp;omega
  |succ i=>
   simp at h;have:=ih i n k h;simp;omega
theorem sum_le (B:Nat):∀l:List Nat,(∀x∈l,x≤B)→l.sum≤B*l.length:=by
 intro l;induction l with
 |nil=>intro _;simp
 |cons x l ih=>
  intro h;have h1:=h x (by simp);have h2:=ih (fun y hy=>h y (by simp[hy]));rw[List.sum_cons,List.length_cons,Nat.mul_add];omega
section
variable {gs:List Int}{w W W':World}{P X sv pt win:Nat}{css:List (List Cmd)}{sd:List Nat}{st:List CliQ×List SrvQ}{D:PlD}
theorem PlayV.served {T:Nat}(h:PlayV w W P X sv pt win T st D){n:Nat}{s s':SvG}(hs:D.S[n]?=some s)(ht:SvTo W W' s s'):PlayV w W' P X sv pt win T st {D with S:=D.S.set n s'}:=by
 obtain⟨M,h1,h2,h3⟩:=h;have hF:∀b∈s.foot,FK P D.rows D.S b:=fun b hb=> .inr (.inr ⟨s,List.mem_of_getElem? hs,hb⟩)
 have hr:({D with S:=D.S.set n s'}:PlD).rows=D.rows:=by
  have e:(D.S.set n s').map (fun s=>ptrV s.b)=D.S.map (fun s=>ptrV s.b):=by
   rw[List.map_set];refine List.ext_getElem? (fun j=>?_);rw[List.getElem?_set];split
   ·rename_i e;split
    ·rw[←e,List.getElem?_map,hs,ht.b];rfl
    ·rename_i hn;rw[List.getElem?_eq_none (by omega)]
   ·rfl
  simp only[PlD.rows,e]
 refine⟨M,?_,h1.jkeep h2 ht.chg hF,below_chg h3 h3.size ht.chg (fun b hb=>(h1.apM b (hF b hb)).2)⟩;rw[hr];exact h1.server hs ht.chg ht.at_ ht.lat h3.size h2.old
end
section
variable {w W:World}{P X sv pt win T:Nat}{st:List CliQ×List SrvQ}{D:PlD}
theorem PlayV.callSay (h:PlayV w W P X sv pt win T st D)(hs:st.1[i]?=some s)(piece:ByteArray)(hT:T+4000*piece.size+5000≤100000000000):Calls Tryz.prog 28 #[.pointer (some ⟨X,0,none⟩),.int .i64 (i:Int),.string piece] W fun e w'=>e= .returned (.int .i64 0)∧PlayV w w' P X sv pt win (T+4000*piece.size) (saidJ sv pt win i piece.data.toList st) D:=by
 obtain⟨M,h1,h2,h3⟩:=h;refine(say_pl h2 hs piece hT).mono ?_;rintro e w' ⟨rfl,a⟩;exact⟨rfl,PlayV.jun ⟨M,h1,a,h3⟩⟩
theorem PlayV.callTold (h:PlayV w W P X sv pt win T st D)(hs:st.1[i]?=some s):Calls Tryz.prog 26 #[.pointer (some ⟨X,0,none⟩),.int .i64 (i:Int)] W fun e w'=>e= .returned (.tuple #[.string (mkB s.told),.int .i64 0])∧PlayV w w' P X sv pt win T st D:=by
 obtain⟨M,h1,h2,h3⟩:=h;refine(told_pl h2 hs).mono ?_;rintro e w' ⟨rfl,a⟩;exact⟨rfl,PlayV.jun ⟨M,h1,a,h3⟩⟩
theorem PlayV.callSent (h:PlayV w W P X sv pt win T st D){s:SrvQ}(hs:st.2[i]?=some s):Calls Tryz.prog 30 #[.pointer (some ⟨X,0,none⟩),.int .i64 (i:Int)] W fun e w'=>e= .returned (.tuple #[.string (mkB s.sent),.int .i64 0])∧PlayV w w' P X sv pt win T st D:=by
 obtain⟨M,h1,h2,h3⟩:=h;refine(sent_pl h2 hs).mono ?_;rintro e w' ⟨rfl,a⟩;exact⟨rfl,PlayV.jun ⟨M,h1,a,h3⟩⟩
theorem PlayV.sizes (h:PlayV w W P X sv pt win T st D):(∀s∈st.1,s.told.length≤T)∧∀u∈st.2,u.sent.length≤T:=by
 obtain⟨M,_,⟨_,_,_,_,_,_,h2,_⟩,_⟩:=h;exact⟨fun s hs=>by have:=h2.told s hs;omega,fun u hu=>by have:=(h2.srv u hu).2;omega⟩
end
section
variable {gs:List Int}{w W:World}{P X sv pt win:Nat}{css:List (List Cmd)}{sd:List Nat}{st:List CliQ×List SrvQ}{D:PlD}
end
end Go.Proofs.YtlonjggfnleolaaGreatDoor
