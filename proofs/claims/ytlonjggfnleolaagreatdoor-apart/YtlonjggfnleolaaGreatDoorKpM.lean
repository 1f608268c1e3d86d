import Derived.Test.YtlonjggfnleolaaGreatDoorKpL
namespace Go.Proofs.YtlonjggfnleolaaGreatDoor
open Go.RowKit Go.Shelf
set_option linter.unusedVariables false
def newSv (b:Nat):SvG:=⟨b,.slice none 0 0,[],0,.slice none 0 0,[]⟩
def newD (S:List SvG)(byt:List ByteArray)(v1 v6:Value):PlD:=⟨S,[],[],[],[],byt,v1,.slice none 0 0,.slice none 0 0,.slice none 0 0,.slice none 0 0,v6⟩
section
variable {w0 W:World}{P X sv pt win T:Nat}{st:List CliQ×List SrvQ}{D:PlD}
theorem PlayV.first {M:List Nat}(hj:JPl W X sv pt win T st M)(hM:∀b∈M,w0.heap.size≤b)(hs:Below w0.heap.size w0 W):PlayV w0 (W.alloc (.cells #[ptrV X,.slice none 0 0,.slice none 0 0,.slice none 0 0,.slice none 0 0,.slice none 0 0,.slice none 0 0] 56)) W.heap.size X sv pt win T st (newD [] [] (.slice none 0 0) (.slice none 0 0)):=by
 have hb:Below W.heap.size W (W.alloc (.cells #[ptrV X,.slice none 0 0,.slice none 0 0,.slice none 0 0,.slice none 0 0,.slice none 0 0,.slice none 0 0] 56)):=(Below.refl _ _).alloc (Nat.le_refl _) _;have hr:∀r∈(newD [] [] (.slice none 0 0) (.slice none 0 0)).rows,r.v= .slice none 0 0∧r.xs=[]∧(r.e=62∨r.e=9∨r.e=3):=by
  intro r hr;simp[PlD.rows,newD,intsV]at hr;rcases hr with e|e|e|e|e|e<;>(rw[e];simp)
 refine⟨M,⟨blkNew W _,fun r h=>?_,fun s h=>(by cases h),fun r h=>(hr r h).2.2,fun i j r r' b _ h1 _ h3=>?_,fun i j s s' b _ h1=>(by simp[newD]at h1),fun r _ s h=>(by cases h),fun b hb2=>?_,hM⟩,hj.below hb,hs.trans (hb.mono hs.size)⟩
 ·obtain⟨e1,e2,_⟩:=hr r h;rw[e1,e2];exact World.ownsRow_nil _ _ _ _
 ·rw[(hr r (List.mem_of_getElem? h1)).1]at h3;cases h3
 ·rcases hb2 with e|⟨r,h,e⟩|⟨s,h,_⟩
  ·rw[e];exact⟨fun hm=>by have:=hj.old _ hm;omega,hs.size⟩
  ·rw[(hr r h).1]at e;cases e
  ·cases h
theorem PlayV.server (h:PlayV w0 W P X sv pt win T st D){O:Obj}{w9:World}{g cap:Nat}(hown:w9.ownsRow 0 62 1 (.slice (some ⟨g,0,none⟩) (D.S.length+1) cap) (D.S.length+1) (D.S.map (fun s=>ptrV s.b)++[ptrV W.heap.size]))(hgr:((W.alloc (.cells #[.slice none 0 0,.int .i64 0,.slice none 0 0] 68)).alloc O).grownBy w9 D.v1.ownBlock)(hat:D.v1.ownBlock=some g∨g=W.heap.size+2):PlayV w0 (w9.setCell ⟨P,1,none⟩ (.slice (some ⟨g,0,none⟩) (D.S.length+1) cap)) P X sv pt win T st {D with S:=D.S++[newSv W.heap.size],v1:= .slice (some ⟨g,0,none⟩) (D.S.length+1) cap}∧w9.frozen? ⟨P,1,none⟩=false∧P<w9.heap.size∧w9.cell? ⟨P,1,none⟩=some D.v1:=by
 obtain⟨M,h1,h2,h3⟩:=h;have hb:Below W.heap.size W (W.alloc (.cells #[.slice none 0 0,.int .i64 0,.slice none 0 0] 68)):=(Below.refl _ _).alloc (Nat.le_refl _) _;have hs:SvK (W.alloc (.cells #[.slice none 0 0,.int .i64 0,.slice none 0 0] 68)) (newSv W.heap.size):=⟨blkNew W _,World.ownsRow_nil _ _ _ _,World.ownsRow_nil _ _ _ _⟩
 have g1:=h1.addSrv hb hs (fun b hb=>by simp[SvG.foot,newSv,Value.ownBlock]at hb;omega) h3.size h2.old;have hsz:W.heap.size+1=(W.alloc (.cells #[.slice none 0 0,.int .i64 0,.slice none 0 0] 68)).heap.size:=by simp
 have hk:Chg D.v1.ownBlock.toList (W.alloc (.cells #[.slice none 0 0,.int .i64 0,.slice none 0 0] 68)) w9:=((Chg.of_below ((Below.refl _ _).alloc (Nat.le_refl _) O)).trans (Chg.refl _ _) (Later.refl _ _)).grown hgr (fun b e=> .inl (by simp[e]));have hr:D.rows[0]?=some ⟨62,D.v1,D.S.map (fun s=>ptrV s.b)⟩:=rfl;have hl:(D.S.map (fun s=>ptrV s.b)++[ptrV W.heap.size]).length=D.S.length+1:=by simp
 obtain⟨a1,a2,a3,a4,a5⟩:=g1.grow hr (w9:=w9) hk (by rw[hl];exact hown) (fun b e=>by
  have e1:g=b:=by cases e;rfl
  subst e1;rcases hat with e2|e2
  ·exact .inl e2
  ·exact .inr (by simp;omega)) (Nat.le_trans h3.size hb.size) (fun b hb'=>Nat.lt_of_lt_of_le (h2.old b hb') hb.size)
 have hF:∀b∈P::D.v1.ownBlock.toList,FK P D.rows (D.S++[newSv W.heap.size]) b:=fun b hb=>by
  rcases List.mem_cons.1 hb with e|e
  ·exact .inl e
  ·exact .inr (.inl ⟨_,List.mem_of_getElem? hr,mem_own e⟩)
 refine⟨⟨M,?_,g1.jkeep (h2.below hb) a5 hF,below_chg (h3.trans (hb.mono h3.size)) (Nat.le_trans h3.size hb.size) a5 (fun b hb=>(g1.apM b (hF b hb)).2)⟩,a2,a3,a4⟩
 ·have e:({D with S:=D.S++[newSv W.heap.size],v1:= .slice (some ⟨g,0,none⟩) (D.S.length+1) cap}:PlD).rows=D.rows.set 0 ⟨62,.slice (some ⟨g,0,none⟩) (D.S.length+1) cap,D.S.map (fun s=>ptrV s.b)++[ptrV W.heap.size]⟩:=by
   simp[PlD.rows,newSv]
  rw[e];exact a1
end
end Go.Proofs.YtlonjggfnleolaaGreatDoor
