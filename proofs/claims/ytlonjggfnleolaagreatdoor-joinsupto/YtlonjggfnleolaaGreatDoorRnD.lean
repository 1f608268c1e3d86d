import Derived.Test.YtlonjggfnleolaaGreatDoorRnC
namespace Go.Proofs.YtlonjggfnleolaaGreatDoor
open Go.RowKit Go.Shelf
set_option linter.unusedVariables false
set_option maxHeartbeats 4000000
set_option maxRecDepth 100000
variable {x:QS}{w wr wa:World}{lo n A i j g2 cap2 fc vc:Nat}{v:Value}{xs:List Value}{O:Obj}{row:Option Nat}{fa va:Option Addr}{p:PS}
theorem info4b:∃i,Tryz.prog.info? 4=some i∧i.zero=some (.bool false)∧i.size=1∧i.bytes=1:=by
 have h:(Tryz.prog.info? 4).map (fun i=>(i.zero,i.size,i.bytes))=some (some (.bool false),1,1):=by kernel_rfl
 obtain⟨i,hi,hz⟩:=Option.map_eq_some_iff.1 h;simp only[Prod.mk.injEq]at hz;exact⟨i,hi,hz.1,hz.2.1,hz.2.2⟩
theorem all_an (hn:x.n=0)(hf:x.fa=false)(hr:x.re=false)(hok:∀p∈x.ps,PSOk x.c.kind p):∀p∈x.ps,∃st v,p= .an st v∧(st=0∨st=1)∧v.size≤40:=by
 intro p hp;have h1:p.opn=false:=by
  unfold QS.n at hn;rw[List.countP_eq_zero]at hn;simpa using hn p hp
 have h2:p.bad=false:=by
  unfold QS.fa at hf;rw[List.any_eq_false]at hf;simpa using hf p hp
 have h3:p.ref=false:=by
  unfold QS.re at hr;rw[List.any_eq_false]at hr;simpa using hr p hp
 have h4:=hok p hp;cases p using PS.el with
 |un=>cases h1
 |op o id=>cases h1
 |fl=>cases h2
 |an st v=>
  refine⟨st,v,rfl,?_,h4.2.1⟩;have:=h4.1;simp[PS.ref]at h3;omega
def ComesTo (w w':World)(x:QS)(e:Ending):Prop:=∃fa fn fc va vn vc,e= .returned (ansV x.ak (.slice fa fn fc) (.slice va vn vc) ⟨#[]⟩)∧Below w.heap.size w w'∧(x.c.kind≠1→fa=none∧fn=0∧fc=0∧va=none∧vn=0∧vc=0)∧(x.c.kind=1→BoolsIn w' fa fn fc (x.ps.map PS.yes)∧StrsIn w' va vn vc (x.ps.map PS.val))∧(∀b,(Value.slice fa fn fc).ownBlock=some b→w.heap.size≤b)∧(∀b,(Value.slice va vn vc).ownBlock=some b→w.heap.size≤b)
theorem row_formL {e:TypeId}(h:w.ownsRow lo e 1 v n xs):∃a c,v= .slice a n c:=by
 rcases h.2 with⟨e,h0⟩|⟨g',cap,cur,e,_⟩
 ·exact⟨_,_,by rw[e,h0]⟩
 ·exact⟨_,_,e⟩
structure ComAt (w wr:World)(A j:Nat)(fv vv:Value)(x:QS):Prop where
 bel:Below w.heap.size w wr
 res:wr.heap[w.heap.size]?=some (.cells #[.int .i64 0,.slice none 0 0,.slice none 0 0,.string ⟨#[]⟩] 91 (0,0))
 at_:wr.heap[A]?=some (.cells #[.int .i64 1,fv,vv,.string ⟨#[]⟩] 91 (0,0))
 fr:wr.ownsRow w.heap.size 4 1 fv j ((x.ps.take j).map (fun p=>Value.bool p.yes))
 vr:wr.ownsRow w.heap.size 9 1 vv j ((x.ps.take j).map (fun p=>Value.string p.val))
structure ComMid (w wr:World)(A j:Nat)(fv vv:Value)(x:QS):Prop where
 bel:Below w.heap.size w wr
 res:wr.heap[w.heap.size]?=some (.cells #[.int .i64 0,.slice none 0 0,.slice none 0 0,.string ⟨#[]⟩] 91 (0,0))
 at_:wr.heap[A]?=some (.cells #[.int .i64 1,fv,vv,.string ⟨#[]⟩] 91 (0,0))
 fr:wr.ownsRow w.heap.size 4 1 fv (j+1) ((x.ps.take (j+1)).map (fun p=>Value.bool p.yes))
 vr:wr.ownsRow w.heap.size 9 1 vv j ((x.ps.take j).map (fun p=>Value.string p.val))
theorem row_lo {e:TypeId}(h:w.ownsRow lo e 1 v n xs){g:Nat}(hg:v.ownBlock=some g):lo≤g:=by
 rcases h.2 with⟨e,h0⟩|⟨g',cap,cur,e,h1,_⟩
 ·rw[e]at hg;cases hg
 ·rw[e]at hg;cases hg;exact h1
theorem grown_set (hgrow:(wr.drew.alloc O).grownBy wa row):∀b,b<wr.heap.size→row≠some b→b≠A→(wa.setCell ⟨A,i,none⟩ v).heap[b]?=wr.heap[b]?:=fun b hb h1 h2=>
 (Below.heap_setCell wa ⟨A,i,none⟩ _ b h2).trans ((hgrow.block b (by simp;omega) (fun e=>h1 e.symm)).trans (Below.heap_alloc wr.drew _ _ hb))
theorem grown_bel (h:Below w.heap.size w wr)(hgrow:(wr.drew.alloc O).grownBy wa row)(hr:∀g,row=some g→w.heap.size≤g)(hA:w.heap.size≤A):Below w.heap.size w (wa.setCell ⟨A,i,none⟩ v):=by
 have k0:Chg [] w wr:=Chg.of_below h;have k1:Chg [] w (wr.drew.alloc O):=k0.trans (Chg.of_below (M:=[]) ((Below.refl _ wr).drew.alloc (Nat.le_refl _) O)) (fun b hb=>by cases hb);have k2:=(k1.grown hgrow (fun b e=> .inr (hr b e))).set (p:=⟨A,i,none⟩) (.inr hA) v;exact⟨k2.os,k2.tape,k2.output,k2.size,fun b hb=>k2.block b hb (by simp)⟩
theorem ComAt.mid {vv:Value}(h:ComAt w wr A j (.slice fa j fc) vv x)(hA:A=w.heap.size+1)(hp:x.ps[j]?=some p)(hown:wa.ownsRow w.heap.size 4 1 (.slice (some ⟨g2,0,none⟩) (j+1) cap2) (j+1) ((x.ps.take j).map (fun p=>Value.bool p.yes)++[.bool p.yes]))(hgrow:(wr.drew.alloc O).grownBy wa (Value.slice fa j fc).ownBlock):ComMid w (wa.setCell ⟨A,1,none⟩ (.slice (some ⟨g2,0,none⟩) (j+1) cap2)) A j (.slice (some ⟨g2,0,none⟩) (j+1) cap2) vv x:=by
 subst hA;have kk:=grown_set (A:=w.heap.size+1) (i:=1) (v:= .slice (some ⟨g2,0,none⟩) (j+1) cap2) hgrow;have nr:∀{b T:Nat} {Z:Array Value},wr.heap[b]?=some (.cells Z T (0,0))→T≠4→(Value.slice fa j fc).ownBlock≠some b:=fun hb hT e=>by
  obtain⟨cur,hc⟩:=ownsRow_blk h.fr e;rw[hc]at hb;simp at hb;exact hT hb.2.symm
 have hAw:wa.heap[w.heap.size+1]?=some (.cells #[.int .i64 1,.slice fa j fc,vv,.string ⟨#[]⟩] 91 (0,0)):=(hgrow.block _ (by have:=blkLt h.at_;simp;omega) (fun e=>nr h.at_ (by decide) e.symm)).trans ((Below.heap_alloc wr.drew _ _ (blkLt h.at_)).trans h.at_);refine⟨grown_bel h.bel hgrow (fun g hg=>row_lo h.fr hg) (Nat.le_succ _),(kk _ (blkLt h.res) (nr h.res (by decide)) (by omega)).trans h.res,(blkSet (i:=1) hAw _).trans rfl,?_,ownsRow_other h.vr (fun g hg=>?_)⟩
 ·rw[List.take_add_one,hp,List.map_append];exact ownsRow_other hown (fun g hg=>Below.heap_setCell wa ⟨w.heap.size+1,1,none⟩ _ g (fun e=>by
   obtain⟨cur,hc⟩:=ownsRow_blk hown hg;rw[show g=w.heap.size+1 from e,hAw]at hc;simp at hc))
 ·obtain⟨cur,hc⟩:=ownsRow_blk h.vr hg;exact kk g (blkLt hc) (nr hc (by decide)) (fun e=>by rw[e,h.at_]at hc;simp at hc)
theorem ComMid.next {fv:Value}(h:ComMid w wr A j fv (.slice va j vc) x)(hA:A=w.heap.size+1)(hp:x.ps[j]?=some p)(hown:wa.ownsRow w.heap.size 9 1 (.slice (some ⟨g2,0,none⟩) (j+1) cap2) (j+1) ((x.ps.take j).map (fun p=>Value.string p.val)++[.string p.val]))(hgrow:(wr.drew.alloc O).grownBy wa (Value.slice va j vc).ownBlock):ComAt w (wa.setCell ⟨A,2,none⟩ (.slice (some ⟨g2,0,none⟩) (j+1) cap2)) A (j+1) fv (.slice (some ⟨g2,0,none⟩) (j+1) cap2) x:=by
 subst hA;have kk:=grown_set (A:=w.heap.size+1) (i:=2) (v:= .slice (some ⟨g2,0,none⟩) (j+1) cap2) hgrow;have nr:∀{b T:Nat} {Z:Array Value},wr.heap[b]?=some (.cells Z T (0,0))→T≠9→(Value.slice va j vc).ownBlock≠some b:=fun hb hT e=>by
  obtain⟨cur,hc⟩:=ownsRow_blk h.vr e;rw[hc]at hb;simp at hb;exact hT hb.2.symm
 have hAw:wa.heap[w.heap.size+1]?=some (.cells #[.int .i64 1,fv,.slice va j vc,.string ⟨#[]⟩] 91 (0,0)):=(hgrow.block _ (by have:=blkLt h.at_;simp;omega) (fun e=>nr h.at_ (by decide) e.symm)).trans ((Below.heap_alloc wr.drew _ _ (blkLt h.at_)).trans h.at_);refine⟨grown_bel h.bel hgrow (fun g hg=>row_lo h.vr hg) (Nat.le_succ _),(kk _ (blkLt h.res) (nr h.res (by decide)) (by omega)).trans h.res,(blkSet (i:=2) hAw _).trans rfl,ownsRow_other h.fr (fun g hg=>?_),?_⟩
 ·obtain⟨cur,hc⟩:=ownsRow_blk h.fr hg;exact kk g (blkLt hc) (nr hc (by decide)) (fun e=>by rw[e,h.at_]at hc;simp at hc)
 ·rw[List.take_add_one,hp,List.map_append];exact ownsRow_other hown (fun g hg=>Below.heap_setCell wa ⟨w.heap.size+1,2,none⟩ _ g (fun e=>by
   obtain⟨cur,hc⟩:=ownsRow_blk hown hg;rw[show g=w.heap.size+1 from e,hAw]at hc;simp at hc))
theorem rowsIn (hf:wr.ownsRow lo 4 1 (.slice fa x.ps.length fc) x.ps.length ((x.ps.take x.ps.length).map (fun p=>Value.bool p.yes)))(hv:wr.ownsRow lo 9 1 (.slice va x.ps.length vc) x.ps.length ((x.ps.take x.ps.length).map (fun p=>Value.string p.val)))(hl:x.ps.length≤4)(h40:∀p∈x.ps,p.val.size≤40):BoolsIn wr fa x.ps.length fc (x.ps.map PS.yes)∧StrsIn wr va x.ps.length vc (x.ps.map PS.val):=by
 rw[List.take_length]at hf hv;refine⟨⟨by simp,?_,by simp;omega,?_⟩,⟨by simp,?_,by simp;omega,fun s hs=>?_,?_⟩⟩
 ·rcases hf.2 with⟨e,h0⟩|⟨g,cap,cur,e,_,_,h2,_⟩
  ·rw[h0];exact Nat.zero_le _
  ·cases e;exact h2
 ·rcases hf.2 with⟨e,h0⟩|⟨g,cap,cur,e,_,h1,h2,_,_,h5⟩
  ·obtain⟨rfl,_,rfl⟩:fa=none∧x.ps.length=0∧fc=0:=by simpa using e
   exact .inr ⟨by rw[List.map_eq_nil_iff];exact List.length_eq_zero_iff.1 h0,rfl⟩
  ·cases e;refine .inl ⟨g,0,rfl,blkLt h1,fun i s hs=>?_⟩;have hi:=(List.getElem?_eq_some_iff.1 hs).1;rw[List.length_map]at hi;rw[blkCell h1 (0+i),Nat.zero_add];have h6:(cur.toList.take (x.ps.length*1))[i]?=(x.ps.map (fun p=>Value.bool p.yes))[i]?:=by rw[h5]
   rw[List.getElem?_take_of_lt (by omega),List.getElem?_map]at h6;rw[List.getElem?_map]at hs;cases hp:x.ps[i]?with
   |none=>rw[hp]at hs;cases hs
   |some p=>rw[hp]at hs h6;cases hs;simpa using h6
 ·rcases hv.2 with⟨e,h0⟩|⟨g,cap,cur,e,_,_,h2,_⟩
  ·rw[h0];exact Nat.zero_le _
  ·cases e;exact h2
 ·obtain⟨p,hp,rfl⟩:=List.mem_map.1 hs;have:=h40 p hp;unfold maxLen;omega
 ·rcases hv.2 with⟨e,h0⟩|⟨g,cap,cur,e,_,h1,h2,_,_,h5⟩
  ·obtain⟨rfl,_,rfl⟩:va=none∧x.ps.length=0∧vc=0:=by simpa using e
   exact .inr ⟨by rw[List.map_eq_nil_iff];exact List.length_eq_zero_iff.1 h0,rfl⟩
  ·cases e;refine .inl ⟨g,0,rfl,blkLt h1,fun i s hs=>?_⟩;have hi:=(List.getElem?_eq_some_iff.1 hs).1;rw[List.length_map]at hi;rw[blkCell h1 (0+i),Nat.zero_add];have h6:(cur.toList.take (x.ps.length*1))[i]?=(x.ps.map (fun p=>Value.string p.val))[i]?:=by rw[h5]
   rw[List.getElem?_take_of_lt (by omega),List.getElem?_map]at h6;rw[List.getElem?_map]at hs;cases hp:x.ps[i]?with
   |none=>rw[hp]at hs;cases hs
   |some p=>rw[hp]at hs h6;cases hs;simpa using h6
theorem rcomes1 {v:RQI}(h:RQuAt w v x)(hn:x.n=0)(hf:x.fa=false)(hr:x.re=false)(hok:∀p∈x.ps,PSOk x.c.kind p)(h1:1≤x.ps.length)(h4:x.ps.length≤4)(hk:x.c.kind=1):Calls Tryz.prog 174 #[.pointer (some ⟨v.B,0,none⟩)] w fun e w'=>ComesTo w w' x e:=by
 have hall:=all_an hn hf hr hok;have hB:=h.blk;unfold rwO at hB;obtain⟨pa,pc,hpv⟩:=row_form h.row;have hbl:=h.len;rw[hpv,hk]at hB;have b0:=blkCell hB 0;have b6:=blkCell hB 6;simp at b0 b6;have hBl:=blkLt hB;have HPs:Hid (∀(r:Nat) (p:PS),x.ps[r]?=some p→∃(g b cap o id st:Nat) (vl:ByteArray),Value.slice pa v.bs.length pc= .slice (some ⟨g,0,none⟩) v.bs.length cap∧g<w.heap.size∧w.cell? ⟨g,r,none⟩=some (.pointer (some ⟨b,0,none⟩))∧w.heap[b]?=some (rpO o id 1 st vl)∧p.yes=decide (st=0)∧p.val=vl∧st≤1∧vl.size≤40):=fun r p hp=>by
  have hrl:r<v.bs.length:=by rw[hbl];exact(List.getElem?_eq_some_iff.1 hp).1
  obtain⟨b,hb⟩:∃b,v.bs[r]?=some b:=⟨_,List.getElem?_eq_getElem hrl⟩
  obtain⟨g,cap,e1,e2,e3⟩:=row_at h.row (by simp) (i:=r) (x:=ptrV b) (by rw[List.getElem?_map,hb];rfl);rw[hpv]at e1;obtain⟨st,vl,rfl,hst,hvl⟩:=hall p (List.mem_of_getElem? hp);obtain⟨o,id,hpb⟩:=h.ok r b _ hb hp;exact⟨g,b,cap,o,id,st,vl,e1,e2,e3,hpb,rfl,rfl,by omega,hvl⟩
 obtain⟨p0,hp0⟩:∃p0,x.ps[0]?=some p0:=⟨_,List.getElem?_eq_getElem (by omega)⟩
 obtain⟨g0,bb0,cap0,o0,id0,st0,vl0,ea,eb,ec,ed,ee,ef,eg,eh⟩:=HPs.out 0 p0 hp0;unfold rpO at ed;have q3:=blkCell ed 3;simp at q3;have hql:=blkLt ed;have hak:x.ak=1:=by unfold QS.ak;rw[hf,hr,hk];simp
 have HXL:=hide' hbl;have HOK:=hide' hok;clear h hall hB hpv hp0 ed hn hf hr hok ee ef;cases ea;unfold ComesTo;rw[hak];generalize hnl:v.bs.length=n at*;have HN:=hide' hnl;have hn1:1≤n:=by rw[HXL.out];exact h1
 have hn4:n≤4:=by rw[HXL.out];exact h4
 clear hnl hbl;generalize v.B=B at*;obtain⟨i4,hi1,hi2,hi3,hi4⟩:=info4b;have HI4:=hide' (And.intro hi1 (And.intro hi2 (And.intro hi3 hi4)));obtain⟨i9,hj1,hj2,hj3,hj4⟩:=info9;have HI9:=hide' (And.intro hj1 (And.intro hj2 (And.intro hj3 hj4)));clear hi1 hi2 hi3 hi4 hj1 hj2 hj3 hj4;have hBn:¬B=w.heap.size:=by omega
 have hBn2:¬B=w.heap.size+1:=by omega
 have hgn:¬g0=w.heap.size:=by omega
 have hbn:¬bb0=w.heap.size:=by omega
 have hBl1:B<w.heap.size+1:=by omega
 have hn0:(0:Int)<(n:Int):=by omega
 go_enter Tryz.func174,Tryz.ntmps174;go_wp2_with fail
 have HC0:Hid (ComAt w ((w.alloc (.cells #[.int .i64 0,.slice none 0 0,.slice none 0 0,.string ⟨#[]⟩] 91)).alloc (.cells #[.int .i64 1,.slice none 0 0,.slice none 0 0,.string ⟨#[]⟩] 91)) (w.heap.size+1) 0 (.slice none 0 0) (.slice none 0 0) x):=⟨((Below.refl _ _).alloc (Nat.le_refl _) _).alloc (by simp) _,hs_alloc (blkNew w _) _,hs_new (by simp),World.ownsRow_nil _ _ _ _,World.ownsRow_nil _ _ _ _⟩
 generalize (w.alloc (.cells #[.int .i64 0,.slice none 0 0,.slice none 0 0,.string ⟨#[]⟩] 91)).alloc (.cells #[.int .i64 1,.slice none 0 0,.slice none 0 0,.string ⟨#[]⟩] 91)=w2 at*;go_loopw [5] (fun i wr=>∃(j:Nat) (fv vv:Value),j≤n∧i= .int .i64 (j:Int)∧Hid (ComAt w wr (w.heap.size+1) j fv vv x)) (fun i _=>n-(intOf i).toNat)
 case atStart=>exact⟨0,_,_,Nat.zero_le _,rfl,HC0⟩
 case round=>
  obtain⟨j,fv,vv,hj,rfl,HJ⟩:=hrel;obtain⟨fa,fc,rfl⟩:=row_formL HJ.out.fr;obtain⟨va,vc,rfl⟩:=row_formL HJ.out.vr;have lB:=Nat.lt_of_lt_of_le hBl HJ.out.bel.size;have c6:=(HJ.out.bel.cell (p:=⟨B,6,none⟩) hBl).trans b6;have a1:=blkCell HJ.out.at_ 1;have a2:=blkCell HJ.out.at_ 2;have af:=blkFree HJ.out.at_;have lA:=blkLt HJ.out.at_;simp at a1 a2;by_cases hlt:j<n
  ·have hlt':(j:Int)<(n:Int):=by omega
   obtain⟨p,hp⟩:∃p,x.ps[j]?=some p:=⟨_,List.getElem?_eq_getElem (by rw[←HXL.out];exact hlt)⟩
   obtain⟨g,b,cap,o,id,st,vl,e1,e2,e3,e4,e5,e6,e7,e8⟩:=HPs.out j p hp;cases e1;unfold rpO at e4;have k3:=blkCell e4 3;have k4:=blkCell e4 4;simp at k3 k4;have lb:=blkLt e4;have d1:=(HJ.out.bel.cell (p:=⟨g0,j,none⟩) e2).trans e3;have d3:=(HJ.out.bel.cell (p:=⟨b,3,none⟩) lb).trans k3;have d4:=(HJ.out.bel.cell (p:=⟨b,4,none⟩) lb).trans k4;have lg:=Nat.lt_of_lt_of_le e2 HJ.out.bel.size;have lb2:=Nat.lt_of_lt_of_le lb HJ.out.bel.size;have HP:=hide' (And.intro hp (And.intro e5 e6));clear e3 e4 k3 k4 hp e5 e6;have HOF:Hid (∀W,Below wr.heap.size wr W→W.ownsRow w.heap.size 4 1 (.slice fa j fc) j ((x.ps.take j).map (fun p=>Value.bool p.yes))):=fun W hW=>ownsRow_other HJ.out.fr (fun g hg=>by obtain⟨cur,hc⟩:=ownsRow_blk HJ.out.fr hg;exact hW.block g (blkLt hc))
   have hAF:(Value.slice fa j fc).ownBlock≠some (w.heap.size+1):=fun e=>by
    obtain⟨cur,hc⟩:=ownsRow_blk HJ.out.fr e;rw[HJ.out.at_]at hc;simp at hc
   go_upto_region 12 with fail
   go_cut [5] (fun s5 W=>s5= .int .i64 (j:Int)∧∃fv',ComMid w W (w.heap.size+1) j fv' (.slice va j vc) x)
   case first=>
    go_region_law (first
     |(refine step_append_lies _ (by rfl) _ _ _ (by rfl) w.heap.size 4 i4 (.bool false) 1 1 Tryz.underlying89 HI4.out.1 HI4.out.2.1 HI4.out.2.2.1 HI4.out.2.2.2 (by rfl) (by omega) (.slice fa j fc) j ((x.ps.take j).map (fun p=>Value.bool p.yes)) (by rfl) (HOF.out _ (by repeat(first|with_reducible exact Below.refl _ _|with_reducible refine Below.drew ?_|with_reducible refine Below.alloc ?_ (by simp;try omega) _))) ⟨wr.heap.size,0,none⟩ 1 1 [Value.bool ((st:Int)==0)] (by rfl) (by rfl) (World.news_of_block (cs:=#[.bool ((st:Int)==0)]) (blkNew wr.drew _)) (fun u hu=>by simp at hu;subst hu;rfl) (by omega) (by unfold maxLen;omega) (by omega) (by simp;have:=HJ.out.bel.size;omega) _ rfl ?_;intro g2 cap2 wa hown hgrow hat hlt3;have hcA:wa.cell? ⟨w.heap.size+1,1,none⟩=some (.slice fa j fc):=(hgrow.cell_far ⟨w.heap.size+1,1,none⟩ (by simp;omega) (fun e=>hAF e.symm)).trans ((World.cell?_of_block (w:=wr.drew) (Below.heap_alloc wr.drew _ _ lA)).trans a1);have hfA:wa.frozen? ⟨w.heap.size+1,1,none⟩=false:=(hgrow.frozen_far ⟨w.heap.size+1,1,none⟩ (by simp;omega) (fun e=>hAF e.symm)).trans ((World.frozen?_of_block (w:=wr.drew) (Below.heap_alloc wr.drew _ _ lA)).trans (af 1));have HG:=hide' (And.intro hown (And.intro hgrow hat));clear hown hgrow hat)
     |fail)
    all_goals
     have hyes:((st:Int)==0)=p.yes:=by
      rw[HP.out.2.1];cases st with
      |zero=>rfl
      |succ k=>simp;omega
     rw[hyes]at HG
     have HM:=hide' (HJ.out.mid rfl HP.out.1 HG.out.1 HG.out.2.1)
     clear hcA hfA HG
     generalize wa.setCell ⟨w.heap.size+1,1,none⟩ (.slice (some ⟨g2,0,none⟩) (j+1) cap2)=wf at*
     go_wp2_with fail
     go_meet
     case rel=>exact⟨rfl,_,HM.out⟩
   case rest=>
    obtain⟨rfl,fv',hM⟩:=hcut;have HM:=hide' hM;clear hM;clear a1 a2 af lA c6 d1 d3 d4 lg lb2 lB hAF HOF;obtain⟨fa2,fc2,rfl⟩:=row_formL HM.out.fr;have lB:=Nat.lt_of_lt_of_le hBl HM.out.bel.size;have c6:=(HM.out.bel.cell (p:=⟨B,6,none⟩) hBl).trans b6;have a2:=blkCell HM.out.at_ 2;have af:=blkFree HM.out.at_;have lA:=blkLt HM.out.at_;simp at a2;obtain⟨_,b',_,_,_,st',vl',e1,e2',e3,e4,e5,e6,e7',e8'⟩:=HPs.out j p HP.out.1;cases e1;unfold rpO at e4;have k4:=blkCell e4 4;simp at k4;have lb:=blkLt e4;have d1:=(HM.out.bel.cell (p:=⟨g0,j,none⟩) e2).trans e3;have d4:=(HM.out.bel.cell (p:=⟨b',4,none⟩) lb).trans k4;have lg:=Nat.lt_of_lt_of_le e2 HM.out.bel.size;have lb2:=Nat.lt_of_lt_of_le lb HM.out.bel.size;have HV:=hide' e6
    clear e3 e4 k4 e5 e6;have HOV:Hid (∀W,Below wc.heap.size wc W→W.ownsRow w.heap.size 9 1 (.slice va j vc) j ((x.ps.take j).map (fun p=>Value.string p.val))):=fun W hW=>ownsRow_other HM.out.vr (fun g hg=>by obtain⟨cur,hc⟩:=ownsRow_blk HM.out.vr hg;exact hW.block g (blkLt hc))
    have hAV:(Value.slice va j vc).ownBlock≠some (w.heap.size+1):=fun e=>by
     obtain⟨cur,hc⟩:=ownsRow_blk HM.out.vr e;rw[HM.out.at_]at hc;simp at hc
    go_upto_region 13 with fail
    go_region_law (first
     |(refine step_append_lies _ (by rfl) _ _ _ (by rfl) w.heap.size 9 i9 (.string ⟨#[]⟩) 1 16 Tryz.underlying34 HI9.out.1 HI9.out.2.1 HI9.out.2.2.1 HI9.out.2.2.2 (by rfl) (by omega) (.slice va j vc) j ((x.ps.take j).map (fun p=>Value.string p.val)) (by rfl) (HOV.out _ (by repeat(first|with_reducible exact Below.refl _ _|with_reducible refine Below.drew ?_|with_reducible refine Below.alloc ?_ (by simp;try omega) _))) ⟨wc.heap.size,0,none⟩ 1 1 [Value.string vl'] (by rfl) (by rfl) (World.news_of_block (cs:=#[.string vl']) (blkNew wc.drew _)) (fun u hu=>by simp at hu;subst hu;rfl) (by omega) (by unfold maxLen;omega) (by omega) (by simp;have:=HM.out.bel.size;omega) _ rfl ?_;intro g2 cap2 wa hown hgrow hat hlt3;have hcA:wa.cell? ⟨w.heap.size+1,2,none⟩=some (.slice va j vc):=(hgrow.cell_far ⟨w.heap.size+1,2,none⟩ (by simp;omega) (fun e=>hAV e.symm)).trans ((World.cell?_of_block (w:=wc.drew) (Below.heap_alloc wc.drew _ _ lA)).trans a2);have hfA:wa.frozen? ⟨w.heap.size+1,2,none⟩=false:=(hgrow.frozen_far ⟨w.heap.size+1,2,none⟩ (by simp;omega) (fun e=>hAV e.symm)).trans ((World.frozen?_of_block (w:=wc.drew) (Below.heap_alloc wc.drew _ _ lA)).trans (af 2));have HG:=hide' (And.intro hown (And.intro hgrow hat));clear hown hgrow hat)
     |fail)
    all_goals
     rw[←HV.out]at HG
     have HM2:=hide' (HM.out.next rfl HP.out.1 HG.out.1 HG.out.2.1)
     clear hcA hfA HG
     generalize wa.setCell ⟨w.heap.size+1,2,none⟩ (.slice (some ⟨g2,0,none⟩) (j+1) cap2)=wf at*
     go_wp2
     go_roundw
     case rel=>exact⟨j+1,_,_,by omega,by go_num,HM2⟩
     case measure=>simp[intOf];omega
  ·have hjn:j=n:=by omega
   subst hjn;have a0:=blkCell HJ.out.at_ 0;have a3:=blkCell HJ.out.at_ 3;have r0:=blkCell HJ.out.res 0;have r1:=blkCell HJ.out.res 1;have r2:=blkCell HJ.out.res 2;have r3:=blkCell HJ.out.res 3;have rf:=blkFree HJ.out.res;have lR:=blkLt HJ.out.res;simp at a0 a3 r0 r1 r2 r3;have HF:Hid (∀u0 u1 u2 u3,∃fa' fn' fc' va' vn' vc',Ending.returned (ansV 1 (.slice fa j fc) (.slice va j vc) ⟨#[]⟩)= .returned (ansV 1 (.slice fa' fn' fc') (.slice va' vn' vc') ⟨#[]⟩)∧Below w.heap.size w ((((wr.setCell ⟨w.heap.size,0,none⟩ u0).setCell ⟨w.heap.size,1,none⟩ u1).setCell ⟨w.heap.size,2,none⟩ u2).setCell ⟨w.heap.size,3,none⟩ u3)∧(x.c.kind≠1→fa'=none∧fn'=0∧fc'=0∧va'=none∧vn'=0∧vc'=0)∧(x.c.kind=1→BoolsIn ((((wr.setCell ⟨w.heap.size,0,none⟩ u0).setCell ⟨w.heap.size,1,none⟩ u1).setCell ⟨w.heap.size,2,none⟩ u2).setCell ⟨w.heap.size,3,none⟩ u3) fa' fn' fc' (x.ps.map PS.yes)∧StrsIn ((((wr.setCell ⟨w.heap.size,0,none⟩ u0).setCell ⟨w.heap.size,1,none⟩ u1).setCell ⟨w.heap.size,2,none⟩ u2).setCell ⟨w.heap.size,3,none⟩ u3) va' vn' vc' (x.ps.map PS.val))∧(∀b,(Value.slice fa' fn' fc').ownBlock=some b→w.heap.size≤b)∧(∀b,(Value.slice va' vn' vc').ownBlock=some b→w.heap.size≤b)):=fun u0 u1 u2 u3=>by
    have e:=HXL.out;have h0:=HJ.out;rw[e]at h0⊢;have kb:Below w.heap.size w ((((wr.setCell ⟨w.heap.size,0,none⟩ u0).setCell ⟨w.heap.size,1,none⟩ u1).setCell ⟨w.heap.size,2,none⟩ u2).setCell ⟨w.heap.size,3,none⟩ u3):=(((h0.bel.setCell (Nat.le_refl _) _).setCell (Nat.le_refl _) _).setCell (Nat.le_refl _) _).setCell (Nat.le_refl _) _;have kk:∀b,b≠w.heap.size→((((wr.setCell ⟨w.heap.size,0,none⟩ u0).setCell ⟨w.heap.size,1,none⟩ u1).setCell ⟨w.heap.size,2,none⟩ u2).setCell ⟨w.heap.size,3,none⟩ u3).heap[b]?=wr.heap[b]?:=fun b hb=>by
     rw[Below.heap_setCell _ ⟨w.heap.size,3,none⟩ _ b hb,Below.heap_setCell _ ⟨w.heap.size,2,none⟩ _ b hb,Below.heap_setCell _ ⟨w.heap.size,1,none⟩ _ b hb,Below.heap_setCell _ ⟨w.heap.size,0,none⟩ _ b hb]
    have nr:∀{T:Nat} {Z:Array Value} {b:Nat},wr.heap[b]?=some (.cells Z T (0,0))→T≠91→b≠w.heap.size:=fun hb hT e=>by
     rw[e,h0.res]at hb;simp at hb;exact hT hb.2.symm
    have hf:(((((wr.setCell ⟨w.heap.size,0,none⟩ u0).setCell ⟨w.heap.size,1,none⟩ u1).setCell ⟨w.heap.size,2,none⟩ u2).setCell ⟨w.heap.size,3,none⟩ u3)).ownsRow w.heap.size 4 1 (.slice fa x.ps.length fc) x.ps.length ((x.ps.take x.ps.length).map (fun p=>Value.bool p.yes)):=ownsRow_other h0.fr (fun g hg=>by obtain⟨cur,hc⟩:=ownsRow_blk h0.fr hg;exact kk g (nr hc (by decide)));have hv:(((((wr.setCell ⟨w.heap.size,0,none⟩ u0).setCell ⟨w.heap.size,1,none⟩ u1).setCell ⟨w.heap.size,2,none⟩ u2).setCell ⟨w.heap.size,3,none⟩ u3)).ownsRow w.heap.size 9 1 (.slice va x.ps.length vc) x.ps.length ((x.ps.take x.ps.length).map (fun p=>Value.string p.val)):=ownsRow_other h0.vr (fun g hg=>by obtain⟨cur,hc⟩:=ownsRow_blk h0.vr hg;exact kk g (nr hc (by decide)))
    have hl:=rowsIn hf hv h4 (fun p hp=>val_size (HOK.out p hp));exact⟨_,_,_,_,_,_,rfl,kb,fun hne=>absurd hk hne,fun _=>hl,fun b hb=>row_lo hf hb,fun b hb=>row_lo hv hb⟩
   clear HJ;go_wp2;refine bodyPost_ret (v:=ansV 1 (.slice fa j fc) (.slice va j vc) ⟨#[]⟩) (by simp[results,Tryz.results174,go_sem,ansV,r0,r1,r2,r3]) rfl (HF.out _ _ _ _)
end Go.Proofs.YtlonjggfnleolaaGreatDoor
