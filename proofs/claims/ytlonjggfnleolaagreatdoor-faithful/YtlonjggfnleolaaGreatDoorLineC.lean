import Derived.Test.YtlonjggfnleolaaGreatDoorLineB
namespace Go.Proofs.YtlonjggfnleolaaGreatDoor
open Go.RowKit
set_option linter.unusedVariables false
set_option maxHeartbeats 4000000
set_option maxRecDepth 20000
variable {w w1 wa:World}{g m cap:Nat}{k:Int}{ks:List ByteArray}
theorem own_keep {w':World}{base:Nat}{xs:List Value}(h:w.ownsRow base 9 1 (.slice (some ⟨g,0,none⟩) m cap) m xs)(hb:w'.heap[g]?=w.heap[g]?):w'.ownsRow base 9 1 (.slice (some ⟨g,0,none⟩) m cap) m xs:=by
 obtain⟨h1,h|⟨g',cap',cur,e,h2,h3,h4⟩⟩:=h
 ·cases h.1
 ·cases e;exact⟨h1,.inr ⟨g,cap,cur,rfl,h2,hb.trans h3,h4⟩⟩
theorem lineC_new {W:World}{C:Nat}(hRb:w1.heap[w.heap.size]?=some (.cells #[.int .i64 0,.slice none 0 0,.string ⟨#[]⟩,.string ⟨#[]⟩,.bool false,.int .i64 0,.int .i64 0,.bool false] 255 (0,0)))(hbel:Below w.heap.size w w1)(h1:Below w1.heap.size w1 W)(hm:ks.length=m)(hm1:0<m)(hown:W.ownsRow w1.heap.size 9 1 (.slice (some ⟨g,0,none⟩) m cap) m (ks.map Value.string))(hC:W.heap[C]?=some (.cells #[.int .i64 k,.slice (some ⟨g,0,none⟩) m cap,.string ⟨#[]⟩,.string ⟨#[]⟩,.bool false,.int .i64 0] 36 (0,0)))(hCl:w1.heap.size≤C):LineC w W C k (.slice (some ⟨g,0,none⟩) m cap) ks:=by
 obtain⟨hT,hg⟩:=owns_texts hm hm1 hown;have l1:=blkLt hRb;refine⟨hC,(h1.block _ l1).trans hRb,by omega,.inr ⟨g,cap,by rw[hm],by omega,hT⟩,hbel.trans (h1.mono hbel.size)⟩
theorem lineC_a (hRb:w1.heap[w.heap.size]?=some (.cells #[.int .i64 0,.slice none 0 0,.string ⟨#[]⟩,.string ⟨#[]⟩,.bool false,.int .i64 0,.int .i64 0,.bool false] 255 (0,0)))(hbel:Below w.heap.size w w1)(h1:Below w1.heap.size w1 wa)(hm:ks.length=m)(hm1:0<m)(hlt:g<wa.heap.size)(hown:wa.ownsRow w1.heap.size 9 1 (.slice (some ⟨g,0,none⟩) (0+m) cap) (0+m) ([]++ks.map Value.string)):LineC w (wa.alloc (.cells #[.int .i64 k,.slice (some ⟨g,0,none⟩) m cap,.string ⟨#[]⟩,.string ⟨#[]⟩,.bool false,.int .i64 0] 36)) wa.heap.size k (.slice (some ⟨g,0,none⟩) m cap) ks:=by
 rw[Nat.zero_add,List.nil_append]at hown;exact lineC_new hRb hbel (h1.alloc h1.size _) hm hm1 (own_keep hown (Below.heap_alloc _ _ _ hlt)) (blkNew _ _) h1.size
theorem lineC_b (hRb:w1.heap[w.heap.size]?=some (.cells #[.int .i64 0,.slice none 0 0,.string ⟨#[]⟩,.string ⟨#[]⟩,.bool false,.int .i64 0,.int .i64 0,.bool false] 255 (0,0)))(hbel:Below w.heap.size w w1)(h1:Below (w1.alloc (.cells #[.int .i64 0,.slice none 0 0,.string ⟨#[]⟩,.string ⟨#[]⟩,.bool false,.int .i64 0] 36)).heap.size (w1.alloc (.cells #[.int .i64 0,.slice none 0 0,.string ⟨#[]⟩,.string ⟨#[]⟩,.bool false,.int .i64 0] 36)) wa)(hm:ks.length=m)(hm1:0<m)(hg:g=w1.heap.size+1)(hown:wa.ownsRow w1.heap.size 9 1 (.slice (some ⟨g,0,none⟩) (0+m) cap) (0+m) ([]++ks.map Value.string)):LineC w ((((((wa.setCell ⟨w1.heap.size,0,none⟩ (.int .i64 k)).setCell ⟨w1.heap.size,1,none⟩ (.slice (some ⟨g,0,none⟩) m cap)).setCell ⟨w1.heap.size,2,none⟩ (.string ⟨#[]⟩)).setCell ⟨w1.heap.size,3,none⟩ (.string ⟨#[]⟩)).setCell ⟨w1.heap.size,4,none⟩ (.bool false)).setCell ⟨w1.heap.size,5,none⟩ (.int .i64 0)) w1.heap.size k (.slice (some ⟨g,0,none⟩) m cap) ks:=by
 rw[Nat.zero_add,List.nil_append]at hown;have hne:g≠w1.heap.size:=by omega
 have hC:=(h1.block w1.heap.size (by simp)).trans (blkNew w1 _);have h2:Below w1.heap.size w1 wa:=((Below.refl _ _).alloc (Nat.le_refl _) _).trans (h1.mono (by simp));have hs:=blkSet (i:=5) (blkSet (i:=4) (blkSet (i:=3) (blkSet (i:=2) (blkSet (i:=1) (blkSet (i:=0) hC (.int .i64 k)) (.slice (some ⟨g,0,none⟩) m cap)) (.string ⟨#[]⟩)) (.string ⟨#[]⟩)) (.bool false)) (.int .i64 0);refine lineC_new hRb hbel (((((((h2.setCell (p:=⟨w1.heap.size,0,none⟩) (Nat.le_refl _) _).setCell (p:=⟨w1.heap.size,1,none⟩) (Nat.le_refl _) _).setCell (p:=⟨w1.heap.size,2,none⟩) (Nat.le_refl _) _).setCell (p:=⟨w1.heap.size,3,none⟩) (Nat.le_refl _) _).setCell (p:=⟨w1.heap.size,4,none⟩) (Nat.le_refl _) _).setCell (p:=⟨w1.heap.size,5,none⟩) (Nat.le_refl _) _)) hm hm1 (own_keep hown ?_) (hs.trans rfl) (Nat.le_refl _)
 rw[Below.heap_setCell _ ⟨w1.heap.size,5,none⟩ _ _ hne,Below.heap_setCell _ ⟨w1.heap.size,4,none⟩ _ _ hne,Below.heap_setCell _ ⟨w1.heap.size,3,none⟩ _ _ hne,Below.heap_setCell _ ⟨w1.heap.size,2,none⟩ _ _ hne,Below.heap_setCell _ ⟨w1.heap.size,1,none⟩ _ _ hne,Below.heap_setCell _ ⟨w1.heap.size,0,none⟩ _ _ hne]
theorem readLine_cmd (g o n c:Nat)(bs:List UInt8)(w:World)(e m:Nat)(x:ByteArray)(ks:List ByteArray)(RES:StepR)(hB:BytesIn w g o n c bs)(he:e<n)(h60:e≤60)(hws:wordsOf (bs.take e)=x::ks)(hsz:setSizeR (x::ks)=none)(hm:ks.length=m)(hm1:1≤m)(hRES:RES=if kindB x=2∨cmdB (kindB x) ks noB=false then⟨wrongC formB false,e+1,false⟩else⟨⟨kindB x,ks,noB,noB,false,0⟩,e+1,false⟩):Calls Tryz.prog 216 #[.slice (some ⟨g,o,none⟩) n c,.int .i64 (e:Int)] w fun r w'=>StepOut w w' (some RES) r∧Below w.heap.size w w':=by
 have hl:=hB.len;have hsm:=hB.small;have hcap:=hB.cap;have hlt:=hB.lt;have hb0:=bytes0 bs e (by omega);have HS:=hide' (fun W=>split_any (bytesOf bs 0 e) W (by show((bs.drop 0).take e).toArray.size<4294967281;simp;omega));have hcv:=conv_by (w.alloc (.cells #[.int .i64 0,.slice none 0 0,.string ⟨#[]⟩,.string ⟨#[]⟩,.bool false,.int .i64 0,.int .i64 0,.bool false] 255)) g o n c 0 e c bs (hB.later ((Below.refl _ _).alloc (Nat.le_refl _) _)) (by omega);rw[Nat.add_zero]at hcv;rw[hb0,hws]at HS;have hss:∀s∈x::ks,s.size≤60:=by
  rw[←hws];intro s hs;obtain⟨x,hx,rfl⟩:=List.mem_map.1 hs;have:=splitL_sizes _ x hx;show x.toArray.size≤60;simp at this⊢;omega
 have hm60:m≤60:=by
  have h1:(wordsOf (bs.take e)).length=m+1:=by rw[hws,List.length_cons,hm]
  have h2:(wordsOf (bs.take e)).length≤e+1:=by
   unfold wordsOf;rw[List.length_map];have:=splitL_len (bs.take e);simp at this;omega
  omega
 have hll:(x::ks).length=m+1:=by rw[List.length_cons,hm]
 rw[hll]at HS;have HB:=hide' hB;have hy:(60:Nat)≤maxLen:=by unfold maxLen;omega
 have hss':∀s∈x::ks,s.size≤maxLen:=fun s hs=>Nat.le_trans (hss s hs) hy
 have HSS':=hide' hss';have HSZ:=hide' hsz;have HM:=hide' (And.intro hm hll);clear hB hb0 hl hws hss hss' hsz hm hll;generalize bytesOf bs 0 e=line at*;have hec:e≤c:=by omega
 have hec':(e:Int)≤(c:Int):=by omega
 have hRE:=hRES;have HRES:=hide' hRES;clear hRES hRE;obtain⟨i9,hi,hz0,hz1,hz2⟩:=info9;have HI:=hide' (And.intro hi (And.intro hz0 (And.intro hz1 hz2)));clear hi hz0 hz1 hz2;have HO:Hid (∀u∈ks.map Value.string,u.oneCell'=true):=fun u hu=>by
  obtain⟨s,_,rfl⟩:=List.mem_map.1 hu;rfl
 go_enter Tryz.func216,Tryz.ntmps216;go_wp2_with fail
 go_at_call 221;refine(HS.out _).mono ?_;rintro r w1 ⟨rfl,hw1⟩;have hblk:w1.heap[w.heap.size+1]?=some (.cells ((x::ks).map Value.string).toArray 9 (0,0)):=by
  rw[hw1];have:=blkNew (w.alloc (.cells #[.int .i64 0,.slice none 0 0,.string ⟨#[]⟩,.string ⟨#[]⟩,.bool false,.int .i64 0,.int .i64 0,.bool false] 255)) (.cells ((x::ks).map Value.string).toArray 9);rw[World.size_alloc]at this;exact this
 have hRb:w1.heap[w.heap.size]?=some (.cells #[.int .i64 0,.slice none 0 0,.string ⟨#[]⟩,.string ⟨#[]⟩,.bool false,.int .i64 0,.int .i64 0,.bool false] 255 (0,0)):=by
  rw[hw1];exact(Below.heap_alloc _ _ _ (by simp)).trans (blkNew w _)
 have hbel:Below w.heap.size w w1:=by rw[hw1];exact((Below.refl _ _).alloc (Nat.le_refl _) _).alloc (by simp) _
 have hblt:=blkLt hblk;have hcell:∀(i:Nat) (s:ByteArray),(x::ks)[i]?=some s→w1.cell? ⟨w.heap.size+1,0+i,none⟩=some (.string s):=fun i s hs=>by
  rw[Nat.zero_add,blkCell hblk i,List.getElem?_toArray,List.getElem?_map,hs];rfl
 have HSS:=hide' (setSize_any (x::ks) (w.heap.size+1) 0 (m+1) w1 hcell hblt (by rw[HM.out.2];omega) (by rw[HM.out.2];unfold maxLen;omega) HSS'.out);rw[HM.out.2,HSZ.out]at HSS;have cx:w1.cell? ⟨w.heap.size+1,0,none⟩=some (.string x):=hcell 0 x rfl;have HN:Hid (∀W,Below w1.heap.size w1 W→∀(j:Nat) (v:Value),(ks.map Value.string)[j]?=some v→W.cell? ((⟨w.heap.size+1,1,none⟩:Addr).add j)=some v):=fun W hW j v hv=>by
  have hadd:(⟨w.heap.size+1,1,none⟩:Addr).add j=⟨w.heap.size+1,1+j,none⟩:=by unfold Addr.add;split<;>simp_all
  rw[List.getElem?_map]at hv;cases hj:ks[j]?with
  |none=>rw[hj]at hv;cases hv
  |some s=>
   rw[hj]at hv;cases hv;rw[hadd];have:=hcell (j+1) s (by simpa using hj);rw[Nat.zero_add,Nat.add_comm j 1]at this;exact(hW.cell (p:=⟨w.heap.size+1,1+j,none⟩) hblt).trans this
 have HK:=hide' (And.intro hRb hbel);clear hw1 hblk hRb hbel hcv hcell;generalize hgk:kindB x=k at*;have HX:=hide' (show∀W:World,Calls Tryz.prog 224 #[.string x] W fun e w'=>e= .returned (.int .i64 k)∧w'=W from fun W=>by rw[←hgk];exact kindOf_any x W);clear hgk;have m1:¬m+1=1:=by omega
 have m2:(1:Int)≤(m:Int)+1:=by omega
 have m3:(0:Int)<(m:Int)+1:=by omega
 go_wp2_with (first
  |(go_at_call 222;refine HSS.out.mono ?_;rintro r w' ⟨rfl,hw'⟩;subst hw';unfold cntV;dsimp only[Option.getD_none,Option.isSome_none])
  |fail)
 clear HSS HS;have ne1:¬w.heap.size+1=w'.heap.size:=by omega
 have ne2:¬w'.heap.size=w.heap.size+1:=by omega
 go_cut [8]from 28 (fun s8 W=>∃C g cap,s8= .pointer (some ⟨C,0,none⟩)∧LineC w W C k (.slice (some ⟨g,0,none⟩) m cap) ks)
 case first=>
  go_region_held3 (fun W=>W.cell? ⟨w.heap.size+1,0,none⟩=some (.string x)) (go_keep)
   (first
    |(go_at_call 224;refine(HX.out _).mono ?_;rintro r w2 ⟨rfl,hw2⟩;subst hw2)
    |(refine step_append_lies _ (by rfl) _ _ _ (by rfl) w'.heap.size 9 i9 (.string ⟨#[]⟩) 1 16 Tryz.underlying34 HI.out.1 HI.out.2.1 HI.out.2.2.1 HI.out.2.2.2 (by rfl) (by omega) (.slice none 0 0) 0 [] (by rfl) (World.ownsRow_nil _ _ _ _) ⟨w.heap.size+1,1,none⟩ m m (ks.map Value.string) (by rfl) (by rw[List.length_map,HM.out.1];omega) (HN.out _ (by repeat(first|with_reducible exact Below.refl _ _|with_reducible refine Below.drew ?_|with_reducible refine below_drewN ?_ _|with_reducible refine Below.alloc ?_ (by simp;try omega) _|with_reducible refine Below.setCell ?_ (by simp;try omega) _))) HO.out (by omega) (by unfold maxLen;omega) (by omega) (by simp;try omega) _ rfl ?_;intro gg cap wa hown hgrow hat hlt3;have hS:=hgrow.cell_far ⟨w.heap.size+1,0,none⟩ (by simp;try omega) (by simp[Value.ownBlock]);have HF:=hide' (And.intro hown (And.intro (grown_below hgrow) hat));have hsza:=(grown_below hgrow).size;obtain⟨hcA,hfA⟩:=bcell2 (grown_below hgrow);clear hown hgrow hat))
  all_goals go_wp2_with fail
  ·go_meet
   case rel=>exact⟨_,gg,cap,rfl,lineC_a HK.out.1 HK.out.2 ⟨HF.out.2.1.os,HF.out.2.1.tape,HF.out.2.1.output,HF.out.2.1.size,HF.out.2.1.block⟩ HM.out.1 (by omega) hlt3 HF.out.1⟩
  all_goals
   go_meet
   case rel=>
    refine⟨_,gg,cap,rfl,lineC_b HK.out.1 HK.out.2 ⟨HF.out.2.1.os,HF.out.2.1.tape,HF.out.2.1.output,HF.out.2.1.size,HF.out.2.1.block⟩ HM.out.1 (by omega) ?_ HF.out.1⟩;rcases HF.out.2.2 with h|h
    ·cases h
    ·simpa using h
 case rest=>
  obtain⟨C,gg,cap,rfl,L⟩:=hcut;have hkv:=L.key;have HL:=hide' L;obtain⟨⟨r0,r1,r2,r3,r4,r5,r6,r7⟩,rf⟩:=zcells_of L.hR;obtain⟨⟨k0,k1,k2,k3,k4,k5⟩,kf⟩:=ccells_of L.hC;have hz1:=blkLt L.hR;have hzC:=blkLt L.hC;have hTx:TextsAt wc gg cap ks∧w.heap.size<gg:=by
   rcases hkv with⟨h,_⟩|⟨b,c',h,hlt,hT⟩
   ·cases h
   ·cases h;exact⟨hT,hlt⟩
  have hS:=texts_strs hTx.1 (by rw[HM.out.1];omega) (fun s hs=>HSS'.out s (by simp[hs]));rw[HM.out.1]at hS;have HCM:=hide' (cmd_any k _ ks ⟨#[]⟩ ⟨#[]⟩ false 0 wc hS (by decide));have HTx:=hide' hTx;clear L hkv hTx hS HK HN HO HI HX;unfold cmdV6 at HCM;by_cases hk2:k=2
  ·subst hk2;have hr:RES=⟨wrongC formB false,e+1,false⟩:=by rw[HRES.out,if_pos (.inl rfl)]
   subst hr;clear HRES HCM;go_wp2_with fail
   go_at_call 218;refine(wrong_any _ _ _).mono ?_;rintro r w4 ⟨rfl,hb4⟩;have hR4:=(hb4.block _ hz1).trans HL.out.hR;have H4:=hide' (HL.out.bel.trans (hb4.mono HL.out.bel.size));obtain⟨⟨s0,s1,s2,s3,s4,s5,s6,s7⟩,sf⟩:=zcells_of hR4;clear hb4 hR4 r0 r1 r2 r3 r4 r5 r6 r7 rf k0 k1 k2 k3 k4 k5 kf;unfold stepV;go_wp2;refine bodyPost_ret (v:=stepV 4 (.slice none 0 0) ⟨#[]⟩ formB false 0 (e+1:Nat) false) (by simp[results,Tryz.results216,go_sem,stepV,formB,s0,s1,s2,s3,s4,s5,s6,s7]) rfl ⟨⟨_,rfl,.inl ⟨rfl,rfl⟩⟩,?_⟩;exact set8 H4.out (Nat.le_refl _) _ _ _ _ _ _ _ _
  ·have hk2':(k==2)=false:=by simpa using hk2
   have hcb:Hid (cmdB k ks noB=cmdB k ks ⟨#[]⟩):=(show _=_ from rfl)
   cases hcm:cmdB k ks ⟨#[]⟩with
   |false=>
    have hr:RES=⟨wrongC formB false,e+1,false⟩:=by rw[HRES.out,if_pos (.inr (by rw[hcb.out];exact hcm))]
    subst hr;rw[hcm]at HCM;clear HRES hk2 hcb;go_wp2_with fail
    go_at_call 48;refine HCM.out.mono ?_;rintro r w3 ⟨rfl,hb3⟩;have hR3:=(hb3.block _ hz1).trans HL.out.hR;have H3:=hide' (And.intro hR3 (HL.out.bel.trans (hb3.mono HL.out.bel.size)));have hz3:=hb3.size;clear hb3 hR3 r0 r1 r2 r3 r4 r5 r6 r7 rf k0 k1 k2 k3 k4 k5 kf HCM;go_wp2_with fail
    go_at_call 218;refine(wrong_any _ _ _).mono ?_;rintro r w4 ⟨rfl,hb4⟩;have hR4:=(hb4.block _ (blkLt H3.out.1)).trans H3.out.1;have H4:=hide' (H3.out.2.trans (hb4.mono H3.out.2.size));obtain⟨⟨s0,s1,s2,s3,s4,s5,s6,s7⟩,sf⟩:=zcells_of hR4;have hz4:=hb4.size;clear hb4 hR4;unfold stepV;go_wp2;refine bodyPost_ret (v:=stepV 4 (.slice none 0 0) ⟨#[]⟩ formB false 0 (e+1:Nat) false) (by simp[results,Tryz.results216,go_sem,stepV,formB,s0,s1,s2,s3,s4,s5,s6,s7]) rfl ⟨⟨_,rfl,.inl ⟨rfl,rfl⟩⟩,?_⟩;exact set8 H4.out (Nat.le_refl _) _ _ _ _ _ _ _ _
   |true=>
    have hr:RES=⟨⟨k,ks,noB,noB,false,0⟩,e+1,false⟩:=by
     rw[HRES.out,if_neg];rintro (h|h)
     ·exact hk2 h
     ·rw[hcb.out,hcm]at h;cases h
    subst hr;rw[hcm]at HCM;clear HRES hk2 hcb;go_wp2_with fail
    go_at_call 48;refine HCM.out.mono ?_;rintro r w3 ⟨rfl,hb3⟩;have hR3:=(hb3.block _ hz1).trans HL.out.hR;have hC3:=(hb3.block _ hzC).trans HL.out.hC;have hT3:=HTx.out.1.later hb3;have H3:=hide' (And.intro hT3 (HL.out.bel.trans (hb3.mono HL.out.bel.size)));have hz3:=hb3.size;clear r0 r1 r2 r3 r4 r5 r6 r7 rf k0 k1 k2 k3 k4 k5 kf HCM;obtain⟨⟨r0,r1,r2,r3,r4,r5,r6,r7⟩,rf⟩:=zcells_of hR3;obtain⟨⟨k0,k1,k2,k3,k4,k5⟩,kf⟩:=ccells_of hC3;have hg:=HTx.out.2;have hCn:=HL.out.lC;clear hb3 hR3 hC3 hT3;go_wp2;refine bodyPost_ret (v:=stepV k (.slice (some ⟨gg,0,none⟩) m cap) ⟨#[]⟩ ⟨#[]⟩ false 0 (e+1:Nat) false) (by simp[results,Tryz.results216,go_sem,stepV,r0,r1,r2,r3,r4,r5,r6,r7]) rfl ⟨⟨_,rfl,.inr ⟨gg,cap,by rw[HM.out.1],by omega,H3.out.1.other ?_⟩⟩,?_⟩
    ·exact set8_other (by omega) _ _ _ _ _ _ _ _
    ·exact set8 H3.out.2 (Nat.le_refl _) _ _ _ _ _ _ _ _
end Go.Proofs.YtlonjggfnleolaaGreatDoor
