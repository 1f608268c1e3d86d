import Derived.Test.YtlonjggfnleolaaGreatDoorLineC
import Derived.Test.YtlonjggfnleolaaGreatDoorListG
namespace Go.Proofs.YtlonjggfnleolaaGreatDoor
open Go.RowKit
set_option linter.unusedVariables false
set_option maxHeartbeats 1500000
set_option maxRecDepth 20000
theorem lineC_z {w w1:World}{k:Int}(hRb:w1.heap[w.heap.size]?=some (.cells #[.int .i64 0,.slice none 0 0,.string ⟨#[]⟩,.string ⟨#[]⟩,.bool false,.int .i64 0,.int .i64 0,.bool false] 255 (0,0)))(hbel:Below w.heap.size w w1):LineC w (w1.alloc (.cells #[.int .i64 k,.slice none 0 0,.string ⟨#[]⟩,.string ⟨#[]⟩,.bool false,.int .i64 0] 36)).drew w1.heap.size k (.slice none 0 0) []:=by
 have l:=blkLt hRb;exact⟨blkNew w1 _,(Below.heap_alloc _ _ _ l).trans hRb,l,.inl ⟨rfl,rfl⟩,(hbel.alloc hbel.size _).drew⟩
theorem readLine_one (g o n c:Nat)(bs:List UInt8)(w:World)(e:Nat)(x:ByteArray)(hB:BytesIn w g o n c bs)(he:e<n)(h60:e≤60)(hws:wordsOf (bs.take e)=[x])(hsz:setSizeR [x]=none):Calls Tryz.prog 216 #[.slice (some ⟨g,o,none⟩) n c,.int .i64 (e:Int)] w fun r w'=>StepOut w w' (some ⟨wrongC formB false,e+1,false⟩) r∧Below w.heap.size w w':=by
 have hl:=hB.len;have hsm:=hB.small;have hcap:=hB.cap;have hlt:=hB.lt;have hb0:=bytes0 bs e (by omega);have HS:=hide' (fun W=>split_any (bytesOf bs 0 e) W (by show((bs.drop 0).take e).toArray.size<4294967281;simp;omega));have hcv:=conv_by (w.alloc (.cells #[.int .i64 0,.slice none 0 0,.string ⟨#[]⟩,.string ⟨#[]⟩,.bool false,.int .i64 0,.int .i64 0,.bool false] 255)) g o n c 0 e c bs (hB.later ((Below.refl _ _).alloc (Nat.le_refl _) _)) (by omega);rw[Nat.add_zero]at hcv;rw[hb0,hws]at HS;have hss:∀s∈[x],s.size≤60:=by
  rw[←hws];intro s hs;obtain⟨x,hx,rfl⟩:=List.mem_map.1 hs;have:=splitL_sizes _ x hx;show x.toArray.size≤60;simp at this⊢;omega
 have hll: [x].length=1:=rfl;rw[hll]at HS;have HB:=hide' hB;have hy:(60:Nat)≤maxLen:=by unfold maxLen;omega
 have hss':∀s∈[x],s.size≤maxLen:=fun s hs=>Nat.le_trans (hss s hs) hy
 have HSS':=hide' hss';have HSZ:=hide' hsz;have HM:=hide' (And.intro hll hll);clear hB hb0 hl hws hss hss' hsz hll;generalize bytesOf bs 0 e=line at*;have hec:e≤c:=by omega
 have hec':(e:Int)≤(c:Int):=by omega
 go_enter Tryz.func216,Tryz.ntmps216;go_wp2_with fail
 go_at_call 221;refine(HS.out _).mono ?_;rintro r w1 ⟨rfl,hw1⟩;have hblk:w1.heap[w.heap.size+1]?=some (.cells (([x]).map Value.string).toArray 9 (0,0)):=by
  rw[hw1];have:=blkNew (w.alloc (.cells #[.int .i64 0,.slice none 0 0,.string ⟨#[]⟩,.string ⟨#[]⟩,.bool false,.int .i64 0,.int .i64 0,.bool false] 255)) (.cells (([x]).map Value.string).toArray 9);rw[World.size_alloc]at this;exact this
 have hRb:w1.heap[w.heap.size]?=some (.cells #[.int .i64 0,.slice none 0 0,.string ⟨#[]⟩,.string ⟨#[]⟩,.bool false,.int .i64 0,.int .i64 0,.bool false] 255 (0,0)):=by
  rw[hw1];exact(Below.heap_alloc _ _ _ (by simp)).trans (blkNew w _)
 have hbel:Below w.heap.size w w1:=by rw[hw1];exact((Below.refl _ _).alloc (Nat.le_refl _) _).alloc (by simp) _
 have hblt:=blkLt hblk;have hcell:∀(i:Nat) (s:ByteArray),([x])[i]?=some s→w1.cell? ⟨w.heap.size+1,0+i,none⟩=some (.string s):=fun i s hs=>by
  rw[Nat.zero_add,blkCell hblk i,List.getElem?_toArray,List.getElem?_map,hs];rfl
 have HSS:=hide' (setSize_any ([x]) (w.heap.size+1) 0 1 w1 hcell hblt (by simp) (by show 1≤maxLen;decide) HSS'.out);rw[HM.out.2,HSZ.out]at HSS;have cx:w1.cell? ⟨w.heap.size+1,0,none⟩=some (.string x):=hcell 0 x rfl;have HK:=hide' (And.intro hRb hbel);clear hw1 hblk hRb hbel hcv hcell;generalize hgk:kindB x=k at*;have HX:=hide' (show∀W:World,Calls Tryz.prog 224 #[.string x] W fun e w'=>e= .returned (.int .i64 k)∧w'=W from fun W=>by rw[←hgk];exact kindOf_any x W);clear hgk;go_wp2_with (first
  |(go_at_call 222;refine HSS.out.mono ?_;rintro r w' ⟨rfl,hw'⟩;subst hw';unfold cntV;dsimp only[Option.getD_none,Option.isSome_none])
  |fail)
 clear HSS HS;have ne1:¬w.heap.size+1=w'.heap.size:=by omega
 have ne2:¬w'.heap.size=w.heap.size+1:=by omega
 go_cut [8]from 28 (fun s8 W=>∃C,s8= .pointer (some ⟨C,0,none⟩)∧LineC w W C k (.slice none 0 0) [])
 case first=>
  go_region_held3 (fun W=>W.cell? ⟨w.heap.size+1,0,none⟩=some (.string x)) (go_keep)
   (first
    |(go_at_call 224;refine(HX.out _).mono ?_;rintro r w2 ⟨rfl,hw2⟩;subst hw2)
    |fail)
  all_goals go_wp2_with fail
  all_goals(go_meet;case rel=>exact⟨_,rfl,lineC_z HK.out.1 HK.out.2⟩)
 case rest=>
  obtain⟨C,rfl,L⟩:=hcut;have HL:=hide' L;obtain⟨⟨r0,r1,r2,r3,r4,r5,r6,r7⟩,rf⟩:=zcells_of L.hR;obtain⟨⟨k0,k1,k2,k3,k4,k5⟩,kf⟩:=ccells_of L.hC;have hz1:=blkLt L.hR;have hzC:=blkLt L.hC;have hcf:cmdB k [] ⟨#[]⟩=false:=by simp[cmdB,keysB,withinB]
  have HCM:=hide' (cmd_any k (.slice none 0 0) [] ⟨#[]⟩ ⟨#[]⟩ false 0 wc ⟨.inr ⟨none,rfl,rfl⟩,by simp,by simp⟩ (by decide));rw[hcf]at HCM;clear L HK HX hcf;unfold cmdV6 at HCM;by_cases hk2:k=2
  ·subst hk2;clear HCM;go_wp2_with fail
   go_at_call 218;refine(wrong_any _ _ _).mono ?_;rintro r w4 ⟨rfl,hb4⟩;have hR4:=(hb4.block _ hz1).trans HL.out.hR;have H4:=hide' (HL.out.bel.trans (hb4.mono HL.out.bel.size));obtain⟨⟨s0,s1,s2,s3,s4,s5,s6,s7⟩,sf⟩:=zcells_of hR4;clear hb4 hR4 r0 r1 r2 r3 r4 r5 r6 r7 rf k0 k1 k2 k3 k4 k5 kf;unfold stepV;go_wp2;refine bodyPost_ret (v:=stepV 4 (.slice none 0 0) ⟨#[]⟩ formB false 0 (e+1:Nat) false) (by simp[results,Tryz.results216,go_sem,stepV,formB,s0,s1,s2,s3,s4,s5,s6,s7]) rfl ⟨⟨_,rfl,.inl ⟨rfl,rfl⟩⟩,?_⟩;exact set8 H4.out (Nat.le_refl _) _ _ _ _ _ _ _ _
  ·have hk2':(k==2)=false:=by simpa using hk2
   clear hk2;go_wp2_with fail
   go_at_call 48;refine HCM.out.mono ?_;rintro r w3 ⟨rfl,hb3⟩;have hR3:=(hb3.block _ hz1).trans HL.out.hR;have H3:=hide' (And.intro hR3 (HL.out.bel.trans (hb3.mono HL.out.bel.size)));have hz3:=hb3.size;clear hb3 hR3 r0 r1 r2 r3 r4 r5 r6 r7 rf k0 k1 k2 k3 k4 k5 kf HCM;go_wp2_with fail
   go_at_call 218;refine(wrong_any _ _ _).mono ?_;rintro r w4 ⟨rfl,hb4⟩;have hR4:=(hb4.block _ (blkLt H3.out.1)).trans H3.out.1;have H4:=hide' (H3.out.2.trans (hb4.mono H3.out.2.size));obtain⟨⟨s0,s1,s2,s3,s4,s5,s6,s7⟩,sf⟩:=zcells_of hR4;have hz4:=hb4.size;clear hb4 hR4;unfold stepV;go_wp2;refine bodyPost_ret (v:=stepV 4 (.slice none 0 0) ⟨#[]⟩ formB false 0 (e+1:Nat) false) (by simp[results,Tryz.results216,go_sem,stepV,formB,s0,s1,s2,s3,s4,s5,s6,s7]) rfl ⟨⟨_,rfl,.inl ⟨rfl,rfl⟩⟩,?_⟩;exact set8 H4.out (Nat.le_refl _) _ _ _ _ _ _ _ _
theorem libBytes (l:List UInt8):Lib.bytesOf (l.map fun b=>(b.toNat:Int))=l:=by
 unfold Lib.bytesOf;rw[List.map_map];conv=>rhs;rw[←List.map_id l]
 apply List.map_congr_left;intro x _;simp
theorem readLine_any (g o n c:Nat)(bs:List UInt8)(w:World)(e:Nat)(hB:BytesIn w g o n c bs)(he:e<n)(h60:e≤60):Calls Tryz.prog 216 #[.slice (some ⟨g,o,none⟩) n c,.int .i64 (e:Int)] w fun r w'=>StepOut w w' (lineR bs e) r∧Below w.heap.size w w':=by
 unfold lineR;cases hs:setSizeR (wordsOf (bs.take e))with
 |some size=>exact readLine_set g o n c bs w e size hB he h60 hs
 |none=>
  simp only
  obtain⟨x,ks,hws⟩:∃x ks,wordsOf (bs.take e)=x::ks:=by
   cases h:wordsOf (bs.take e)with
   |nil=>exact absurd (List.map_eq_nil_iff.1 h) (splitL_ne _)
   |cons x ks=>exact⟨x,ks,rfl⟩
  rw[hws]at hs⊢;have e1:(x::ks).getD 0 noB=x:=rfl;have e2:(x::ks).drop 1=ks:=rfl;rw[e1,e2];have e3:∀{α β:Type} (p:Prop) [Decidable p] (f:α→β) (a b:α),(if p then f a else f b)=f (if p then a else b):=by intro α β p _ f a b;split<;>rfl
  rw[e3];cases ks with
  |nil=>
   have hc:kindB x=2∨cmdB (kindB x) [] noB=false:= .inr (by simp[cmdB,keysB,withinB]);rw[if_pos hc];exact readLine_one g o n c bs w e x hB he h60 hws hs
  |cons y l=>exact readLine_cmd g o n c bs w e (y::l).length x (y::l) _ hB he h60 hws hs rfl (by simp) rfl
theorem lnRead_any (a:Option Addr)(n c:Nat)(bs:List UInt8)(w:World)(hB:BytesA w a n c bs)(hnil:a=none→c=0):Calls Tryz.prog 211 #[.agg #[],.slice a n c] w fun r w'=>StepOut w w' (lnR bs) r∧Below w.heap.size w w':=by
 have hl:=hB.len;have hsm:=hB.small;have hcap:=hB.cap;have HB:=hide' hB;have HR:Hid (lnR bs=if 0≤Go.Lib.indexByte (bs.take 61) 10 then lineR bs (Go.Lib.indexByte (bs.take 61) 10).toNat else if 60<n then some ⟨wrongC longB false,61,true⟩else none):=by show _=_;unfold lnR;rw[hl]
 obtain⟨mm,hmm⟩:∃mm:Nat,mm=min n 61:=⟨_,rfl⟩
 have hlen:(bs.take 61).length=mm:=by rw[List.length_take,hl,hmm];omega
 have HI:Hid (∀W,Below w.heap.size w W→∀cc,(a=none→cc=0)→Calls Tryz.prog 124 #[.slice a mm cc,.int .u8 10] W fun e w'=>e= .returned (.int .i64 (Go.Lib.indexByte (bs.take 61) 10))∧w'=W):=fun W hW cc hcc=>by
  cases ha:a with
  |none=>
   have h0:n=0:=by
    rcases Nat.eq_zero_or_pos n with h|h
    ·exact h
    ·obtain⟨g,o,e,_⟩:=hB.by_ 0 h;rw[ha]at e;cases e
   have hm0:mm=0:=by omega
   have hbs:bs=[]:=List.length_eq_zero_iff.1 (by omega);rw[hm0,hcc ha,hbs];exact Tryz.bytes_IndexByte_nil 10 W
  |some ad=>
   have:=Tryz.bytes_IndexByte_at ad mm cc ((bs.take 61).map fun b=>(b.toNat:Int)) 10 W (by rw[List.length_map,hlen]) (fun i hi=>by
    obtain⟨g,o,e,hc⟩:=(hB.later hW).by_ i (by omega);rw[ha]at e;cases e;have hadd:(⟨g,o,none⟩:Addr).add i=⟨g,o+i,none⟩:=by unfold Addr.add;split<;>simp_all
    rw[hadd,hc];have hi2:i<bs.length:=by omega
    have e2:(bs.take 61)[i]?=some bs[i]:=by rw[List.getElem?_take_of_lt (by omega),List.getElem?_eq_getElem hi2]
    rw[List.getD,List.getElem?_map,e2];simp[byAt,List.getD,List.getElem?_eq_getElem hi2])
   rw[libBytes]at this;exact this
 have hge:=Go.Lib.indexByte_ge (bs.take 61) 10;generalize lnR bs=RES at*;have HX:Hid (0≤Go.Lib.indexByte (bs.take 61) 10→(Go.Lib.indexByte (bs.take 61) 10).toNat<mm):=fun h=>by have:=(ib_nonneg_app (bs.take 61) [] 10 h).2.1;omega
 generalize Go.Lib.indexByte (bs.take 61) 10=ix at*;have HB1:=hide' (show∀x y,Below w.heap.size w ((w.alloc x).alloc y)from fun x y=>((Below.refl _ _).alloc (Nat.le_refl _) _).alloc (by simp) _);have hmn:mm≤n:=by omega
 have hmc:mm≤c:=by omega
 clear hlen;have hmm3:mm=(min (n:Int) 61).toNat:=by omega
 rw[hmm3]at HI;have hm61:mm≤61:=by omega
 clear hmm hB hl hmm3;by_cases h0:0≤ix
 ·obtain⟨e,rfl⟩:∃e:Nat,ix=(e:Int):=⟨ix.toNat,by omega⟩
  have hem:=HX.out h0;rw[Int.toNat_natCast]at hem;have hr:RES=lineR bs e:=by rw[HR.out,if_pos h0,Int.toNat_natCast]
  subst hr;obtain⟨g,o,ha,hBI⟩:=HB.out.in_ (by omega);subst ha;have HL:=hide' (fun W (hW:Below w.heap.size w W)=>readLine_any g o _ c bs W e (hBI.later hW) (by omega) (by omega));generalize hLR:lineR bs e=LR at*;have HLR:=hide' hLR;clear hLR hBI HX HR;go_enter Tryz.func211,Tryz.ntmps211;go_wp2_with (first
   |(go_at_call 124;refine(HI.out _ (HB1.out _ _) _ (fun h=>by cases h)).mono ?_;rintro r w1 ⟨rfl,hw1⟩;subst hw1)
   |fail)
  go_at_call 216;refine(HL.out _ (HB1.out _ _)).mono ?_;rintro r w3 ⟨hr3,hb3⟩;obtain⟨_,hR3⟩:=two_kept hb3;have H3:=hide' ((HB1.out _ _).trans (hb3.mono (by simp;omega)));obtain⟨⟨r0,r1,r2,r3,r4,r5,r6,r7⟩,rf⟩:=zcells_of hR3;have hz3:=blkLt hR3;have hsz3:=hb3.size;simp only[World.size_alloc]at hsz3;clear hb3 hR3 HL HI;cases LR with
  |none=>
   have he:r= .returned zStepV:=hr3;subst he;unfold zStepV;go_wp2;refine bodyPost_ret (v:=zStepV) (by simp[results,Tryz.results211,go_sem,zStepV,r0,r1,r2,r3,r4,r5,r6,r7]) rfl ⟨rfl,?_⟩;exact set8 H3.out (by omega) _ _ _ _ _ _ _ _
  |some SR=>
   obtain⟨kv,he,hkv⟩:=hr3;obtain⟨ka,kn,kc,hkf⟩:=hkv.form;subst hkf;subst he;have HKV:=hide' hkv;clear hkv;unfold stepV;go_wp2;refine bodyPost_ret (v:=stepV SR.c.kind (.slice ka kn kc) SR.c.val SR.c.word SR.c.fatal SR.c.id SR.used SR.skip) (by simp[results,Tryz.results211,go_sem,stepV,r0,r1,r2,r3,r4,r5,r6,r7]) rfl ⟨⟨_,rfl,?_⟩,?_⟩
   ·rcases HKV.out with h|⟨b,c',e1,e2,e3⟩
    ·exact .inl h
    ·simp only[World.size_alloc]at e2;refine .inr ⟨b,c',e1,by omega,e3.other (set8_other (by omega) _ _ _ _ _ _ _ _)⟩
   ·exact set8 H3.out (by omega) _ _ _ _ _ _ _ _
 ·have h0':¬(0:Int)≤ix:=h0;have hr2:=HR.out;rw[if_neg h0]at hr2;have HR2:=hide' hr2;clear HR hr2 HX;by_cases h60:60<n
  ·have h60':(60:Int)<(n:Int):=by omega
   have hr:RES=some ⟨wrongC longB false,61,true⟩:=by rw[HR2.out,if_pos h60]
   subst hr;clear HR2;go_enter Tryz.func211,Tryz.ntmps211;go_wp2_with (first
    |(go_at_call 124;refine(HI.out _ (HB1.out _ _) _ hnil).mono ?_;rintro r w1 ⟨rfl,hw1⟩;subst hw1)
    |fail)
   go_at_call 218;refine(wrong_any _ _ _).mono ?_;rintro r w2 ⟨rfl,hb2⟩;obtain⟨_,hR⟩:=two_kept hb2;have H2:=hide' ((HB1.out _ _).trans (hb2.mono (by simp;omega)));have HRR:=hide' hR;have HP:=hide' (passing_any ⟨#[108,111,110,103]⟩ 61 w2);have hz:=blkLt hR;clear hb2 hR HI;unfold stepV at*;go_wp2_with fail
   go_at_call 217;refine HP.out.mono ?_;rintro r w3 ⟨rfl,hb3⟩;have hR3:=(hb3.block _ hz).trans HRR.out;have H3:=hide' (H2.out.trans (hb3.mono (by omega)));obtain⟨⟨r0,r1,r2,r3,r4,r5,r6,r7⟩,rf⟩:=zcells_of hR3;have hz3:=blkLt hR3;clear hb3 hR3 HP HRR H2;go_wp2;refine bodyPost_ret (v:=stepV 4 (.slice none 0 0) ⟨#[]⟩ longB false 0 61 true) (by simp[results,Tryz.results211,go_sem,stepV,longB,r0,r1,r2,r3,r4,r5,r6,r7]) rfl ⟨⟨_,rfl,.inl ⟨rfl,rfl⟩⟩,?_⟩;exact set8 H3.out (by omega) _ _ _ _ _ _ _ _
  ·have h60':¬(60:Int)<(n:Int):=by omega
   have hr:RES=none:=by rw[HR2.out,if_neg h60]
   subst hr;clear HR2;go_enter Tryz.func211,Tryz.ntmps211;go_wp2_with (first
    |(go_at_call 124;refine(HI.out _ (HB1.out _ _) _ hnil).mono ?_;rintro r w1 ⟨rfl,hw1⟩;subst hw1)
    |fail)
   refine bodyPost_ret (v:=zStepV) (by simp[results,Tryz.results211,go_sem,zStepV]) rfl ⟨rfl,?_⟩;repeat(first|with_reducible exact Below.refl _ _|with_reducible refine Below.drew ?_|with_reducible refine below_drewN ?_ _|with_reducible refine Below.alloc ?_ (by simp;try omega) _|with_reducible refine Below.setCell ?_ (by simp;try omega) _)
end Go.Proofs.YtlonjggfnleolaaGreatDoor
