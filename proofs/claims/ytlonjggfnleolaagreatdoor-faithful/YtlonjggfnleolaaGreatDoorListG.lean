import Derived.Test.YtlonjggfnleolaaGreatDoorTextsG
import Derived.Test.YtlonjggfnleolaaGreatDoorCountG
import Derived.Test.YtlonjggfnleolaaGreatDoorPure
import Derived.OwnWalk
namespace Go.Proofs.YtlonjggfnleolaaGreatDoor
open Go.RowKit
set_option linter.unusedVariables false
set_option maxHeartbeats 4000000
set_option maxRecDepth 20000
theorem below_undrew {w w1:World}(h:Below w.drew.heap.size w.drew w1):Below w.heap.size w w1:=⟨h.os,h.tape,h.output,h.size,h.block⟩
theorem readTexts_set (T:Nat)(x y z:ByteArray)(u:Nat)(w:World)(hT:TextsAt w T 5 [x,y,z])(hs:y.size≤maxLen)(hs2:z.size≤maxLen)(hk:kindB x=2):Calls Tryz.prog 256 #[.slice (some ⟨T,0,none⟩) 3 5,.int .i64 (u:Int)] w fun e w'=>StepOut w w' (some (textsR [x,y,z] u)) e∧Below w.heap.size w w':=by
 have hR:textsR [x,y,z] u=if cmdB 2 [y] z then⟨⟨2,[y],z,noB,false,0⟩,u,false⟩else⟨wrongC dataB false,u,false⟩:=by
  unfold textsR;simp only[List.getD_cons_zero,List.drop_succ_cons,List.drop_zero,hk,if_true,List.length_cons,List.length_nil,List.take_succ_cons,List.take_zero,and_self,List.getD_cons_succ]
 have HR:=hide' hR;clear hR;obtain⟨i9,hi,hz0,hz1,hz2⟩:=info9;have HI:=hide' (And.intro hi (And.intro hz0 (And.intro hz1 hz2)));clear hi hz0 hz1 hz2;have hlt:=hT.lt;have hlt1:T<w.heap.size+1:=by omega
 have hlt2:T<w.heap.size+1+1:=by omega
 obtain⟨Z,hZ,hzs,hzl,hzi⟩:=hT;have c0:w.cell? ⟨T,0,none⟩=some (.string x):=by rw[blkCell hZ 0];exact hzi 0 x rfl
 have c1:w.cell? ⟨T,1,none⟩=some (.string y):=by rw[blkCell hZ 1];exact hzi 1 y rfl
 have c2:w.cell? ⟨T,2,none⟩=some (.string z):=by rw[blkCell hZ 2];exact hzi 2 z rfl
 have c2':w.cell? ⟨T,1+1,none⟩=some (.string z):=c2;clear hZ hzs hzl hzi Z;have HX:=hide' (show∀W:World,Calls Tryz.prog 224 #[.string x] W fun e w'=>e= .returned (.int .i64 2)∧w'=W from fun W=>by rw[←hk];exact kindOf_any x W);have HY:=hide' c1;clear hk;have HN:Hid (∀W,Below w.heap.size w W→∀(j:Nat) (v:Value),[Value.string y][j]?=some v→W.cell? ((⟨T,1,none⟩:Addr).add j)=some v):=fun W hW j v hv=>by
  match j,hv with
  |0,hv=>
   simp at hv;subst hv;have hadd:(⟨T,1,none⟩:Addr).add 0=⟨T,1,none⟩:=by unfold Addr.add;split<;>simp_all
   rw[hadd];exact(hW.cell (p:=⟨T,1,none⟩) hlt).trans HY.out
 have HO:Hid (∀u∈[Value.string y],u.oneCell'=true):=fun u hu=>by
  simp at hu;subst hu;rfl
 go_enter Tryz.func256,Tryz.ntmps256;go_wp2_with (go_at_call 224;refine(HX.out _).mono ?_;rintro e w' ⟨rfl,rfl⟩)
 go_region
 go_wp2_with (first
  |(at_builtin;refine wpList_append_lies _ rfl _ _ _ rfl w.heap.size 9 i9 (.string ⟨#[]⟩) 1 16 Tryz.underlying34 HI.out.1 HI.out.2.1 HI.out.2.2.1 HI.out.2.2.2 rfl (by omega) (.slice none 0 0) 0 [] rfl (World.ownsRow_nil _ _ _ _) ⟨T,1,none⟩ 1 4 [Value.string y] rfl rfl (HN.out _ (by repeat(first|with_reducible exact Below.refl _ _|with_reducible refine Below.drew ?_|with_reducible refine below_drewN ?_ _|with_reducible refine Below.alloc ?_ (by simp;try omega) _|with_reducible refine Below.setCell ?_ (by simp;try omega) _))) HO.out (by omega) (by unfold maxLen;omega) (by omega) (by simp;omega) _ rfl ?_;intro g cap w1 hown hgrow hat hlt3;have hB1:=below_undrew (grown_below hgrow);have HF:=hide' (And.intro hown (And.intro hB1 hat));obtain⟨hRb,hCb⟩:=two_kept hB1;obtain⟨⟨r0,r1,r2,r3,r4,r5,r6,r7⟩,rf⟩:=zcells_of hRb;obtain⟨⟨k0,k1,k2,k3,k4,k5⟩,kf⟩:=ccells_of hCb;have hz1:=blkLt hCb;have HRC:=hide' (And.intro hRb hCb);clear hown hgrow hat hB1 hRb hCb)
  |fail)
 have hg:g=w.heap.size+1+1:=by
  rcases HF.out.2.2 with h|h
  ·cases h
  ·simpa using h
 have hTx:TextsAt w1 g cap [y]:=by
  have:=HF.out.1;rw[List.nil_append]at this;exact(owns_texts (ks:=[y]) (m:=1) rfl (by omega) this).1
 have hTx2:=hTx.other (w':=w1.setCell ⟨w.heap.size+1,1,none⟩ (.slice (some ⟨g,0,none⟩) 1 cap)) (Below.heap_setCell _ _ _ _ (by show g≠w.heap.size+1;omega));have hS:=texts_strs hTx2 (by simp) (by simpa using hs);have hbel:Below w.heap.size w w1:=(((Below.refl _ _).alloc (Nat.le_refl _) _).alloc (by simp) _).trans (HF.out.2.1.mono (by simp;omega));have hbel2:Below w.heap.size w (w1.setCell ⟨w.heap.size+1,1,none⟩ (.slice (some ⟨g,0,none⟩) 1 cap)):=hbel.setCell (p:=⟨w.heap.size+1,1,none⟩) (by show w.heap.size≤w.heap.size+1;omega) _;have hRb2:(w1.setCell ⟨w.heap.size+1,1,none⟩ (.slice (some ⟨g,0,none⟩) 1 cap)).heap[w.heap.size]?=some (.cells #[.int .i64 0,.slice none 0 0,.string ⟨#[]⟩,.string ⟨#[]⟩,.bool false,.int .i64 0,.int .i64 0,.bool false] 255 (0,0)):=(Below.heap_setCell _ ⟨w.heap.size+1,1,none⟩ _ _ (by show w.heap.size≠w.heap.size+1;omega)).trans HRC.out.1
 have hCb2:=blkSet (i:=1) HRC.out.2 (.slice (some ⟨g,0,none⟩) 1 cap);have HCM:=hide' (cmd_any 2 _ [y] z ⟨#[]⟩ false 0 _ hS hs2);clear hS r0 r1 r2 r3 r4 r5 r6 r7 rf k0 k1 k2 k3 k4 k5 kf HN HX c0 c1 c2 c2' HY;clear HF HRC hTx hbel HI HO;generalize hW2:w1.setCell ⟨w.heap.size+1,1,none⟩ (.slice (some ⟨g,0,none⟩) 1 cap)=w2 at*;clear hW2;unfold cmdV6 at HCM;refine HCM.out.mono ?_;rintro e w3 ⟨rfl,hb3⟩;have hR3:=(hb3.block _ (blkLt hRb2)).trans hRb2;have hC3:=(hb3.block _ (blkLt hCb2)).trans hCb2;have hT3:=hTx2.later hb3;have hB3:=hbel2.trans (hb3.mono hbel2.size);have HK:=hide' (And.intro hR3 (And.intro hC3 (And.intro hT3 hB3)));obtain⟨⟨r0,r1,r2,r3,r4,r5,r6,r7⟩,rf⟩:=zcells_of hR3;obtain⟨⟨k0,k1,k2,k3,k4,k5⟩,kf⟩:=ccells_of hC3
 have hz3:=blkLt hC3;clear hb3 hR3 hC3 hT3 hB3 hRb2 hCb2 hTx2 hbel2 HCM;cases hcm:cmdB 2 [y] z with
 |false=>
  go_wp2_with fail
  go_at_call 218;refine(wrong_any _ _ _).mono ?_;rintro e w4 ⟨rfl,hb4⟩;have hR4:=(hb4.block _ (blkLt HK.out.1)).trans HK.out.1;have hB4:=HK.out.2.2.2.trans (hb4.mono HK.out.2.2.2.size);obtain⟨⟨s0,s1,s2,s3,s4,s5,s6,s7⟩,sf⟩:=zcells_of hR4;have H4:=hide' hB4;clear hb4 hR4 hB4 r0 r1 r2 r3 r4 r5 r6 r7 rf k0 k1 k2 k3 k4 k5 kf;unfold stepV;go_wp2;refine bodyPost_ret (v:=stepV 4 (.slice none 0 0) ⟨#[]⟩ dataB false 0 u false) (by simp[results,Tryz.results256,go_sem,stepV,dataB,s0,s1,s2,s3,s4,s5,s6,s7]) rfl ⟨?_,?_⟩
  ·rw[HR.out,hcm,if_neg (by simp)];exact⟨_,rfl,.inl ⟨rfl,rfl⟩⟩
  ·exact set8 H4.out (Nat.le_refl _) _ _ _ _ _ _ _ _
 |true=>
  go_wp2;refine bodyPost_ret (v:=stepV 2 (.slice (some ⟨g,0,none⟩) 1 cap) z ⟨#[]⟩ false 0 u false) (by simp[results,Tryz.results256,go_sem,stepV,r0,r1,r2,r3,r4,r5,r6,r7]) rfl ⟨?_,?_⟩
  ·rw[HR.out,hcm,if_pos rfl];refine⟨_,rfl,.inr ⟨g,cap,rfl,by omega,HK.out.2.2.1.other ?_⟩⟩;exact set8_other (by omega) _ _ _ _ _ _ _ _
  ·exact set8 HK.out.2.2.2 (Nat.le_refl _) _ _ _ _ _ _ _ _
theorem readTexts_none (T n:Nat)(x:ByteArray)(r:StepR)(u:Nat)(w:World)(hlt:T<w.heap.size)(c0:w.cell? ⟨T,0,none⟩=some (.string x))(hn:n≤5)(h1:1≤n)(hk:(kindB x=2∧n≠3)∨(kindB x≠2∧n=1)):Calls Tryz.prog 256 #[.slice (some ⟨T,0,none⟩) n 5,.int .i64 (u:Int)] w fun e w'=>StepOut w w' (some ⟨wrongC dataB false,u,false⟩) e∧Below w.heap.size w w':=by
 have hlt1:T<w.heap.size+1:=by omega
 have hlt2:T<w.heap.size+1+1:=by omega
 have HB2:=hide' (show∀x y,Below w.heap.size w ((w.alloc x).alloc y)from fun x y=>((Below.refl _ _).alloc (Nat.le_refl _) _).alloc (by simp) _);have hcf:∀k:Int,cmdB k [] ⟨#[]⟩=false:=by
  intro k;simp[cmdB,keysB,withinB]
 have HCM:Hid (∀(k:Int) (W:World),Calls Tryz.prog 48 #[.agg #[.int .i64 k,.slice none 0 0,.string ⟨#[]⟩,.string ⟨#[]⟩,.bool false,.int .i64 0]] W fun e w'=>e= .returned (.bool false)∧Below W.heap.size W w'):=fun k W=>by
  have:=cmd_any k (.slice none 0 0) [] ⟨#[]⟩ ⟨#[]⟩ false 0 W ⟨.inr ⟨none,rfl,rfl⟩,by simp,by simp⟩ (by decide);rw[hcf k]at this;exact this
 clear hcf;rcases hk with⟨hk,hn3⟩|⟨hk,hn1⟩
 case' inl=>
  have HX:=hide' (show∀W:World,Calls Tryz.prog 224 #[.string x] W fun e w'=>e= .returned (.int .i64 2)∧w'=W from fun W=>by rw[←hk];exact kindOf_any x W)
  have hn2:(((n:Int)-1)==2)=false:=by rw[beq_eq_false_iff_ne];omega
  have hn2':(((n-1:Nat):Int)==2)=false:=by rw[beq_eq_false_iff_ne];omega
  clear hk hn3
 case' inr=>
  have hkn:(kindB x==2)=false:=by simpa using hk
  have HX:=hide' (show∀W:World,Calls Tryz.prog 224 #[.string x] W fun e w'=>e= .returned (.int .i64 (kindB x))∧w'=W from fun W=>kindOf_any x W)
  subst hn1
  clear hk
  generalize kindB x=k at*
 all_goals
  go_enter Tryz.func256,Tryz.ntmps256
  go_wp2_with (first
   |(go_at_call 224;refine(HX.out _).mono ?_;rintro e w' ⟨rfl,rfl⟩)
   |(go_at_call 48;refine(HCM.out _ _).mono ?_;rintro e w3 ⟨rfl,hb3⟩;obtain⟨hRb,hCb⟩:=two_kept hb3;have hz3:=blkLt hCb;have H3:=hide' (And.intro hRb ((HB2.out _ _).trans (hb3.mono (by simp;omega))));clear hRb hCb hb3)
   |(go_at_call 218;refine(wrong_any _ _ _).mono ?_;rintro e w4 ⟨rfl,hb4⟩;have hR4:=(hb4.block _ (blkLt H3.out.1)).trans H3.out.1;have H4:=hide' (H3.out.2.trans (hb4.mono H3.out.2.size));obtain⟨⟨s0,s1,s2,s3,s4,s5,s6,s7⟩,sf⟩:=zcells_of hR4;clear hR4 hb4;unfold stepV))
  refine bodyPost_ret (v:=stepV 4 (.slice none 0 0) ⟨#[]⟩ dataB false 0 u false) (by simp[results,Tryz.results256,go_sem,stepV,dataB,s0,s1,s2,s3,s4,s5,s6,s7]) rfl ⟨⟨_,rfl,.inl ⟨rfl,rfl⟩⟩,?_⟩
  exact set8 H4.out (Nat.le_refl _) _ _ _ _ _ _ _ _
theorem readTexts_any (T:Nat)(ts:List ByteArray)(n u:Nat)(w:World)(hn:ts.length=n)(hT:TextsAt w T 5 ts)(h1:1≤n)(h5:n≤5)(hs:∀s∈ts,s.size≤maxLen):Calls Tryz.prog 256 #[.slice (some ⟨T,0,none⟩) n 5,.int .i64 (u:Int)] w fun e w'=>StepOut w w' (some (textsR ts u)) e∧Below w.heap.size w w':=by
 subst hn;have hc0:∀x ks,ts=x::ks→w.cell? ⟨T,0,none⟩=some (.string x):=by
  rintro x ks rfl;obtain⟨Z,hZ,_,_,hi⟩:=hT;rw[blkCell hZ 0];exact hi 0 x rfl
 match ts,hT,h1,h5,hs,hc0 with
 |x::ks,hT,h1,h5,hs,hc0=>
  have c0:=hc0 x ks rfl;by_cases hk:kindB x=2
  ·by_cases h3:ks.length=2
   ·match ks,h3,hT,hs with
    | [y,z],_,hT,hs=>exact readTexts_set T x y z u w hT (hs y (by simp)) (hs z (by simp)) hk
   ·have e:textsR (x::ks) u=⟨wrongC dataB false,u,false⟩:=by
     have hc:cmdB 2 [] noB=false:=by simp[cmdB,keysB,withinB]
     unfold textsR;simp only[List.getD_cons_zero,List.drop_succ_cons,List.drop_zero,hk,if_true,h3,if_false,and_false]
     rw[hc];rfl
    rw[e];exact readTexts_none T _ x ⟨wrongC dataB false,u,false⟩ u w hT.lt c0 h5 h1 (.inl ⟨hk,by simp;omega⟩)
  ·by_cases h0:ks=[]
   ·subst h0;have e:textsR [x] u=⟨wrongC dataB false,u,false⟩:=by
     have hc:cmdB (kindB x) [] noB=false:=by simp[cmdB,keysB,withinB]
     unfold textsR;simp only[List.getD_cons_zero,List.drop_succ_cons,List.drop_nil,hk,if_false,false_and]
     rw[hc];rfl
    rw[e];exact readTexts_none T _ x ⟨wrongC dataB false,u,false⟩ u w hT.lt c0 h5 h1 (.inr ⟨hk,by simp⟩)
   ·have hl:1≤ks.length:=by cases ks with|nil=>exact absurd rfl h0|cons=>simp
    exact readTexts_plain T x ks ks.length u w rfl hT hl (by simp at h5;omega) (fun s hs'=>hs s (by simp[hs'])) hk
set_option maxHeartbeats 4000000
set_option maxRecDepth 20000
theorem conv_cells (W:World)(g o n t k cc:Nat)(bs:List UInt8)(hlen:bs.length=n)(hc:∀i,i<n→W.cell? ⟨g,o+i,none⟩=some (.int .u8 (byAt bs i)))(hk:t+k≤n):(convert 80 9 (.slice (some ⟨g,o+t,none⟩) k cc)).run Tryz.prog W= .ok (.string (bytesOf bs t k)) W:=by
 have hl:((bs.drop t).take k).length=k:=by simp;omega
 rw[run_convert_bytes_arg (P:=Tryz.prog) W 80 5 Tryz.underlying80 Tryz.underlying5 g (o+t) k _ (((bs.drop t).take k).map fun b=>(b.toNat:Int)) (by simpa using hl) (fun j hj=>?_) 9 Tryz.underlying9,strOfNums_bytes]
 ·rfl
 have hj2:t+j<bs.length:=by omega
 have e2:((bs.drop t).take k)[j]?=some bs[t+j]:=by
  rw[List.getElem?_take_of_lt hj,List.getElem?_drop,List.getElem?_eq_getElem hj2]
 rw[Nat.add_assoc,hc (t+j) (by omega)];rw[List.getD,List.getElem?_map,e2];simp[byAt,List.getD,List.getElem?_eq_getElem hj2]
theorem textG (w:World)(B:Nat)(a:Option Addr)(n c:Nat)(bs:List UInt8)(s:WS)(k:Nat)(W:WalkG w B a n c bs s)(hk:k≤40)(hn:s.short=true∨1≤n):Calls Tryz.prog 255 #[.pointer (some ⟨B,0,none⟩),.int .i64 (k:Int)] w fun e w'=>e= .returned (.string (textW bs k s).1)∧WalkG w' B a n c bs (textW bs k s).2∧Only B w w':=by
 have HW:=hide' W;obtain⟨p,wr,sh⟩:=s;obtain⟨c0,c1,c2,c3,fr,len,cap,sm,hp,gB,hby⟩:=W;simp only at c1 c2 c3 hp hn;have HN:=hide' len;cases wr with
 |true=>
  have e:textW bs k ⟨p,true,sh⟩=(noB,⟨p,true,sh⟩):=by simp[textW]
  rw[e];clear len hby gB e;go_enter Tryz.func255,Tryz.ntmps255;go_wp2;go_ret;exact⟨rfl,HW.out,Only.refl _ _⟩
 |false=>
  cases sh with
  |true=>
   have e:textW bs k ⟨p,false,true⟩=(noB,⟨p,false,true⟩):=by simp[textW]
   rw[e];clear len hby gB e;go_enter Tryz.func255,Tryz.ntmps255;go_wp2;go_ret;exact⟨rfl,HW.out,Only.refl _ _⟩
  |false=>
   have hn1:1≤n:=by rcases hn with h|h;cases h;exact h
   obtain⟨g,o,rfl,_⟩:=hby 0 (by omega);have hcell:∀i,i<n→w.cell? ⟨g,o+i,none⟩=some (.int .u8 (byAt bs i)):=by
    intro i hi;obtain⟨g',o',e,hc⟩:=hby i hi;cases e;exact hc
   have hgB:=gB g o rfl;clear hby gB hn;by_cases hl:n<p+k
   ·have e:textW bs k ⟨p,false,false⟩=(noB,⟨p,false,true⟩):=by simp[textW,len,hl]
    rw[e];have e0:(n:Int)-p<k:=by omega
    have d3:(w.setCell ⟨B,3,none⟩ (.bool true)).cell? ⟨B,3,none⟩=some (.bool true):=World.cell?_setCell_same' _ _ _ (by rw[c3];rfl);clear len hcell e;go_enter Tryz.func255,Tryz.ntmps255;go_wp2;go_region
    go_wp2;go_ret;have hO:Only B w ((w.setCell ⟨B,3,none⟩ (.bool true)).drew):=((Only.refl B w).setCell rfl _).drew;refine⟨rfl,HW.out.kept hO (by go_simp) (by go_simp) (by go_simp) (by go_simp) (fun j=>by go_simp) hp,hO⟩
   ·have e:textW bs k ⟨p,false,false⟩=(bytesOf bs p k,⟨p+k,false,false⟩):=by
     simp only[textW,len,Bool.or_self,Bool.false_eq_true,if_false];rw[if_neg hl]
    rw[e];have e0:¬(n:Int)-p<k:=by omega
    have hO:Only B w ((w.setCell ⟨B,1,none⟩ (.int .i64 ((p:Int)+k))).drew.drew):=(((Only.refl B w).setCell rfl _).drew).drew;have d1:(w.setCell ⟨B,1,none⟩ (.int .i64 ((p:Int)+k))).cell? ⟨B,1,none⟩=some (.int .i64 ((p:Int)+k)):=World.cell?_setCell_same' _ _ _ (by rw[c1];rfl);by_cases hcp:c=p
    ·have hk0:k=0:=by omega
     have hnp:n=p:=by omega
     subst hk0;have hv:bytesOf bs p 0=noB:=by simp[bytesOf,noB]
     rw[hv];have hcv:=run_convert_bytes_arg (P:=Tryz.prog) ((w.setCell ⟨B,1,none⟩ (.int .i64 ((p:Int)+(0:Nat)))).drew.drew) 80 5 Tryz.underlying80 Tryz.underlying5 g o 0 0 [] rfl (fun i hi=>by omega) 9 Tryz.underlying9;have hs0:strOfNums []=noB:=rfl;rw[hs0]at hcv;subst hcp;have HO:=hide' hO;subst hnp;simp only[Int.natCast_zero,Int.add_zero]at hcv d1 e0;clear len hcell e hv hO;go_enter Tryz.func255,Tryz.ntmps255;go_wp2;go_region
     go_wp2;go_region
     go_wp2;go_ret;have hO:=HO.out;simp only[Int.natCast_zero,Int.add_zero]at hO;refine⟨rfl,HW.out.kept hO (by go_simp) (by go_simp) (by go_simp) (by go_simp) (fun j=>by go_simp) (by show n+0≤n;omega),hO⟩
    ·have hcv:=conv_cells ((w.setCell ⟨B,1,none⟩ (.int .i64 ((p:Int)+k))).drew.drew) g o n p k (c-p) bs len (fun i hi=>(hO.cell (p:=⟨g,o+i,none⟩) hgB).trans (hcell i hi)) (by omega);have HO:=hide' hO;clear len hcell e hO;generalize bytesOf bs p k=V at*;go_enter Tryz.func255,Tryz.ntmps255;go_wp2;go_region
     go_wp2;go_region
     go_wp2;go_ret;have hO:=HO.out;refine⟨rfl,HW.out.kept hO (by go_simp) (by go_simp) (by go_simp) (by go_simp) (fun j=>by go_simp) (by show p+k≤n;omega),hO⟩
set_option maxHeartbeats 4000000
set_option maxRecDepth 20000
variable {w w' w0:World}{a:Option Addr}{n c T B R:Nat}{bs:List UInt8}{ts:List ByteArray}{s:WS}
structure BytesA (w:World)(a:Option Addr)(n c:Nat)(bs:List UInt8):Prop where
 len:bs.length=n
 cap:n≤c
 small:n≤1000000000000000
 ag:∀g o,a=some ⟨g,o,none⟩→g<w.heap.size
 by_:∀i,i<n→∃g o,a=some ⟨g,o,none⟩∧w.cell? ⟨g,o+i,none⟩=some (.int .u8 (byAt bs i))
theorem BytesA.later (h:BytesA w a n c bs)(hb:Below w.heap.size w w'):BytesA w' a n c bs:=
 ⟨h.len,h.cap,h.small,fun g o e=>Nat.lt_of_lt_of_le (h.ag g o e) hb.size,fun i hi=>by
  obtain⟨g,o,e,hc⟩:=h.by_ i hi;exact⟨g,o,e,(hb.cell (p:=⟨g,o+i,none⟩) (h.ag g o e)).trans hc⟩⟩
theorem BytesA.in_ (h:BytesA w a n c bs)(hn:1≤n):∃g o,a=some ⟨g,o,none⟩∧BytesIn w g o n c bs:=by
 obtain⟨g,o,e,_⟩:=h.by_ 0 (by omega);refine⟨g,o,e,h.ag g o e,h.len,h.cap,h.small,fun i hi=>?_⟩;obtain⟨g',o',e',hc⟩:=h.by_ i hi;rw[e]at e';cases e';exact hc
theorem KeysIn.form {lo:Nat}{v:Value}{ss:List ByteArray}(h:KeysIn w lo v ss):∃a n c,v= .slice a n c:=by
 rcases h with⟨h,_⟩|⟨b,c,h,_⟩
 ·exact⟨_,_,_,h⟩
 ·exact⟨_,_,_,h⟩
def OwnT (w:World)(T:Nat)(ts:List ByteArray):Prop:=w.ownsRow 0 9 1 (.slice (some ⟨T,0,none⟩) ts.length 5) ts.length (ts.map Value.string)
theorem OwnT.other (h:OwnT w T ts)(hb:w'.heap[T]?=w.heap[T]?):OwnT w' T ts:=by
 obtain⟨h1,h|⟨g,cap,cur,e,h2,h3,h4⟩⟩:=h
 ·cases h.1
 ·cases e;exact⟨h1,.inr ⟨T,5,cur,rfl,h2,hb.trans h3,h4⟩⟩
theorem OwnT.lt (h:OwnT w T ts):T<w.heap.size:=by
 obtain⟨h1,h|⟨g,cap,cur,e,h2,h3,h4⟩⟩:=h
 ·cases h.1
 ·cases e;exact blkLt h3
theorem OwnT.texts (h:OwnT w T ts):TextsAt w T 5 ts:=by
 obtain⟨h1,h|⟨g,cap,cur,e,h2,h3,h4,h5,h6,h7⟩⟩:=h
 ·cases h.1
 ·cases e;refine⟨cur,h3,by omega,by omega,fun i x hx=>?_⟩;have hi:i<ts.length:=(List.getElem?_eq_some_iff.1 hx).1;have:(cur.toList.take (ts.length*1))[i]?=some (.string x):=by rw[h7,List.getElem?_map,hx];rfl
  rw[List.getElem?_take_of_lt (by omega)]at this;simpa using this
theorem WalkG.later (h:WalkG w B a n c bs s)(k:∀b,(∃v,∃i,w.cell? ⟨b,i,none⟩=some v)→w'.heap[b]?=w.heap[b]?):WalkG w' B a n c bs s:=by
 have kc:∀b i v,w.cell? ⟨b,i,none⟩=some v→w'.cell? ⟨b,i,none⟩=some v:=fun b i v hv=>(World.cell?_of_block (w:=w) (k b ⟨v,i,hv⟩)).trans hv
 have kf:∀j,w'.frozen? ⟨B,j,none⟩=w.frozen? ⟨B,j,none⟩:=fun j=>World.frozen?_of_block (w:=w) (k B ⟨_,_,h.c0⟩)
 exact⟨kc _ _ _ h.c0,kc _ _ _ h.c1,kc _ _ _ h.c2,kc _ _ _ h.c3,fun j=>(kf j).trans (h.fr j),h.len,h.cap,h.small,h.pos,h.gB,fun i hi=>by
  obtain⟨g,o,e,hc⟩:=h.by_ i hi;exact⟨g,o,e,kc _ _ _ hc⟩⟩
structure LG (w0 w:World)(a:Option Addr)(n c:Nat)(bs:List UInt8)(s:WS)(R B T:Nat)(ts:List ByteArray):Prop where
 W:WalkG w B a n c bs s
 hR:w.heap[R]?=some (.cells zStep 255 (0,0))
 hT:OwnT w T ts
 bel:Below w0.heap.size w0 w
 h1:w0.heap.size≤R
 h2:R<B
 h3:B<T
 ag:∀g o,a=some ⟨g,o,none⟩→g<w0.heap.size
theorem LG.only {s':WS}(h:LG w0 w a n c bs s R B T ts)(k:Only B w w')(W':WalkG w' B a n c bs s'):LG w0 w' a n c bs s' R B T ts:=
 ⟨W',(k.block R (by have:=h.h2;omega)).trans h.hR,h.hT.other (k.block T (by have:=h.h3;omega)),h.bel.trans (k.below.mono (by have:=h.h1;have:=h.h2;omega)),h.h1,h.h2,h.h3,h.ag⟩
theorem LG.alloc (h:LG w0 w a n c bs s R B T ts)(ob:Obj):LG w0 (w.alloc ob) a n c bs s R B T ts:=
 ⟨h.W.later (fun b ⟨v,i,hv⟩=>Below.heap_alloc w ob b (World.block_lt_of_cell? _ _ hv)),(Below.heap_alloc w ob R (blkLt h.hR)).trans h.hR,h.hT.other (Below.heap_alloc w ob T h.hT.lt),h.bel.alloc h.bel.size ob,h.h1,h.h2,h.h3,h.ag⟩
theorem LG.grown {ts':List ByteArray}(h:LG w0 w a n c bs s R B T ts)(hg:w.grownBy w' (some T))(hT:OwnT w' T ts'):LG w0 w' a n c bs s R B T ts':=by
 have h1:=h.h1;have h2:=h.h2;have h3:=h.h3;refine⟨?_,(hg.block R (blkLt h.hR) (by simp;omega)).trans h.hR,hT,?_,h1,h2,h3,h.ag⟩
 ·have kc:∀b i v,b≠T→w.cell? ⟨b,i,none⟩=some v→w'.cell? ⟨b,i,none⟩=some v:=fun b i v hb hv=>(World.cell?_of_block (w:=w) (hg.block b (World.block_lt_of_cell? _ _ hv) (by simp;omega))).trans hv
  have hBT:B≠T:=by omega
  exact⟨kc _ _ _ hBT h.W.c0,kc _ _ _ hBT h.W.c1,kc _ _ _ hBT h.W.c2,kc _ _ _ hBT h.W.c3,fun j=>(World.frozen?_of_block (w:=w) (hg.block B (World.block_lt_of_cell? _ _ h.W.c0) (by simp;omega))).trans (h.W.fr j),h.W.len,h.W.cap,h.W.small,h.W.pos,h.W.gB,fun i hi=>by
   obtain⟨g,o,e,hc⟩:=h.W.by_ i hi;have:=h.ag g o e;exact⟨g,o,e,kc _ _ _ (by omega) hc⟩⟩
 ·exact h.bel.trans ⟨hg.os,hg.tape,hg.output,hg.size,fun k hk=>hg.block k (by have:=h.bel.size;omega) (by simp;omega)⟩
theorem countF_le (bs:List UInt8)(least most:Nat):∀(f p n:Nat) (first:Bool),n≤most→(countF bs least most f p n first).1≤most:=by
 intro f;induction f with
 |zero=>intro p n first h;exact Nat.zero_le _
 |succ f ih=>
  intro p n first h;unfold countF;split
  ·exact h
  ·split
   ·exact Nat.zero_le _
   ·rename_i h1 h2;exact ih _ _ _ (by omega)
theorem countW_le (bs:List UInt8)(least most:Nat)(s:WS):(countW bs least most s).1≤most:=by
 unfold countW;split
 ·exact Nat.zero_le _
 ·exact countF_le _ _ _ _ _ _ _ (Nat.zero_le _)
theorem textW_size (bs:List UInt8)(k:Nat)(s:WS)(hk:k≤40):(textW bs k s).1.size≤40:=by
 unfold textW;split
 ·exact Nat.zero_le _
 ·split
  ·exact Nat.zero_le _
  ·show((bs.drop _).take k).toArray.size≤40;simp;omega
def live1 (n:Nat)(s:WS):Prop:=s.short=true∨1≤n
theorem live_expect {c:UInt8}(h:s.ok bs.length):live1 bs.length (expectW bs c s):=by
 have:=h.pos;unfold live1 expectW;by_cases hn:1≤bs.length
 ·exact .inr hn
 ·left;rw[if_pos]
  ·simp only[WS.look,Bool.or_eq_true,decide_eq_true_eq];right;omega
  ·simp only[WS.look,Bool.or_eq_true,decide_eq_true_eq];left;right;omega
theorem append1 (ts:List ByteArray)(t:ByteArray):ts.map Value.string++[Value.string t]=(ts++[t]).map Value.string:=by simp
theorem countF_one (bs:List UInt8)(most:Nat):∀(f p n:Nat) (first:Bool),(first=false→1≤n)→(countF bs 1 most f p n first).2.wrong=false→(countF bs 1 most f p n first).2.short=false→1≤(countF bs 1 most f p n first).1:=by
 intro f;induction f with
 |zero=>intro p n first h hw hs;cases hs
 |succ f ih=>
  intro p n first h;unfold countF;split
  ·rename_i h1;intro _ _;exact h h1.1
  ·split
   ·intro hw;cases hw
   ·rename_i h1 h2;refine ih _ _ _ (fun _=>?_);cases first with
    |true=>
     have h3:¬(byAt bs p-48<1):=fun h=>h2 (.inr (.inr (.inl ⟨rfl,h⟩)))
     omega
    |false=>have:=h rfl;omega
theorem countW_one (bs:List UInt8)(most:Nat)(s:WS)(hw:(countW bs 1 most s).2.wrong=false)(hs:(countW bs 1 most s).2.short=false):1≤(countW bs 1 most s).1:=by
 unfold countW at hw hs⊢;split
 ·rename_i h;rw[if_pos h]at hw hs;simp only[Bool.or_eq_true]at h;rcases h with h|h
  ·simp only at hs;rw[h]at hs;cases hs
  ·simp only[WS.look]at hw;rw[h]at hw;cases hw
 ·rename_i h;rw[if_neg h]at hw hs;exact countF_one _ _ _ _ _ _ (fun h=>by cases h) hw hs
theorem lsRead_any (a:Option Addr)(n c:Nat)(bs:List UInt8)(w:World)(hB:BytesA w a n c bs):Calls Tryz.prog 251 #[.agg #[],.slice a n c] w fun e w'=>StepOut w w' (lsR bs) e∧Below w.heap.size w w':=by
 have HB:=hide' hB;have hlen:=hide' hB.len;have hsm:=hB.small;clear hB;have HX:Hid (lsR bs=(let t:=textsW bs (countW bs 1 5 (expectW bs 42 ⟨0,false,false⟩)).1 (countW bs 1 5 (expectW bs 42 ⟨0,false,false⟩)).2 [];if t.2.wrong then some ⟨wrongC formB true,t.2.pos+1,false⟩else if t.2.short then none else some (textsR t.1 t.2.pos))):=(show _=_ from rfl)
 generalize lsR bs=RES at*;have hmk:=hmk;go_enter Tryz.func251,Tryz.ntmps251;go_wp2_with fail
 go_at_call 253;have q:∀a b c,Below w.heap.size w (((w.alloc a).alloc b).alloc c):=fun a b c=>((((Below.refl _ _).alloc (Nat.le_refl _) _).alloc (by simp) _).alloc (by simp;omega) _)
 refine(expectG _ _ a n c bs ⟨0,false,false⟩ 42 ⟨by go_simp,by go_simp,by go_simp,by go_simp,fun j=>by go_simp,HB.out.len,HB.out.cap,HB.out.small,Nat.zero_le _,fun g o e=>by have:=HB.out.ag g o e;omega,fun i hi=>?_⟩).mono ?_
 ·obtain⟨g,o,e,hc⟩:=HB.out.by_ i hi;exact⟨g,o,e,((q _ _ _).cell (p:=⟨g,o+i,none⟩) (HB.out.ag g o e)).trans hc⟩
 rintro e w1 ⟨rfl,W1,O1⟩;have hs1:=O1.size;simp at hs1;have hR1:w1.heap[w.heap.size+1]?=some (.cells zStep 255 (0,0)):=by
  rw[O1.block _ (by omega),Below.heap_alloc _ _ _ (by simp)];have:=blkNew (w.alloc (.cells #[] 162)) (.cells zStep 255 (0,0));rw[World.size_alloc]at this;exact this
 have hBel1:Below w.heap.size w w1:=(q _ _ _).trans (O1.below.mono (by omega));have k1:(expectW bs 42 ⟨0,false,false⟩).ok n:=by rw[←hlen.out];exact expectW_ok ⟨Nat.zero_le _,fun h=>(by cases h)⟩
 have HL:Hid (live1 n (expectW bs 42 ⟨0,false,false⟩)):=by show live1 _ _;rw[←hlen.out];exact live_expect ⟨Nat.zero_le _,fun h=>(by cases h)⟩
 clear O1;generalize expectW bs 42 ⟨0,false,false⟩=s1 at*;go_wp2_with fail
 go_at_call 254;refine(countG _ _ a n c bs s1 1 5 W1 (by omega) (by omega)).mono ?_;rintro e w2 ⟨rfl,W2,O2⟩;have hs2:=O2.size;have hR2:=(O2.block (w.heap.size+1) (by omega)).trans hR1;have hBel2:=hBel1.trans (O2.below.mono (by omega));have k2:(countW bs 1 5 s1).2.ok n:=by have:=k1;rw[←hlen.out]at this⊢;exact countW_ok this
 have hN5:=countW_le bs 1 5 s1;have HN1:=hide' (countW_one bs 5 s1);have hN0:n=0→(countW bs 1 5 s1).1=0:=by
  intro h0;rcases HL.out with h|h
  ·unfold countW;rw[if_pos (by simp[WS.look,h])]
  ·omega
 have HN0:=hide' hN0;clear O2 hR1 W1 hBel1 HL hN0;generalize hC:countW bs 1 5 s1=C at*;obtain⟨N,s2⟩:=C;clear hC k1;simp only at W2 k2 hN5 HN1 HX HN0;have hsz:w2.heap.size=w.heap.size+3:=by omega
 have HX2:Hid (∃X,textsW bs N s2 []=X∧RES=(if X.2.wrong then some ⟨wrongC formB true,X.2.pos+1,false⟩else if X.2.short then none else some (textsR X.1 X.2.pos))):=⟨_,rfl,HX.out⟩
 clear HX;obtain⟨X,hX1,hX2⟩:=HX2.out;have HX1:=hide' hX1;have HX3:=hide' hX2;clear hX1 hX2 HX2;go_wp2;generalize hW3:w2.alloc (Obj.cells #[Value.string {data:=#[]},Value.string {data:=#[]},Value.string {data:=#[]},Value.string {data:=#[]},Value.string {data:=#[]}] 9)=w3;have L3:LG w w3 a n c bs s2 (w.heap.size+1) (w.heap.size+1+1) (w.heap.size+1+1+1) []:=by
  rw[←hW3];have hn:=blkNew w2 (.cells #[.string ⟨#[]⟩,.string ⟨#[]⟩,.string ⟨#[]⟩,.string ⟨#[]⟩,.string ⟨#[]⟩] 9);rw[hsz]at hn;exact⟨W2.later (fun b ⟨v,i,hv⟩=>Below.heap_alloc w2 _ b (World.block_lt_of_cell? _ _ hv)),(Below.heap_alloc w2 _ _ (by omega)).trans hR2,⟨rfl,.inr ⟨_,5,_,rfl,Nat.zero_le _,hn,by simp,by decide,rfl,rfl⟩⟩,hBel2.alloc hBel2.size _,by omega,by omega,by omega,HB.out.ag⟩
 have HL3:=hide' L3;clear hW3 W2 hR2 hBel2 hs2 hsz hs1 L3 q;go_loopw [7,14] (fun tx i wr=>∃(j:Nat) (ts:List ByteArray) (s':WS),i= .int .i64 j∧tx= .slice (some ⟨w.heap.size+1+1+1,0,none⟩) j 5∧j≤N∧Hid (ts.length=j∧LG w wr a n c bs s' (w.heap.size+1) (w.heap.size+1+1) (w.heap.size+1+1+1) ts∧textsW bs (N-j) s' ts=X∧(∀t∈ts,t.size≤40)∧s'.ok n)) (fun _ i _=>N-(intOf i).toNat)
 case atStart=>exact⟨0,[],s2,rfl,rfl,Nat.zero_le _,rfl,HL3.out,HX1.out,fun _ h=>(by cases h),k2⟩
 case round=>
  obtain⟨j,ts,s',rfl,rfl,hj,HJ⟩:=hrel;by_cases hlt:j<N
  ·have hn1:1≤n:=by
    rcases Nat.eq_zero_or_pos n with h|h
    ·have:=HN0.out h;omega
    ·exact h
   have hlt':(j:Int)<(N:Int):=by omega
   obtain⟨i9,hi,hz0,hz1,hz2⟩:=info9;have HI:=hide' (And.intro hi hz1);clear hi hz0 hz1 hz2;have HS:Hid (textsW bs (N-(j+1)) (oneW bs s').2 (ts++[(oneW bs s').1])=X):=by
    show _=_;have:=HJ.out.2.2.1;rw[show N-j=(N-(j+1))+1 by omega]at this;exact this
   have HK1:Hid ((oneW bs s').2.ok n):=by have:=HJ.out.2.2.2.2;show WS.ok _ _;rw[←hlen.out]at this⊢;exact oneW_ok this
   have HON:Hid (oneW bs s'=(let c:=countW bs 0 40 (expectW bs 36 s');let t:=textW bs c.1 c.2;(t.1,expectW bs 10 t.2))):=(show _=_ from rfl)
   generalize oneW bs s'=ON at*;go_wp2_with fail
   go_at_call 253;refine(expectG _ _ a n c bs s' 36 HJ.out.2.1.W).mono ?_;rintro e w4 ⟨rfl,W4,O4⟩;have L4:=hide' (HJ.out.2.1.only O4 W4);clear O4 W4;generalize expectW bs 36 s'=s4 at*;go_wp2_with fail
   go_at_call 254;refine(countG _ _ a n c bs s4 0 40 L4.out.W (by omega) (by omega)).mono ?_;rintro e w5 ⟨rfl,W5,O5⟩;have L5:=hide' (L4.out.only O5 W5);have hk40:=countW_le bs 0 40 s4;clear O5 W5 L4;generalize countW bs 0 40 s4=CC at*;obtain⟨k,s5⟩:=CC;simp only at L5 hk40 HON;go_wp2_with fail
   go_at_call 255;refine(textG _ _ a n c bs s5 k L5.out.W hk40 (.inr hn1)).mono ?_;rintro e w6 ⟨rfl,W6,O6⟩;have L6:=hide' (L5.out.only O6 W6);have ht40:=textW_size bs k s5 hk40;clear O6 W6 L5;generalize textW bs k s5=TT at*;obtain⟨tx,s6⟩:=TT;simp only at L6 ht40 HON;have L7:=hide' (L6.out.alloc (.cells #[.string tx] 9));have HNW:=hide' (show∀(i:Nat) (v:Value),[Value.string tx][i]?=some v→(w6.alloc (.cells #[.string tx] 9)).cell? ((⟨w6.heap.size,0,none⟩:Addr).add i)=some v from World.news_of_block (cs:=#[.string tx]) (blkNew w6 (.cells #[.string tx] 9)));have HOW:Hid ((w6.alloc (.cells #[.string tx] 9)).ownsRow 0 9 1 (.slice (some ⟨w.heap.size+1+1+1,0,none⟩) j 5) j (ts.map Value.string)):=by
    have:=L7.out.hT;unfold OwnT at this;rw[HJ.out.1]at this;exact this
   go_wp2_with (first
    |(at_builtin;refine wpList_append_fits _ rfl _ _ _ rfl 0 9 i9 1 Tryz.underlying34 HI.out.1 HI.out.2 (w.heap.size+1+1+1) j 5 (ts.map Value.string) rfl HOW.out ⟨w6.heap.size,0,none⟩ 1 1 [Value.string tx] rfl rfl HNW.out (fun u hu=>by simp at hu;subst hu;rfl) (by omega) ?_;intro w8 hown8 hgrow8;have L8:=hide' (L7.out.grown (ts':=ts++[tx]) hgrow8 (by unfold OwnT;rw[←append1,List.length_append,HJ.out.1];exact hown8));clear hown8 hgrow8)
    |fail)
   go_at_call 253;refine(expectG _ _ a n c bs s6 10 L8.out.W).mono ?_;rintro e w9 ⟨rfl,W9,O9⟩;have L9:=hide' (L8.out.only O9 W9);clear O9 W9 L8 L7 L6 HNW HOW;go_wp2;go_roundw;case rel=>
    have e:=HON.out;refine⟨j+1,ts++[tx],expectW bs 10 s6,by go_num,rfl,by omega,?_,L9.out,?_,?_,?_⟩
    ·rw[List.length_append,HJ.out.1];rfl
    ·have:=HS.out;rw[e]at this;exact this
    ·intro t ht;rw[List.mem_append,List.mem_singleton]at ht;rcases ht with ht|rfl
     ·exact HJ.out.2.2.2.1 t ht
     ·exact ht40
    ·have:=HK1.out;rw[e]at this;exact this
   case measure=>simp[intOf];omega
  ·have hjN:j=N:=by omega
   have hlt':¬(j:Int)<(N:Int):=by omega
   have hX:X=(ts,s'):=by
    have:=HJ.out.2.2.1;rw[show N-j=0 by omega]at this;exact this.symm
   have hRES:=HX3.out;rw[hX]at hRES;simp only at hRES;have HNN:Hid (s'.wrong=false→s'.short=false→1≤N):=fun hw hs=>by
    have e:=HX1.out;rw[hX]at e;have k2':=k2;rw[←hlen.out]at k2';have e2:(textsW bs N s2 []).2=s':=by rw[e]
    have m:=textsW_mono [] N s2 [] k2' (by rw[e2];exact hs);refine HN1.out ?_ m.2;cases hq:s2.wrong with
    |false=>rfl
    |true=>have:=textsW_stays (bs:=bs) N s2 [] hq;rw[e2,hw]at this;cases this
   have HE:=hide' hRES;clear hRES HX3 HX1 hX;have L:=HJ.out.2.1;have hts:=HJ.out.1;obtain⟨p,wg,sh⟩:=s';have c1:=L.W.c1;have c2:=L.W.c2;have c3:=L.W.c3;have hp:=L.W.pos;simp only at c1 c2 c3 hp HE;have rR:wr.heap[w.heap.size+1]?=some (.cells zStep 255 (0,0)):=L.hR;have rlt:=blkLt rR;have bel:=L.bel;cases wg with
   |true=>
    have hr:RES=some ⟨wrongC formB true,p+1,false⟩:=HE.out;subst hr;have HRB:=hide' (And.intro rR bel);clear rR bel L HJ HE HL3 HN1 HN0;go_wp2_with fail
    go_at_call 218;refine(wrong_any _ _ _).mono ?_;rintro e w8 ⟨rfl,hb8⟩;have hR8:=(hb8.block _ (blkLt HRB.out.1)).trans HRB.out.1;have hB8:=HRB.out.2.trans (hb8.mono HRB.out.2.size);have H8:=hide' (And.intro hR8 hB8);have hz8:=hb8.size;have HF:=hide' (fatal_any ⟨#[102,111,114,109]⟩ ((p:Int)+1) w8);clear hb8 hR8 hB8 c1 c2 c3;unfold stepV at*;go_wp2_with fail
    go_at_call 247;refine HF.out.mono ?_;rintro e w9 ⟨rfl,hb9⟩;have hR9:=(hb9.block _ (blkLt H8.out.1)).trans H8.out.1;have H9:=hide' (H8.out.2.trans (hb9.mono H8.out.2.size));obtain⟨⟨r0,r1,r2,r3,r4,r5,r6,r7⟩,rf⟩:=zcells_of hR9;have hz9:=blkLt hR9;clear hb9 hR9 HF;go_wp2;refine bodyPost_ret (v:=stepV 4 (.slice none 0 0) ⟨#[]⟩ ⟨#[102,111,114,109]⟩ true 0 (p+1:Nat) false) (by simp[results,Tryz.results251,go_sem,stepV,r0,r1,r2,r3,r4,r5,r6,r7]) rfl ⟨⟨_,rfl,.inl ⟨rfl,rfl⟩⟩,?_⟩;exact set8 H9.out (by omega) _ _ _ _ _ _ _ _
   |false=>
    cases sh with
    |true=>
     have hr:RES=none:=HE.out;subst hr;obtain⟨⟨r0,r1,r2,r3,r4,r5,r6,r7⟩,rf⟩:=zcells_of rR;have HRB:=hide' (And.intro rR bel);clear rR bel L HJ HE HL3 HN1 HN0;go_wp2;refine bodyPost_ret (v:=zStepV) (by simp[results,Tryz.results251,go_sem,zStepV,r0,r1,r2,r3,r4,r5,r6,r7]) rfl ⟨rfl,?_⟩;exact set8 HRB.out.2 (by omega) _ _ _ _ _ _ _ _
    |false=>
     have hr:RES=some (textsR ts p):=HE.out;subst hr;have hN1:1≤N:=HNN.out rfl rfl;subst hjN;have HT:=hide' (readTexts_any (w.heap.size+1+1+1) ts j p wr hts L.hT.texts (by omega) (by omega) (fun s hs=>by have:=HJ.out.2.2.2.1 s hs;unfold maxLen;omega));have HRB:=hide' (And.intro rR bel);clear rR bel L HJ HE HL3 HN1 HN0;go_wp2_with fail
     go_at_call 256;refine HT.out.mono ?_;rintro e w8 ⟨he8,hb8⟩;have hR8:=(hb8.block _ (blkLt HRB.out.1)).trans HRB.out.1;have H8:=hide' (HRB.out.2.trans (hb8.mono HRB.out.2.size));obtain⟨kv,he,hkv⟩:=he8;obtain⟨ka,kn,kc,hkf⟩:=hkv.form;subst hkf;subst he;obtain⟨⟨r0,r1,r2,r3,r4,r5,r6,r7⟩,rf⟩:=zcells_of hR8;have hz8:=blkLt hR8;have HKV:=hide' hkv;have hsz8:=hb8.size;clear hb8 hR8 HT hkv c1 c2 c3;generalize hSR:textsR ts p=SR at*;have HSR:=hide' hSR;clear hSR;unfold stepV;go_wp2;refine bodyPost_ret (v:=stepV SR.c.kind (.slice ka kn kc) SR.c.val SR.c.word SR.c.fatal SR.c.id SR.used SR.skip) (by simp[results,Tryz.results251,go_sem,stepV,r0,r1,r2,r3,r4,r5,r6,r7]) rfl ⟨?_,?_⟩
     ·rw[HSR.out];refine⟨_,rfl,?_⟩;rcases HKV.out with h|⟨b,c',e1,e2,e3⟩
      ·exact .inl h
      ·have:=HRB.out.2.size;refine .inr ⟨b,c',e1,by omega,e3.other (set8_other (by omega) _ _ _ _ _ _ _ _)⟩
     ·exact set8 H8.out (by omega) _ _ _ _ _ _ _ _
end Go.Proofs.YtlonjggfnleolaaGreatDoor
