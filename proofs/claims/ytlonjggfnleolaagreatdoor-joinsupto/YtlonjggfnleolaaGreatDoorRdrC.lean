import Derived.Test.YtlonjggfnleolaaGreatDoorCountG
import Derived.Test.YtlonjggfnleolaaGreatDoorLineC
import Derived.OwnWalk
import Derived.Lib.AppendStr
namespace Go.Proofs.YtlonjggfnleolaaGreatDoor
open Go.RowKit
set_option linter.unusedVariables false
set_option maxHeartbeats 4000000
set_option maxRecDepth 20000
theorem below_undrew {w w1:World}(h:Below w.drew.heap.size w.drew w1):Below w.heap.size w w1:=⟨h.os,h.tape,h.output,h.size,h.block⟩
theorem readTexts_set (T:Nat)(x y z:ByteArray)(u:Nat)(w:World)(hT:TextsAt w T 5 [x,y,z])(hs:y.size≤maxLen)(hs2:z.size≤maxLen)(hk:kindB x=2):Calls Tryz.prog 256 #[.slice (some ⟨T,0,none⟩) 3 5,.int .i64 (u:Int)] w fun e w'=>StepOut w w' (some (textsR [x,y,z] u)) e∧Below w.heap.size w w':=by
 have hR:textsR [x,y,z] u=if cmdB 2 [y] z then⟨⟨2,[y],z,noB,false,0⟩,u,false⟩else⟨wrongC dataB false,u,false⟩:=by
  unfold textsR;simp only[List.getD_cons_zero,List.drop_succ_cons,List.drop_zero,hk,if_true,List.length_cons,List.length_nil,List.take_succ_cons,List.take_zero,and_self,List.getD_cons_succ]
 have HR:=hide' hR;clear hR;obtain⟨i9,hi,hz0,hz1,hz2⟩:=info9;have HI:=hide' (And.intro hi (And.intro hz0 (And.intro hz1 hz2)));clear hi hz0 hz1 hz2;have hlt:=hT.lt;have hlt1:T<w.heap.size+1:=by omega
 have hlt2:T<w.heap.size+1+1:=by omega
 obtain⟨Z,hZ,hzs,hzl,hzi⟩:=hT;have c0:w.cell? ⟨T,0,none⟩=some (.string x):=by rw[blkCell hZ 0];exact hzi 0 x rfl
 have c1:w.cell? ⟨T,1,none⟩=some (.string y):=by rw[blkCell hZ 1];exact hzi 1 y rfl
 have c2:w.cell? ⟨T,2,none⟩=some (.string z):=by rw[blkCell hZ 2];exact hzi 2 z rfl
 have c2':w.cell? ⟨T,1+1,none⟩=some (.string z):=c2;clear hZ hzs hzl hzi Z;have HX:=hide' (show∀W:World,Calls Tryz.prog 224 #[.string x] W fun e w'=>e= .returned (.int .i64 2)∧w'=W from fun W=>by rw[←hk];exact kindOf_any x W);have HY:=hide' c1;clear hk;have HN:Hid (∀W,Below w.heap.size w W→∀(j:Nat) (v:Value),[Value.string y][j]?=some v→W.cell? ((⟨T,1,none⟩:Addr).add j)=some v):=fun W hW j v hv=>by
  match j,hv with
  |0,hv=>
   simp at hv;subst hv;have hadd:(⟨T,1,none⟩:Addr).add 0=⟨T,1,none⟩:=by unfold Addr.add;split<;>simp_all
   rw[hadd];exact(hW.cell (p:=⟨T,1,none⟩) hlt).trans HY.out
 have HO:Hid (∀u∈[Value.string y],u.oneCell'=true):=fun u hu=>by
  simp at hu;subst hu;rfl
 go_enter Tryz.func256,Tryz.ntmps256;go_wp2_with (go_at_call 224;refine(HX.out _).mono ?_;rintro e w' ⟨rfl,rfl⟩)
 go_region
 go_wp2_with (first
  |(at_builtin;refine wpList_append_lies _ rfl _ _ _ rfl w.heap.size 9 i9 (.string ⟨#[]⟩) 1 16 Tryz.underlying34 HI.out.1 HI.out.2.1 HI.out.2.2.1 HI.out.2.2.2 rfl (by omega) (.slice none 0 0) 0 [] rfl (World.ownsRow_nil _ _ _ _) ⟨T,1,none⟩ 1 4 [Value.string y] rfl rfl (HN.out _ (by repeat(first|with_reducible exact Below.refl _ _|with_reducible refine Below.drew ?_|with_reducible refine below_drewN ?_ _|with_reducible refine Below.alloc ?_ (by simp;try omega) _|with_reducible refine Below.setCell ?_ (by simp;try omega) _))) HO.out (by omega) (by unfold maxLen;omega) (by omega) (by simp;omega) _ rfl ?_;intro g cap w1 hown hgrow hat hlt3;have hB1:=below_undrew (grown_below hgrow);have HF:=hide' (And.intro hown (And.intro hB1 hat));obtain⟨hRb,hCb⟩:=two_kept hB1;obtain⟨⟨r0,r1,r2,r3,r4,r5,r6,r7⟩,rf⟩:=zcells_of hRb;obtain⟨⟨k0,k1,k2,k3,k4,k5⟩,kf⟩:=ccells_of hCb;have hz1:=blkLt hCb;have HRC:=hide' (And.intro hRb hCb);clear hown hgrow hat hB1 hRb hCb)
  |fail)
 have hg:g=w.heap.size+1+1:=by
  rcases HF.out.2.2 with h|h
  ·cases h
  ·simpa using h
 have hTx:TextsAt w1 g cap [y]:=by
  have:=HF.out.1;rw[List.nil_append]at this;exact(owns_texts (ks:=[y]) (m:=1) rfl (by omega) this).1
 have hTx2:=hTx.other (w':=w1.setCell ⟨w.heap.size+1,1,none⟩ (.slice (some ⟨g,0,none⟩) 1 cap)) (Below.heap_setCell _ _ _ _ (by show g≠w.heap.size+1;omega));have hS:=texts_strs hTx2 (by simp) (by simpa using hs);have hbel:Below w.heap.size w w1:=(((Below.refl _ _).alloc (Nat.le_refl _) _).alloc (by simp) _).trans (HF.out.2.1.mono (by simp;omega));have hbel2:Below w.heap.size w (w1.setCell ⟨w.heap.size+1,1,none⟩ (.slice (some ⟨g,0,none⟩) 1 cap)):=hbel.setCell (p:=⟨w.heap.size+1,1,none⟩) (by show w.heap.size≤w.heap.size+1;omega) _;have hRb2:(w1.setCell ⟨w.heap.size+1,1,none⟩ (.slice (some ⟨g,0,none⟩) 1 cap)).heap[w.heap.size]?=some (.cells #[.int .i64 0,.slice none 0 0,.string ⟨#[]⟩,.string ⟨#[]⟩,.bool false,.int .i64 0,.int .i64 0,.bool false] 255 (0,0)):=(Below.heap_setCell _ ⟨w.heap.size+1,1,none⟩ _ _ (by show w.heap.size≠w.heap.size+1;omega)).trans HRC.out.1
 have hCb2:=blkSet (i:=1) HRC.out.2 (.slice (some ⟨g,0,none⟩) 1 cap);have HCM:=hide' (cmd_any 2 _ [y] z ⟨#[]⟩ false 0 _ hS hs2);clear hS r0 r1 r2 r3 r4 r5 r6 r7 rf k0 k1 k2 k3 k4 k5 kf HN HX c0 c1 c2 c2' HY;clear HF HRC hTx hbel HI HO;generalize hW2:w1.setCell ⟨w.heap.size+1,1,none⟩ (.slice (some ⟨g,0,none⟩) 1 cap)=w2 at*;clear hW2;unfold cmdV6 at HCM;refine HCM.out.mono ?_;rintro e w3 ⟨rfl,hb3⟩;have hR3:=(hb3.block _ (blkLt hRb2)).trans hRb2;have hC3:=(hb3.block _ (blkLt hCb2)).trans hCb2;have hT3:=hTx2.later hb3;have hB3:=hbel2.trans (hb3.mono hbel2.size);have HK:=hide' (And.intro hR3 (And.intro hC3 (And.intro hT3 hB3)));obtain⟨⟨r0,r1,r2,r3,r4,r5,r6,r7⟩,rf⟩:=zcells_of hR3;obtain⟨⟨k0,k1,k2,k3,k4,k5⟩,kf⟩:=ccells_of hC3
 have hz3:=blkLt hC3;clear hb3 hR3 hC3 hT3 hB3 hRb2 hCb2 hTx2 hbel2 HCM;cases hcm:cmdB 2 [y] z with
 |false=>
  go_wp2_with fail
  go_at_call 218;refine(wrong_any _ _ _).mono ?_;rintro e w4 ⟨rfl,hb4⟩;have hR4:=(hb4.block _ (blkLt HK.out.1)).trans HK.out.1;have hB4:=HK.out.2.2.2.trans (hb4.mono HK.out.2.2.2.size);obtain⟨⟨s0,s1,s2,s3,s4,s5,s6,s7⟩,sf⟩:=zcells_of hR4;have H4:=hide' hB4;clear hb4 hR4 hB4 r0 r1 r2 r3 r4 r5 r6 r7 rf k0 k1 k2 k3 k4 k5 kf;unfold stepV;go_wp2;refine bodyPost_ret (v:=stepV 4 (.slice none 0 0) ⟨#[]⟩ dataB false 0 u false) (by simp[results,Tryz.results256,go_sem,stepV,dataB,s0,s1,s2,s3,s4,s5,s6,s7]) rfl ⟨?_,?_⟩
  ·rw[HR.out,hcm,if_neg (by simp)];exact⟨_,rfl,.inl ⟨rfl,rfl⟩⟩
  ·exact set8 H4.out (Nat.le_refl _) _ _ _ _ _ _ _ _
 |true=>
  go_wp2;refine bodyPost_ret (v:=stepV 2 (.slice (some ⟨g,0,none⟩) 1 cap) z ⟨#[]⟩ false 0 u false) (by simp[results,Tryz.results256,go_sem,stepV,r0,r1,r2,r3,r4,r5,r6,r7]) rfl ⟨?_,?_⟩
  ·rw[HR.out,hcm,if_pos rfl];refine⟨_,rfl,.inr ⟨g,cap,rfl,by omega,HK.out.2.2.1.other ?_⟩⟩;exact set8_other (by omega) _ _ _ _ _ _ _ _
  ·exact set8 HK.out.2.2.2 (Nat.le_refl _) _ _ _ _ _ _ _ _
theorem readTexts_none (T n:Nat)(x:ByteArray)(r:StepR)(u:Nat)(w:World)(hlt:T<w.heap.size)(c0:w.cell? ⟨T,0,none⟩=some (.string x))(hn:n≤5)(h1:1≤n)(hk:(kindB x=2∧n≠3)∨(kindB x≠2∧n=1)):Calls Tryz.prog 256 #[.slice (some ⟨T,0,none⟩) n 5,.int .i64 (u:Int)] w fun e w'=>StepOut w w' (some ⟨wrongC dataB false,u,false⟩) e∧Below w.heap.size w w':=by
 have hlt1:T<w.heap.size+1:=by omega
 have hlt2:T<w.heap.size+1+1:=by omega
 have HB2:=hide' (show∀x y,Below w.heap.size w ((w.alloc x).alloc y)from fun x y=>((Below.refl _ _).alloc (Nat.le_refl _) _).alloc (by simp) _);have hcf:∀k:Int,cmdB k [] ⟨#[]⟩=false:=by
  intro k;simp[cmdB,keysB,withinB]
 have HCM:Hid (∀(k:Int) (W:World),Calls Tryz.prog 48 #[.agg #[.int .i64 k,.slice none 0 0,.string ⟨#[]⟩,.string ⟨#[]⟩,.bool false,.int .i64 0]] W fun e w'=>e= .returned (.bool false)∧Below W.heap.size W w'):=fun k W=>by
  have:=cmd_any k (.slice none 0 0) [] ⟨#[]⟩ ⟨#[]⟩ false 0 W ⟨.inr ⟨none,rfl,rfl⟩,by simp,by simp⟩ (by decide);rw[hcf k]at this;exact this
 clear hcf;rcases hk with⟨hk,hn3⟩|⟨hk,hn1⟩
 case' inl=>
  have HX:=hide' (show∀W:World,Calls Tryz.prog 224 #[.string x] W fun e w'=>e= .returned (.int .i64 2)∧w'=W from fun W=>by rw[←hk];exact kindOf_any x W)
  have hn2:(((n:Int)-1)==2)=false:=by rw[beq_eq_false_iff_ne];omega
  have hn2':(((n-1:Nat):Int)==2)=false:=by rw[beq_eq_false_iff_ne];omega
  clear hk hn3
 case' inr=>
  have hkn:(kindB x==2)=false:=by simpa using hk
  have HX:=hide' (show∀W:World,Calls Tryz.prog 224 #[.string x] W fun e w'=>e= .returned (.int .i64 (kindB x))∧w'=W from fun W=>kindOf_any x W)
  subst hn1
  clear hk
  generalize kindB x=k at*
 all_goals
  go_enter Tryz.func256,Tryz.ntmps256
  go_wp2_with (first
   |(go_at_call 224;refine(HX.out _).mono ?_;rintro e w' ⟨rfl,rfl⟩)
   |(go_at_call 48;refine(HCM.out _ _).mono ?_;rintro e w3 ⟨rfl,hb3⟩;obtain⟨hRb,hCb⟩:=two_kept hb3;have hz3:=blkLt hCb;have H3:=hide' (And.intro hRb ((HB2.out _ _).trans (hb3.mono (by simp;omega))));clear hRb hCb hb3)
   |(go_at_call 218;refine(wrong_any _ _ _).mono ?_;rintro e w4 ⟨rfl,hb4⟩;have hR4:=(hb4.block _ (blkLt H3.out.1)).trans H3.out.1;have H4:=hide' (H3.out.2.trans (hb4.mono H3.out.2.size));obtain⟨⟨s0,s1,s2,s3,s4,s5,s6,s7⟩,sf⟩:=zcells_of hR4;clear hR4 hb4;unfold stepV))
  refine bodyPost_ret (v:=stepV 4 (.slice none 0 0) ⟨#[]⟩ dataB false 0 u false) (by simp[results,Tryz.results256,go_sem,stepV,dataB,s0,s1,s2,s3,s4,s5,s6,s7]) rfl ⟨⟨_,rfl,.inl ⟨rfl,rfl⟩⟩,?_⟩
  exact set8 H4.out (Nat.le_refl _) _ _ _ _ _ _ _ _
theorem readTexts_any (T:Nat)(ts:List ByteArray)(n u:Nat)(w:World)(hn:ts.length=n)(hT:TextsAt w T 5 ts)(h1:1≤n)(h5:n≤5)(hs:∀s∈ts,s.size≤maxLen):Calls Tryz.prog 256 #[.slice (some ⟨T,0,none⟩) n 5,.int .i64 (u:Int)] w fun e w'=>StepOut w w' (some (textsR ts u)) e∧Below w.heap.size w w':=by
 subst hn;have hc0:∀x ks,ts=x::ks→w.cell? ⟨T,0,none⟩=some (.string x):=by
  rintro x ks rfl;obtain⟨Z,hZ,_,_,hi⟩:=hT;rw[blkCell hZ 0];exact hi 0 x rfl
 match ts,hT,h1,h5,hs,hc0 with
 |x::ks,hT,h1,h5,hs,hc0=>
  have c0:=hc0 x ks rfl;by_cases hk:kindB x=2
  ·by_cases h3:ks.length=2
   ·match ks,h3,hT,hs with
    | [y,z],_,hT,hs=>exact readTexts_set T x y z u w hT (hs y (by simp)) (hs z (by simp)) hk
   ·have e:textsR (x::ks) u=⟨wrongC dataB false,u,false⟩:=by
     have hc:cmdB 2 [] noB=false:=by simp[cmdB,keysB,withinB]
     unfold textsR;simp only[List.getD_cons_zero,List.drop_succ_cons,List.drop_zero,hk,if_true,h3,if_false,and_false]
     rw[hc];rfl
    rw[e];exact readTexts_none T _ x ⟨wrongC dataB false,u,false⟩ u w hT.lt c0 h5 h1 (.inl ⟨hk,by simp;omega⟩)
  ·by_cases h0:ks=[]
   ·subst h0;have e:textsR [x] u=⟨wrongC dataB false,u,false⟩:=by
     have hc:cmdB (kindB x) [] noB=false:=by simp[cmdB,keysB,withinB]
     unfold textsR;simp only[List.getD_cons_zero,List.drop_succ_cons,List.drop_nil,hk,if_false,false_and]
     rw[hc];rfl
    rw[e];exact readTexts_none T _ x ⟨wrongC dataB false,u,false⟩ u w hT.lt c0 h5 h1 (.inr ⟨hk,by simp⟩)
   ·have hl:1≤ks.length:=by cases ks with|nil=>exact absurd rfl h0|cons=>simp
    exact readTexts_plain T x ks ks.length u w rfl hT hl (by simp at h5;omega) (fun s hs'=>hs s (by simp[hs'])) hk
set_option maxHeartbeats 4000000
set_option maxRecDepth 20000
theorem conv_cells (W:World)(g o n t k cc:Nat)(bs:List UInt8)(hlen:bs.length=n)(hc:∀i,i<n→W.cell? ⟨g,o+i,none⟩=some (.int .u8 (byAt bs i)))(hk:t+k≤n):(convert 80 9 (.slice (some ⟨g,o+t,none⟩) k cc)).run Tryz.prog W= .ok (.string (bytesOf bs t k)) W:=by
 have hl:((bs.drop t).take k).length=k:=by simp;omega
 rw[run_convert_bytes_arg (P:=Tryz.prog) W 80 5 Tryz.underlying80 Tryz.underlying5 g (o+t) k _ (((bs.drop t).take k).map fun b=>(b.toNat:Int)) (by simpa using hl) (fun j hj=>?_) 9 Tryz.underlying9,strOfNums_bytes]
 ·rfl
 have hj2:t+j<bs.length:=by omega
 have e2:((bs.drop t).take k)[j]?=some bs[t+j]:=by
  rw[List.getElem?_take_of_lt hj,List.getElem?_drop,List.getElem?_eq_getElem hj2]
 rw[Nat.add_assoc,hc (t+j) (by omega)];rw[List.getD,List.getElem?_map,e2];simp[byAt,List.getD,List.getElem?_eq_getElem hj2]
theorem textG (w:World)(B:Nat)(a:Option Addr)(n c:Nat)(bs:List UInt8)(s:WS)(k:Nat)(W:WalkG w B a n c bs s)(hk:k≤40)(hn:s.short=true∨1≤n):Calls Tryz.prog 255 #[.pointer (some ⟨B,0,none⟩),.int .i64 (k:Int)] w fun e w'=>e= .returned (.string (textW bs k s).1)∧WalkG w' B a n c bs (textW bs k s).2∧Only B w w':=by
 have HW:=hide' W;obtain⟨p,wr,sh⟩:=s;obtain⟨c0,c1,c2,c3,fr,len,cap,sm,hp,gB,hby⟩:=W;simp only at c1 c2 c3 hp hn;have HN:=hide' len;cases wr with
 |true=>
  have e:textW bs k ⟨p,true,sh⟩=(noB,⟨p,true,sh⟩):=by simp[textW]
  rw[e];clear len hby gB e;go_enter Tryz.func255,Tryz.ntmps255;go_wp2;go_ret;exact⟨rfl,HW.out,Only.refl _ _⟩
 |false=>
  cases sh with
  |true=>
   have e:textW bs k ⟨p,false,true⟩=(noB,⟨p,false,true⟩):=by simp[textW]
   rw[e];clear len hby gB e;go_enter Tryz.func255,Tryz.ntmps255;go_wp2;go_ret;exact⟨rfl,HW.out,Only.refl _ _⟩
  |false=>
   have hn1:1≤n:=by rcases hn with h|h;cases h;exact h
   obtain⟨g,o,rfl,_⟩:=hby 0 (by omega);have hcell:∀i,i<n→w.cell? ⟨g,o+i,none⟩=some (.int .u8 (byAt bs i)):=by
    intro i hi;obtain⟨g',o',e,hc⟩:=hby i hi;cases e;exact hc
   have hgB:=gB g o rfl;clear hby gB hn;by_cases hl:n<p+k
   ·have e:textW bs k ⟨p,false,false⟩=(noB,⟨p,false,true⟩):=by simp[textW,len,hl]
    rw[e];have e0:(n:Int)-p<k:=by omega
    have d3:(w.setCell ⟨B,3,none⟩ (.bool true)).cell? ⟨B,3,none⟩=some (.bool true):=World.cell?_setCell_same' _ _ _ (by rw[c3];rfl);clear len hcell e;go_enter Tryz.func255,Tryz.ntmps255;go_wp2;go_region
    go_wp2;go_ret;have hO:Only B w ((w.setCell ⟨B,3,none⟩ (.bool true)).drew):=((Only.refl B w).setCell rfl _).drew;refine⟨rfl,HW.out.kept hO (by go_simp) (by go_simp) (by go_simp) (by go_simp) (fun j=>by go_simp) hp,hO⟩
   ·have e:textW bs k ⟨p,false,false⟩=(bytesOf bs p k,⟨p+k,false,false⟩):=by
     simp only[textW,len,Bool.or_self,Bool.false_eq_true,if_false];rw[if_neg hl]
    rw[e];have e0:¬(n:Int)-p<k:=by omega
    have hO:Only B w ((w.setCell ⟨B,1,none⟩ (.int .i64 ((p:Int)+k))).drew.drew):=(((Only.refl B w).setCell rfl _).drew).drew;have d1:(w.setCell ⟨B,1,none⟩ (.int .i64 ((p:Int)+k))).cell? ⟨B,1,none⟩=some (.int .i64 ((p:Int)+k)):=World.cell?_setCell_same' _ _ _ (by rw[c1];rfl);by_cases hcp:c=p
    ·have hk0:k=0:=by omega
     have hnp:n=p:=by omega
     subst hk0;have hv:bytesOf bs p 0=noB:=by simp[bytesOf,noB]
     rw[hv];have hcv:=run_convert_bytes_arg (P:=Tryz.prog) ((w.setCell ⟨B,1,none⟩ (.int .i64 ((p:Int)+(0:Nat)))).drew.drew) 80 5 Tryz.underlying80 Tryz.underlying5 g o 0 0 [] rfl (fun i hi=>by omega) 9 Tryz.underlying9;have hs0:strOfNums []=noB:=rfl;rw[hs0]at hcv;subst hcp;have HO:=hide' hO;subst hnp;simp only[Int.natCast_zero,Int.add_zero]at hcv d1 e0;clear len hcell e hv hO;go_enter Tryz.func255,Tryz.ntmps255;go_wp2;go_region
     go_wp2;go_region
     go_wp2;go_ret;have hO:=HO.out;simp only[Int.natCast_zero,Int.add_zero]at hO;refine⟨rfl,HW.out.kept hO (by go_simp) (by go_simp) (by go_simp) (by go_simp) (fun j=>by go_simp) (by show n+0≤n;omega),hO⟩
    ·have hcv:=conv_cells ((w.setCell ⟨B,1,none⟩ (.int .i64 ((p:Int)+k))).drew.drew) g o n p k (c-p) bs len (fun i hi=>(hO.cell (p:=⟨g,o+i,none⟩) hgB).trans (hcell i hi)) (by omega);have HO:=hide' hO;clear len hcell e hO;generalize bytesOf bs p k=V at*;go_enter Tryz.func255,Tryz.ntmps255;go_wp2;go_region
     go_wp2;go_region
     go_wp2;go_ret;have hO:=HO.out;refine⟨rfl,HW.out.kept hO (by go_simp) (by go_simp) (by go_simp) (by go_simp) (fun j=>by go_simp) (by show p+k≤n;omega),hO⟩
set_option maxHeartbeats 4000000
set_option maxRecDepth 20000
variable {w w' w0:World}{a:Option Addr}{n c T B R:Nat}{bs:List UInt8}{ts:List ByteArray}{s:WS}
structure BytesA (w:World)(a:Option Addr)(n c:Nat)(bs:List UInt8):Prop where
 len:bs.length=n
 cap:n≤c
 small:n≤1000000000000000
 ag:∀g o,a=some ⟨g,o,none⟩→g<w.heap.size
 by_:∀i,i<n→∃g o,a=some ⟨g,o,none⟩∧w.cell? ⟨g,o+i,none⟩=some (.int .u8 (byAt bs i))
theorem BytesA.later (h:BytesA w a n c bs)(hb:Below w.heap.size w w'):BytesA w' a n c bs:=
 ⟨h.len,h.cap,h.small,fun g o e=>Nat.lt_of_lt_of_le (h.ag g o e) hb.size,fun i hi=>by
  obtain⟨g,o,e,hc⟩:=h.by_ i hi;exact⟨g,o,e,(hb.cell (p:=⟨g,o+i,none⟩) (h.ag g o e)).trans hc⟩⟩
theorem BytesA.in_ (h:BytesA w a n c bs)(hn:1≤n):∃g o,a=some ⟨g,o,none⟩∧BytesIn w g o n c bs:=by
 obtain⟨g,o,e,_⟩:=h.by_ 0 (by omega);refine⟨g,o,e,h.ag g o e,h.len,h.cap,h.small,fun i hi=>?_⟩;obtain⟨g',o',e',hc⟩:=h.by_ i hi;rw[e]at e';cases e';exact hc
theorem KeysIn.form {lo:Nat}{v:Value}{ss:List ByteArray}(h:KeysIn w lo v ss):∃a n c,v= .slice a n c:=by
 rcases h with⟨h,_⟩|⟨b,c,h,_⟩
 ·exact⟨_,_,_,h⟩
 ·exact⟨_,_,_,h⟩
def OwnT (w:World)(T:Nat)(ts:List ByteArray):Prop:=w.ownsRow 0 9 1 (.slice (some ⟨T,0,none⟩) ts.length 5) ts.length (ts.map Value.string)
theorem OwnT.other (h:OwnT w T ts)(hb:w'.heap[T]?=w.heap[T]?):OwnT w' T ts:=by
 obtain⟨h1,h|⟨g,cap,cur,e,h2,h3,h4⟩⟩:=h
 ·cases h.1
 ·cases e;exact⟨h1,.inr ⟨T,5,cur,rfl,h2,hb.trans h3,h4⟩⟩
theorem OwnT.lt (h:OwnT w T ts):T<w.heap.size:=by
 obtain⟨h1,h|⟨g,cap,cur,e,h2,h3,h4⟩⟩:=h
 ·cases h.1
 ·cases e;exact blkLt h3
theorem OwnT.texts (h:OwnT w T ts):TextsAt w T 5 ts:=by
 obtain⟨h1,h|⟨g,cap,cur,e,h2,h3,h4,h5,h6,h7⟩⟩:=h
 ·cases h.1
 ·cases e;refine⟨cur,h3,by omega,by omega,fun i x hx=>?_⟩;have hi:i<ts.length:=(List.getElem?_eq_some_iff.1 hx).1;have:(cur.toList.take (ts.length*1))[i]?=some (.string x):=by rw[h7,List.getElem?_map,hx];rfl
  rw[List.getElem?_take_of_lt (by omega)]at this;simpa using this
theorem WalkG.later (h:WalkG w B a n c bs s)(k:∀b,(∃v,∃i,w.cell? ⟨b,i,none⟩=some v)→w'.heap[b]?=w.heap[b]?):WalkG w' B a n c bs s:=by
 have kc:∀b i v,w.cell? ⟨b,i,none⟩=some v→w'.cell? ⟨b,i,none⟩=some v:=fun b i v hv=>(World.cell?_of_block (w:=w) (k b ⟨v,i,hv⟩)).trans hv
 have kf:∀j,w'.frozen? ⟨B,j,none⟩=w.frozen? ⟨B,j,none⟩:=fun j=>World.frozen?_of_block (w:=w) (k B ⟨_,_,h.c0⟩)
 exact⟨kc _ _ _ h.c0,kc _ _ _ h.c1,kc _ _ _ h.c2,kc _ _ _ h.c3,fun j=>(kf j).trans (h.fr j),h.len,h.cap,h.small,h.pos,h.gB,fun i hi=>by
  obtain⟨g,o,e,hc⟩:=h.by_ i hi;exact⟨g,o,e,kc _ _ _ hc⟩⟩
structure LG (w0 w:World)(a:Option Addr)(n c:Nat)(bs:List UInt8)(s:WS)(R B T:Nat)(ts:List ByteArray):Prop where
 W:WalkG w B a n c bs s
 hR:w.heap[R]?=some (.cells zStep 255 (0,0))
 hT:OwnT w T ts
 bel:Below w0.heap.size w0 w
 h1:w0.heap.size≤R
 h2:R<B
 h3:B<T
 ag:∀g o,a=some ⟨g,o,none⟩→g<w0.heap.size
theorem LG.only {s':WS}(h:LG w0 w a n c bs s R B T ts)(k:Only B w w')(W':WalkG w' B a n c bs s'):LG w0 w' a n c bs s' R B T ts:=
 ⟨W',(k.block R (by have:=h.h2;omega)).trans h.hR,h.hT.other (k.block T (by have:=h.h3;omega)),h.bel.trans (k.below.mono (by have:=h.h1;have:=h.h2;omega)),h.h1,h.h2,h.h3,h.ag⟩
theorem LG.alloc (h:LG w0 w a n c bs s R B T ts)(ob:Obj):LG w0 (w.alloc ob) a n c bs s R B T ts:=
 ⟨h.W.later (fun b ⟨v,i,hv⟩=>Below.heap_alloc w ob b (World.block_lt_of_cell? _ _ hv)),(Below.heap_alloc w ob R (blkLt h.hR)).trans h.hR,h.hT.other (Below.heap_alloc w ob T h.hT.lt),h.bel.alloc h.bel.size ob,h.h1,h.h2,h.h3,h.ag⟩
theorem LG.grown {ts':List ByteArray}(h:LG w0 w a n c bs s R B T ts)(hg:w.grownBy w' (some T))(hT:OwnT w' T ts'):LG w0 w' a n c bs s R B T ts':=by
 have h1:=h.h1;have h2:=h.h2;have h3:=h.h3;refine⟨?_,(hg.block R (blkLt h.hR) (by simp;omega)).trans h.hR,hT,?_,h1,h2,h3,h.ag⟩
 ·have kc:∀b i v,b≠T→w.cell? ⟨b,i,none⟩=some v→w'.cell? ⟨b,i,none⟩=some v:=fun b i v hb hv=>(World.cell?_of_block (w:=w) (hg.block b (World.block_lt_of_cell? _ _ hv) (by simp;omega))).trans hv
  have hBT:B≠T:=by omega
  exact⟨kc _ _ _ hBT h.W.c0,kc _ _ _ hBT h.W.c1,kc _ _ _ hBT h.W.c2,kc _ _ _ hBT h.W.c3,fun j=>(World.frozen?_of_block (w:=w) (hg.block B (World.block_lt_of_cell? _ _ h.W.c0) (by simp;omega))).trans (h.W.fr j),h.W.len,h.W.cap,h.W.small,h.W.pos,h.W.gB,fun i hi=>by
   obtain⟨g,o,e,hc⟩:=h.W.by_ i hi;have:=h.ag g o e;exact⟨g,o,e,kc _ _ _ (by omega) hc⟩⟩
 ·exact h.bel.trans ⟨hg.os,hg.tape,hg.output,hg.size,fun k hk=>hg.block k (by have:=h.bel.size;omega) (by simp;omega)⟩
theorem countF_le (bs:List UInt8)(least most:Nat):∀(f p n:Nat) (first:Bool),n≤most→(countF bs least most f p n first).1≤most:=by
 intro f;induction f with
 |zero=>intro p n first h;exact Nat.zero_le _
 |succ f ih=>
  intro p n first h;unfold countF;split
  ·exact h
  ·split
   ·exact Nat.zero_le _
   ·rename_i h1 h2;exact ih _ _ _ (by omega)
theorem countW_le (bs:List UInt8)(least most:Nat)(s:WS):(countW bs least most s).1≤most:=by
 unfold countW;split
 ·exact Nat.zero_le _
 ·exact countF_le _ _ _ _ _ _ _ (Nat.zero_le _)
theorem textW_size (bs:List UInt8)(k:Nat)(s:WS)(hk:k≤40):(textW bs k s).1.size≤40:=by
 unfold textW;split
 ·exact Nat.zero_le _
 ·split
  ·exact Nat.zero_le _
  ·show((bs.drop _).take k).toArray.size≤40;simp;omega
def live1 (n:Nat)(s:WS):Prop:=s.short=true∨1≤n
theorem live_expect {c:UInt8}(h:s.ok bs.length):live1 bs.length (expectW bs c s):=by
 have:=h.pos;unfold live1 expectW;by_cases hn:1≤bs.length
 ·exact .inr hn
 ·left;rw[if_pos]
  ·simp only[WS.look,Bool.or_eq_true,decide_eq_true_eq];right;omega
  ·simp only[WS.look,Bool.or_eq_true,decide_eq_true_eq];left;right;omega
theorem append1 (ts:List ByteArray)(t:ByteArray):ts.map Value.string++[Value.string t]=(ts++[t]).map Value.string:=by simp
theorem countF_one (bs:List UInt8)(most:Nat):∀(f p n:Nat) (first:Bool),(first=false→1≤n)→(countF bs 1 most f p n first).2.wrong=false→(countF bs 1 most f p n first).2.short=false→1≤(countF bs 1 most f p n first).1:=by
 intro f;induction f with
 |zero=>intro p n first h hw hs;cases hs
 |succ f ih=>
  intro p n first h;unfold countF;split
  ·rename_i h1;intro _ _;exact h h1.1
  ·split
   ·intro hw;cases hw
   ·rename_i h1 h2;refine ih _ _ _ (fun _=>?_);cases first with
    |true=>
     have h3:¬(byAt bs p-48<1):=fun h=>h2 (.inr (.inr (.inl ⟨rfl,h⟩)))
     omega
    |false=>have:=h rfl;omega
theorem countW_one (bs:List UInt8)(most:Nat)(s:WS)(hw:(countW bs 1 most s).2.wrong=false)(hs:(countW bs 1 most s).2.short=false):1≤(countW bs 1 most s).1:=by
 unfold countW at hw hs⊢;split
 ·rename_i h;rw[if_pos h]at hw hs;simp only[Bool.or_eq_true]at h;rcases h with h|h
  ·simp only at hs;rw[h]at hs;cases hs
  ·simp only[WS.look]at hw;rw[h]at hw;cases hw
 ·rename_i h;rw[if_neg h]at hw hs;exact countF_one _ _ _ _ _ _ (fun h=>by cases h) hw hs
theorem lsRead_any (a:Option Addr)(n c:Nat)(bs:List UInt8)(w:World)(hB:BytesA w a n c bs):Calls Tryz.prog 251 #[.agg #[],.slice a n c] w fun e w'=>StepOut w w' (lsR bs) e∧Below w.heap.size w w':=by
 have HB:=hide' hB;have hlen:=hide' hB.len;have hsm:=hB.small;clear hB;have HX:Hid (lsR bs=(let t:=textsW bs (countW bs 1 5 (expectW bs 42 ⟨0,false,false⟩)).1 (countW bs 1 5 (expectW bs 42 ⟨0,false,false⟩)).2 [];if t.2.wrong then some ⟨wrongC formB true,t.2.pos+1,false⟩else if t.2.short then none else some (textsR t.1 t.2.pos))):=(show _=_ from rfl)
 generalize lsR bs=RES at*;have hmk:=hmk;go_enter Tryz.func251,Tryz.ntmps251;go_wp2_with fail
 go_at_call 253;have q:∀a b c,Below w.heap.size w (((w.alloc a).alloc b).alloc c):=fun a b c=>((((Below.refl _ _).alloc (Nat.le_refl _) _).alloc (by simp) _).alloc (by simp;omega) _)
 refine(expectG _ _ a n c bs ⟨0,false,false⟩ 42 ⟨by go_simp,by go_simp,by go_simp,by go_simp,fun j=>by go_simp,HB.out.len,HB.out.cap,HB.out.small,Nat.zero_le _,fun g o e=>by have:=HB.out.ag g o e;omega,fun i hi=>?_⟩).mono ?_
 ·obtain⟨g,o,e,hc⟩:=HB.out.by_ i hi;exact⟨g,o,e,((q _ _ _).cell (p:=⟨g,o+i,none⟩) (HB.out.ag g o e)).trans hc⟩
 rintro e w1 ⟨rfl,W1,O1⟩;have hs1:=O1.size;simp at hs1;have hR1:w1.heap[w.heap.size+1]?=some (.cells zStep 255 (0,0)):=by
  rw[O1.block _ (by omega),Below.heap_alloc _ _ _ (by simp)];have:=blkNew (w.alloc (.cells #[] 162)) (.cells zStep 255 (0,0));rw[World.size_alloc]at this;exact this
 have hBel1:Below w.heap.size w w1:=(q _ _ _).trans (O1.below.mono (by omega));have k1:(expectW bs 42 ⟨0,false,false⟩).ok n:=by rw[←hlen.out];exact expectW_ok ⟨Nat.zero_le _,fun h=>(by cases h)⟩
 have HL:Hid (live1 n (expectW bs 42 ⟨0,false,false⟩)):=by show live1 _ _;rw[←hlen.out];exact live_expect ⟨Nat.zero_le _,fun h=>(by cases h)⟩
 clear O1;generalize expectW bs 42 ⟨0,false,false⟩=s1 at*;go_wp2_with fail
 go_at_call 254;refine(countG _ _ a n c bs s1 1 5 W1 (by omega) (by omega)).mono ?_;rintro e w2 ⟨rfl,W2,O2⟩;have hs2:=O2.size;have hR2:=(O2.block (w.heap.size+1) (by omega)).trans hR1;have hBel2:=hBel1.trans (O2.below.mono (by omega));have k2:(countW bs 1 5 s1).2.ok n:=by have:=k1;rw[←hlen.out]at this⊢;exact countW_ok this
 have hN5:=countW_le bs 1 5 s1;have HN1:=hide' (countW_one bs 5 s1);have hN0:n=0→(countW bs 1 5 s1).1=0:=by
  intro h0;rcases HL.out with h|h
  ·unfold countW;rw[if_pos (by simp[WS.look,h])]
  ·omega
 have HN0:=hide' hN0;clear O2 hR1 W1 hBel1 HL hN0;generalize hC:countW bs 1 5 s1=C at*;obtain⟨N,s2⟩:=C;clear hC k1;simp only at W2 k2 hN5 HN1 HX HN0;have hsz:w2.heap.size=w.heap.size+3:=by omega
 have HX2:Hid (∃X,textsW bs N s2 []=X∧RES=(if X.2.wrong then some ⟨wrongC formB true,X.2.pos+1,false⟩else if X.2.short then none else some (textsR X.1 X.2.pos))):=⟨_,rfl,HX.out⟩
 clear HX;obtain⟨X,hX1,hX2⟩:=HX2.out;have HX1:=hide' hX1;have HX3:=hide' hX2;clear hX1 hX2 HX2;go_wp2;generalize hW3:w2.alloc (Obj.cells #[Value.string {data:=#[]},Value.string {data:=#[]},Value.string {data:=#[]},Value.string {data:=#[]},Value.string {data:=#[]}] 9)=w3;have L3:LG w w3 a n c bs s2 (w.heap.size+1) (w.heap.size+1+1) (w.heap.size+1+1+1) []:=by
  rw[←hW3];have hn:=blkNew w2 (.cells #[.string ⟨#[]⟩,.string ⟨#[]⟩,.string ⟨#[]⟩,.string ⟨#[]⟩,.string ⟨#[]⟩] 9);rw[hsz]at hn;exact⟨W2.later (fun b ⟨v,i,hv⟩=>Below.heap_alloc w2 _ b (World.block_lt_of_cell? _ _ hv)),(Below.heap_alloc w2 _ _ (by omega)).trans hR2,⟨rfl,.inr ⟨_,5,_,rfl,Nat.zero_le _,hn,by simp,by decide,rfl,rfl⟩⟩,hBel2.alloc hBel2.size _,by omega,by omega,by omega,HB.out.ag⟩
 have HL3:=hide' L3;clear hW3 W2 hR2 hBel2 hs2 hsz hs1 L3 q;go_loopw [7,14] (fun tx i wr=>∃(j:Nat) (ts:List ByteArray) (s':WS),i= .int .i64 j∧tx= .slice (some ⟨w.heap.size+1+1+1,0,none⟩) j 5∧j≤N∧Hid (ts.length=j∧LG w wr a n c bs s' (w.heap.size+1) (w.heap.size+1+1) (w.heap.size+1+1+1) ts∧textsW bs (N-j) s' ts=X∧(∀t∈ts,t.size≤40)∧s'.ok n)) (fun _ i _=>N-(intOf i).toNat)
 case atStart=>exact⟨0,[],s2,rfl,rfl,Nat.zero_le _,rfl,HL3.out,HX1.out,fun _ h=>(by cases h),k2⟩
 case round=>
  obtain⟨j,ts,s',rfl,rfl,hj,HJ⟩:=hrel;by_cases hlt:j<N
  ·have hn1:1≤n:=by
    rcases Nat.eq_zero_or_pos n with h|h
    ·have:=HN0.out h;omega
    ·exact h
   have hlt':(j:Int)<(N:Int):=by omega
   obtain⟨i9,hi,hz0,hz1,hz2⟩:=info9;have HI:=hide' (And.intro hi hz1);clear hi hz0 hz1 hz2;have HS:Hid (textsW bs (N-(j+1)) (oneW bs s').2 (ts++[(oneW bs s').1])=X):=by
    show _=_;have:=HJ.out.2.2.1;rw[show N-j=(N-(j+1))+1 by omega]at this;exact this
   have HK1:Hid ((oneW bs s').2.ok n):=by have:=HJ.out.2.2.2.2;show WS.ok _ _;rw[←hlen.out]at this⊢;exact oneW_ok this
   have HON:Hid (oneW bs s'=(let c:=countW bs 0 40 (expectW bs 36 s');let t:=textW bs c.1 c.2;(t.1,expectW bs 10 t.2))):=(show _=_ from rfl)
   generalize oneW bs s'=ON at*;go_wp2_with fail
   go_at_call 253;refine(expectG _ _ a n c bs s' 36 HJ.out.2.1.W).mono ?_;rintro e w4 ⟨rfl,W4,O4⟩;have L4:=hide' (HJ.out.2.1.only O4 W4);clear O4 W4;generalize expectW bs 36 s'=s4 at*;go_wp2_with fail
   go_at_call 254;refine(countG _ _ a n c bs s4 0 40 L4.out.W (by omega) (by omega)).mono ?_;rintro e w5 ⟨rfl,W5,O5⟩;have L5:=hide' (L4.out.only O5 W5);have hk40:=countW_le bs 0 40 s4;clear O5 W5 L4;generalize countW bs 0 40 s4=CC at*;obtain⟨k,s5⟩:=CC;simp only at L5 hk40 HON;go_wp2_with fail
   go_at_call 255;refine(textG _ _ a n c bs s5 k L5.out.W hk40 (.inr hn1)).mono ?_;rintro e w6 ⟨rfl,W6,O6⟩;have L6:=hide' (L5.out.only O6 W6);have ht40:=textW_size bs k s5 hk40;clear O6 W6 L5;generalize textW bs k s5=TT at*;obtain⟨tx,s6⟩:=TT;simp only at L6 ht40 HON;have L7:=hide' (L6.out.alloc (.cells #[.string tx] 9));have HNW:=hide' (show∀(i:Nat) (v:Value),[Value.string tx][i]?=some v→(w6.alloc (.cells #[.string tx] 9)).cell? ((⟨w6.heap.size,0,none⟩:Addr).add i)=some v from World.news_of_block (cs:=#[.string tx]) (blkNew w6 (.cells #[.string tx] 9)));have HOW:Hid ((w6.alloc (.cells #[.string tx] 9)).ownsRow 0 9 1 (.slice (some ⟨w.heap.size+1+1+1,0,none⟩) j 5) j (ts.map Value.string)):=by
    have:=L7.out.hT;unfold OwnT at this;rw[HJ.out.1]at this;exact this
   go_wp2_with (first
    |(at_builtin;refine wpList_append_fits _ rfl _ _ _ rfl 0 9 i9 1 Tryz.underlying34 HI.out.1 HI.out.2 (w.heap.size+1+1+1) j 5 (ts.map Value.string) rfl HOW.out ⟨w6.heap.size,0,none⟩ 1 1 [Value.string tx] rfl rfl HNW.out (fun u hu=>by simp at hu;subst hu;rfl) (by omega) ?_;intro w8 hown8 hgrow8;have L8:=hide' (L7.out.grown (ts':=ts++[tx]) hgrow8 (by unfold OwnT;rw[←append1,List.length_append,HJ.out.1];exact hown8));clear hown8 hgrow8)
    |fail)
   go_at_call 253;refine(expectG _ _ a n c bs s6 10 L8.out.W).mono ?_;rintro e w9 ⟨rfl,W9,O9⟩;have L9:=hide' (L8.out.only O9 W9);clear O9 W9 L8 L7 L6 HNW HOW;go_wp2;go_roundw;case rel=>
    have e:=HON.out;refine⟨j+1,ts++[tx],expectW bs 10 s6,by go_num,rfl,by omega,?_,L9.out,?_,?_,?_⟩
    ·rw[List.length_append,HJ.out.1];rfl
    ·have:=HS.out;rw[e]at this;exact this
    ·intro t ht;rw[List.mem_append,List.mem_singleton]at ht;rcases ht with ht|rfl
     ·exact HJ.out.2.2.2.1 t ht
     ·exact ht40
    ·have:=HK1.out;rw[e]at this;exact this
   case measure=>simp[intOf];omega
  ·have hjN:j=N:=by omega
   have hlt':¬(j:Int)<(N:Int):=by omega
   have hX:X=(ts,s'):=by
    have:=HJ.out.2.2.1;rw[show N-j=0 by omega]at this;exact this.symm
   have hRES:=HX3.out;rw[hX]at hRES;simp only at hRES;have HNN:Hid (s'.wrong=false→s'.short=false→1≤N):=fun hw hs=>by
    have e:=HX1.out;rw[hX]at e;have k2':=k2;rw[←hlen.out]at k2';have e2:(textsW bs N s2 []).2=s':=by rw[e]
    have m:=textsW_mono [] N s2 [] k2' (by rw[e2];exact hs);refine HN1.out ?_ m.2;cases hq:s2.wrong with
    |false=>rfl
    |true=>have:=textsW_stays (bs:=bs) N s2 [] hq;rw[e2,hw]at this;cases this
   have HE:=hide' hRES;clear hRES HX3 HX1 hX;have L:=HJ.out.2.1;have hts:=HJ.out.1;obtain⟨p,wg,sh⟩:=s';have c1:=L.W.c1;have c2:=L.W.c2;have c3:=L.W.c3;have hp:=L.W.pos;simp only at c1 c2 c3 hp HE;have rR:wr.heap[w.heap.size+1]?=some (.cells zStep 255 (0,0)):=L.hR;have rlt:=blkLt rR;have bel:=L.bel;cases wg with
   |true=>
    have hr:RES=some ⟨wrongC formB true,p+1,false⟩:=HE.out;subst hr;have HRB:=hide' (And.intro rR bel);clear rR bel L HJ HE HL3 HN1 HN0;go_wp2_with fail
    go_at_call 218;refine(wrong_any _ _ _).mono ?_;rintro e w8 ⟨rfl,hb8⟩;have hR8:=(hb8.block _ (blkLt HRB.out.1)).trans HRB.out.1;have hB8:=HRB.out.2.trans (hb8.mono HRB.out.2.size);have H8:=hide' (And.intro hR8 hB8);have hz8:=hb8.size;have HF:=hide' (fatal_any ⟨#[102,111,114,109]⟩ ((p:Int)+1) w8);clear hb8 hR8 hB8 c1 c2 c3;unfold stepV at*;go_wp2_with fail
    go_at_call 247;refine HF.out.mono ?_;rintro e w9 ⟨rfl,hb9⟩;have hR9:=(hb9.block _ (blkLt H8.out.1)).trans H8.out.1;have H9:=hide' (H8.out.2.trans (hb9.mono H8.out.2.size));obtain⟨⟨r0,r1,r2,r3,r4,r5,r6,r7⟩,rf⟩:=zcells_of hR9;have hz9:=blkLt hR9;clear hb9 hR9 HF;go_wp2;refine bodyPost_ret (v:=stepV 4 (.slice none 0 0) ⟨#[]⟩ ⟨#[102,111,114,109]⟩ true 0 (p+1:Nat) false) (by simp[results,Tryz.results251,go_sem,stepV,r0,r1,r2,r3,r4,r5,r6,r7]) rfl ⟨⟨_,rfl,.inl ⟨rfl,rfl⟩⟩,?_⟩;exact set8 H9.out (by omega) _ _ _ _ _ _ _ _
   |false=>
    cases sh with
    |true=>
     have hr:RES=none:=HE.out;subst hr;obtain⟨⟨r0,r1,r2,r3,r4,r5,r6,r7⟩,rf⟩:=zcells_of rR;have HRB:=hide' (And.intro rR bel);clear rR bel L HJ HE HL3 HN1 HN0;go_wp2;refine bodyPost_ret (v:=zStepV) (by simp[results,Tryz.results251,go_sem,zStepV,r0,r1,r2,r3,r4,r5,r6,r7]) rfl ⟨rfl,?_⟩;exact set8 HRB.out.2 (by omega) _ _ _ _ _ _ _ _
    |false=>
     have hr:RES=some (textsR ts p):=HE.out;subst hr;have hN1:1≤N:=HNN.out rfl rfl;subst hjN;have HT:=hide' (readTexts_any (w.heap.size+1+1+1) ts j p wr hts L.hT.texts (by omega) (by omega) (fun s hs=>by have:=HJ.out.2.2.2.1 s hs;unfold maxLen;omega));have HRB:=hide' (And.intro rR bel);clear rR bel L HJ HE HL3 HN1 HN0;go_wp2_with fail
     go_at_call 256;refine HT.out.mono ?_;rintro e w8 ⟨he8,hb8⟩;have hR8:=(hb8.block _ (blkLt HRB.out.1)).trans HRB.out.1;have H8:=hide' (HRB.out.2.trans (hb8.mono HRB.out.2.size));obtain⟨kv,he,hkv⟩:=he8;obtain⟨ka,kn,kc,hkf⟩:=hkv.form;subst hkf;subst he;obtain⟨⟨r0,r1,r2,r3,r4,r5,r6,r7⟩,rf⟩:=zcells_of hR8;have hz8:=blkLt hR8;have HKV:=hide' hkv;have hsz8:=hb8.size;clear hb8 hR8 HT hkv c1 c2 c3;generalize hSR:textsR ts p=SR at*;have HSR:=hide' hSR;clear hSR;unfold stepV;go_wp2;refine bodyPost_ret (v:=stepV SR.c.kind (.slice ka kn kc) SR.c.val SR.c.word SR.c.fatal SR.c.id SR.used SR.skip) (by simp[results,Tryz.results251,go_sem,stepV,r0,r1,r2,r3,r4,r5,r6,r7]) rfl ⟨?_,?_⟩
     ·rw[HSR.out];refine⟨_,rfl,?_⟩;rcases HKV.out with h|⟨b,c',e1,e2,e3⟩
      ·exact .inl h
      ·have:=HRB.out.2.size;refine .inr ⟨b,c',e1,by omega,e3.other (set8_other (by omega) _ _ _ _ _ _ _ _)⟩
     ·exact set8 H8.out (by omega) _ _ _ _ _ _ _ _
set_option maxHeartbeats 1500000
set_option maxRecDepth 20000
theorem lineC_z {w w1:World}{k:Int}(hRb:w1.heap[w.heap.size]?=some (.cells #[.int .i64 0,.slice none 0 0,.string ⟨#[]⟩,.string ⟨#[]⟩,.bool false,.int .i64 0,.int .i64 0,.bool false] 255 (0,0)))(hbel:Below w.heap.size w w1):LineC w (w1.alloc (.cells #[.int .i64 k,.slice none 0 0,.string ⟨#[]⟩,.string ⟨#[]⟩,.bool false,.int .i64 0] 36)).drew w1.heap.size k (.slice none 0 0) []:=by
 have l:=blkLt hRb;exact⟨blkNew w1 _,(Below.heap_alloc _ _ _ l).trans hRb,l,.inl ⟨rfl,rfl⟩,(hbel.alloc hbel.size _).drew⟩
theorem readLine_one (g o n c:Nat)(bs:List UInt8)(w:World)(e:Nat)(x:ByteArray)(hB:BytesIn w g o n c bs)(he:e<n)(h60:e≤60)(hws:wordsOf (bs.take e)=[x])(hsz:setSizeR [x]=none):Calls Tryz.prog 216 #[.slice (some ⟨g,o,none⟩) n c,.int .i64 (e:Int)] w fun r w'=>StepOut w w' (some ⟨wrongC formB false,e+1,false⟩) r∧Below w.heap.size w w':=by
 have hl:=hB.len;have hsm:=hB.small;have hcap:=hB.cap;have hlt:=hB.lt;have hb0:=bytes0 bs e (by omega);have HS:=hide' (fun W=>split_any (bytesOf bs 0 e) W (by show((bs.drop 0).take e).toArray.size<4294967281;simp;omega));have hcv:=conv_by (w.alloc (.cells #[.int .i64 0,.slice none 0 0,.string ⟨#[]⟩,.string ⟨#[]⟩,.bool false,.int .i64 0,.int .i64 0,.bool false] 255)) g o n c 0 e c bs (hB.later ((Below.refl _ _).alloc (Nat.le_refl _) _)) (by omega);rw[Nat.add_zero]at hcv;rw[hb0,hws]at HS;have hss:∀s∈[x],s.size≤60:=by
  rw[←hws];intro s hs;obtain⟨x,hx,rfl⟩:=List.mem_map.1 hs;have:=splitL_sizes _ x hx;show x.toArray.size≤60;simp at this⊢;omega
 have hll: [x].length=1:=rfl;rw[hll]at HS;have HB:=hide' hB;have hy:(60:Nat)≤maxLen:=by unfold maxLen;omega
 have hss':∀s∈[x],s.size≤maxLen:=fun s hs=>Nat.le_trans (hss s hs) hy
 have HSS':=hide' hss';have HSZ:=hide' hsz;have HM:=hide' (And.intro hll hll);clear hB hb0 hl hws hss hss' hsz hll;generalize bytesOf bs 0 e=line at*;have hec:e≤c:=by omega
 have hec':(e:Int)≤(c:Int):=by omega
 go_enter Tryz.func216,Tryz.ntmps216;go_wp2_with fail
 go_at_call 221;refine(HS.out _).mono ?_;rintro r w1 ⟨rfl,hw1⟩;have hblk:w1.heap[w.heap.size+1]?=some (.cells (([x]).map Value.string).toArray 9 (0,0)):=by
  rw[hw1];have:=blkNew (w.alloc (.cells #[.int .i64 0,.slice none 0 0,.string ⟨#[]⟩,.string ⟨#[]⟩,.bool false,.int .i64 0,.int .i64 0,.bool false] 255)) (.cells (([x]).map Value.string).toArray 9);rw[World.size_alloc]at this;exact this
 have hRb:w1.heap[w.heap.size]?=some (.cells #[.int .i64 0,.slice none 0 0,.string ⟨#[]⟩,.string ⟨#[]⟩,.bool false,.int .i64 0,.int .i64 0,.bool false] 255 (0,0)):=by
  rw[hw1];exact(Below.heap_alloc _ _ _ (by simp)).trans (blkNew w _)
 have hbel:Below w.heap.size w w1:=by rw[hw1];exact((Below.refl _ _).alloc (Nat.le_refl _) _).alloc (by simp) _
 have hblt:=blkLt hblk;have hcell:∀(i:Nat) (s:ByteArray),([x])[i]?=some s→w1.cell? ⟨w.heap.size+1,0+i,none⟩=some (.string s):=fun i s hs=>by
  rw[Nat.zero_add,blkCell hblk i,List.getElem?_toArray,List.getElem?_map,hs];rfl
 have HSS:=hide' (setSize_any ([x]) (w.heap.size+1) 0 1 w1 hcell hblt (by simp) (by show 1≤maxLen;decide) HSS'.out);rw[HM.out.2,HSZ.out]at HSS;have cx:w1.cell? ⟨w.heap.size+1,0,none⟩=some (.string x):=hcell 0 x rfl;have HK:=hide' (And.intro hRb hbel);clear hw1 hblk hRb hbel hcv hcell;generalize hgk:kindB x=k at*;have HX:=hide' (show∀W:World,Calls Tryz.prog 224 #[.string x] W fun e w'=>e= .returned (.int .i64 k)∧w'=W from fun W=>by rw[←hgk];exact kindOf_any x W);clear hgk;go_wp2_with (first
  |(go_at_call 222;refine HSS.out.mono ?_;rintro r w' ⟨rfl,hw'⟩;subst hw';unfold cntV;dsimp only[Option.getD_none,Option.isSome_none])
  |fail)
 clear HSS HS;have ne1:¬w.heap.size+1=w'.heap.size:=by omega
 have ne2:¬w'.heap.size=w.heap.size+1:=by omega
 go_cut [8]from 28 (fun s8 W=>∃C,s8= .pointer (some ⟨C,0,none⟩)∧LineC w W C k (.slice none 0 0) [])
 case first=>
  go_region_held3 (fun W=>W.cell? ⟨w.heap.size+1,0,none⟩=some (.string x)) (go_keep)
   (first
    |(go_at_call 224;refine(HX.out _).mono ?_;rintro r w2 ⟨rfl,hw2⟩;subst hw2)
    |fail)
  all_goals go_wp2_with fail
  all_goals(go_meet;case rel=>exact⟨_,rfl,lineC_z HK.out.1 HK.out.2⟩)
 case rest=>
  obtain⟨C,rfl,L⟩:=hcut;have HL:=hide' L;obtain⟨⟨r0,r1,r2,r3,r4,r5,r6,r7⟩,rf⟩:=zcells_of L.hR;obtain⟨⟨k0,k1,k2,k3,k4,k5⟩,kf⟩:=ccells_of L.hC;have hz1:=blkLt L.hR;have hzC:=blkLt L.hC;have hcf:cmdB k [] ⟨#[]⟩=false:=by simp[cmdB,keysB,withinB]
  have HCM:=hide' (cmd_any k (.slice none 0 0) [] ⟨#[]⟩ ⟨#[]⟩ false 0 wc ⟨.inr ⟨none,rfl,rfl⟩,by simp,by simp⟩ (by decide));rw[hcf]at HCM;clear L HK HX hcf;unfold cmdV6 at HCM;by_cases hk2:k=2
  ·subst hk2;clear HCM;go_wp2_with fail
   go_at_call 218;refine(wrong_any _ _ _).mono ?_;rintro r w4 ⟨rfl,hb4⟩;have hR4:=(hb4.block _ hz1).trans HL.out.hR;have H4:=hide' (HL.out.bel.trans (hb4.mono HL.out.bel.size));obtain⟨⟨s0,s1,s2,s3,s4,s5,s6,s7⟩,sf⟩:=zcells_of hR4;clear hb4 hR4 r0 r1 r2 r3 r4 r5 r6 r7 rf k0 k1 k2 k3 k4 k5 kf;unfold stepV;go_wp2;refine bodyPost_ret (v:=stepV 4 (.slice none 0 0) ⟨#[]⟩ formB false 0 (e+1:Nat) false) (by simp[results,Tryz.results216,go_sem,stepV,formB,s0,s1,s2,s3,s4,s5,s6,s7]) rfl ⟨⟨_,rfl,.inl ⟨rfl,rfl⟩⟩,?_⟩;exact set8 H4.out (Nat.le_refl _) _ _ _ _ _ _ _ _
  ·have hk2':(k==2)=false:=by simpa using hk2
   clear hk2;go_wp2_with fail
   go_at_call 48;refine HCM.out.mono ?_;rintro r w3 ⟨rfl,hb3⟩;have hR3:=(hb3.block _ hz1).trans HL.out.hR;have H3:=hide' (And.intro hR3 (HL.out.bel.trans (hb3.mono HL.out.bel.size)));have hz3:=hb3.size;clear hb3 hR3 r0 r1 r2 r3 r4 r5 r6 r7 rf k0 k1 k2 k3 k4 k5 kf HCM;go_wp2_with fail
   go_at_call 218;refine(wrong_any _ _ _).mono ?_;rintro r w4 ⟨rfl,hb4⟩;have hR4:=(hb4.block _ (blkLt H3.out.1)).trans H3.out.1;have H4:=hide' (H3.out.2.trans (hb4.mono H3.out.2.size));obtain⟨⟨s0,s1,s2,s3,s4,s5,s6,s7⟩,sf⟩:=zcells_of hR4;have hz4:=hb4.size;clear hb4 hR4;unfold stepV;go_wp2;refine bodyPost_ret (v:=stepV 4 (.slice none 0 0) ⟨#[]⟩ formB false 0 (e+1:Nat) false) (by simp[results,Tryz.results216,go_sem,stepV,formB,s0,s1,s2,s3,s4,s5,s6,s7]) rfl ⟨⟨_,rfl,.inl ⟨rfl,rfl⟩⟩,?_⟩;exact set8 H4.out (Nat.le_refl _) _ _ _ _ _ _ _ _
theorem libBytes (l:List UInt8):Lib.bytesOf (l.map fun b=>(b.toNat:Int))=l:=by
 unfold Lib.bytesOf;rw[List.map_map];conv=>rhs;rw[←List.map_id l]
 apply List.map_congr_left;intro x _;simp
theorem readLine_any (g o n c:Nat)(bs:List UInt8)(w:World)(e:Nat)(hB:BytesIn w g o n c bs)(he:e<n)(h60:e≤60):Calls Tryz.prog 216 #[.slice (some ⟨g,o,none⟩) n c,.int .i64 (e:Int)] w fun r w'=>StepOut w w' (lineR bs e) r∧Below w.heap.size w w':=by
 unfold lineR;cases hs:setSizeR (wordsOf (bs.take e))with
 |some size=>exact readLine_set g o n c bs w e size hB he h60 hs
 |none=>
  simp only
  obtain⟨x,ks,hws⟩:∃x ks,wordsOf (bs.take e)=x::ks:=by
   cases h:wordsOf (bs.take e)with
   |nil=>exact absurd (List.map_eq_nil_iff.1 h) (splitL_ne _)
   |cons x ks=>exact⟨x,ks,rfl⟩
  rw[hws]at hs⊢;have e1:(x::ks).getD 0 noB=x:=rfl;have e2:(x::ks).drop 1=ks:=rfl;rw[e1,e2];have e3:∀{α β:Type} (p:Prop) [Decidable p] (f:α→β) (a b:α),(if p then f a else f b)=f (if p then a else b):=by intro α β p _ f a b;split<;>rfl
  rw[e3];cases ks with
  |nil=>
   have hc:kindB x=2∨cmdB (kindB x) [] noB=false:= .inr (by simp[cmdB,keysB,withinB]);rw[if_pos hc];exact readLine_one g o n c bs w e x hB he h60 hws hs
  |cons y l=>exact readLine_cmd g o n c bs w e (y::l).length x (y::l) _ hB he h60 hws hs rfl (by simp) rfl
theorem lnRead_any (a:Option Addr)(n c:Nat)(bs:List UInt8)(w:World)(hB:BytesA w a n c bs)(hnil:a=none→c=0):Calls Tryz.prog 211 #[.agg #[],.slice a n c] w fun r w'=>StepOut w w' (lnR bs) r∧Below w.heap.size w w':=by
 have hl:=hB.len;have hsm:=hB.small;have hcap:=hB.cap;have HB:=hide' hB;have HR:Hid (lnR bs=if 0≤Go.Lib.indexByte (bs.take 61) 10 then lineR bs (Go.Lib.indexByte (bs.take 61) 10).toNat else if 60<n then some ⟨wrongC longB false,61,true⟩else none):=by show _=_;unfold lnR;rw[hl]
 obtain⟨mm,hmm⟩:∃mm:Nat,mm=min n 61:=⟨_,rfl⟩
 have hlen:(bs.take 61).length=mm:=by rw[List.length_take,hl,hmm];omega
 have HI:Hid (∀W,Below w.heap.size w W→∀cc,(a=none→cc=0)→Calls Tryz.prog 124 #[.slice a mm cc,.int .u8 10] W fun e w'=>e= .returned (.int .i64 (Go.Lib.indexByte (bs.take 61) 10))∧w'=W):=fun W hW cc hcc=>by
  cases ha:a with
  |none=>
   have h0:n=0:=by
    rcases Nat.eq_zero_or_pos n with h|h
    ·exact h
    ·obtain⟨g,o,e,_⟩:=hB.by_ 0 h;rw[ha]at e;cases e
   have hm0:mm=0:=by omega
   have hbs:bs=[]:=List.length_eq_zero_iff.1 (by omega);rw[hm0,hcc ha,hbs];exact Tryz.bytes_IndexByte_nil 10 W
  |some ad=>
   have:=Tryz.bytes_IndexByte_at ad mm cc ((bs.take 61).map fun b=>(b.toNat:Int)) 10 W (by rw[List.length_map,hlen]) (fun i hi=>by
    obtain⟨g,o,e,hc⟩:=(hB.later hW).by_ i (by omega);rw[ha]at e;cases e;have hadd:(⟨g,o,none⟩:Addr).add i=⟨g,o+i,none⟩:=by unfold Addr.add;split<;>simp_all
    rw[hadd,hc];have hi2:i<bs.length:=by omega
    have e2:(bs.take 61)[i]?=some bs[i]:=by rw[List.getElem?_take_of_lt (by omega),List.getElem?_eq_getElem hi2]
    rw[List.getD,List.getElem?_map,e2];simp[byAt,List.getD,List.getElem?_eq_getElem hi2])
   rw[libBytes]at this;exact this
 have hge:=Go.Lib.indexByte_ge (bs.take 61) 10;generalize lnR bs=RES at*;have HX:Hid (0≤Go.Lib.indexByte (bs.take 61) 10→(Go.Lib.indexByte (bs.take 61) 10).toNat<mm):=fun h=>by have:=(ib_nonneg_app (bs.take 61) [] 10 h).2.1;omega
 generalize Go.Lib.indexByte (bs.take 61) 10=ix at*;have HB1:=hide' (show∀x y,Below w.heap.size w ((w.alloc x).alloc y)from fun x y=>((Below.refl _ _).alloc (Nat.le_refl _) _).alloc (by simp) _);have hmn:mm≤n:=by omega
 have hmc:mm≤c:=by omega
 clear hlen;have hmm3:mm=(min (n:Int) 61).toNat:=by omega
 rw[hmm3]at HI;have hm61:mm≤61:=by omega
 clear hmm hB hl hmm3;by_cases h0:0≤ix
 ·obtain⟨e,rfl⟩:∃e:Nat,ix=(e:Int):=⟨ix.toNat,by omega⟩
  have hem:=HX.out h0;rw[Int.toNat_natCast]at hem;have hr:RES=lineR bs e:=by rw[HR.out,if_pos h0,Int.toNat_natCast]
  subst hr;obtain⟨g,o,ha,hBI⟩:=HB.out.in_ (by omega);subst ha;have HL:=hide' (fun W (hW:Below w.heap.size w W)=>readLine_any g o _ c bs W e (hBI.later hW) (by omega) (by omega));generalize hLR:lineR bs e=LR at*;have HLR:=hide' hLR;clear hLR hBI HX HR;go_enter Tryz.func211,Tryz.ntmps211;go_wp2_with (first
   |(go_at_call 124;refine(HI.out _ (HB1.out _ _) _ (fun h=>by cases h)).mono ?_;rintro r w1 ⟨rfl,hw1⟩;subst hw1)
   |fail)
  go_at_call 216;refine(HL.out _ (HB1.out _ _)).mono ?_;rintro r w3 ⟨hr3,hb3⟩;obtain⟨_,hR3⟩:=two_kept hb3;have H3:=hide' ((HB1.out _ _).trans (hb3.mono (by simp;omega)));obtain⟨⟨r0,r1,r2,r3,r4,r5,r6,r7⟩,rf⟩:=zcells_of hR3;have hz3:=blkLt hR3;have hsz3:=hb3.size;simp only[World.size_alloc]at hsz3;clear hb3 hR3 HL HI;cases LR with
  |none=>
   have he:r= .returned zStepV:=hr3;subst he;unfold zStepV;go_wp2;refine bodyPost_ret (v:=zStepV) (by simp[results,Tryz.results211,go_sem,zStepV,r0,r1,r2,r3,r4,r5,r6,r7]) rfl ⟨rfl,?_⟩;exact set8 H3.out (by omega) _ _ _ _ _ _ _ _
  |some SR=>
   obtain⟨kv,he,hkv⟩:=hr3;obtain⟨ka,kn,kc,hkf⟩:=hkv.form;subst hkf;subst he;have HKV:=hide' hkv;clear hkv;unfold stepV;go_wp2;refine bodyPost_ret (v:=stepV SR.c.kind (.slice ka kn kc) SR.c.val SR.c.word SR.c.fatal SR.c.id SR.used SR.skip) (by simp[results,Tryz.results211,go_sem,stepV,r0,r1,r2,r3,r4,r5,r6,r7]) rfl ⟨⟨_,rfl,?_⟩,?_⟩
   ·rcases HKV.out with h|⟨b,c',e1,e2,e3⟩
    ·exact .inl h
    ·simp only[World.size_alloc]at e2;refine .inr ⟨b,c',e1,by omega,e3.other (set8_other (by omega) _ _ _ _ _ _ _ _)⟩
   ·exact set8 H3.out (by omega) _ _ _ _ _ _ _ _
 ·have h0':¬(0:Int)≤ix:=h0;have hr2:=HR.out;rw[if_neg h0]at hr2;have HR2:=hide' hr2;clear HR hr2 HX;by_cases h60:60<n
  ·have h60':(60:Int)<(n:Int):=by omega
   have hr:RES=some ⟨wrongC longB false,61,true⟩:=by rw[HR2.out,if_pos h60]
   subst hr;clear HR2;go_enter Tryz.func211,Tryz.ntmps211;go_wp2_with (first
    |(go_at_call 124;refine(HI.out _ (HB1.out _ _) _ hnil).mono ?_;rintro r w1 ⟨rfl,hw1⟩;subst hw1)
    |fail)
   go_at_call 218;refine(wrong_any _ _ _).mono ?_;rintro r w2 ⟨rfl,hb2⟩;obtain⟨_,hR⟩:=two_kept hb2;have H2:=hide' ((HB1.out _ _).trans (hb2.mono (by simp;omega)));have HRR:=hide' hR;have HP:=hide' (passing_any ⟨#[108,111,110,103]⟩ 61 w2);have hz:=blkLt hR;clear hb2 hR HI;unfold stepV at*;go_wp2_with fail
   go_at_call 217;refine HP.out.mono ?_;rintro r w3 ⟨rfl,hb3⟩;have hR3:=(hb3.block _ hz).trans HRR.out;have H3:=hide' (H2.out.trans (hb3.mono (by omega)));obtain⟨⟨r0,r1,r2,r3,r4,r5,r6,r7⟩,rf⟩:=zcells_of hR3;have hz3:=blkLt hR3;clear hb3 hR3 HP HRR H2;go_wp2;refine bodyPost_ret (v:=stepV 4 (.slice none 0 0) ⟨#[]⟩ longB false 0 61 true) (by simp[results,Tryz.results211,go_sem,stepV,longB,r0,r1,r2,r3,r4,r5,r6,r7]) rfl ⟨⟨_,rfl,.inl ⟨rfl,rfl⟩⟩,?_⟩;exact set8 H3.out (by omega) _ _ _ _ _ _ _ _
  ·have h60':¬(60:Int)<(n:Int):=by omega
   have hr:RES=none:=by rw[HR2.out,if_neg h60]
   subst hr;clear HR2;go_enter Tryz.func211,Tryz.ntmps211;go_wp2_with (first
    |(go_at_call 124;refine(HI.out _ (HB1.out _ _) _ hnil).mono ?_;rintro r w1 ⟨rfl,hw1⟩;subst hw1)
    |fail)
   refine bodyPost_ret (v:=zStepV) (by simp[results,Tryz.results211,go_sem,zStepV]) rfl ⟨rfl,?_⟩;repeat(first|with_reducible exact Below.refl _ _|with_reducible refine Below.drew ?_|with_reducible refine below_drewN ?_ _|with_reducible refine Below.alloc ?_ (by simp;try omega) _|with_reducible refine Below.setCell ?_ (by simp;try omega) _)
set_option maxHeartbeats 1000000
set_option maxRecDepth 20000
variable {l:List UInt8}{w:World}{v:Value}{u:Nat}{hb:Option Nat}
def byC (l:List UInt8):List Value:=l.map fun b=> .int .u8 (b.toNat:Int)
theorem byC_len (l:List UInt8):(byC l).length=l.length:=by simp[byC]
theorem byC_app (l m:List UInt8):byC (l++m)=byC l++byC m:=by simp[byC]
theorem byC_get {i:Nat}(h:i<l.length):(byC l)[i]?=some (.int .u8 (byAt l i)):=by
 simp[byC,byAt,List.getD,List.getElem?_eq_getElem h]
theorem byC_one (l:List UInt8):∀u∈byC l,u.oneCell'=true:=by
 intro u hu;obtain⟨b,_,rfl⟩:=List.mem_map.1 hu;rfl
def rdO (t:Nat)(v:Value)(u:Nat)(ps cl:Bool):Obj:= .cells #[.iface t (.agg #[]),v,.int .i64 (u:Int),.bool ps,.bool cl] 134 (0,0)
structure Held (w:World)(v:Value)(u:Nat)(hb:Option Nat)(l:List UInt8):Prop where
 ex:∃all:List UInt8,w.ownsRow 0 5 1 v all.length (byC all)∧u≤all.length∧l=all.drop u∧all.length≤140737488355328
 blk:v.ownBlock=hb
theorem Held.other {w':World}(h:Held w v u hb l)(k:∀b,hb=some b→w'.heap[b]?=w.heap[b]?):Held w' v u hb l:=by
 obtain⟨⟨all,⟨h1,h2⟩,h3⟩,hbk⟩:=h;refine⟨⟨all,⟨h1,?_⟩,h3⟩,hbk⟩;rcases h2 with h2|⟨g,cap,cur,e,h4,h5,h6⟩
 ·exact .inl h2
 ·subst e;exact .inr ⟨g,cap,cur,rfl,h4,(k g hbk.symm).trans h5,h6⟩
theorem Held.lt (h:Held w v u hb l):∀b,hb=some b→b<w.heap.size:=by
 obtain⟨⟨all,⟨h1,h2⟩,h3⟩,hbk⟩:=h;intro b hb';rcases h2 with⟨rfl,_⟩|⟨g,cap,cur,e,h4,h5,h6⟩
 ·rw[hb']at hbk;cases hbk
 ·subst e;rw[hb']at hbk;cases hbk;exact blkLt h5
theorem Held.form (h:Held w v u hb l):(v= .slice none 0 0∧u=0∧l=[]∧hb=none)∨∃g n c all,v= .slice (some ⟨g,0,none⟩) n c∧hb=some g∧g<w.heap.size∧all.length=n∧n≤c∧u≤n∧l=all.drop u∧n≤140737488355328∧∀i,i<n→w.cell? ⟨g,i,none⟩=some (.int .u8 (byAt all i)):=by
 obtain⟨⟨all,⟨h1,h2⟩,h3,h4,h5⟩,hbk⟩:=h;rcases h2 with⟨rfl,h0⟩|⟨g,cap,cur,e,h6,h7,h8,h9,h10,h11⟩
 ·left;have:all=[]:=List.length_eq_zero_iff.1 h0;subst this;refine⟨rfl,by simpa using h3,by rw[h4];simp,hbk.symm⟩
 ·right;subst e;refine⟨g,all.length,cap,all,rfl,hbk.symm,blkLt h7,rfl,h8,h3,h4,h5,fun i hi=>?_⟩;rw[blkCell h7 i];have:(cur.toList.take (all.length*1))[i]?=some (.int .u8 (byAt all i)):=by rw[h11];exact byC_get hi
  rw[List.getElem?_take_of_lt (by omega)]at this;simpa using this
theorem len_any (D u:Nat)(v:Value)(hb:Option Nat)(l:List UInt8)(w:World)(H:Held w v u hb l)(d1:w.cell? ⟨D,1,none⟩=some v)(d2:w.cell? ⟨D,2,none⟩=some (.int .i64 (u:Int))):Calls Tryz.prog 74 #[.pointer (some ⟨D,1,none⟩)] w fun e w'=>e= .returned (.int .i64 (l.length:Int))∧∃q,w'=w.drewN q:=by
 rcases H.form with⟨rfl,rfl,rfl,_⟩|⟨g,n,c,all,rfl,_,_,hn,hnc,hu,rfl,hsm,_⟩
 ·clear H;go_enter Tryz.func74,Tryz.ntmps74;go_wp2;go_quiet (fail)
  go_wp2;go_ret;exact⟨rfl,_,rfl⟩
 ·clear H;have hl:Hid ((all.drop u).length=n-u):=by show _=_;rw[List.length_drop,hn]
  clear hn;go_enter Tryz.func74,Tryz.ntmps74;go_wp2;go_quiet (fail)
  go_wp2;go_ret;refine⟨?_,_,rfl⟩;rw[hl.out];exact ret_int (by omega)
theorem waiting_any (D u:Nat)(v:Value)(hb:Option Nat)(l:List UInt8)(w:World)(H:Held w v u hb l)(d1:w.cell? ⟨D,1,none⟩=some v)(d2:w.cell? ⟨D,2,none⟩=some (.int .i64 (u:Int))):Calls Tryz.prog 125 #[.pointer (some ⟨D,1,none⟩)] w fun e w'=>(∃a c,e= .returned (.slice a l.length c)∧BytesA w a l.length c l∧(a=none→c=0)∧(∀g o,a=some ⟨g,o,none⟩→hb=some g))∧∃q,w'=w.drewN q:=by
 rcases H.form with⟨rfl,rfl,rfl,_⟩|⟨g,n,c,all,rfl,hbg,hg,hn,hnc,hu,rfl,hsm,hcell⟩
 ·clear H;go_enter Tryz.func125,Tryz.ntmps125;go_wp2;go_quiet (fail)
  go_wp2;go_ret;exact⟨⟨none,0,rfl,⟨rfl,Nat.le_refl _,by simp,fun g o e=>(by cases e),fun i hi=>(by cases hi)⟩,fun _=>rfl,fun g o e=>(by cases e)⟩,_,rfl⟩
 ·clear H;have HL:Hid ((all.drop u).length=n-u):=by show _=_;rw[List.length_drop,hn]
  have HC:=hide' hcell;have HN:=hide' hn;clear hn hcell;have hu':(u:Int)≤(n:Int):=by omega
  have huc:(u:Int)≤(c:Int):=by omega
  have huc':u≤c:=by omega
  by_cases hc:c=u
  ·subst hc;have hnu:n=c:=by omega
   subst hnu;go_enter Tryz.func125,Tryz.ntmps125;go_wp2;go_quiet (fail)
   go_wp2;go_ret;refine⟨⟨some ⟨g,0,none⟩,0,?_,⟨rfl,?_,?_,fun g' o' e=>?_,fun i hi=>?_⟩,fun h=>(by cases h),fun g' o' e=>(by cases e;exact hbg)⟩,_,rfl⟩
   ·rw[HL.out];simp
   ·rw[HL.out];omega
   ·rw[HL.out];omega
   ·cases e;exact hg
   ·rw[HL.out]at hi;omega
  ·go_enter Tryz.func125,Tryz.ntmps125;go_wp2;go_quiet (fail)
   go_wp2;go_ret;refine⟨⟨some ⟨g,u,none⟩,c-u,?_,⟨rfl,?_,?_,fun g' o' e=>?_,fun i hi=>?_⟩,fun h=>(by cases h),fun g' o' e=>(by cases e;exact hbg)⟩,_,rfl⟩
   ·rw[HL.out];congr 2<;>first|omega|simp
   ·rw[HL.out];omega
   ·rw[HL.out];omega
   ·cases e;exact hg
   ·rw[HL.out]at hi;refine⟨g,u,rfl,?_⟩;rw[HC.out (u+i) (by omega)];simp[byAt,List.getD]
set_option maxHeartbeats 1500000
set_option maxRecDepth 20000
variable {D:Nat}{hb:Option Nat}{w a b:World}
structure RdrAt (w:World)(D:Nat)(hb:Option Nat)(t:Nat)(s:St):Prop where
 ex:∃v u,w.heap[D]?=some (rdO t v u s.pass s.closed)∧Held w v u hb s.held∧(u=0∨u<s.held.length)
 ne:hb≠some D
structure Turn2 (D:Nat)(hb:Option Nat)(w w':World):Prop where
 os:w'.os=w.os
 tape:w'.tape=w.tape
 output:w'.output=w.output
 size:w.heap.size≤w'.heap.size
 block:∀k,k<w.heap.size→k≠D→some k≠hb→w'.heap[k]?=w.heap[k]?
theorem Turn2.refl (D:Nat)(hb:Option Nat)(w:World):Turn2 D hb w w:=⟨rfl,rfl,rfl,Nat.le_refl _,fun _ _ _ _=>rfl⟩
theorem Turn2.of_turn {w':World}(h:Turn D w w'):Turn2 D hb w w':=⟨h.os,h.tape,h.output,h.size,fun k h1 h2 _=>h.block k h1 h2⟩
def Fresh (w:World)(hb hb':Option Nat):Prop:=hb'=hb∨hb'=none∨∃k,hb'=some k∧w.heap.size≤k
theorem Turn2.trans {hb':Option Nat}{c:World}(h:Turn2 D hb a b)(k:Turn2 D hb' b c)(f:Fresh a hb hb'):Turn2 D hb a c:=
 ⟨k.os.trans h.os,k.tape.trans h.tape,k.output.trans h.output,Nat.le_trans h.size k.size,fun i hi hn hh=>(k.block i (Nat.lt_of_lt_of_le hi h.size) hn (by
  rcases f with rfl|rfl|⟨j,rfl,hj⟩
  ·exact hh
  ·simp
  ·simp;omega)).trans (h.block i hi hn hh)⟩
theorem Fresh.trans {h1 h2 h3:Option Nat}(f:Fresh a h1 h2)(g:Fresh b h2 h3)(hs:a.heap.size≤b.heap.size):Fresh a h1 h3:=by
 rcases g with rfl|rfl|⟨j,rfl,hj⟩
 ·exact f
 ·exact .inr (.inl rfl)
 ·exact .inr (.inr ⟨j,rfl,by omega⟩)
structure RdrTo (w w':World)(D:Nat)(hb:Option Nat)(t:Nat)(s:St):Prop where
 ex:∃hb',RdrAt w' D hb' t s∧Fresh w hb hb'
 turn:Turn2 D hb w w'
theorem info5:∃i,Tryz.prog.info? 5=some i∧i.zero=some (.int .u8 0)∧i.size=1∧i.bytes=1:=by
 have h:(Tryz.prog.info? 5).map (fun i=>(i.zero,i.size,i.bytes))=some (some (.int .u8 0),1,1):=by kernel_rfl
 cases hi:Tryz.prog.info? 5 with
 |none=>rw[hi]at h;cases h
 |some i=>
  rw[hi]at h;simp only[Option.map_some,Option.some.injEq,Prod.mk.injEq]at h;exact⟨i,rfl,h.1,h.2.1,h.2.2⟩
theorem rdCells {t u:Nat}{v:Value}{ps cl:Bool}(h:w.heap[D]?=some (rdO t v u ps cl)):
 w.cell? ⟨D,0,none⟩=some (.iface t (.agg #[]))∧w.cell? ⟨D,1,none⟩=some v∧w.cell? ⟨D,2,none⟩=some (.int .i64 (u:Int))∧w.cell? ⟨D,3,none⟩=some (.bool ps)∧w.cell? ⟨D,4,none⟩=some (.bool cl)∧(∀j,w.frozen? ⟨D,j,none⟩=false):=
 ⟨blkCell h 0,blkCell h 1,blkCell h 2,blkCell h 3,blkCell h 4,blkFree h⟩
theorem use_any (D t k:Nat)(hb:Option Nat)(s:St)(w:World)(R:RdrAt w D hb t s)(hk:k≤s.held.length):Calls Tryz.prog 126 #[.pointer (some ⟨D,1,none⟩),.int .i64 (k:Int)] w fun e w'=>e= .returned (.tuple #[])∧RdrTo w w' D hb t ⟨s.held.drop k,s.pass,s.closed⟩:=by
 obtain⟨⟨v,u,hD,H,_⟩,hne⟩:=R;obtain⟨held,ps,cl⟩:=s;simp only at hD H hk;obtain⟨d0,d1,d2,d3,d4,df⟩:=rdCells hD;have hlt:=blkLt hD;have H1:Held (w.setCell ⟨D,2,none⟩ (.int .i64 ((u:Int)+k))) v (u+k) hb (held.drop k):=by
  obtain⟨⟨all,h1,h2,h3,h4⟩,hbk⟩:=H;have hl:held.length=all.length-u:=by rw[h3];simp
  have:Held w v (u+k) hb (held.drop k):=⟨⟨all,h1,by omega,by rw[h3,List.drop_drop],h4⟩,hbk⟩
  exact this.other (fun b hb'=>Below.heap_setCell w ⟨D,2,none⟩ _ b (by intro e;apply hne;rw[hb',e]))
 have hub:u+k≤140737488355328:=by
  obtain⟨⟨all,h1,h2,h3,h4⟩,hbk⟩:=H;have hl:held.length=all.length-u:=by rw[h3];simp
  omega
 have hD1:=blkSet (i:=2) hD (.int .i64 ((u:Int)+k));have d1':(w.setCell ⟨D,2,none⟩ (.int .i64 ((u:Int)+k))).cell? ⟨D,1,none⟩=some v:=by go_simp
 have d2':(w.setCell ⟨D,2,none⟩ (.int .i64 ((u:Int)+k))).cell? ⟨D,2,none⟩=some (.int .i64 ((u:Int)+k)):=World.cell?_setCell_same' _ _ _ (by rw[d2];rfl);have hT1:Turn D w (w.setCell ⟨D,2,none⟩ (.int .i64 ((u:Int)+k))):=(Turn.refl D w).setCell 2 _;have hlen:(held.drop k).length≤140737488355328:=by
  obtain⟨⟨all,h1,h2,h3,h4⟩,hbk⟩:=H1;rw[h3];simp;omega
 have HH:=hide' (And.intro H1 (And.intro hD1 hT1));clear H H1 hD1 hT1 hD;have d2c:(w.setCell ⟨D,2,none⟩ (.int .i64 ((u:Int)+k))).cell? ⟨D,2,none⟩=some (.int .i64 ((u+k:Nat):Int)):=d2';have HLn:=hide' (fun q=>len_any D (u+k) v hb (held.drop k) ((w.setCell ⟨D,2,none⟩ (.int .i64 ((u:Int)+k))).drewN q) (HH.out.1.other (fun _ _=>rfl)) d1' d2c);have HLn0:=hide' (len_any D (u+k) v hb (held.drop k) (w.setCell ⟨D,2,none⟩ (.int .i64 ((u:Int)+k))) HH.out.1 d1' d2c);have HWt:=hide' (fun q=>waiting_any D (u+k) v hb (held.drop k) ((w.setCell ⟨D,2,none⟩ (.int .i64 ((u:Int)+k))).drewN q) (HH.out.1.other (fun _ _=>rfl)) d1' d2c);clear d2c;by_cases hge:(held.drop k).length≤u+k
 ·have hge':((held.drop k).length:Int)≤(u:Int)+k:=by omega
  generalize hL:held.drop k=L at*;have hL':=hide' hL;clear hL;go_enter Tryz.func126,Tryz.ntmps126;go_wp2;go_quiet ((go_at_call 74;exact Calls.quiet_of (HLn.out _)))
  go_wp2_with fail
  go_at_call 125;refine(HWt.out _).mono ?_;rintro e w2 ⟨⟨a,c,rfl,hBA,hnil,_⟩,q,rfl⟩;have HBA:=hide' hBA;have HNil:=hide' hnil;clear hBA hnil;by_cases hL0:L=[]
  ·subst hL0;have d1w:=d1';have fin:∀q',RdrTo w ((((w.setCell ⟨D,2,none⟩ (.int .i64 ((u:Int)+k))).drewN q').setCell ⟨D,1,none⟩ (.slice none 0 0)).setCell ⟨D,2,none⟩ (.int .i64 0)) D hb t ⟨[],ps,cl⟩:=by
    intro q';refine⟨⟨none,⟨⟨.slice none 0 0,0,?_,⟨⟨[],World.ownsRow_nil _ _ _ _,Nat.le_refl _,rfl,by simp⟩,rfl⟩,.inl rfl⟩,by simp⟩,.inr (.inl rfl)⟩,.of_turn (((HH.out.2.2.drewN q').setCell 1 _).setCell 2 _)⟩;have e1':((w.setCell ⟨D,2,none⟩ (.int .i64 ((u:Int)+k))).drewN q').heap[D]?=_:=HH.out.2.1;exact(blkSet (i:=2) (blkSet (i:=1) e1' (.slice none 0 0)) (.int .i64 0)).trans rfl
   cases a with
   |none=>
    have hc0:c=0:=HNil.out rfl;subst hc0;clear HLn HWt HLn0;go_wp2;go_end0;exact⟨rfl,fin _⟩
   |some ad=>
    clear HLn HWt HLn0;go_wp2;go_end0;exact⟨rfl,fin _⟩
  ·have hlen1:1≤L.length:=by cases L with|nil=>exact absurd rfl hL0|cons=>simp
   clear hL0;obtain⟨g,o,rfl,hBI⟩:=HBA.out.in_ hlen1;obtain⟨i5,hi,hz0,hz1,hz2⟩:=info5;have HI:=hide' (And.intro hi (And.intro hz0 (And.intro hz1 hz2)));clear hi hz0 hz1 hz2;have HNw:Hid (∀q' (j:Nat) (x:Value),(byC L)[j]?=some x→((w.setCell ⟨D,2,none⟩ (.int .i64 ((u:Int)+k))).drewN q').cell? ((⟨g,o,none⟩:Addr).add j)=some x):=fun q' j x hx=>by
    have hadd:(⟨g,o,none⟩:Addr).add j=⟨g,o+j,none⟩:=by unfold Addr.add;split<;>simp_all
    have hj:j<L.length:=by have:=(List.getElem?_eq_some_iff.1 hx).1;rw[byC_len]at this;exact this
    rw[byC_get hj]at hx;cases hx;rw[hadd];exact hBI.by_ j hj
   have HLL:=hide' (byC_len L);generalize hLn:L.length=nL at*;have HLn2:=hide' hLn;clear hLn HLn HWt HLn0 hBI;go_wp2_with (first
    |(at_builtin;refine wpList_append_lies _ rfl _ _ _ rfl 0 5 i5 (.int .u8 0) 1 1 Tryz.underlying80 HI.out.1 HI.out.2.1 HI.out.2.2.1 HI.out.2.2.2 rfl (by omega) (.slice none 0 0) 0 [] rfl (World.ownsRow_nil _ _ _ _) ⟨g,o,none⟩ nL c (byC L) rfl (by rw[HLL.out];omega) (HNw.out _) (byC_one L) (by omega) (by unfold maxLen;omega) (by omega) (by omega) _ rfl ?_;intro g2 cap w4 hown hgrow hat hlt4;have HF:=hide' (And.intro hown (And.intro (grown_below hgrow) hat));obtain⟨f0,f1,f2,f3,f4,ff⟩:=rdCells ((((grown_below hgrow).block D (by simpa using hlt)).trans HH.out.2.1).trans (show _=some (rdO t v (u+k) ps cl)from rfl));clear hown hgrow hat)
    |fail)
   go_end0;have hg2:g2=w.heap.size:=by
    rcases HF.out.2.2 with h|h
    ·cases h
    ·simpa using h
   have hwr:=HF.out.1;have hb4:=HF.out.2.1;rw[Nat.zero_add,List.nil_append]at hwr;refine⟨rfl,?_⟩;have hD4:=((hb4.block D (by simpa using hlt)).trans HH.out.2.1)
   have hD5:=(blkSet (i:=2) (blkSet (i:=1) hD4 (.slice (some ⟨g2,0,none⟩) nL cap)) (.int .i64 0))
   refine⟨⟨some g2,⟨⟨.slice (some ⟨g2,0,none⟩) nL cap,0,hD5.trans rfl,?_,.inl rfl⟩,by simp;omega⟩,.inr (.inr ⟨g2,rfl,by omega⟩)⟩,.of_turn ((((HH.out.2.2.drewN _).trans (.of_below hb4)).setCell 1 _).setCell 2 _)⟩;have h0:Held w4 (.slice (some ⟨g2,0,none⟩) nL cap) 0 (some g2) L:=⟨⟨L,by rw[HLn2.out];exact hwr,Nat.zero_le _,rfl,by rw[HLn2.out];omega⟩,rfl⟩
   refine h0.other (fun b hb'=>?_);cases hb';rw[Below.heap_setCell _ ⟨D,2,none⟩ _ _ (by show g2≠D;omega),Below.heap_setCell _ ⟨D,1,none⟩ _ _ (by show g2≠D;omega)]
 ·have hge':¬((held.drop k).length:Int)≤(u:Int)+k:=by omega
  generalize hL:held.drop k=L at*;have hL':=hide' hL;clear hL;go_enter Tryz.func126,Tryz.ntmps126;go_wp2;go_quiet ((go_at_call 74;exact Calls.quiet_of (HLn.out _)))
  go_wp2;go_end0;refine⟨rfl,?_⟩;refine⟨⟨hb,⟨⟨v,u+k,?_,?_,.inr (by show u+k<L.length;omega)⟩,hne⟩,.inl rfl⟩,.of_turn (HH.out.2.2.drewN _)⟩
  ·exact HH.out.2.1.trans rfl
  ·exact HH.out.1.other (fun _ _=>rfl)
set_option maxHeartbeats 1500000
set_option maxRecDepth 20000
variable {w a:World}{D t:Nat}{hb:Option Nat}{s:St}{v:Value}
theorem index_any (a:Option Addr)(n c:Nat)(l:List UInt8)(w:World)(hB:BytesA w a n c l)(hnil:a=none→c=0):Calls Tryz.prog 124 #[.slice a n c,.int .u8 10] w fun e w'=>e= .returned (.int .i64 (Go.Lib.indexByte l 10))∧w'=w:=by
 have hl:=hB.len;cases ha:a with
 |none=>
  have h0:n=0:=by
   rcases Nat.eq_zero_or_pos n with h|h
   ·exact h
   ·obtain⟨g,o,e,_⟩:=hB.by_ 0 h;rw[ha]at e;cases e
  have hbs:l=[]:=List.length_eq_zero_iff.1 (by omega);rw[h0,hnil ha,hbs];exact Tryz.bytes_IndexByte_nil 10 w
 |some ad=>
  have:=Tryz.bytes_IndexByte_at ad n c (l.map fun b=>(b.toNat:Int)) 10 w (by rw[List.length_map,hl]) (fun i hi=>by
   obtain⟨g,o,e,hc⟩:=hB.by_ i (by omega);rw[ha]at e;cases e;have hadd:(⟨g,o,none⟩:Addr).add i=⟨g,o+i,none⟩:=by unfold Addr.add;split<;>simp_all
   rw[hadd,hc];have hi2:i<l.length:=by omega
   simp[byAt,List.getD,List.getElem?_eq_getElem hi2])
  rw[libBytes]at this;exact this
theorem RdrAt.setPass (R:RdrAt w D hb t s)(q:Nat)(b:Bool):RdrAt ((w.drewN q).setCell ⟨D,3,none⟩ (.bool b)) D hb t ⟨s.held,b,s.closed⟩:=by
 obtain⟨⟨v,u,hD,H,hiv⟩,hne⟩:=R;refine⟨⟨v,u,?_,H.other (fun k hk=>?_),hiv⟩,hne⟩
 ·have hD':(w.drewN q).heap[D]?=some (rdO t v u s.pass s.closed):=hD;exact(blkSet (i:=3) hD' (.bool b)).trans rfl
 ·exact Below.heap_setCell (w.drewN q) ⟨D,3,none⟩ _ k (by intro e;apply hne;rw[hk,e])
theorem RdrAt.drewN (R:RdrAt w D hb t s)(q:Nat):RdrAt (w.drewN q) D hb t s:=by
 obtain⟨⟨v,u,hD,H,hiv⟩,hne⟩:=R;exact⟨⟨v,u,hD,H.other (fun _ _=>rfl),hiv⟩,hne⟩
theorem Turn2.drewN (h:Turn2 D hb a w)(q:Nat):Turn2 D hb a (w.drewN q):=⟨h.os,h.tape,h.output,h.size,h.block⟩
theorem RdrTo.after {b c:World}(h:Turn2 D hb a b)(k:RdrTo b c D hb t s):RdrTo a c D hb t s:=by
 obtain⟨⟨hb2,R2,F2⟩,T2⟩:=k;exact⟨⟨hb2,R2,Fresh.trans (a:=a) (.inl rfl) F2 h.size⟩,h.trans T2 (.inl rfl)⟩
theorem passLine_any (D t:Nat)(hb:Option Nat)(s:St)(w:World)(R:RdrAt w D hb t s)(hsm:s.held.length≤140737488355328):Calls Tryz.prog 88 #[.pointer (some ⟨D,1,none⟩)] w fun e w'=>e= .returned (.tuple #[])∧RdrTo w w' D hb t ⟨(passL s.held).1,(passL s.held).2,s.closed⟩:=by
 have HR:=hide' R;obtain⟨⟨v,u,hD,H,hiv⟩,hne⟩:=R;obtain⟨d0,d1,d2,d3,d4,df⟩:=rdCells hD;have hlt:=blkLt hD;have HWt:=hide' (waiting_any D u v hb s.held w H d1 d2);have hge:=Go.Lib.indexByte_ge s.held 10;have HP:Hid (passL s.held=if 0≤Go.Lib.indexByte s.held 10 then(s.held.drop ((Go.Lib.indexByte s.held 10).toNat+1),false)else([],true)):=(show _=_ from rfl)
 have HIx:=hide' (fun a n c W (h:BytesA W a n c s.held) hn=>index_any a n c s.held W h hn);have HX:Hid (0≤Go.Lib.indexByte s.held 10→(Go.Lib.indexByte s.held 10).toNat<s.held.length):=fun h=>(ib_nonneg_app s.held [] 10 h).2.1
 have HH:=hide' (And.intro H hD);generalize Go.Lib.indexByte s.held 10=ix at*;generalize hPL:passL s.held=PL at*;have HPL:=hide' hPL;clear hD H hPL;have hTurn:∀q b,Turn2 D hb w ((w.drewN q).setCell ⟨D,3,none⟩ (.bool b)):=fun q b=> .of_turn (((Turn.refl D w).drewN q).setCell 3 _)
 have HTn:=hide' hTurn;clear hTurn;by_cases h0:0≤ix
 ·have h0':¬ix<0:=by omega
  have hlx:=HX.out h0;have hpl:=HP.out;rw[if_pos h0]at hpl;subst hpl;obtain⟨e,rfl⟩:∃e:Nat,ix=(e:Int):=⟨ix.toNat,by omega⟩
  rw[Int.toNat_natCast]at hlx;have HU:=hide' (fun q=>use_any D t (e+1) hb ⟨s.held,false,s.closed⟩ _ (HR.out.setPass q false) (by show e+1≤s.held.length;omega));clear HP HX HPL;simp only[Int.toNat_natCast]
  go_enter Tryz.func88,Tryz.ntmps88;go_wp2_with fail
  go_at_call 125;refine HWt.out.mono ?_;rintro r w2 ⟨⟨a,c,rfl,hBA,hnil,_⟩,q,rfl⟩;have HIX2:=hide' (HIx.out a _ c (w.drewN q) (hBA.later (below_drewN (Below.refl _ _) q)) hnil);have d3':((w.drewN q).setCell ⟨D,3,none⟩ (.bool false)).cell? ⟨D,3,none⟩=some (.bool false):=World.cell?_setCell_same' _ _ _ (by show(w.cell? ⟨D,3,none⟩).isSome=true;rw[d3];rfl);clear hBA hnil HIx HWt;go_wp2_with (first
   |(go_at_call 124;refine HIX2.out.mono ?_;rintro r w2 ⟨rfl,hw2⟩;subst hw2)
   |fail)
  go_at_call 126;refine(HU.out _).mono ?_;rintro r w3 ⟨rfl,T3⟩;have HT3:=hide' T3;clear T3 HU;go_wp2;go_end0;exact⟨rfl,HT3.out.after (HTn.out q false)⟩
 ·have h0':ix<0:=by omega
  have hpl:=HP.out;rw[if_neg h0]at hpl;subst hpl;have HU:=hide' (fun q q2=>use_any D t s.held.length hb ⟨s.held,true,s.closed⟩ _ ((HR.out.setPass q true).drewN q2) (Nat.le_refl _));have HLn:=hide' (fun q=>len_any D u v hb s.held ((w.drewN q).setCell ⟨D,3,none⟩ (.bool true)) (HH.out.1.other (fun k hk=>Below.heap_setCell (w.drewN q) ⟨D,3,none⟩ _ k (by intro e;apply hne;rw[hk,e]))) (by go_simp) (by go_simp));have hdl:s.held.drop s.held.length=[]:=by simp
  simp only[hdl]at HU;clear HP HX HPL hdl;generalize s.held=hl at*;generalize hll:hl.length=n at*;have HLL:=hide' hll;clear hll;simp only
  go_enter Tryz.func88,Tryz.ntmps88;go_wp2_with fail
  go_at_call 125;refine HWt.out.mono ?_;rintro r w2 ⟨⟨a,c,rfl,hBA,hnil,_⟩,q,rfl⟩;have HIX2:=hide' (HIx.out a _ c (w.drewN q) (hBA.later (below_drewN (Below.refl _ _) q)) hnil);have d3':((w.drewN q).setCell ⟨D,3,none⟩ (.bool true)).cell? ⟨D,3,none⟩=some (.bool true):=World.cell?_setCell_same' _ _ _ (by show(w.cell? ⟨D,3,none⟩).isSome=true;rw[d3];rfl);have HLn2:=hide' (HLn.out q);clear hBA hnil HIx HWt HLn;go_wp2_with (first
   |(go_at_call 124;refine HIX2.out.mono ?_;rintro r w2 ⟨rfl,hw2⟩;subst hw2)
   |(go_at_call 74;refine HLn2.out.mono ?_;rintro r w2 ⟨rfl,q2,hw2⟩;subst hw2)
   |fail)
  go_at_call 126;refine(HU.out q q2).mono ?_;rintro r w3 ⟨rfl,T3⟩;have HT3:=hide' T3;clear T3 HU;go_wp2;go_end0;exact⟨rfl,HT3.out.after ((HTn.out q true).drewN q2)⟩
theorem close_any (D t:Nat)(hb:Option Nat)(s:St)(w:World)(R:RdrAt w D hb t s):Calls Tryz.prog 154 #[.pointer (some ⟨D,1,none⟩)] w fun e w'=>e= .returned (.tuple #[])∧RdrTo w w' D hb t ⟨[],false,true⟩:=by
 obtain⟨⟨v,u,hD,H,hiv⟩,hne⟩:=R;obtain⟨d0,d1,d2,d3,d4,df⟩:=rdCells hD;have HD:=hide' hD;clear hD H;go_enter Tryz.func154,Tryz.ntmps154;go_wp2;go_end0;refine⟨rfl,⟨⟨none,⟨⟨.slice none 0 0,0,?_,⟨⟨[],World.ownsRow_nil _ _ _ _,Nat.le_refl _,rfl,by simp⟩,rfl⟩,.inl rfl⟩,by simp⟩,.inr (.inl rfl)⟩,.of_turn ?_⟩⟩
 ·exact(blkSet (i:=4) (blkSet (i:=3) (blkSet (i:=2) (blkSet (i:=1) HD.out (.slice none 0 0)) (.int .i64 0)) (.bool false)) (.bool true)).trans rfl
 ·exact((((Turn.refl D w).setCell 1 _).setCell 2 _).setCell 3 _).setCell 4 _
theorem run_append_str (w:World)(v:Value)(n:Nat)(xs:List Value)(ty:TypeId)(hown:w.ownsRow 0 5 1 v n xs)(s:ByteArray)(hb:n+s.size≤140737488355328):∃v' w',(Builtin.append_ #[80,9] ty #[v,.string s]).run Tryz.prog w= .ok v' w'∧w'.ownsRow 0 5 1 v' (n+s.size) (xs++Lib.strCells s)∧w.grownBy w' v.ownBlock∧(v'.ownBlock=v.ownBlock∨v'.ownBlock=some w.heap.size):=by
 obtain⟨i5,hi,hz0,hz1,hz2⟩:=info5;obtain⟨v',w',hr,h2,h3,h4⟩:=Lib.run_append_own_string (P:=Tryz.prog) w 0 80 9 ty 5 i5 Tryz.underlying80 Tryz.underlying9 hi hz0 hz1 hz2 v n xs hown s (by unfold maxLen;omega) hb (Nat.zero_le _);refine⟨v',w',hr,h2,h3,?_⟩;obtain⟨hl,⟨rfl,rfl⟩|⟨g,cap,cur,rfl,hg0,hg,hnc,hcm,hcs,htk⟩⟩:=hown
 ·by_cases h0:s.size=0
  ·left;rw[h4.2 ⟨rfl,h0⟩]
  ·right;rw[run_append_nil_string (P:=Tryz.prog) w 80 9 ty 5 i5 _ Tryz.underlying80 Tryz.underlying9 hi hz0 s (by omega) (by omega) (by rw[hz2];omega)]at hr;simp only[Result.ok.injEq]at hr;rw[←hr.1];rfl
 ·by_cases hroom:n+s.size≤cap
  ·left;rw[Lib.run_append_room_string (P:=Tryz.prog) w 80 9 ty 5 i5 Tryz.underlying80 Tryz.underlying9 hi hz1 g n cap cur hg s hroom (by omega)]at hr;simp only[Result.ok.injEq]at hr;rw[←hr.1];rfl
  ·right;rw[Lib.run_append_grow_string (P:=Tryz.prog) w 80 9 ty 5 i5 _ Tryz.underlying80 Tryz.underlying9 hi hz0 ⟨g,0,none⟩ n cap xs (by rw[hz1];omega) (fun j u hu=>by
    have hadd:(⟨g,0,none⟩:Addr).add j=⟨g,j,none⟩:=by unfold Addr.add;split<;>simp_all
    rw[hadd,blkCell hg j];rw[←htk]at hu;have hj:j<n*1:=by have:=(List.getElem?_eq_some_iff.1 hu).1;simp at this;omega
    rw[List.getElem?_take_of_lt hj]at hu;simpa using hu) s (by omega) (by omega) (by rw[hz2];exact growslice_fits (by omega) (by omega))]at hr
   simp only[Result.ok.injEq]at hr;rw[←hr.1];rfl
theorem wpList_append_str (w:World){ops:Array Oper}{rest:List Oper}{o:Oper}{a:Act}{Q:Exit→Act→World→Prop}(hgd:o.guard=none)(sl x:Operand)(ho:o.op= .call {callee:= .builtin .append,args:=#[sl,x],argTypes:=#[80,9]})(v:Value)(n:Nat)(xs:List Value)(hs:a.eval sl=v)(hown:w.ownsRow 0 5 1 v n xs)(s:ByteArray)(hx:a.eval x= .string s)(hb:n+s.size≤140737488355328)(h:∀v' w',w'.ownsRow 0 5 1 v' (n+s.size) (xs++Lib.strCells s)→w.grownBy w' v.ownBlock→(v'.ownBlock=v.ownBlock∨v'.ownBlock=some w.heap.size)→wpList Tryz.prog ops Q rest (a.put o.dst v') w'):wpList Tryz.prog ops Q (o::rest) a w:=by
 refine wpList_plain hgd fun K hK=>?_
 obtain⟨v',w',hr,h2,h3,h4⟩:=run_append_str w v n xs o.type hown s hb;unfold Oper.wp execOp;simp only[ho,resolve,invoke,builtin,Sem.run_bind,Sem.run_pure,Result.andThen_ok,List.map_toArray,List.map_cons,List.map_nil,hs,hx,hr]
 exact hK _ _ (h v' w' h2 h3 h4)
theorem strCells_byC (s:ByteArray):Lib.strCells s=byC s.data.toList:=rfl
theorem own_form {base e size n:Nat}{xs:List Value}(h:w.ownsRow base e size v n xs):∃a n c,v= .slice a n c:=by
 rcases h.2 with⟨h,_⟩|⟨g,cap,cur,h,_⟩
 ·exact⟨_,_,_,h⟩
 ·exact⟨_,_,_,h⟩
theorem took {w1:World}{u:Nat}{v1:Value}{held all:List UInt8}{ps cl:Bool}{piece:ByteArray}(hD:w.heap[D]?=some (rdO t v u ps cl))(hne:hb≠some D)(hbk:v.ownBlock=hb)(h2:u≤all.length)(h3:held=all.drop u)(hiv:u=0∨u<held.length)(hsz:all.length+piece.size≤140737488355328)(hown:w1.ownsRow 0 5 1 v1 (all.length+piece.size) (byC all++Lib.strCells piece))(hgrow:w.grownBy w1 v.ownBlock)(hat:v1.ownBlock=v.ownBlock∨v1.ownBlock=some w.heap.size):RdrTo w (w1.setCell ⟨D,1,none⟩ v1) D hb t ⟨held++piece.data.toList,ps,cl⟩∧w1.heap[D]?=some (rdO t v u ps cl):=by
 have hlt:=blkLt hD;have hnD:some D≠v.ownBlock:=by rw[hbk];exact fun e=>hne e.symm
 have hD1:=(hgrow.block D hlt hnD).trans hD;have hv1:v1.ownBlock≠some D:=by
  rcases hat with h|h
  ·rw[h,hbk];exact hne
  ·rw[h];simp;omega
 have hln:(all++piece.data.toList).length=all.length+piece.size:=by simp
 refine⟨⟨⟨v1.ownBlock,⟨⟨v1,u,(blkSet (i:=1) hD1 v1).trans rfl,?_,?_⟩,hv1⟩,?_⟩,?_⟩,hD1⟩
 ·have H1:Held w1 v1 u v1.ownBlock (held++piece.data.toList):=⟨⟨all++piece.data.toList,by rw[byC_app,hln,←strCells_byC];exact hown,by simp;omega,by rw[h3,List.drop_append_of_le_length h2],by rw[hln];exact hsz⟩,rfl⟩
  exact H1.other (fun k hk=>Below.heap_setCell w1 ⟨D,1,none⟩ _ k (by intro e;apply hv1;rw[hk,e]))
 ·rcases hiv with h|h
  ·exact .inl h
  ·right;show u<(held++piece.data.toList).length;simp;omega
 ·rcases hat with h|h
  ·exact .inl (by rw[h,hbk])
  ·exact .inr (.inr ⟨_,h,Nat.le_refl _⟩)
 ·refine⟨hgrow.os,hgrow.tape,hgrow.output,?_,fun k hk hn hh=>?_⟩
  ·have:=hgrow.size;simpa using this
  ·exact(Below.heap_setCell w1 ⟨D,1,none⟩ _ k hn).trans (hgrow.block k hk (by rw[hbk];exact hh))
theorem take_any (D t:Nat)(hb:Option Nat)(s:St)(piece:ByteArray)(w:World)(R:RdrAt w D hb t s)(hsm:2*s.held.length+piece.size≤140737488355328):Calls Tryz.prog 58 #[.pointer (some ⟨D,1,none⟩),.string piece] w fun e w'=>e= .returned (.tuple #[])∧RdrTo w w' D hb t (takeS s piece.data.toList):=by
 have HR:=hide' R;obtain⟨⟨v,u,hD,H,hiv⟩,hne⟩:=R;obtain⟨held,ps,cl⟩:=s;simp only at hD H hiv hsm;obtain⟨d0,d1,d2,d3,d4,df⟩:=rdCells hD;have hlt:=blkLt hD;cases cl with
 |true=>
  have e:takeS ⟨held,ps,true⟩ piece.data.toList=⟨held,ps,true⟩:=rfl;rw[e];clear hD H hiv e;go_enter Tryz.func58,Tryz.ntmps58;go_wp2;refine bodyPost_ret (results_none rfl _ _ _) rfl ?_;exact⟨rfl,⟨⟨hb,HR.out,.inl rfl⟩,Turn2.refl _ _ _⟩⟩
 |false=>
  obtain⟨⟨all,h1,h2,h3,h4⟩,hbk⟩:=H;have hl:held.length=all.length-u:=by rw[h3];simp
  have hsz:all.length+piece.size≤140737488355328:=by omega
  have hp1:piece.size≤140737488355328:=by omega
  have HT:=hide' (fun w1 v1 a b c=>took (w1:=w1) (v1:=v1) hD hne hbk h2 h3 hiv hsz a b c);obtain⟨va,vn,vc,hvf⟩:=own_form h1;subst hvf;have H1:=hide' h1;cases ps with
  |false=>
   have e:takeS ⟨held,false,false⟩ piece.data.toList=⟨held++piece.data.toList,false,false⟩:=rfl;rw[e];clear hD h1 h2 h3 h4 hiv e hbk hl;go_enter Tryz.func58,Tryz.ntmps58;go_wp2_with (first
    |(at_builtin;refine wpList_append_str _ rfl _ _ rfl (.slice va vn vc) all.length (byC all) rfl H1.out piece rfl hsz ?_;intro v1 w1 a b c;obtain⟨ua,un,uc,huf⟩:=own_form a;subst huf;have HK:=hide' (HT.out w1 _ a b c);clear a b c;obtain⟨f0,f1,f2,f3,f4,ff⟩:=rdCells HK.out.2)
    |fail)
   go_end0;exact⟨rfl,HK.out.1⟩
  |true=>
   have e:takeS ⟨held,true,false⟩ piece.data.toList=⟨(passL (held++piece.data.toList)).1,(passL (held++piece.data.toList)).2,false⟩:=rfl;rw[e];clear hD h1 h2 h3 h4 hiv e hbk;have hln:(held++piece.data.toList).length≤140737488355328:=by simp;omega
   have HPL:=hide' (fun W hb' (R:RdrAt W D hb' t ⟨held++piece.data.toList,true,false⟩)=>passLine_any D t hb' ⟨held++piece.data.toList,true,false⟩ W R hln);simp only at HPL;clear hln;generalize passL (held++piece.data.toList)=PL at*;go_enter Tryz.func58,Tryz.ntmps58;go_wp2_with (first
    |(at_builtin;refine wpList_append_str _ rfl _ _ rfl (.slice va vn vc) all.length (byC all) rfl H1.out piece rfl hsz ?_;intro v1 w1 a b c;obtain⟨ua,un,uc,huf⟩:=own_form a;subst huf;have HK:=hide' (HT.out w1 _ a b c);clear a b c;obtain⟨f0,f1,f2,f3,f4,ff⟩:=rdCells HK.out.2)
    |fail)
   go_at_call 88;obtain⟨hb2,R2,F2⟩:=HK.out.1.ex;refine(HPL.out _ hb2 R2).mono ?_;rintro r w3 ⟨rfl,T3⟩;have HT3:=hide' (And.intro T3 (And.intro R2 F2));clear T3 R2 F2;go_wp2;go_end0;refine⟨rfl,?_⟩;obtain⟨T3,R2,F2⟩:=HT3.out;obtain⟨⟨hb3,R3,F3⟩,T4⟩:=T3;exact⟨⟨hb3,R3,F2.trans F3 HK.out.1.turn.size⟩,HK.out.1.turn.trans T4 F2⟩
end Go.Proofs.YtlonjggfnleolaaGreatDoor
