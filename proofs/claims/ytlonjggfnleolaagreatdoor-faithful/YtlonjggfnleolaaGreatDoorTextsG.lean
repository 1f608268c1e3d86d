import Derived.Test.YtlonjggfnleolaaGreatDoorFrRight
import Derived.Test.YtlonjggfnleolaaGreatDoorKind
import Derived.Test.YtlonjggfnleolaaGreatDoorReaderEx
import Derived.Deep.AppendLies
namespace Go.Proofs.YtlonjggfnleolaaGreatDoor
open Go.RowKit
set_option linter.unusedVariables false
set_option maxHeartbeats 4000000
set_option maxRecDepth 20000
variable {w w' W:World}{cap T R:Nat}{ss:List ByteArray}
theorem info9:∃i,Tryz.prog.info? 9=some i∧i.zero=some (.string ⟨#[]⟩)∧i.size=1∧i.bytes=16:=by
 have h:(Tryz.prog.info? 9).map (fun i=>(i.zero,i.size,i.bytes))=some (some (.string ⟨#[]⟩),1,16):=by kernel_rfl
 cases hi:Tryz.prog.info? 9 with
 |none=>rw[hi]at h;cases h
 |some i=>
  rw[hi]at h;simp only[Option.map_some,Option.some.injEq,Prod.mk.injEq]at h;exact⟨i,rfl,h.1,h.2.1,h.2.2⟩
theorem owns_texts {base g m:Nat}{ks:List ByteArray}(hk:ks.length=m)(hm:0<m)(h:w.ownsRow base 9 1 (.slice (some ⟨g,0,none⟩) m cap) m (ks.map Value.string)):TextsAt w g cap ks∧base≤g:=by
 obtain⟨_,h|⟨g',cap',cur,e,hb,hh,hn,hc,hs,ht⟩⟩:=h
 ·omega
 ·cases e;refine⟨⟨cur,hh,by omega,by omega,fun i x hx=>?_⟩,hb⟩;have hi:i<ks.length:=(List.getElem?_eq_some_iff.1 hx).1;have:(cur.toList.take (m*1))[i]?=some (.string x):=by rw[ht,List.getElem?_map,hx];rfl
  rw[List.getElem?_take_of_lt (by omega)]at this;simpa using this
theorem texts_strs (h:TextsAt w T cap ss)(hl:ss.length≤140737488355328)(hs:∀s∈ss,s.size≤maxLen):StrsAt w (.slice (some ⟨T,0,none⟩) ss.length cap) ss:=by
 obtain⟨Z,hZ,hz,hc,hi⟩:=h;refine⟨.inl ⟨T,0,cap,rfl,blkLt hZ,fun i s hs'=>?_⟩,hl,hs⟩;rw[Nat.zero_add,blkCell hZ i];exact hi i s hs'
theorem grown_below (h:w.grownBy w' none):Below w.heap.size w w':=⟨h.os,h.tape,h.output,h.size,fun k hk=>h.block k hk (by simp)⟩
theorem TextsAt.later (h:TextsAt w T cap ss)(hb:Below w.heap.size w w'):TextsAt w' T cap ss:=by
 obtain⟨Z,hZ,h⟩:=h;exact⟨Z,(hb.block T (blkLt hZ)).trans hZ,h⟩
theorem TextsAt.lt (h:TextsAt w T cap ss):T<w.heap.size:=by
 obtain⟨Z,hZ,h⟩:=h;exact blkLt hZ
theorem TextsAt.other (h:TextsAt w T cap ss)(hb:w'.heap[T]?=w.heap[T]?):TextsAt w' T cap ss:=by
 obtain⟨Z,hZ,h⟩:=h;exact⟨Z,hb.trans hZ,h⟩
theorem set8_other {k:Nat}(hk:k≠R)(a b c d e f g i:Value):((((((((w.setCell ⟨R,0,none⟩ a).setCell ⟨R,1,none⟩ b).setCell ⟨R,2,none⟩ c).setCell ⟨R,3,none⟩ d).setCell ⟨R,4,none⟩ e).setCell ⟨R,5,none⟩ f).setCell ⟨R,6,none⟩ g).setCell ⟨R,7,none⟩ i).heap[k]?=w.heap[k]?:=setOther hk _ _ _ _ _ _ _ _
structure CCells (W:World)(C:Nat)(k:Int)(kv:Value)(val:ByteArray):Prop where
 all:W.cell? ⟨C,0,none⟩=some (.int .i64 k)∧W.cell? ⟨C,1,none⟩=some kv∧W.cell? ⟨C,2,none⟩=some (.string val)∧W.cell? ⟨C,3,none⟩=some (.string ⟨#[]⟩)∧W.cell? ⟨C,4,none⟩=some (.bool false)∧W.cell? ⟨C,5,none⟩=some (.int .i64 0)
 free:∀i,W.frozen? ⟨C,i,none⟩=false
theorem ccells_of {C:Nat}{k:Int}{kv:Value}{val:ByteArray}(h:W.heap[C]?=some (.cells #[.int .i64 k,kv,.string val,.string ⟨#[]⟩,.bool false,.int .i64 0] 36 (0,0))):CCells W C k kv val:=
 ⟨⟨blkCell h 0,blkCell h 1,blkCell h 2,blkCell h 3,blkCell h 4,blkCell h 5⟩,blkFree h⟩
theorem zcells_of (h:W.heap[R]?=some (.cells #[.int .i64 0,.slice none 0 0,.string ⟨#[]⟩,.string ⟨#[]⟩,.bool false,.int .i64 0,.int .i64 0,.bool false] 255 (0,0))):ZCells W R:=
 ⟨⟨blkCell h 0,blkCell h 1,blkCell h 2,blkCell h 3,blkCell h 4,blkCell h 5,blkCell h 6,blkCell h 7⟩,blkFree h⟩
theorem two_kept {w1:World}{A B:Obj}(h:Below ((w.alloc A).alloc B).heap.size ((w.alloc A).alloc B) w1):w1.heap[w.heap.size]?=some A∧w1.heap[w.heap.size+1]?=some B:=by
 refine⟨(h.block _ (by simp;omega)).trans ((Below.heap_alloc _ _ _ (by simp)).trans (blkNew w A)),(h.block _ (by simp)).trans ?_⟩;have:=blkNew (w.alloc A) B;rw[World.size_alloc]at this;exact this
theorem readTexts_plain (T:Nat)(x:ByteArray)(ks:List ByteArray)(m u:Nat)(w:World)(hm:ks.length=m)(hT:TextsAt w T 5 (x::ks))(h1:1≤m)(h5:m≤4)(hs:∀s∈ks,s.size≤maxLen)(hk:kindB x≠2):Calls Tryz.prog 256 #[.slice (some ⟨T,0,none⟩) (m+1) 5,.int .i64 (u:Int)] w fun e w'=>StepOut w w' (some (textsR (x::ks) u)) e∧Below w.heap.size w w':=by
 have hR:textsR (x::ks) u=if cmdB (kindB x) ks noB then⟨⟨kindB x,ks,noB,noB,false,0⟩,u,false⟩else⟨wrongC dataB false,u,false⟩:=by
  unfold textsR;simp only[List.getD_cons_zero,List.drop_succ_cons,List.drop_zero,hk,if_false,false_and]
 have HR:=hide' hR;clear hR;obtain⟨i9,hi,hz0,hz1,hz2⟩:=info9;have HI:=hide' (And.intro hi (And.intro hz0 (And.intro hz1 hz2)));clear hi hz0 hz1 hz2;have hlt:=hT.lt;have hlt1:T<w.heap.size+1:=by omega
 have hlt2:T<w.heap.size+1+1:=by omega
 have HT:=hide' hT;obtain⟨Z,hZ,hzs,hzl,hzi⟩:=hT;have c0:w.cell? ⟨T,0,none⟩=some (.string x):=by rw[blkCell hZ 0];exact hzi 0 x rfl
 have HC:Hid (∀j s,ks[j]?=some s→w.cell? ⟨T,1+j,none⟩=some (.string s)):=fun j s h=>by
  rw[blkCell hZ (1+j),Nat.add_comm];exact hzi (j+1) s (by simpa using h)
 clear hZ hzs hzl hzi Z;have hkn:(kindB x==2)=false:=by simpa using hk
 have HM:=hide' hm;clear hm hk;generalize hgk:kindB x=k at*;have HX:=hide' (show∀W:World,Calls Tryz.prog 224 #[.string x] W fun e w'=>e= .returned (.int .i64 k)∧w'=W from fun W=>by rw[←hgk];exact kindOf_any x W);clear hgk;go_enter Tryz.func256,Tryz.ntmps256;have HN:Hid (∀(a b:Obj) (j:Nat) (v:Value),(ks.map Value.string)[j]?=some v→((w.alloc a).alloc b).cell? ((⟨T,1,none⟩:Addr).add j)=some v):=fun a b j v hv=>by
  have hadd:(⟨T,1,none⟩:Addr).add j=⟨T,1+j,none⟩:=by unfold Addr.add;split<;>simp_all
  rw[List.getElem?_map]at hv;cases hj:ks[j]?with
  |none=>rw[hj]at hv;cases hv
  |some s=>
   rw[hj]at hv;cases hv;have hb:Below w.heap.size w ((w.alloc a).alloc b):=((Below.refl _ _).alloc (Nat.le_refl _) _).alloc (by simp) _;rw[hadd];exact(hb.cell (p:=⟨T,1+j,none⟩) hlt).trans (HC.out j s hj)
 have HO:Hid (∀u∈ks.map Value.string,u.oneCell'=true):=fun u hu=>by
  obtain⟨s,_,rfl⟩:=List.mem_map.1 hu;rfl
 go_wp2_with (first
  |(go_at_call 224;refine(HX.out _).mono ?_;rintro e w' ⟨rfl,rfl⟩)
  |(at_builtin;refine wpList_append_lies _ rfl _ _ _ rfl w.heap.size 9 i9 (.string ⟨#[]⟩) 1 16 Tryz.underlying34 HI.out.1 HI.out.2.1 HI.out.2.2.1 HI.out.2.2.2 rfl (by omega) (.slice none 0 0) 0 [] rfl (World.ownsRow_nil _ _ _ _) ⟨T,1,none⟩ m 4 (ks.map Value.string) rfl (by rw[List.length_map,HM.out];omega) (HN.out _ _) HO.out (by omega) (by unfold maxLen;omega) (by omega) (by simp;omega) _ rfl ?_;intro g cap w1 hown hgrow hat hlt3;have hB1:=grown_below hgrow;have HF:=hide' (And.intro hown (And.intro hB1 hat));obtain⟨hRb,hCb⟩:=two_kept hB1;obtain⟨⟨r0,r1,r2,r3,r4,r5,r6,r7⟩,rf⟩:=zcells_of hRb;obtain⟨⟨k0,k1,k2,k3,k4,k5⟩,kf⟩:=ccells_of hCb;have hz1:=blkLt hCb;have HRC:=hide' (And.intro hRb hCb);clear hown hgrow hat hB1 hRb hCb)
  |fail)
 have hg:g=w.heap.size+1+1:=by
  rcases HF.out.2.2 with h|h
  ·cases h
  ·simpa using h
 have hTx:TextsAt w1 g cap ks:=by
  have:=HF.out.1;rw[Nat.zero_add,List.nil_append]at this;exact(owns_texts HM.out (by omega) this).1
 have hTx2:=hTx.other (w':=w1.setCell ⟨w.heap.size+1,1,none⟩ (.slice (some ⟨g,0,none⟩) m cap)) (Below.heap_setCell _ _ _ _ (by show g≠w.heap.size+1;omega));have hS:=texts_strs hTx2 (by rw[HM.out];omega) hs;rw[HM.out]at hS;have hbel:Below w.heap.size w w1:=(((Below.refl _ _).alloc (Nat.le_refl _) _).alloc (by simp) _).trans (HF.out.2.1.mono (by simp;omega));have hbel2:Below w.heap.size w (w1.setCell ⟨w.heap.size+1,1,none⟩ (.slice (some ⟨g,0,none⟩) m cap)):=hbel.setCell (p:=⟨w.heap.size+1,1,none⟩) (by show w.heap.size≤w.heap.size+1;omega) _;have hRb2:(w1.setCell ⟨w.heap.size+1,1,none⟩ (.slice (some ⟨g,0,none⟩) m cap)).heap[w.heap.size]?=some (.cells #[.int .i64 0,.slice none 0 0,.string ⟨#[]⟩,.string ⟨#[]⟩,.bool false,.int .i64 0,.int .i64 0,.bool false] 255 (0,0)):=(Below.heap_setCell _ ⟨w.heap.size+1,1,none⟩ _ _ (by show w.heap.size≠w.heap.size+1;omega)).trans HRC.out.1
 have hCb2:=blkSet (i:=1) HRC.out.2 (.slice (some ⟨g,0,none⟩) m cap);have HCM:=hide' (cmd_any k _ ks ⟨#[]⟩ ⟨#[]⟩ false 0 _ hS (by decide));clear hS r0 r1 r2 r3 r4 r5 r6 r7 rf k0 k1 k2 k3 k4 k5 kf HC HN HX c0;clear HF HRC hTx hbel HT HI HO;generalize hW2:w1.setCell ⟨w.heap.size+1,1,none⟩ (.slice (some ⟨g,0,none⟩) m cap)=w2 at*;clear hW2;unfold cmdV6 at HCM;refine HCM.out.mono ?_;rintro e w3 ⟨rfl,hb3⟩;have hR3:=(hb3.block _ (blkLt hRb2)).trans hRb2;have hC3:=(hb3.block _ (blkLt hCb2)).trans hCb2;have hT3:=hTx2.later hb3;have hB3:=hbel2.trans (hb3.mono hbel2.size);have HK:=hide' (And.intro hR3 (And.intro hC3 (And.intro hT3 hB3)));obtain⟨⟨r0,r1,r2,r3,r4,r5,r6,r7⟩,rf⟩:=zcells_of hR3;obtain⟨⟨k0,k1,k2,k3,k4,k5⟩,kf⟩:=ccells_of hC3
 have hz3:=blkLt hC3;clear hb3 hR3 hC3 hT3 hB3 hRb2 hCb2 hTx2 hbel2 HCM;have hcb:Hid (cmdB k ks noB=cmdB k ks ⟨#[]⟩):=(show _=_ from rfl)
 cases hcm:cmdB k ks ⟨#[]⟩with
 |false=>
  go_wp2_with fail
  go_at_call 218;refine(wrong_any _ _ _).mono ?_;rintro e w4 ⟨rfl,hb4⟩;have hR4:=(hb4.block _ (blkLt HK.out.1)).trans HK.out.1;have hB4:=HK.out.2.2.2.trans (hb4.mono HK.out.2.2.2.size);obtain⟨⟨s0,s1,s2,s3,s4,s5,s6,s7⟩,sf⟩:=zcells_of hR4;have H4:=hide' hB4;clear hb4 hR4 hB4 r0 r1 r2 r3 r4 r5 r6 r7 rf k0 k1 k2 k3 k4 k5 kf;unfold stepV;go_wp2;refine bodyPost_ret (v:=stepV 4 (.slice none 0 0) ⟨#[]⟩ dataB false 0 u false) (by simp[results,Tryz.results256,go_sem,stepV,dataB,s0,s1,s2,s3,s4,s5,s6,s7]) rfl ⟨?_,?_⟩
  ·rw[HR.out,hcb.out,hcm,if_neg (by simp)];exact⟨_,rfl,.inl ⟨rfl,rfl⟩⟩
  ·exact set8 H4.out (Nat.le_refl _) _ _ _ _ _ _ _ _
 |true=>
  go_wp2;refine bodyPost_ret (v:=stepV k (.slice (some ⟨g,0,none⟩) m cap) ⟨#[]⟩ ⟨#[]⟩ false 0 u false) (by simp[results,Tryz.results256,go_sem,stepV,r0,r1,r2,r3,r4,r5,r6,r7]) rfl ⟨?_,?_⟩
  ·rw[HR.out,hcb.out,hcm,if_pos rfl];refine⟨_,rfl,.inr ⟨g,cap,by rw[HM.out],by omega,HK.out.2.2.1.other ?_⟩⟩;exact set8_other (by omega) _ _ _ _ _ _ _ _
  ·exact set8 HK.out.2.2.2 (Nat.le_refl _) _ _ _ _ _ _ _ _
end Go.Proofs.YtlonjggfnleolaaGreatDoor
