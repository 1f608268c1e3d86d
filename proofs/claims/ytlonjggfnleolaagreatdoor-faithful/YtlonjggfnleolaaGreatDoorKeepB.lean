import Derived.Test.YtlonjggfnleolaaGreatDoorKeepA
import Derived.Test.YtlonjggfnleolaaGreatDoorDecode
import Derived.Deep.RegionLaw
namespace Go.Proofs.YtlonjggfnleolaaGreatDoor
open Go.RowKit
set_option linter.unusedVariables false
set_option maxHeartbeats 1000000
set_option maxRecDepth 20000
variable {k:Int}{ss:List ByteArray}{s val:ByteArray}{cl C g n cap:Nat}{w W:World}
def ownK (cl:Nat)(s:ByteArray):Prop:=s.data.toList.head?=some (UInt8.ofNat (97+cl))
theorem keyS_own (k r:Nat):ownK k (keyS k r):=rfl
structure CmdOut (cl:Nat)(w w':World)(d:Int)(e:Ending):Prop where
 ex:∃(k:Int) (a:Option Addr) (n c:Nat) (val:ByteArray) (ss:List ByteArray),e= .returned (cmdV6 k (.slice a n c) val ⟨#[]⟩ false 0)∧KeysIn w' w.heap.size (.slice a n c) ss∧cmdB k ss val=true∧(d=2→ss.length=1)∧∀s∈ss,ownK cl s
 bel:Below w.heap.size w w'
theorem emp0:(ByteArray.mk #[]).toList.isEmpty=true:=by decide+kernel
theorem cmdB_keys (hk:k=1)(h1:1≤ss.length)(h4:ss.length≤4)(hs:∀s∈ss,keyB s=true):cmdB k ss ⟨#[]⟩=true:=by
 subst hk;have:keysB ss 4=true:=by
  simp only[keysB,withinB,Bool.and_eq_true,decide_eq_true_eq,List.all_eq_true]
  exact⟨⟨by omega,by omega⟩,hs⟩
 unfold cmdB;rw[if_pos rfl,this,emp0];rfl
theorem cmdB_set (hs:keyB s=true)(hv:val.size≤40):cmdB 2 [s] val=true:=by
 have:keysB [s] 1=true:=by simp[keysB,withinB,hs]
 have hv':(val.size:Int)≤40:=by omega
 unfold cmdB;rw[if_neg (by decide),if_pos rfl,this];simp[hv']
theorem cmdB_del (hs:keyB s=true):cmdB 3 [s] ⟨#[]⟩=true:=by
 have:keysB [s] 1=true:=by simp[keysB,withinB,hs]
 unfold cmdB;rw[if_neg (by decide),if_neg (by decide),if_pos rfl,this,emp0];rfl
structure CmdKp (cl:Nat)(w W:World)(C:Nat)(k:Int)(g n cap:Nat)(val:ByteArray)(ss:List ByteArray):Prop where
 hR:W.heap[w.heap.size]?=some (.cells zCmd 36 (0,0))
 hC:W.heap[C]?=some (.cells #[.int .i64 k,.slice (some ⟨g,0,none⟩) n cap,.string val,.string ⟨#[]⟩,.bool false,.int .i64 0] 36 (0,0))
 own:W.ownsRow w.heap.size 9 1 (.slice (some ⟨g,0,none⟩) n cap) n (ss.map Value.string)
 len:ss.length=n
 pos:1≤n
 keys:∀s∈ss,keyB s=true
 lC:w.heap.size<C
 bel:Below w.heap.size w W
 mine:∀s∈ss,ownK cl s
theorem CmdKp.keysIn (h:CmdKp cl w W C k g n cap val ss):KeysIn W w.heap.size (.slice (some ⟨g,0,none⟩) n cap) ss:=by
 obtain⟨h1,h2⟩:=owns_texts h.len (by have:=h.pos;omega) h.own;exact .inr ⟨g,cap,by rw[h.len],h2,h1⟩
theorem conv1 (wr:World)(b:Int):(convert 80 9 (.slice (some ⟨wr.heap.size,0,none⟩) 1 1)).run Tryz.prog (wr.alloc (.cells #[.int .u8 b] 5))= .ok (.string (strOfNums [b])) (wr.alloc (.cells #[.int .u8 b] 5)):=
 run_convert_bytes_arg (P:=Tryz.prog) _ 80 5 Tryz.underlying80 Tryz.underlying5 wr.heap.size 0 1 1 [b] rfl (fun i hi=>by
  have h0:i=0:=by omega
  subst h0;simp) 9 Tryz.underlying9
theorem CmdKp.fin (h:CmdKp cl w W C k g n cap val ss)(v0 v1 v2 v3 v4 v5:Value):
 KeysIn ((((((W.setCell ⟨w.heap.size,0,none⟩ v0).setCell ⟨w.heap.size,1,none⟩ v1).setCell ⟨w.heap.size,2,none⟩ v2).setCell ⟨w.heap.size,3,none⟩ v3).setCell ⟨w.heap.size,4,none⟩ v4).setCell ⟨w.heap.size,5,none⟩ v5) w.heap.size (.slice (some ⟨g,0,none⟩) n cap) ss∧
 Below w.heap.size w ((((((W.setCell ⟨w.heap.size,0,none⟩ v0).setCell ⟨w.heap.size,1,none⟩ v1).setCell ⟨w.heap.size,2,none⟩ v2).setCell ⟨w.heap.size,3,none⟩ v3).setCell ⟨w.heap.size,4,none⟩ v4).setCell ⟨w.heap.size,5,none⟩ v5):=
 ⟨h.keysIn.other (Nat.le_refl _) (fun b c Z hZ _ _=>set6_other (fun e=>by rw[e,h.hR]at hZ;cases hZ) _ _ _ _ _ _),set6_below h.bel (Nat.le_refl _) _ _ _ _ _ _⟩
theorem CmdKp.below {W':World}(h:CmdKp cl w W C k g n cap val ss)(hb:Below W.heap.size W W'):CmdKp cl w W' C k g n cap val ss:=by
 refine⟨(hb.block _ (blkLt h.hR)).trans h.hR,(hb.block _ (blkLt h.hC)).trans h.hC,own_keep h.own ?_,h.len,h.pos,h.keys,h.lC,h.bel.trans (hb.mono h.bel.size),h.mine⟩;obtain⟨_,h2|⟨g',cap',cur,e,_,hg,_⟩⟩:=h.own
 ·cases h2.1
 ·cases e;exact hb.block _ (blkLt hg)
theorem CmdKp.setVal (h:CmdKp cl w W C k g n cap val ss)(val':ByteArray):CmdKp cl w (W.setCell ⟨C,2,none⟩ (.string val')) C k g n cap val' ss:=by
 have hlC:=h.lC;refine⟨(Below.heap_setCell _ _ _ _ (by show w.heap.size≠C;omega)).trans h.hR,(blkSet (i:=2) h.hC (.string val')).trans rfl,own_keep h.own (Below.heap_setCell _ _ _ _ ?_),h.len,h.pos,h.keys,h.lC,h.bel.setCell (p:=⟨C,2,none⟩) (by show w.heap.size≤C;omega) _,h.mine⟩;obtain⟨_,h2|⟨g',cap',cur,e,_,hg,_⟩⟩:=h.own
 ·cases h2.1
 ·cases e;intro e2;rw[show g=C from e2,h.hC]at hg;cases hg
theorem CmdKp.push {Wx wa:World}{g2 cap2:Nat}(h:CmdKp cl w W C k g n cap val ss)(hW:Below W.heap.size W Wx)(hgrow:Wx.grownBy wa (Value.slice (some ⟨g,0,none⟩) n cap).ownBlock)(hown:wa.ownsRow w.heap.size 9 1 (.slice (some ⟨g2,0,none⟩) (n+1) cap2) (n+1) (ss.map Value.string++[Value.string s]))(hat:(Value.slice (some ⟨g,0,none⟩) n cap).ownBlock=some g2∨g2=Wx.heap.size)(hs:keyB s=true)(hs2:ownK cl s):CmdKp cl w (wa.setCell ⟨C,1,none⟩ (.slice (some ⟨g2,0,none⟩) (n+1) cap2)) C k g2 (n+1) cap2 val (ss++[s]):=by
 have hx:=h.below hW;obtain⟨hgt,hg⟩:∃cur,Wx.heap[g]?=some (.cells cur 9 (0,0)):=by
  obtain⟨_,h2|⟨g',cap',cur,e,_,hg,_⟩⟩:=hx.own
  ·cases h2.1
  ·cases e;exact⟨cur,hg⟩
 have hCg:C≠g:=fun e=>by rw[←e,hx.hC]at hg;cases hg
 have hRg:w.heap.size≠g:=fun e=>by rw[←e,hx.hR]at hg;cases hg
 have hlC:=h.lC;have hCa:=(hgrow.block C (blkLt hx.hC) (by show some C≠some g;simpa using hCg)).trans hx.hC;have hRa:=(hgrow.block w.heap.size (blkLt hx.hR) (by show some w.heap.size≠some g;simpa using hRg)).trans hx.hR;have hg2C:g2≠C:=by
  rcases hat with e|e
  ·have:g=g2:=by simpa [Value.ownBlock]using e
   omega
  ·have:=blkLt hx.hC;omega
 have hgl:w.heap.size≤g:=by
  obtain⟨_,h2|⟨g',cap',cur,e,hl,hg,_⟩⟩:=hx.own
  ·cases h2.1
  ·cases e;exact hl
 refine⟨(Below.heap_setCell _ ⟨C,1,none⟩ _ _ (by show w.heap.size≠C;omega)).trans hRa,(blkSet (i:=1) hCa _).trans rfl,own_keep (by rw[List.map_append];exact hown) (Below.heap_setCell _ ⟨C,1,none⟩ _ _ hg2C),by rw[List.length_append,h.len];rfl,by omega,fun x hx'=>?_,hlC,?_,fun x hx'=>?_⟩
 ·rcases List.mem_append.1 hx' with h'|h'
  ·exact h.keys x h'
  ·rw[List.mem_singleton]at h';rw[h'];exact hs
 ·have hb:Below w.heap.size w wa:=hx.bel.trans ⟨hgrow.os,hgrow.tape,hgrow.output,hgrow.size,fun k' hk'=>hgrow.block k' (by have:=hx.bel.size;omega) (by show some k'≠some g;simp;omega)⟩;exact hb.setCell (p:=⟨C,1,none⟩) (by show w.heap.size≤C;omega) _
 ·rcases List.mem_append.1 hx' with h'|h'
  ·exact h.mine x h'
  ·rw[List.mem_singleton]at h';rw[h'];exact hs2
theorem command_any (d:Int)(cl:Nat)(a:Option Addr)(n c:Nat)(xs:List Int)(at':Nat)(w:World)(h:RawIn w a n c xs)(hcl:cl<4)(hat:at'≤1000000000):Calls Tryz.prog 45 #[.int .i64 d,.int .i64 (cl:Int),.slice a n c,.int .i64 (at':Int)] w fun e w'=>CmdOut cl w w' d e:=by
 have HRaw:=hide' (fun W (hW:Below w.heap.size w W) (i:Nat) (hi:i≤140737488355328)=>raw_any a n c xs i W (h.later hW) hi);have HWf:=hide' (fun i=>rawN_wf h i);have hsm:=h.small;clear h;have hp3:=pickN_lt (rawN xs at') 3 (by omega);have HP3:=hide' (fun W=>pick_big (rawN xs at') 3 W (HWf.out _) (by omega) (by omega));have HKey:=hide' (fun W=>jkey_any cl (rawN xs (at'+1)) W (HWf.out _) hcl);have hko:=keyS_ok cl hcl (pickN (rawN xs (at'+1)) 6) (pickN_lt _ 6 (by omega));have HR0:=hide' (fun W hW=>HRaw.out W hW at' (by omega));have HR1:Hid (∀W,Below w.heap.size w W→Calls Tryz.prog 37 #[.slice a n c,.int .i64 ((at':Int)+1)] W fun e w'=>e= .returned (.int .i64 (rawN xs (at'+1)))∧w'=W):=fun W hW=>HRaw.out W hW (at'+1) (by omega)
 have HR2:Hid (∀W,Below w.heap.size w W→Calls Tryz.prog 37 #[.slice a n c,.int .i64 ((at':Int)+2)] W fun e w'=>e= .returned (.int .i64 (rawN xs (at'+2)))∧w'=W):=fun W hW=>HRaw.out W hW (at'+2) (by omega)
 have hko2:=keyS_own cl (pickN (rawN xs (at'+1)) 6);have HKO:=hide' hko2;clear hko2;generalize hp:pickN (rawN xs at') 3=p at*;generalize hkk:keyS cl (pickN (rawN xs (at'+1)) 6)=key at*;clear hp hkk;go_enter Tryz.func45,Tryz.ntmps45;go_wp2_with fail
 go_at_call 37;refine(HR0.out _ ((Below.refl _ _).alloc (Nat.le_refl _) _)).mono ?_;rintro e w1 ⟨rfl,hw1⟩;subst hw1;go_wp2_with fail
 go_at_call 17;refine(HP3.out _).mono ?_;rintro e w1 ⟨rfl,hw1⟩;subst hw1;go_wp2_with fail
 go_at_call 37;refine(HR1.out _ ((Below.refl _ _).alloc (Nat.le_refl _) _)).mono ?_;rintro e w1 ⟨rfl,hw1⟩;subst hw1;go_wp2_with fail
 go_at_call 22;refine(HKey.out _).mono ?_;rintro e w1 ⟨rfl,hb1⟩;have hR1:w1.heap[w.heap.size]?=some (.cells zCmd 36 (0,0)):=(hb1.block _ (by simp)).trans (blkNew w _);have hB1:Below w.heap.size w w1:=((Below.refl _ _).alloc (Nat.le_refl _) _).trans (hb1.mono (by simp));have hz1:=blkLt hR1;have H1:=hide' (And.intro hR1 hB1);have y0:=blkCell hR1 0;have y1:=blkCell hR1 1;have y2:=blkCell hR1 2;have y3:=blkCell hR1 3;have y4:=blkCell hR1 4;have y5:=blkCell hR1 5;have yf:=blkFree hR1;simp[zCmd]at y0 y1 y2 y3 y4 y5;clear hb1 hR1 hB1 HR0 HR1 HP3 HKey;obtain⟨hkey,hksz⟩:=hko;have hz2:¬w.heap.size=w1.heap.size:=by omega
 have hz3:¬w.heap.size=w1.heap.size+1:=by omega
 have HCA:Hid (∀(k:Int),CmdKp cl w ((w1.alloc (.cells #[.string key] 9)).alloc (.cells #[.int .i64 k,.slice (some ⟨w1.heap.size,0,none⟩) 1 1,.string ⟨#[]⟩,.string ⟨#[]⟩,.bool false,.int .i64 0] 36)) (w1.heap.size+1) k w1.heap.size 1 1 ⟨#[]⟩ [key]):=fun k=>by
  have hb:Below w1.heap.size w1 ((w1.alloc (.cells #[.string key] 9)).alloc (.cells #[.int .i64 k,.slice (some ⟨w1.heap.size,0,none⟩) 1 1,.string ⟨#[]⟩,.string ⟨#[]⟩,.bool false,.int .i64 0] 36)):=((Below.refl _ _).alloc (Nat.le_refl _) _).alloc (by simp) _;have hn:=blkNew (w1.alloc (.cells #[.string key] 9)) (.cells #[.int .i64 k,.slice (some ⟨w1.heap.size,0,none⟩) 1 1,.string ⟨#[]⟩,.string ⟨#[]⟩,.bool false,.int .i64 0] 36);rw[World.size_alloc]at hn;refine⟨(hb.block _ hz1).trans H1.out.1,hn,⟨rfl,.inr ⟨_,1,#[.string key],rfl,by omega,?_,Nat.le_refl _,by decide,rfl,rfl⟩⟩,rfl,Nat.le_refl _,fun s hs=>by simp at hs;rw[hs];exact hkey,by omega,H1.out.2.trans (hb.mono (by omega)),fun s hs=>by simp at hs;rw[hs];exact HKO.out⟩
  exact(Below.heap_alloc _ _ _ (by simp)).trans (blkNew w1 _)
 have hpc:p=0∨p=1∨p=2:=by omega
 rcases hpc with rfl|rfl|rfl
 ·
  clear y0 y1 y2 y3 y4 y5 yf
  have h4:=pickN_lt (rawN xs (at'+2)) 4 (by omega)
  have HP4:=hide' (fun W=>pick_big (rawN xs (at'+2)) 4 W (HWf.out _) (by omega) (by omega))
  generalize pickN (rawN xs (at'+2)) 4=q at*
  go_wp2_with fail
  generalize hW:(w1.alloc (.cells #[.string key] 9)).alloc (.cells #[.int .i64 1,.slice (some ⟨w1.heap.size,0,none⟩) 1 1,.string ⟨#[]⟩,.string ⟨#[]⟩,.bool false,.int .i64 0] 36)=W2
  have HA:=hide' (show CmdKp cl w W2 (w1.heap.size+1) 1 w1.heap.size 1 1 ⟨#[]⟩ [key]from hW▸HCA.out 1)
  clear hW HCA
  go_loopw [13] (fun i wr=>∃(j g cap:Nat) (ss:List ByteArray),i= .int .i64 j∧j≤q∧Hid (CmdKp cl w wr (w1.heap.size+1) 1 g (j+1) cap ⟨#[]⟩ ss∧(d=2→j=0))) (fun i _=>q-(intOf i).toNat)
  case atStart=>exact⟨0,w1.heap.size,1,[key],rfl,Nat.zero_le _,HA.out,fun _=>rfl⟩
  case round=>
   obtain⟨j,g,cap,ss,rfl,hj,HJ⟩:=hrel;have HR2':=hide' (HR2.out wr HJ.out.1.bel);have HP4':=hide' (HP4.out wr);have hcC:=blkCell HJ.out.1.hC 1;have hcf:=blkFree HJ.out.1.hC;have hCl:=blkLt HJ.out.1.hC;simp at hcC;by_cases hgo:j<q∧d≠2
   ·obtain⟨hlt,hd2⟩:=hgo;have hlt':(j:Int)<(q:Int):=by omega
    have hd':(d==2)=false:=by simpa using hd2
    have hd'':(d != 2)=true:=by simp only[bne,hd',Bool.not_false]
    have HRj:Hid (∀W,Below wr.heap.size wr W→Calls Tryz.prog 37 #[.slice a n c,.int .i64 ((at':Int)+3+(j:Int))] W fun e w'=>e= .returned (.int .i64 (rawN xs (at'+3+j)))∧w'=W):=fun W hW=>by
     have:=HRaw.out W (HJ.out.1.bel.trans (hW.mono HJ.out.1.bel.size)) (at'+3+j) (by omega);have e:((at'+3+j:Nat):Int)=(at':Int)+3+(j:Int):=by omega
     rw[e]at this;exact this
    have HKj:=hide' (fun W=>jkey_any cl (rawN xs (at'+3+j)) W (HWf.out _) hcl);have hkj:=keyS_ok cl hcl (pickN (rawN xs (at'+3+j)) 6) (pickN_lt _ 6 (by omega));have HKJ:=hide' (keyS_own cl (pickN (rawN xs (at'+3+j)) 6));generalize keyS cl (pickN (rawN xs (at'+3+j)) 6)=kj at*;generalize rawN xs (at'+3+j)=rj at*;obtain⟨i9,hi,hz0,hz1',hz2'⟩:=info9;have HI:=hide' (And.intro hi (And.intro hz0 (And.intro hz1' hz2')));clear hi hz0 hz1' hz2' hd2;go_wp2_with fail
    go_at_call 37;refine HR2'.out.mono ?_;rintro e w3 ⟨rfl,hw3⟩;subst hw3;go_wp2_with fail
    go_at_call 17;refine HP4'.out.mono ?_;rintro e w4 ⟨rfl,hw4⟩;subst hw4;go_wp2_with fail
    have hCg:w1.heap.size+1≠g:=fun e=>by
     obtain⟨_,h2|⟨g',cap',cur,e',_,hg,_⟩⟩:=HJ.out.1.own
     ·cases h2.1
     ·cases e';rw[←e,HJ.out.1.hC]at hg;cases hg
    have HOwn:Hid (∀W,Below w4.heap.size w4 W→W.ownsRow w.heap.size 9 1 (.slice (some ⟨g,0,none⟩) (j+1) cap) (j+1) (ss.map Value.string)):=fun W hW=>(HJ.out.1.below hW).own
    have wr1:IntKind.i64.wrap ((at':Int)+3)=(at':Int)+3:=wrap_small _ (by omega) (by omega);have wr2:IntKind.i64.wrap ((at':Int)+3+(j:Int))=(at':Int)+3+(j:Int):=wrap_small _ (by omega) (by omega);go_region_law (first
     |(go_simp;go_at_call 37;refine(HRj.out _ ?hx).mono ?_;(case hx=>repeat(first|with_reducible exact Below.refl _ _|with_reducible refine Below.drew ?_));rintro e w5 ⟨rfl,hw5⟩;subst hw5)
     |(go_simp;go_at_call 22;refine(HKj.out _).mono ?_;rintro e wk ⟨rfl,hbk⟩;have hcK:wk.cell? ⟨w1.heap.size+1,1,none⟩=some (.slice (some ⟨g,0,none⟩) (j+1) cap):=(hbk.cell (p:=⟨w1.heap.size+1,1,none⟩) hCl).trans hcC;have hfK:∀i,wk.frozen? ⟨w1.heap.size+1,i,none⟩=false:=fun i=>(hbk.frozen (p:=⟨w1.heap.size+1,i,none⟩) hCl).trans (hcf i);have HBK:=hide' (below_undrew hbk);have hzK:w1.heap.size+1<wk.heap.size:=(Nat.lt_of_lt_of_le hCl HBK.out.size);clear hbk)
     |(refine step_append_lies _ (by rfl) _ _ _ (by rfl) w.heap.size 9 i9 (.string ⟨#[]⟩) 1 16 Tryz.underlying34 HI.out.1 HI.out.2.1 HI.out.2.2.1 HI.out.2.2.2 (by rfl) (by omega) (.slice (some ⟨g,0,none⟩) (j+1) cap) (j+1) (ss.map Value.string) (by rfl) (HOwn.out _ ((HBK.out.alloc HBK.out.size _))) ⟨wk.heap.size,0,none⟩ 1 1 [Value.string kj] (by rfl) (by rfl) (World.news_of_block (cs:=#[.string kj]) (blkNew wk _)) (fun u hu=>by simp at hu;subst hu;rfl) (by omega) (by unfold maxLen;omega) (by omega) (by simp;omega) _ rfl ?_;intro g2 cap2 wa hown hgrow hat hlt3;have hcA:wa.cell? ⟨w1.heap.size+1,1,none⟩=some (.slice (some ⟨g,0,none⟩) (j+1) cap):=(hgrow.cell_far ⟨w1.heap.size+1,1,none⟩ (by simp;omega) (by simpa [Value.ownBlock]using hCg)).trans ((World.cell?_of_block (w:=wk) (Below.heap_alloc wk _ _ (by show w1.heap.size+1<wk.heap.size;omega))).trans hcK);have hfA:wa.frozen? ⟨w1.heap.size+1,1,none⟩=false:=(hgrow.frozen_far ⟨w1.heap.size+1,1,none⟩ (by simp;omega) (by simpa [Value.ownBlock]using hCg)).trans ((World.frozen?_of_block (w:=wk) (Below.heap_alloc wk _ _ (by show w1.heap.size+1<wk.heap.size;omega))).trans (hfK 1));have HG:=hide' (And.intro hown (And.intro hgrow hat));clear hown hgrow hat))
    all_goals go_wp2
    all_goals
     go_roundw
     case rel=>
      have hpush:=HJ.out.1.push (HBK.out.alloc HBK.out.size _) HG.out.2.1 HG.out.1 HG.out.2.2 hkj.1 HKJ.out;exact⟨j+1,g2,cap2,ss++[kj],by go_num,by omega,hpush,fun h=>absurd h (by intro e;rw[e]at hd';cases hd')⟩
     case measure=>simp[intOf];omega
   ·have hstop:¬(j<q∧d≠2):=hgo;have hc:=HJ.out.1.hC;have c0:=blkCell hc 0;have c2:=blkCell hc 2;have c3:=blkCell hc 3;have c4:=blkCell hc 4;have c5:=blkCell hc 5;simp at c0 c2 c3 c4 c5;have hr:=HJ.out.1.hR;have y0:=blkCell hr 0;have y1:=blkCell hr 1;have y2:=blkCell hr 2;have y3:=blkCell hr 3;have y4:=blkCell hr 4;have y5:=blkCell hr 5;have yf:=blkFree hr;simp[zCmd]at y0 y1 y2 y3 y4 y5;have hzz:=blkLt hr;clear hc hr hgo;have hfin:=hide' (HJ.out.1.fin (.int .i64 1) (.slice (some ⟨g,0,none⟩) (j+1) cap) (.string ⟨#[]⟩) (.string ⟨#[]⟩) (.bool false) (.int .i64 0));have HST:=hide' hstop;clear hstop;by_cases hlt:j<q
    ·have hlt':(j:Int)<(q:Int):=by omega
     have hd2:d=2:=Classical.byContradiction fun h=>HST.out ⟨hlt,h⟩
     subst hd2;go_wp2_with fail
     go_at_call 37;refine HR2'.out.mono ?_;rintro e w3 ⟨rfl,hw3⟩;subst hw3;go_wp2_with fail
     go_at_call 17;refine HP4'.out.mono ?_;rintro e w4 ⟨rfl,hw4⟩;subst hw4;go_wp2;refine bodyPost_ret (v:=cmdV6 1 (.slice (some ⟨g,0,none⟩) (j+1) cap) ⟨#[]⟩ ⟨#[]⟩ false 0) (by simp[results,Tryz.results45,go_sem,cmdV6,y0,y1,y2,y3,y4,y5]) rfl ?_;exact⟨⟨1,_,_,_,⟨#[]⟩,ss,rfl,hfin.out.1,cmdB_keys rfl (by rw[HJ.out.1.len];omega) (by rw[HJ.out.1.len];omega) HJ.out.1.keys,fun h=>(by have:=HJ.out.2 (by first|exact h|trivial);rw[HJ.out.1.len];omega),HJ.out.1.mine⟩,hfin.out.2⟩
    ·have hlt':¬(j:Int)<(q:Int):=by omega
     go_wp2_with fail
     go_at_call 37;refine HR2'.out.mono ?_;rintro e w3 ⟨rfl,hw3⟩;subst hw3;go_wp2_with fail
     go_at_call 17;refine HP4'.out.mono ?_;rintro e w4 ⟨rfl,hw4⟩;subst hw4;go_wp2;refine bodyPost_ret (v:=cmdV6 1 (.slice (some ⟨g,0,none⟩) (j+1) cap) ⟨#[]⟩ ⟨#[]⟩ false 0) (by simp[results,Tryz.results45,go_sem,cmdV6,y0,y1,y2,y3,y4,y5]) rfl ?_;exact⟨⟨1,_,_,_,⟨#[]⟩,ss,rfl,hfin.out.1,cmdB_keys rfl (by rw[HJ.out.1.len];omega) (by rw[HJ.out.1.len];omega) HJ.out.1.keys,fun h=>(by have:=HJ.out.2 (by first|exact h|trivial);rw[HJ.out.1.len];omega),HJ.out.1.mine⟩,hfin.out.2⟩
 ·
  clear y0 y1 y2 y3 y4 y5 yf
  have h41:=pickN_lt (rawN xs (at'+2)) 41 (by omega)
  have HP41:=hide' (fun W=>pick_big (rawN xs (at'+2)) 41 W (HWf.out _) (by omega) (by omega))
  generalize pickN (rawN xs (at'+2)) 41=q at*
  go_wp2_with fail
  go_at_call 37
  refine(HR2.out _ (HCA.out 2).bel).mono ?_
  rintro e w3 ⟨rfl,hw3⟩
  subst hw3
  go_wp2_with fail
  go_at_call 17
  refine(HP41.out _).mono ?_
  rintro e w3 ⟨rfl,hw3⟩
  subst hw3
  go_wp2_with fail
  generalize hW:(w1.alloc (.cells #[.string key] 9)).alloc (.cells #[.int .i64 2,.slice (some ⟨w1.heap.size,0,none⟩) 1 1,.string ⟨#[]⟩,.string ⟨#[]⟩,.bool false,.int .i64 0] 36)=W2
  have HA:=hide' (show CmdKp cl w W2 (w1.heap.size+1) 2 w1.heap.size 1 1 ⟨#[]⟩ [key]from hW▸HCA.out 2)
  clear hW HCA HR2 HP41
  go_loopw [11,12] (fun v i wr=>∃(j:Nat) (val:ByteArray),j≤q∧i= .int .i64 j∧v= .string val∧val.size=j∧Hid (Below W2.heap.size W2 wr)) (fun _ i _=>q-(intOf i).toNat)
  case atStart=>exact⟨0,⟨#[]⟩,Nat.zero_le _,rfl,rfl,rfl,Below.refl _ _⟩
  case round=>
   obtain⟨j,val,hj,rfl,rfl,hvs,HJ⟩:=hrel;by_cases hlt:j<q
   ·have hlt':(j:Int)<(q:Int):=by omega
    have HVS:=hide' hvs;clear hvs;have HRj:Hid (Calls Tryz.prog 37 #[.slice a n c,.int .i64 ((at':Int)+3+(j:Int) % 4)] wr fun e w'=>e= .returned (.int .i64 (rawN xs (at'+3+j % 4)))∧w'=wr):=by
     have:=HRaw.out wr (HA.out.bel.trans (HJ.out.mono HA.out.bel.size)) (at'+3+j % 4) (by omega);have e:((at'+3+j % 4:Nat):Int)=(at':Int)+3+(j:Int) % 4:=by omega
     rw[e]at this;exact this
    generalize rawN xs (at'+3+j % 4)=rv at*;have hcv:=conv1 wr;have hv40:¬9223372036854775807<val.size+1:=by have:=HVS.out;omega
    go_wp2_with fail
    go_at_call 37;refine HRj.out.mono ?_;rintro e w3 ⟨rfl,hw3⟩;subst hw3;go_wp2_with fail
    go_roundw;case rel=>
     refine⟨j+1,_,by omega,by go_num,rfl,?_,HJ.out.trans ?_⟩
     ·rw[ByteArray.size_append,HVS.out];rfl
     ·exact(Below.refl _ _).alloc HJ.out.size _
    case measure=>simp[intOf];omega
   ·have hlt':¬(j:Int)<(q:Int):=by omega
    have HA2:=hide' ((HA.out.below HJ.out));have hc:=HA2.out.hC;have c0:=blkCell hc 0;have c1:=blkCell hc 1;have c2:=blkCell hc 2;have c3:=blkCell hc 3;have c4:=blkCell hc 4;have c5:=blkCell hc 5;have cf:=blkFree hc;simp at c0 c1 c2 c3 c4 c5;have hr:=HA2.out.hR;have y0:=blkCell hr 0;have y1:=blkCell hr 1;have y2:=blkCell hr 2;have y3:=blkCell hr 3;have y4:=blkCell hr 4;have y5:=blkCell hr 5;have yf:=blkFree hr;simp[zCmd]at y0 y1 y2 y3 y4 y5;have hzz:=blkLt hr;have hzc:=blkLt hc;have hv40:val.size≤40:=by omega
    clear hc hr hvs;go_wp2;have hfin:=(HA2.out.setVal val).fin (.int .i64 2) (.slice (some ⟨w1.heap.size,0,none⟩) 1 1) (.string val) (.string ⟨#[]⟩) (.bool false) (.int .i64 0);refine bodyPost_ret (v:=cmdV6 2 (.slice (some ⟨w1.heap.size,0,none⟩) 1 1) val ⟨#[]⟩ false 0) (by simp[results,Tryz.results45,go_sem,cmdV6,y0,y1,y2,y3,y4,y5]) rfl ?_;exact⟨⟨2,_,_,_,val,[key],rfl,hfin.1,cmdB_set hkey hv40,fun _=>rfl,fun s hs=>(by simp at hs;rw[hs];exact HKO.out)⟩,hfin.2⟩
 ·
  have hz1a:w.heap.size<w1.heap.size+1:=by omega
  go_wp2
  refine bodyPost_ret (v:=cmdV6 3 (.slice (some ⟨w1.heap.size,0,none⟩) 1 1) ⟨#[]⟩ ⟨#[]⟩ false 0) (by simp[results,Tryz.results45,go_sem,cmdV6,y0,y1,y2,y3,y4,y5,hz1,hz1a]) rfl ?_
  refine⟨⟨3,_,_,_,⟨#[]⟩,[key],rfl,.inr ⟨w1.heap.size,1,rfl,by omega,texts1 ?_⟩,cmdB_del hkey,fun _=>rfl,fun s hs=>(by simp at hs;rw[hs];exact HKO.out)⟩,?_⟩
  ·repeat(first|with_reducible refine hs_set ?_ (by simp;try omega)|with_reducible refine hs_drewN ?_ _|with_reducible refine hs_drew ?_|with_reducible exact hs_new (by simp)|with_reducible refine hs_alloc ?_ _)
  ·repeat(first|with_reducible exact H1.out.2|with_reducible exact Below.refl _ _|with_reducible refine Below.alloc ?_ (by simp;try omega) _|with_reducible refine Below.setCell ?_ (by simp;try omega) _)
end Go.Proofs.YtlonjggfnleolaaGreatDoor
