import Derived.Test.YtlonjggfnleolaaGreatDoorSpec
namespace Go.Proofs.YtlonjggfnleolaaGreatDoor
open Go.RowKit
set_option linter.unusedVariables false
set_option maxHeartbeats 4000000
set_option maxRecDepth 20000
variable {W:World}{b:Nat}{x:Obj}
def KeysIn (w:World)(lo:Nat)(v:Value)(ss:List ByteArray):Prop:=
 (v= .slice none 0 0∧ss=[])∨∃b c,v= .slice (some ⟨b,0,none⟩) ss.length c∧lo≤b∧TextsAt w b c ss
def StepOut (w w':World)(r:Option StepR)(e:Ending):Prop:=
 match r with
 |none=>e= .returned zStepV
 |some s=>∃kv,e= .returned (stepV s.c.kind kv s.c.val s.c.word s.c.fatal s.c.id s.used s.skip)∧KeysIn w' w.heap.size kv s.c.keys
theorem texts1 {T:Nat}{s:ByteArray}(h:W.heap[T]?=some (.cells #[.string s] 9 (0,0))):TextsAt W T 1 [s]:=
 ⟨#[.string s],h,rfl,by simp,fun i x hx=>by
  match i,hx with
  |0,hx=>simp at hx;subst hx;rfl⟩
theorem hs_set {p:Addr}{v:Value}(h:W.heap[b]?=some x)(hp:b≠p.block):(W.setCell p v).heap[b]?=some x:=(Below.heap_setCell W p v b hp).trans h
theorem hs_alloc (h:W.heap[b]?=some x)(o:Obj):(W.alloc o).heap[b]?=some x:=(Below.heap_alloc W o b (blkLt h)).trans h
theorem hs_drewN (h:W.heap[b]?=some x)(n:Nat):(W.drewN n).heap[b]?=some x:=h
theorem hs_drew (h:W.heap[b]?=some x):W.drew.heap[b]?=some x:=h
theorem hs_new (h:b=W.heap.size):(W.alloc x).heap[b]?=some x:=by rw[h];exact blkNew W x
theorem frRead_right1 (bs:List UInt8)(w:World)(g o n c ke en:Nat)(hB:BytesIn w g o n c bs)(nck:¬c=ke)(hke:ke=7+byAt bs 2)(hen:en=ke+numAt bs 3)(h7:7≤n)(hh:frHead bs=true)(hend:en≤n)(hkey:keyB (bytesOf bs 7 (byAt bs 2))=true):Calls Tryz.prog 244 #[.agg #[],.slice (some ⟨g,o,none⟩) n c] w fun e w'=>(∃b,e= .returned (stepV (byAt bs 1) (.slice (some ⟨b,0,none⟩) 1 1) (bytesOf bs ke (numAt bs 3)) ⟨#[]⟩ false (numAt bs 5) en false)∧w.heap.size≤b∧w'.heap[b]?=some (.cells #[.string (bytesOf bs 7 (byAt bs 2))] 9 (0,0)))∧Below w.heap.size w w':=by
 have h7':¬(n:Int)<7:=by omega
 have HB2:=hide' (show∀x y,Below w.heap.size w ((w.alloc x).alloc y)from fun x y=>((Below.refl _ _).alloc (Nat.le_refl _) _).alloc (by simp) _);have HH:=hide' (fun W (h:Below w.heap.size w W)=>headMayBe_any g o n c bs W (hB.later h) h7);rw[hh]at HH;obtain⟨p2a,p2b,pN⟩:=frHead_parts hh;have hlt:=hB.lt;have hlt1:g<w.heap.size+1:=by omega
 have hlt2:g<w.heap.size+1+1:=by omega
 have hcap:=hB.cap;have c2:=hB.by_ 2 (by omega);have c1:=hB.by_ 1 (by omega);have hsm:=hB.small;have HN:Hid (∀W:World,Below w.heap.size w W→∀c',2≤c'→Calls Tryz.prog 163 #[.slice (some ⟨g,o+3,none⟩) 2 c'] W fun e w'=>e= .returned (.int .i64 (numAt bs 3))∧∃q,w'=W.drewN q):=fun W hW c' hc'=>
  num2_any g (o+3) c' _ _ W (byAt_lt bs 3) (byAt_lt bs 4) hc' (hB.later hW).lt ((hB.later hW).by_ 3 (by omega)) ((hB.later hW).by_ 4 (by omega))
 have HM:Hid (∀W:World,Below w.heap.size w W→∀c',2≤c'→Calls Tryz.prog 163 #[.slice (some ⟨g,o+5,none⟩) 2 c'] W fun e w'=>e= .returned (.int .i64 (numAt bs 5))∧∃q,w'=W.drewN q):=fun W hW c' hc'=>
  num2_any g (o+5) c' _ _ W (byAt_lt bs 5) (byAt_lt bs 6) hc' (hB.later hW).lt ((hB.later hW).by_ 5 (by omega)) ((hB.later hW).by_ 6 (by omega))
 have HCV:Hid (∀W,Below w.heap.size w W→∀cc,(convert 80 9 (.slice (some ⟨g,o+7,none⟩) (byAt bs 2) cc)).run Tryz.prog W= .ok (.string (bytesOf bs 7 (byAt bs 2))) W):=fun W hW cc=>conv_by W g o n c 7 (byAt bs 2) cc bs (hB.later hW) (by omega)
 have HCW:Hid (∀W,Below w.heap.size w W→∀cc,(convert 80 9 (.slice (some ⟨g,o+ke,none⟩) (en-ke) cc)).run Tryz.prog W= .ok (.string (bytesOf bs ke (numAt bs 3))) W):=fun W hW cc=>by
  rw[show en-ke=numAt bs 3 by omega];exact conv_by W g o n c ke (numAt bs 3) cc bs (hB.later hW) (by omega)
 have hks:(bytesOf bs 7 (byAt bs 2)).size≤maxLen:=by
  show((bs.drop 7).take (byAt bs 2)).toArray.size≤maxLen;unfold maxLen;simp;omega
 have HK:=hide' (fun W=>key_any (bytesOf bs 7 (byAt bs 2)) W hks);clear hks;rw[hkey]at HK;clear hB hh hkey;have hx1:=byAt_lt bs 1;have k1:ke≤en:=by omega
 have k2:en≤c:=by omega
 have k3:7≤c:=by omega
 have k4:1<n:=by omega
 have HZ:=hide' (And.intro hke hen);have he:¬(n:Int)<7+(byAt bs 2:Int)+(numAt bs 3:Int):=by omega
 have hk1:7+byAt bs 2≤c:=by omega
 have n2:2<n:=by omega
 have n5:5≤c:=by omega
 have nc:¬c=3:=by omega
 have nc7:¬c=7:=by omega
 have nc5:¬c=5:=by omega
 have i1:(0:Int)≤(ke:Int):=by omega
 have i2:(ke:Int)≤(en:Int):=by omega
 have i3:(en:Int)≤(c:Int):=by omega
 have i4:(7:Int)≤(c:Int):=by omega
 have i5:(1:Int)<(n:Int):=by omega
 clear hke hen;generalize bytesOf bs 7 (byAt bs 2)=key at*;generalize bytesOf bs ke (numAt bs 3)=val at*;generalize byAt bs 2=x2 at*;generalize byAt bs 1=x1 at*;generalize numAt bs 3=N at*;generalize numAt bs 5=I at*;have w2:IntKind.i64.wrap (x2:Int)=x2:=wrap_small _ (by omega) (by omega);have w1:IntKind.i64.wrap (x1:Int)=x1:=wrap_small _ (by omega) (by omega);go_enter Tryz.func244,Tryz.ntmps244;go_wp2_with fail
 go_at_call 246;refine(HH.out _ (HB2.out _ _)).mono ?_;rintro e w1 ⟨rfl,q,rfl⟩;go_wp2_with fail
 go_at_call 163;refine(HN.out _ (below_drewN (HB2.out _ _) q) _ (by omega)).mono ?_;rintro e w1 ⟨rfl,q2,rfl⟩;have hcv:=HCV.out (((w.alloc (.cells #[] 161)).alloc (.cells #[.int .i64 0,.slice none 0 0,.string ⟨#[]⟩,.string ⟨#[]⟩,.bool false,.int .i64 0,.int .i64 0,.bool false] 255)).drewN (q+q2)) (below_drewN (HB2.out _ _) _) (c-7);go_wp2_with fail
 go_at_call 50;refine(HK.out _).mono ?_;rintro e w1 ⟨rfl,hw1⟩;subst hw1;clear hcv;go_wp2_with fail
 clear HH HN HCV HK;have z1:(7:Int)+(x2:Int)=(ke:Int):=by have:=HZ.out;omega
 have z2:(ke:Int)+(N:Int)=(en:Int):=by have:=HZ.out;omega
 rw[z1,z2];clear z1 z2 he hk1 p2a p2b pN h7 h7' hend HZ;go_region_held3 (fun w'=>w'.cell? ⟨g,o+1,none⟩=some (.int .u8 x1)∧(convert 80 9 (.slice (some ⟨g,o+ke,none⟩) (en-ke) (c-ke))).run Tryz.prog w'= .ok (.string val) w')
  ((refine⟨?_,?_⟩;(first|(go_keep)|(go_simp));(exact HCW.out _ (by repeat(first|with_reducible exact Below.refl _ _|with_reducible refine Below.drew ?_|with_reducible refine below_drewN ?_ _|with_reducible refine Below.alloc ?_ (by simp;try omega) _|with_reducible refine Below.setCell ?_ (by simp;try omega) _)) _)))
  (first
   |(go_at_call 163;refine(HM.out _ ?hx _ ?hy).mono ?_;(case hx=>repeat(first|with_reducible exact Below.refl _ _|with_reducible refine Below.drew ?_|with_reducible refine below_drewN ?_ _|with_reducible refine Below.alloc ?_ (by simp;try omega) _|with_reducible refine Below.setCell ?_ (by simp;try omega) _));(case hy=>omega);rintro e w' ⟨rfl,q3,rfl⟩))
 all_goals go_wp2_with fail
 ·clear HM HB2 HCW;refine bodyPost_ret (v:=stepV x1 (.slice (some ⟨w.heap.size+1+1,0,none⟩) 1 1) val ⟨#[]⟩ false I en false) (by simp[results,Tryz.results244,go_sem,stepV]) rfl ⟨⟨_,rfl,by omega,?_⟩,?_⟩
  ·repeat(first|with_reducible refine hs_set ?_ (by simp;try omega)|with_reducible refine hs_drewN ?_ _|with_reducible refine hs_drew ?_|with_reducible exact hs_new (by simp)|with_reducible refine hs_alloc ?_ _)
  ·repeat(first|with_reducible exact Below.refl _ _|with_reducible refine Below.drew ?_|with_reducible refine below_drewN ?_ _|with_reducible refine Below.alloc ?_ (by simp;try omega) _|with_reducible refine Below.setCell ?_ (by simp;try omega) _)
 ·clear HM HB2 HCW;refine bodyPost_ret (v:=stepV x1 (.slice (some ⟨w.heap.size+1+1,0,none⟩) 1 1) val ⟨#[]⟩ false I en false) (by simp[results,Tryz.results244,go_sem,stepV]) rfl ⟨⟨_,rfl,by omega,?_⟩,?_⟩
  ·repeat(first|with_reducible refine hs_set ?_ (by simp;try omega)|with_reducible refine hs_drewN ?_ _|with_reducible refine hs_drew ?_|with_reducible exact hs_new (by simp)|with_reducible refine hs_alloc ?_ _)
  ·repeat(first|with_reducible exact Below.refl _ _|with_reducible refine Below.drew ?_|with_reducible refine below_drewN ?_ _|with_reducible refine Below.alloc ?_ (by simp;try omega) _|with_reducible refine Below.setCell ?_ (by simp;try omega) _)
 ·clear HM HB2 HCW;refine bodyPost_ret (v:=stepV x1 (.slice (some ⟨w.heap.size+1+1,0,none⟩) 1 1) val ⟨#[]⟩ false I en false) (by simp[results,Tryz.results244,go_sem,stepV]) rfl ⟨⟨_,rfl,by omega,?_⟩,?_⟩
  ·repeat(first|with_reducible refine hs_set ?_ (by simp;try omega)|with_reducible refine hs_drewN ?_ _|with_reducible refine hs_drew ?_|with_reducible exact hs_new (by simp)|with_reducible refine hs_alloc ?_ _)
  ·repeat(first|with_reducible exact Below.refl _ _|with_reducible refine Below.drew ?_|with_reducible refine below_drewN ?_ _|with_reducible refine Below.alloc ?_ (by simp;try omega) _|with_reducible refine Below.setCell ?_ (by simp;try omega) _)
 ·clear HM HB2 HCW;refine bodyPost_ret (v:=stepV x1 (.slice (some ⟨w.heap.size+1+1+1,0,none⟩) 1 1) val ⟨#[]⟩ false I en false) (by simp[results,Tryz.results244,go_sem,stepV]) rfl ⟨⟨_,rfl,by omega,?_⟩,?_⟩
  ·repeat(first|with_reducible refine hs_set ?_ (by simp;try omega)|with_reducible refine hs_drewN ?_ _|with_reducible refine hs_drew ?_|with_reducible exact hs_new (by simp)|with_reducible refine hs_alloc ?_ _)
  ·repeat(first|with_reducible exact Below.refl _ _|with_reducible refine Below.drew ?_|with_reducible refine below_drewN ?_ _|with_reducible refine Below.alloc ?_ (by simp;try omega) _|with_reducible refine Below.setCell ?_ (by simp;try omega) _)
 ·clear HM HB2 HCW;refine bodyPost_ret (v:=stepV x1 (.slice (some ⟨w.heap.size+1+1+1,0,none⟩) 1 1) val ⟨#[]⟩ false I en false) (by simp[results,Tryz.results244,go_sem,stepV]) rfl ⟨⟨_,rfl,by omega,?_⟩,?_⟩
  ·repeat(first|with_reducible refine hs_set ?_ (by simp;try omega)|with_reducible refine hs_drewN ?_ _|with_reducible refine hs_drew ?_|with_reducible exact hs_new (by simp)|with_reducible refine hs_alloc ?_ _)
  ·repeat(first|with_reducible exact Below.refl _ _|with_reducible refine Below.drew ?_|with_reducible refine below_drewN ?_ _|with_reducible refine Below.alloc ?_ (by simp;try omega) _|with_reducible refine Below.setCell ?_ (by simp;try omega) _)
 ·clear HM HB2 HCW;refine bodyPost_ret (v:=stepV x1 (.slice (some ⟨w.heap.size+1+1+1,0,none⟩) 1 1) val ⟨#[]⟩ false I en false) (by simp[results,Tryz.results244,go_sem,stepV]) rfl ⟨⟨_,rfl,by omega,?_⟩,?_⟩
  ·repeat(first|with_reducible refine hs_set ?_ (by simp;try omega)|with_reducible refine hs_drewN ?_ _|with_reducible refine hs_drew ?_|with_reducible exact hs_new (by simp)|with_reducible refine hs_alloc ?_ _)
  ·repeat(first|with_reducible exact Below.refl _ _|with_reducible refine Below.drew ?_|with_reducible refine below_drewN ?_ _|with_reducible refine Below.alloc ?_ (by simp;try omega) _|with_reducible refine Below.setCell ?_ (by simp;try omega) _)
theorem frRead_right2 (bs:List UInt8)(w:World)(g o ke:Nat)(hB:BytesIn w g o ke ke bs)(hke:ke=7+byAt bs 2)(hen:ke=ke+numAt bs 3)(h7:7≤ke)(hh:frHead bs=true)(hend:ke≤ke)(hkey:keyB (bytesOf bs 7 (byAt bs 2))=true):Calls Tryz.prog 244 #[.agg #[],.slice (some ⟨g,o,none⟩) ke ke] w fun e w'=>(∃b,e= .returned (stepV (byAt bs 1) (.slice (some ⟨b,0,none⟩) 1 1) (bytesOf bs ke (numAt bs 3)) ⟨#[]⟩ false (numAt bs 5) ke false)∧w.heap.size≤b∧w'.heap[b]?=some (.cells #[.string (bytesOf bs 7 (byAt bs 2))] 9 (0,0)))∧Below w.heap.size w w':=by
 have h7':¬(ke:Int)<7:=by omega
 have HB2:=hide' (show∀x y,Below w.heap.size w ((w.alloc x).alloc y)from fun x y=>((Below.refl _ _).alloc (Nat.le_refl _) _).alloc (by simp) _);have HH:=hide' (fun W (h:Below w.heap.size w W)=>headMayBe_any g o ke ke bs W (hB.later h) h7);rw[hh]at HH;obtain⟨p2a,p2b,pN⟩:=frHead_parts hh;have hlt:=hB.lt;have hlt1:g<w.heap.size+1:=by omega
 have hlt2:g<w.heap.size+1+1:=by omega
 have hcap:=hB.cap;have c2:=hB.by_ 2 (by omega);have c1:=hB.by_ 1 (by omega);have hsm:=hB.small;have HN:Hid (∀W:World,Below w.heap.size w W→∀c',2≤c'→Calls Tryz.prog 163 #[.slice (some ⟨g,o+3,none⟩) 2 c'] W fun e w'=>e= .returned (.int .i64 (numAt bs 3))∧∃q,w'=W.drewN q):=fun W hW c' hc'=>
  num2_any g (o+3) c' _ _ W (byAt_lt bs 3) (byAt_lt bs 4) hc' (hB.later hW).lt ((hB.later hW).by_ 3 (by omega)) ((hB.later hW).by_ 4 (by omega))
 have HM:Hid (∀W:World,Below w.heap.size w W→∀c',2≤c'→Calls Tryz.prog 163 #[.slice (some ⟨g,o+5,none⟩) 2 c'] W fun e w'=>e= .returned (.int .i64 (numAt bs 5))∧∃q,w'=W.drewN q):=fun W hW c' hc'=>
  num2_any g (o+5) c' _ _ W (byAt_lt bs 5) (byAt_lt bs 6) hc' (hB.later hW).lt ((hB.later hW).by_ 5 (by omega)) ((hB.later hW).by_ 6 (by omega))
 have HCV:Hid (∀W,Below w.heap.size w W→∀cc,(convert 80 9 (.slice (some ⟨g,o+7,none⟩) (byAt bs 2) cc)).run Tryz.prog W= .ok (.string (bytesOf bs 7 (byAt bs 2))) W):=fun W hW cc=>conv_by W g o ke ke 7 (byAt bs 2) cc bs (hB.later hW) (by omega)
 have HCW:Hid (∀W,Below w.heap.size w W→(convert 80 9 (.slice (some ⟨g,o,none⟩) 0 0)).run Tryz.prog W= .ok (.string (bytesOf bs ke (numAt bs 3))) W):=fun W _=>by
  have h0:numAt bs 3=0:=by omega
  rw[run_convert_bytes_arg (P:=Tryz.prog) W 80 5 Tryz.underlying80 Tryz.underlying5 g o 0 _ [] rfl (fun i hi=>by omega) 9 Tryz.underlying9,h0];simp[bytesOf,strOfNums]
 have hks:(bytesOf bs 7 (byAt bs 2)).size≤maxLen:=by
  show((bs.drop 7).take (byAt bs 2)).toArray.size≤maxLen;unfold maxLen;simp;omega
 have HK:=hide' (fun W=>key_any (bytesOf bs 7 (byAt bs 2)) W hks);clear hks;rw[hkey]at HK;clear hB hh hkey;have hx1:=byAt_lt bs 1;have k1:ke≤ke:=by omega
 have k2:ke≤ke:=by omega
 have k3:7≤ke:=by omega
 have k4:1<ke:=by omega
 have HZ:=hide' (And.intro hke hen);have he:¬(ke:Int)<7+(byAt bs 2:Int)+(numAt bs 3:Int):=by omega
 have hk1:7+byAt bs 2≤ke:=by omega
 have n2:2<ke:=by omega
 have n5:5≤ke:=by omega
 have nc:¬ke=3:=by omega
 have nc7:¬ke=7:=by omega
 have nc5:¬ke=5:=by omega
 have i1:(0:Int)≤(ke:Int):=by omega
 have i2:(ke:Int)≤(ke:Int):=by omega
 have i3:(ke:Int)≤(ke:Int):=by omega
 have i4:(7:Int)≤(ke:Int):=by omega
 have i5:(1:Int)<(ke:Int):=by omega
 clear hke hen;generalize bytesOf bs 7 (byAt bs 2)=key at*;generalize bytesOf bs ke (numAt bs 3)=val at*;generalize byAt bs 2=x2 at*;generalize byAt bs 1=x1 at*;generalize numAt bs 3=N at*;generalize numAt bs 5=I at*;have w2:IntKind.i64.wrap (x2:Int)=x2:=wrap_small _ (by omega) (by omega);have w1:IntKind.i64.wrap (x1:Int)=x1:=wrap_small _ (by omega) (by omega);go_enter Tryz.func244,Tryz.ntmps244;go_wp2_with fail
 go_at_call 246;refine(HH.out _ (HB2.out _ _)).mono ?_;rintro e w1 ⟨rfl,q,rfl⟩;go_wp2_with fail
 go_at_call 163;refine(HN.out _ (below_drewN (HB2.out _ _) q) _ (by omega)).mono ?_;rintro e w1 ⟨rfl,q2,rfl⟩;have hcv:=HCV.out (((w.alloc (.cells #[] 161)).alloc (.cells #[.int .i64 0,.slice none 0 0,.string ⟨#[]⟩,.string ⟨#[]⟩,.bool false,.int .i64 0,.int .i64 0,.bool false] 255)).drewN (q+q2)) (below_drewN (HB2.out _ _) _) (ke-7);go_wp2_with fail
 go_at_call 50;refine(HK.out _).mono ?_;rintro e w1 ⟨rfl,hw1⟩;subst hw1;clear hcv;go_wp2_with fail
 clear HH HN HCV HK;have z1:(7:Int)+(x2:Int)=(ke:Int):=by have:=HZ.out;omega
 have z2:(ke:Int)+(N:Int)=(ke:Int):=by have:=HZ.out;omega
 rw[z1,z2];clear z1 z2 he hk1 p2a p2b pN h7 h7' hend HZ;go_region_held3 (fun w'=>w'.cell? ⟨g,o+1,none⟩=some (.int .u8 x1)∧(convert 80 9 (.slice (some ⟨g,o,none⟩) 0 0)).run Tryz.prog w'= .ok (.string val) w')
  ((refine⟨?_,?_⟩;(first|(go_keep)|(go_simp));(exact HCW.out _ (by repeat(first|with_reducible exact Below.refl _ _|with_reducible refine Below.drew ?_|with_reducible refine below_drewN ?_ _|with_reducible refine Below.alloc ?_ (by simp;try omega) _|with_reducible refine Below.setCell ?_ (by simp;try omega) _)))))
  (first
   |(go_at_call 163;refine(HM.out _ ?hx _ ?hy).mono ?_;(case hx=>repeat(first|with_reducible exact Below.refl _ _|with_reducible refine Below.drew ?_|with_reducible refine below_drewN ?_ _|with_reducible refine Below.alloc ?_ (by simp;try omega) _|with_reducible refine Below.setCell ?_ (by simp;try omega) _));(case hy=>omega);rintro e w' ⟨rfl,q3,rfl⟩))
 all_goals go_wp2_with fail
 ·clear HM HB2 HCW;refine bodyPost_ret (v:=stepV x1 (.slice (some ⟨w.heap.size+1+1,0,none⟩) 1 1) val ⟨#[]⟩ false I ke false) (by simp[results,Tryz.results244,go_sem,stepV]) rfl ⟨⟨_,rfl,by omega,?_⟩,?_⟩
  ·repeat(first|with_reducible refine hs_set ?_ (by simp;try omega)|with_reducible refine hs_drewN ?_ _|with_reducible refine hs_drew ?_|with_reducible exact hs_new (by simp)|with_reducible refine hs_alloc ?_ _)
  ·repeat(first|with_reducible exact Below.refl _ _|with_reducible refine Below.drew ?_|with_reducible refine below_drewN ?_ _|with_reducible refine Below.alloc ?_ (by simp;try omega) _|with_reducible refine Below.setCell ?_ (by simp;try omega) _)
 ·clear HM HB2 HCW;refine bodyPost_ret (v:=stepV x1 (.slice (some ⟨w.heap.size+1+1,0,none⟩) 1 1) val ⟨#[]⟩ false I ke false) (by simp[results,Tryz.results244,go_sem,stepV]) rfl ⟨⟨_,rfl,by omega,?_⟩,?_⟩
  ·repeat(first|with_reducible refine hs_set ?_ (by simp;try omega)|with_reducible refine hs_drewN ?_ _|with_reducible refine hs_drew ?_|with_reducible exact hs_new (by simp)|with_reducible refine hs_alloc ?_ _)
  ·repeat(first|with_reducible exact Below.refl _ _|with_reducible refine Below.drew ?_|with_reducible refine below_drewN ?_ _|with_reducible refine Below.alloc ?_ (by simp;try omega) _|with_reducible refine Below.setCell ?_ (by simp;try omega) _)
 ·clear HM HB2 HCW;refine bodyPost_ret (v:=stepV x1 (.slice (some ⟨w.heap.size+1+1,0,none⟩) 1 1) val ⟨#[]⟩ false I ke false) (by simp[results,Tryz.results244,go_sem,stepV]) rfl ⟨⟨_,rfl,by omega,?_⟩,?_⟩
  ·repeat(first|with_reducible refine hs_set ?_ (by simp;try omega)|with_reducible refine hs_drewN ?_ _|with_reducible refine hs_drew ?_|with_reducible exact hs_new (by simp)|with_reducible refine hs_alloc ?_ _)
  ·repeat(first|with_reducible exact Below.refl _ _|with_reducible refine Below.drew ?_|with_reducible refine below_drewN ?_ _|with_reducible refine Below.alloc ?_ (by simp;try omega) _|with_reducible refine Below.setCell ?_ (by simp;try omega) _)
 ·clear HM HB2 HCW;refine bodyPost_ret (v:=stepV x1 (.slice (some ⟨w.heap.size+1+1+1,0,none⟩) 1 1) val ⟨#[]⟩ false I ke false) (by simp[results,Tryz.results244,go_sem,stepV]) rfl ⟨⟨_,rfl,by omega,?_⟩,?_⟩
  ·repeat(first|with_reducible refine hs_set ?_ (by simp;try omega)|with_reducible refine hs_drewN ?_ _|with_reducible refine hs_drew ?_|with_reducible exact hs_new (by simp)|with_reducible refine hs_alloc ?_ _)
  ·repeat(first|with_reducible exact Below.refl _ _|with_reducible refine Below.drew ?_|with_reducible refine below_drewN ?_ _|with_reducible refine Below.alloc ?_ (by simp;try omega) _|with_reducible refine Below.setCell ?_ (by simp;try omega) _)
 ·clear HM HB2 HCW;refine bodyPost_ret (v:=stepV x1 (.slice (some ⟨w.heap.size+1+1+1,0,none⟩) 1 1) val ⟨#[]⟩ false I ke false) (by simp[results,Tryz.results244,go_sem,stepV]) rfl ⟨⟨_,rfl,by omega,?_⟩,?_⟩
  ·repeat(first|with_reducible refine hs_set ?_ (by simp;try omega)|with_reducible refine hs_drewN ?_ _|with_reducible refine hs_drew ?_|with_reducible exact hs_new (by simp)|with_reducible refine hs_alloc ?_ _)
  ·repeat(first|with_reducible exact Below.refl _ _|with_reducible refine Below.drew ?_|with_reducible refine below_drewN ?_ _|with_reducible refine Below.alloc ?_ (by simp;try omega) _|with_reducible refine Below.setCell ?_ (by simp;try omega) _)
 ·clear HM HB2 HCW;refine bodyPost_ret (v:=stepV x1 (.slice (some ⟨w.heap.size+1+1+1,0,none⟩) 1 1) val ⟨#[]⟩ false I ke false) (by simp[results,Tryz.results244,go_sem,stepV]) rfl ⟨⟨_,rfl,by omega,?_⟩,?_⟩
  ·repeat(first|with_reducible refine hs_set ?_ (by simp;try omega)|with_reducible refine hs_drewN ?_ _|with_reducible refine hs_drew ?_|with_reducible exact hs_new (by simp)|with_reducible refine hs_alloc ?_ _)
  ·repeat(first|with_reducible exact Below.refl _ _|with_reducible refine Below.drew ?_|with_reducible refine below_drewN ?_ _|with_reducible refine Below.alloc ?_ (by simp;try omega) _|with_reducible refine Below.setCell ?_ (by simp;try omega) _)
theorem frRead_any (g o n c:Nat)(bs:List UInt8)(w:World)(hB:BytesIn w g o n c bs):Calls Tryz.prog 244 #[.agg #[],.slice (some ⟨g,o,none⟩) n c] w fun e w'=>StepOut w w' (frR bs) e∧Below w.heap.size w w':=by
 have hl:=hB.len;unfold frR;by_cases h7:bs.length<7
 ·rw[if_pos h7];exact frRead_short g o n c _ w (by omega)
 rw[if_neg h7];cases hh:frHead bs with
 |false=>
  rw[if_pos rfl];refine(frRead_bad g o n c bs w hB (by omega) hh).mono ?_;rintro e w' ⟨he,hb⟩;exact⟨⟨_,he,.inl ⟨rfl,rfl⟩⟩,hb⟩
 |true=>
  rw[if_neg (by simp)];by_cases he:bs.length<7+byAt bs 2+numAt bs 3
  ·rw[if_pos he];exact frRead_wait g o n c bs w hB (by omega) hh (by omega)
  ·rw[if_neg he];cases hk:keyB (bytesOf bs 7 (byAt bs 2))with
   |false=>
    rw[if_pos rfl];refine(frRead_badkey g o n c bs w hB (by omega) hh (by omega) hk).mono ?_;rintro e w' ⟨he,hb⟩;refine⟨⟨_,he.trans ?_,.inl ⟨rfl,rfl⟩⟩,hb⟩;simp[wrongC,noB,formB]
   |true=>
    rw[if_neg (by simp)];have fin:∀e w',(∃b,e= .returned (stepV (byAt bs 1) (.slice (some ⟨b,0,none⟩) 1 1) (bytesOf bs (7+byAt bs 2) (numAt bs 3)) ⟨#[]⟩ false (numAt bs 5) (7+byAt bs 2+numAt bs 3:Nat) false)∧w.heap.size≤b∧w'.heap[b]?=some (.cells #[.string (bytesOf bs 7 (byAt bs 2))] 9 (0,0)))∧Below w.heap.size w w'→
     StepOut w w' (some ⟨⟨byAt bs 1,[bytesOf bs 7 (byAt bs 2)],bytesOf bs (7+byAt bs 2) (numAt bs 3),noB,false,numAt bs 5⟩,7+byAt bs 2+numAt bs 3,false⟩) e∧Below w.heap.size w w':=by
     rintro e w' ⟨⟨b,he,hb,hw⟩,hB'⟩
     exact⟨⟨_,he,.inr ⟨b,1,rfl,hb,texts1 hw⟩⟩,hB'⟩
    by_cases hc:c=7+byAt bs 2
    ·have hcap:=hB.cap;have hn:n=7+byAt bs 2:=by omega
     have hN:numAt bs 3=0:=by omega
     subst hc;subst hn;refine(frRead_right2 bs w g o (7+byAt bs 2) hB rfl (by omega) (by omega) hh (by omega) hk).mono ?_;intro e w' h;apply fin;have e2:7+byAt bs 2+numAt bs 3=7+byAt bs 2:=by omega
     rw[e2];exact h
    ·exact(frRead_right1 bs w g o n c (7+byAt bs 2) (7+byAt bs 2+numAt bs 3) hB hc rfl rfl (by omega) hh (by omega) hk).mono fin
end Go.Proofs.YtlonjggfnleolaaGreatDoor
