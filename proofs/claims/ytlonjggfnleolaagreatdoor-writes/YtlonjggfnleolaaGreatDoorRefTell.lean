/-
  The reference: Tell, upon what lines, frames, lists answer.
-/
import Derived.Test.YtlonjggfnleolaaGreatDoorLsRef
import Derived.Test.YtlonjggfnleolaaGreatDoorFrTell
namespace Go.Proofs.YtlonjggfnleolaaGreatDoor
open Go.RowKit
set_option linter.unusedVariables false

set_option maxRecDepth 20000 in
set_option maxHeartbeats 2000000 in
theorem refTell_bada (d : Int) (ck : Int) (a : Option Addr) (n c : Nat) (ss : List ByteArray) (val cw : ByteArray) (ft : Bool) (cid : Int) (ak : Int) (fa va : Option Addr) (fn fc vn vc : Nat) (bs : List Bool) (vs : List ByteArray) (wd : ByteArray) (id : Int) (w : World) (hs : StrsIn w a n c ss) (hval : val.size ≤ maxLen) (hf : BoolsIn w fa fn fc bs) (hv : StrsIn w va vn vc vs) (hw : wd.size ≤ maxLen) (ha : answerB ck ss val ak bs vs wd = false) :
    Calls Tryz.prog 104 #[.int .i64 d, cmdV6 ck (.slice a n c) val cw ft cid, ansV ak (.slice fa fn fc) (.slice va vn vc) wd, .int .i64 id] w fun e w' => e = .returned (.tuple #[.string ⟨#[]⟩, .int .i64 1]) ∧ Below w.heap.size w w' := by
  have HB2 := hide' (show ∀ x y, Below w.heap.size w ((w.alloc x).alloc y) from fun x y => ((Below.refl _ _).alloc (Nat.le_refl _) _).alloc (by simp) _)
  have HC : Hid (∀ x y, Calls Tryz.prog 144 #[cmdV6 ck (.slice a n c) val cw ft cid, ansV ak (.slice fa fn fc) (.slice va vn vc) wd] ((w.alloc x).alloc y) fun e w' => e = .returned (.bool (answerB ck ss val ak bs vs wd)) ∧ Below ((w.alloc x).alloc y).heap.size ((w.alloc x).alloc y) w') := fun x y => refanswer_any ck a n c ss val cw ft cid ak fa va fn fc vn vc bs vs wd _ (hs.later (HB2.out x y)) hval (hf.later (HB2.out x y)) (hv.later (HB2.out x y)) hw
  have HS : Hid (∀ W, Calls Tryz.prog 140 #[.int .i64 d, cmdV6 ck (.slice a n c) val cw ft cid, .int .i64 id] W fun e w' => e = .returned (.bool (sayB d ck n id)) ∧ Below W.heap.size W w') := fun W => sayable_any d ck a n c val cw ft cid id W
  rw [ha] at HC
  generalize sayB d ck n id = S at *
  clear hs hval hf hv hw ha
  unfold cmdV6 ansV at *
  go_enter Tryz.func104, Tryz.ntmps104
  go_wp2_with fail
  go_at_call 144
  refine (HC.out _ _).mono ?_
  rintro e w1 ⟨rfl, hb1⟩
  obtain ⟨hc1, hf1⟩ := bcell hb1
  have hz1 : w.heap.size + 1 < w1.heap.size := by have := hb1.size; simp at this; omega
  have hy1 : w.heap.size < w1.heap.size := by omega
  have H1 := hide' ((HB2.out _ _).trans (hb1.mono (by simp; omega)))
  clear hb1
  go_wp2_with fail
  go_at_call 140
  refine (HS.out _).mono ?_
  rintro e w2 ⟨rfl, hb2⟩
  obtain ⟨hc2, hf2⟩ := bcell hb2
  have hz2 : w.heap.size + 1 < w2.heap.size := by have := hb2.size; omega
  have hy2 : w.heap.size < w2.heap.size := by omega
  have H2 := hide' (H1.out.trans (hb2.mono H1.out.size))
  clear hb2 HC HS H1 HB2
  go_wp2
  go_ret2
  exact ⟨rfl, H2.out⟩

set_option maxRecDepth 20000 in
set_option maxHeartbeats 2000000 in
theorem refTell_badb (d : Int) (ck : Int) (a : Option Addr) (n c : Nat) (ss : List ByteArray) (val cw : ByteArray) (ft : Bool) (cid : Int) (ak : Int) (fa va : Option Addr) (fn fc vn vc : Nat) (bs : List Bool) (vs : List ByteArray) (wd : ByteArray) (id : Int) (w : World) (hs : StrsIn w a n c ss) (hval : val.size ≤ maxLen) (hf : BoolsIn w fa fn fc bs) (hv : StrsIn w va vn vc vs) (hw : wd.size ≤ maxLen) (ha : answerB ck ss val ak bs vs wd = true) (hd : sayB d ck n id = false) :
    Calls Tryz.prog 104 #[.int .i64 d, cmdV6 ck (.slice a n c) val cw ft cid, ansV ak (.slice fa fn fc) (.slice va vn vc) wd, .int .i64 id] w fun e w' => e = .returned (.tuple #[.string ⟨#[]⟩, .int .i64 1]) ∧ Below w.heap.size w w' := by
  have HB2 := hide' (show ∀ x y, Below w.heap.size w ((w.alloc x).alloc y) from fun x y => ((Below.refl _ _).alloc (Nat.le_refl _) _).alloc (by simp) _)
  have HC : Hid (∀ x y, Calls Tryz.prog 144 #[cmdV6 ck (.slice a n c) val cw ft cid, ansV ak (.slice fa fn fc) (.slice va vn vc) wd] ((w.alloc x).alloc y) fun e w' => e = .returned (.bool (answerB ck ss val ak bs vs wd)) ∧ Below ((w.alloc x).alloc y).heap.size ((w.alloc x).alloc y) w') := fun x y => refanswer_any ck a n c ss val cw ft cid ak fa va fn fc vn vc bs vs wd _ (hs.later (HB2.out x y)) hval (hf.later (HB2.out x y)) (hv.later (HB2.out x y)) hw
  have HS : Hid (∀ W, Calls Tryz.prog 140 #[.int .i64 d, cmdV6 ck (.slice a n c) val cw ft cid, .int .i64 id] W fun e w' => e = .returned (.bool (sayB d ck n id)) ∧ Below W.heap.size W w') := fun W => sayable_any d ck a n c val cw ft cid id W
  rw [ha] at HC
  rw [hd] at HS
  clear hs hval hf hv hw ha
  unfold cmdV6 ansV at *
  go_enter Tryz.func104, Tryz.ntmps104
  go_wp2_with fail
  go_at_call 144
  refine (HC.out _ _).mono ?_
  rintro e w1 ⟨rfl, hb1⟩
  obtain ⟨hc1, hf1⟩ := bcell hb1
  have hz1 : w.heap.size + 1 < w1.heap.size := by have := hb1.size; simp at this; omega
  have hy1 : w.heap.size < w1.heap.size := by omega
  have H1 := hide' ((HB2.out _ _).trans (hb1.mono (by simp; omega)))
  clear hb1
  go_wp2_with fail
  go_at_call 140
  refine (HS.out _).mono ?_
  rintro e w2 ⟨rfl, hb2⟩
  obtain ⟨hc2, hf2⟩ := bcell hb2
  have hz2 : w.heap.size + 1 < w2.heap.size := by have := hb2.size; omega
  have hy2 : w.heap.size < w2.heap.size := by omega
  have H2 := hide' (H1.out.trans (hb2.mono H1.out.size))
  clear hb2 HC HS H1 HB2
  go_wp2
  go_ret2
  exact ⟨rfl, H2.out⟩

set_option maxRecDepth 20000 in
set_option maxHeartbeats 2000000 in
theorem refTell_good1 (ck : Int) (a : Option Addr) (n c : Nat) (ss : List ByteArray) (val cw : ByteArray) (ft : Bool) (cid : Int) (ak : Int) (fa va : Option Addr) (fn fc vn vc : Nat) (bs : List Bool) (vs : List ByteArray) (wd : ByteArray) (id : Int) (w : World) (hs : StrsIn w a n c ss) (hval : val.size ≤ maxLen) (hf : BoolsIn w fa fn fc bs) (hv : StrsIn w va vn vc vs) (hw : wd.size ≤ maxLen) (ha : answerB ck ss val ak bs vs wd = true) (out : ByteArray)
    (HO : ∀ W, Below w.heap.size w W → Calls Tryz.prog 145 #[cmdV6 ck (.slice a n c) val cw ft cid, ansV ak (.slice fa fn fc) (.slice va vn vc) wd] W fun e w' => e = .returned (.string out) ∧ Below W.heap.size W w') :
    Calls Tryz.prog 104 #[.int .i64 1, cmdV6 ck (.slice a n c) val cw ft cid, ansV ak (.slice fa fn fc) (.slice va vn vc) wd, .int .i64 id] w fun e w' => e = .returned (.tuple #[.string out, .int .i64 0]) ∧ Below w.heap.size w w' := by
  have HB2 := hide' (show ∀ x y, Below w.heap.size w ((w.alloc x).alloc y) from fun x y => ((Below.refl _ _).alloc (Nat.le_refl _) _).alloc (by simp) _)
  have HC : Hid (∀ x y, Calls Tryz.prog 144 #[cmdV6 ck (.slice a n c) val cw ft cid, ansV ak (.slice fa fn fc) (.slice va vn vc) wd] ((w.alloc x).alloc y) fun e w' => e = .returned (.bool (answerB ck ss val ak bs vs wd)) ∧ Below ((w.alloc x).alloc y).heap.size ((w.alloc x).alloc y) w') := fun x y => refanswer_any ck a n c ss val cw ft cid ak fa va fn fc vn vc bs vs wd _ (hs.later (HB2.out x y)) hval (hf.later (HB2.out x y)) (hv.later (HB2.out x y)) hw
  have HS : Hid (∀ W, Calls Tryz.prog 140 #[.int .i64 1, cmdV6 ck (.slice a n c) val cw ft cid, .int .i64 id] W fun e w' => e = .returned (.bool (sayB 1 ck n id)) ∧ Below W.heap.size W w') := fun W => sayable_any 1 ck a n c val cw ft cid id W
  rw [ha] at HC
  rw [show sayB 1 ck n id = true from rfl] at HS
  have HOO := hide' HO
  clear hs hval hf hv hw ha HO
  unfold cmdV6 ansV at *
  go_enter Tryz.func104, Tryz.ntmps104
  go_wp2_with fail
  go_at_call 144
  refine (HC.out _ _).mono ?_
  rintro e w1 ⟨rfl, hb1⟩
  obtain ⟨hc1, hf1⟩ := bcell hb1
  have hz1 : w.heap.size + 1 < w1.heap.size := by have := hb1.size; simp at this; omega
  have hy1 : w.heap.size < w1.heap.size := by omega
  have H1 := hide' ((HB2.out _ _).trans (hb1.mono (by simp; omega)))
  clear hb1
  go_wp2_with fail
  go_at_call 140
  refine (HS.out _).mono ?_
  rintro e w2 ⟨rfl, hb2⟩
  obtain ⟨hc2, hf2⟩ := bcell hb2
  have hz2 : w.heap.size + 1 < w2.heap.size := by have := hb2.size; omega
  have hy2 : w.heap.size < w2.heap.size := by omega
  have H2 := hide' (H1.out.trans (hb2.mono H1.out.size))
  clear hb2 HC HS H1 HB2
  go_wp2_with fail
  go_at_call 145
  refine (HOO.out _ H2.out).mono ?_
  rintro e w3 ⟨rfl, hb3⟩
  have H3 := hide' (H2.out.trans (hb3.mono H2.out.size))
  clear hb3
  go_wp2
  go_ret2
  exact ⟨rfl, H3.out⟩

set_option maxRecDepth 20000 in
set_option maxHeartbeats 2000000 in
theorem refTell_good3 (ck : Int) (a : Option Addr) (n c : Nat) (ss : List ByteArray) (val cw : ByteArray) (ft : Bool) (cid : Int) (ak : Int) (fa va : Option Addr) (fn fc vn vc : Nat) (bs : List Bool) (vs : List ByteArray) (wd : ByteArray) (id : Int) (w : World) (hs : StrsIn w a n c ss) (hval : val.size ≤ maxLen) (hf : BoolsIn w fa fn fc bs) (hv : StrsIn w va vn vc vs) (hw : wd.size ≤ maxLen) (ha : answerB ck ss val ak bs vs wd = true) (out : ByteArray)
    (HO : ∀ W, Below w.heap.size w W → Calls Tryz.prog 147 #[ansV ak (.slice fa fn fc) (.slice va vn vc) wd] W fun e w' => e = .returned (.string out) ∧ Below W.heap.size W w') :
    Calls Tryz.prog 104 #[.int .i64 3, cmdV6 ck (.slice a n c) val cw ft cid, ansV ak (.slice fa fn fc) (.slice va vn vc) wd, .int .i64 id] w fun e w' => e = .returned (.tuple #[.string out, .int .i64 0]) ∧ Below w.heap.size w w' := by
  have HB2 := hide' (show ∀ x y, Below w.heap.size w ((w.alloc x).alloc y) from fun x y => ((Below.refl _ _).alloc (Nat.le_refl _) _).alloc (by simp) _)
  have HC : Hid (∀ x y, Calls Tryz.prog 144 #[cmdV6 ck (.slice a n c) val cw ft cid, ansV ak (.slice fa fn fc) (.slice va vn vc) wd] ((w.alloc x).alloc y) fun e w' => e = .returned (.bool (answerB ck ss val ak bs vs wd)) ∧ Below ((w.alloc x).alloc y).heap.size ((w.alloc x).alloc y) w') := fun x y => refanswer_any ck a n c ss val cw ft cid ak fa va fn fc vn vc bs vs wd _ (hs.later (HB2.out x y)) hval (hf.later (HB2.out x y)) (hv.later (HB2.out x y)) hw
  have HS : Hid (∀ W, Calls Tryz.prog 140 #[.int .i64 3, cmdV6 ck (.slice a n c) val cw ft cid, .int .i64 id] W fun e w' => e = .returned (.bool (sayB 3 ck n id)) ∧ Below W.heap.size W w') := fun W => sayable_any 3 ck a n c val cw ft cid id W
  rw [ha] at HC
  rw [show sayB 3 ck n id = true from rfl] at HS
  have HOO := hide' HO
  clear hs hval hf hv hw ha HO
  unfold cmdV6 ansV at *
  go_enter Tryz.func104, Tryz.ntmps104
  go_wp2_with fail
  go_at_call 144
  refine (HC.out _ _).mono ?_
  rintro e w1 ⟨rfl, hb1⟩
  obtain ⟨hc1, hf1⟩ := bcell hb1
  have hz1 : w.heap.size + 1 < w1.heap.size := by have := hb1.size; simp at this; omega
  have hy1 : w.heap.size < w1.heap.size := by omega
  have H1 := hide' ((HB2.out _ _).trans (hb1.mono (by simp; omega)))
  clear hb1
  go_wp2_with fail
  go_at_call 140
  refine (HS.out _).mono ?_
  rintro e w2 ⟨rfl, hb2⟩
  obtain ⟨hc2, hf2⟩ := bcell hb2
  have hz2 : w.heap.size + 1 < w2.heap.size := by have := hb2.size; omega
  have hy2 : w.heap.size < w2.heap.size := by omega
  have H2 := hide' (H1.out.trans (hb2.mono H1.out.size))
  clear hb2 HC HS H1 HB2
  go_wp2_with fail
  go_at_call 147
  refine (HOO.out _ H2.out).mono ?_
  rintro e w3 ⟨rfl, hb3⟩
  have H3 := hide' (H2.out.trans (hb3.mono H2.out.size))
  clear hb3
  go_wp2
  go_ret2
  exact ⟨rfl, H3.out⟩

set_option maxRecDepth 20000 in
set_option maxHeartbeats 2000000 in
theorem refTell_good2w (a : Option Addr) (n c : Nat) (ss : List ByteArray) (val cw : ByteArray) (ft : Bool) (cid : Int) (ak : Int) (fa va : Option Addr) (fn fc vn vc : Nat) (bs : List Bool) (vs : List ByteArray) (wd : ByteArray) (id : Int) (w : World) (hs : StrsIn w a n c ss) (hval : val.size ≤ maxLen) (hf : BoolsIn w fa fn fc bs) (hv : StrsIn w va vn vc vs) (hw : wd.size ≤ maxLen) (ha : answerB 4 ss val ak bs vs wd = true) (hd : sayB 2 4 n id = true) (out : ByteArray)
    (HO : ∀ W, Below w.heap.size w W → Calls Tryz.prog 146 #[ansV ak (.slice fa fn fc) (.slice va vn vc) wd, .int .i64 0] W fun e w' => e = .returned (.string out) ∧ Below W.heap.size W w') :
    Calls Tryz.prog 104 #[.int .i64 2, cmdV6 4 (.slice a n c) val cw ft cid, ansV ak (.slice fa fn fc) (.slice va vn vc) wd, .int .i64 id] w fun e w' => e = .returned (.tuple #[.string out, .int .i64 0]) ∧ Below w.heap.size w w' := by
  have HB2 := hide' (show ∀ x y, Below w.heap.size w ((w.alloc x).alloc y) from fun x y => ((Below.refl _ _).alloc (Nat.le_refl _) _).alloc (by simp) _)
  have HC : Hid (∀ x y, Calls Tryz.prog 144 #[cmdV6 4 (.slice a n c) val cw ft cid, ansV ak (.slice fa fn fc) (.slice va vn vc) wd] ((w.alloc x).alloc y) fun e w' => e = .returned (.bool (answerB 4 ss val ak bs vs wd)) ∧ Below ((w.alloc x).alloc y).heap.size ((w.alloc x).alloc y) w') := fun x y => refanswer_any 4 a n c ss val cw ft cid ak fa va fn fc vn vc bs vs wd _ (hs.later (HB2.out x y)) hval (hf.later (HB2.out x y)) (hv.later (HB2.out x y)) hw
  have HS : Hid (∀ W, Calls Tryz.prog 140 #[.int .i64 2, cmdV6 4 (.slice a n c) val cw ft cid, .int .i64 id] W fun e w' => e = .returned (.bool (sayB 2 4 n id)) ∧ Below W.heap.size W w') := fun W => sayable_any 2 4 a n c val cw ft cid id W
  rw [ha] at HC
  rw [hd] at HS
  have HOO := hide' HO
  clear hs hval hf hv hw ha HO hd
  unfold cmdV6 ansV at *
  go_enter Tryz.func104, Tryz.ntmps104
  go_wp2_with fail
  go_at_call 144
  refine (HC.out _ _).mono ?_
  rintro e w1 ⟨rfl, hb1⟩
  obtain ⟨hc1, hf1⟩ := bcell hb1
  have hz1 : w.heap.size + 1 < w1.heap.size := by have := hb1.size; simp at this; omega
  have hy1 : w.heap.size < w1.heap.size := by omega
  have H1 := hide' ((HB2.out _ _).trans (hb1.mono (by simp; omega)))
  clear hb1
  go_wp2_with fail
  go_at_call 140
  refine (HS.out _).mono ?_
  rintro e w2 ⟨rfl, hb2⟩
  obtain ⟨hc2, hf2⟩ := bcell hb2
  have hz2 : w.heap.size + 1 < w2.heap.size := by have := hb2.size; omega
  have hy2 : w.heap.size < w2.heap.size := by omega
  have H2 := hide' (H1.out.trans (hb2.mono H1.out.size))
  clear hb2 HC HS H1 HB2
  go_wp2_with fail
  go_at_call 146
  refine (HOO.out _ H2.out).mono ?_
  rintro e w3 ⟨rfl, hb3⟩
  have H3 := hide' (H2.out.trans (hb3.mono H2.out.size))
  clear hb3
  go_wp2
  go_ret2
  exact ⟨rfl, H3.out⟩

set_option maxRecDepth 20000 in
set_option maxHeartbeats 2000000 in
theorem refTell_good2 (ck : Int) (a : Option Addr) (n c : Nat) (ss : List ByteArray) (val cw : ByteArray) (ft : Bool) (cid : Int) (ak : Int) (fa va : Option Addr) (fn fc vn vc : Nat) (bs : List Bool) (vs : List ByteArray) (wd : ByteArray) (id : Int) (w : World) (hs : StrsIn w a n c ss) (hval : val.size ≤ maxLen) (hf : BoolsIn w fa fn fc bs) (hv : StrsIn w va vn vc vs) (hw : wd.size ≤ maxLen) (h4 : (ck == 4) = false) (ha : answerB ck ss val ak bs vs wd = true) (hd : sayB 2 ck n id = true) (out : ByteArray)
    (HO : ∀ W, Below w.heap.size w W → Calls Tryz.prog 146 #[ansV ak (.slice fa fn fc) (.slice va vn vc) wd, .int .i64 id] W fun e w' => e = .returned (.string out) ∧ Below W.heap.size W w') :
    Calls Tryz.prog 104 #[.int .i64 2, cmdV6 ck (.slice a n c) val cw ft cid, ansV ak (.slice fa fn fc) (.slice va vn vc) wd, .int .i64 id] w fun e w' => e = .returned (.tuple #[.string out, .int .i64 0]) ∧ Below w.heap.size w w' := by
  have HB2 := hide' (show ∀ x y, Below w.heap.size w ((w.alloc x).alloc y) from fun x y => ((Below.refl _ _).alloc (Nat.le_refl _) _).alloc (by simp) _)
  have HC : Hid (∀ x y, Calls Tryz.prog 144 #[cmdV6 ck (.slice a n c) val cw ft cid, ansV ak (.slice fa fn fc) (.slice va vn vc) wd] ((w.alloc x).alloc y) fun e w' => e = .returned (.bool (answerB ck ss val ak bs vs wd)) ∧ Below ((w.alloc x).alloc y).heap.size ((w.alloc x).alloc y) w') := fun x y => refanswer_any ck a n c ss val cw ft cid ak fa va fn fc vn vc bs vs wd _ (hs.later (HB2.out x y)) hval (hf.later (HB2.out x y)) (hv.later (HB2.out x y)) hw
  have HS : Hid (∀ W, Calls Tryz.prog 140 #[.int .i64 2, cmdV6 ck (.slice a n c) val cw ft cid, .int .i64 id] W fun e w' => e = .returned (.bool (sayB 2 ck n id)) ∧ Below W.heap.size W w') := fun W => sayable_any 2 ck a n c val cw ft cid id W
  rw [ha] at HC
  rw [hd] at HS
  have HOO := hide' HO
  clear hs hval hf hv hw ha HO hd
  unfold cmdV6 ansV at *
  go_enter Tryz.func104, Tryz.ntmps104
  go_wp2_with fail
  go_at_call 144
  refine (HC.out _ _).mono ?_
  rintro e w1 ⟨rfl, hb1⟩
  obtain ⟨hc1, hf1⟩ := bcell hb1
  have hz1 : w.heap.size + 1 < w1.heap.size := by have := hb1.size; simp at this; omega
  have hy1 : w.heap.size < w1.heap.size := by omega
  have H1 := hide' ((HB2.out _ _).trans (hb1.mono (by simp; omega)))
  clear hb1
  go_wp2_with fail
  go_at_call 140
  refine (HS.out _).mono ?_
  rintro e w2 ⟨rfl, hb2⟩
  obtain ⟨hc2, hf2⟩ := bcell hb2
  have hz2 : w.heap.size + 1 < w2.heap.size := by have := hb2.size; omega
  have hy2 : w.heap.size < w2.heap.size := by omega
  have H2 := hide' (H1.out.trans (hb2.mono H1.out.size))
  clear hb2 HC HS H1 HB2
  go_wp2_with fail
  go_at_call 146
  refine (HOO.out _ H2.out).mono ?_
  rintro e w3 ⟨rfl, hb3⟩
  have H3 := hide' (H2.out.trans (hb3.mono H2.out.size))
  clear hb3
  go_wp2
  go_ret2
  exact ⟨rfl, H3.out⟩
end Go.Proofs.YtlonjggfnleolaaGreatDoor
