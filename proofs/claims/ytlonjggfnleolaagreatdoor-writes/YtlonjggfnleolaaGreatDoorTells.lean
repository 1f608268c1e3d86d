/-
  junction: Tell, upon what the dialects answer.
-/
import Derived.Test.YtlonjggfnleolaaGreatDoorRefTell
namespace Go.Proofs.YtlonjggfnleolaaGreatDoor
open Go.RowKit
set_option linter.unusedVariables false

theorem m_tell1 (w : World) : (method 432 160 (.agg #[]) "Tell").run Tryz.prog w = .ok (212, .agg #[]) w := by kernel_rfl
theorem m_tell2 (w : World) : (method 432 161 (.agg #[]) "Tell").run Tryz.prog w = .ok (245, .agg #[]) w := by kernel_rfl
theorem m_tell3 (w : World) : (method 432 162 (.agg #[]) "Tell").run Tryz.prog w = .ok (252, .agg #[]) w := by kernel_rfl

set_option maxRecDepth 20000 in
set_option maxHeartbeats 2000000 in
theorem tell_bad1 (ck : Int) (a : Option Addr) (n c : Nat) (ss : List ByteArray) (val cw : ByteArray) (ft : Bool) (cid : Int) (ak : Int) (fa va : Option Addr) (fn fc vn vc : Nat) (bs : List Bool) (vs : List ByteArray) (wd : ByteArray) (id : Int) (w : World) (hs : StrsIn w a n c ss) (hval : val.size ≤ maxLen) (hf : BoolsIn w fa fn fc bs) (hv : StrsIn w va vn vc vs) (hw : wd.size ≤ maxLen) (ha : answerB ck ss val ak bs vs wd = false) :
    Calls Tryz.prog 87 #[.int .i64 1, cmdV6 ck (.slice a n c) val cw ft cid, ansV ak (.slice fa fn fc) (.slice va vn vc) wd, .int .i64 id] w fun e w' => e = .returned (.tuple #[.string ⟨#[]⟩, .int .i64 1]) ∧ Below w.heap.size w w' := by
  have HB2 := hide' (show ∀ x y, Below w.heap.size w ((w.alloc x).alloc y) from fun x y => ((Below.refl _ _).alloc (Nat.le_refl _) _).alloc (by simp) _)
  have HC : Hid (∀ x y, Calls Tryz.prog 123 #[cmdV6 ck (.slice a n c) val cw ft cid, ansV ak (.slice fa fn fc) (.slice va vn vc) wd] ((w.alloc x).alloc y) fun e w' => e = .returned (.bool (answerB ck ss val ak bs vs wd)) ∧ Below ((w.alloc x).alloc y).heap.size ((w.alloc x).alloc y) w') := fun x y => answer_any ck a n c ss val cw ft cid ak fa va fn fc vn vc bs vs wd _ (hs.later (HB2.out x y)) hval (hf.later (HB2.out x y)) (hv.later (HB2.out x y)) hw
  have HS : Hid (∀ W, Calls Tryz.prog 210 #[.agg #[], cmdV6 ck (.slice a n c) val cw ft cid, .int .i64 id] W fun e w' => e = .returned (.bool true) ∧ Below W.heap.size W w') := fun W => canSay1' _ id W
  rw [ha] at HC
  clear hs hval hf hv hw ha HS
  unfold cmdV6 ansV at *
  go_enter Tryz.func87, Tryz.ntmps87
  go_wp2_with fail
  go_at_call 47
  refine (of1 _).mono ?_
  rintro e w' ⟨rfl, hw'⟩
  subst hw'
  go_wp2_with fail
  go_at_call 123
  refine (HC.out _ _).mono ?_
  rintro e w1 ⟨rfl, hb1⟩
  obtain ⟨hc1, hf1⟩ := bcell hb1
  have hz1 : w.heap.size + 1 < w1.heap.size := by have := hb1.size; simp at this; omega
  have hy1 : w.heap.size < w1.heap.size := by omega
  have H1 := hide' ((HB2.out _ _).trans (hb1.mono (by simp; omega)))
  clear hb1
  go_wp2
  go_ret2
  exact ⟨rfl, H1.out⟩

set_option maxRecDepth 20000 in
set_option maxHeartbeats 2000000 in
theorem tell_good1 (ck : Int) (a : Option Addr) (n c : Nat) (ss : List ByteArray) (val cw : ByteArray) (ft : Bool) (cid : Int) (ak : Int) (fa va : Option Addr) (fn fc vn vc : Nat) (bs : List Bool) (vs : List ByteArray) (wd : ByteArray) (id : Int) (w : World) (hs : StrsIn w a n c ss) (hval : val.size ≤ maxLen) (hf : BoolsIn w fa fn fc bs) (hv : StrsIn w va vn vc vs) (hw : wd.size ≤ maxLen) (ha : answerB ck ss val ak bs vs wd = true) (out : ByteArray)
    (HO : ∀ W, Below w.heap.size w W → Calls Tryz.prog 212 #[.agg #[], cmdV6 ck (.slice a n c) val cw ft cid, ansV ak (.slice fa fn fc) (.slice va vn vc) wd, .int .i64 id] W fun e w' => e = .returned (.string out) ∧ Below W.heap.size W w') :
    Calls Tryz.prog 87 #[.int .i64 1, cmdV6 ck (.slice a n c) val cw ft cid, ansV ak (.slice fa fn fc) (.slice va vn vc) wd, .int .i64 id] w fun e w' => e = .returned (.tuple #[.string out, .int .i64 0]) ∧ Below w.heap.size w w' := by
  have HB2 := hide' (show ∀ x y, Below w.heap.size w ((w.alloc x).alloc y) from fun x y => ((Below.refl _ _).alloc (Nat.le_refl _) _).alloc (by simp) _)
  have HC : Hid (∀ x y, Calls Tryz.prog 123 #[cmdV6 ck (.slice a n c) val cw ft cid, ansV ak (.slice fa fn fc) (.slice va vn vc) wd] ((w.alloc x).alloc y) fun e w' => e = .returned (.bool (answerB ck ss val ak bs vs wd)) ∧ Below ((w.alloc x).alloc y).heap.size ((w.alloc x).alloc y) w') := fun x y => answer_any ck a n c ss val cw ft cid ak fa va fn fc vn vc bs vs wd _ (hs.later (HB2.out x y)) hval (hf.later (HB2.out x y)) (hv.later (HB2.out x y)) hw
  have HS : Hid (∀ W, Calls Tryz.prog 210 #[.agg #[], cmdV6 ck (.slice a n c) val cw ft cid, .int .i64 id] W fun e w' => e = .returned (.bool true) ∧ Below W.heap.size W w') := fun W => canSay1' _ id W
  rw [ha] at HC

  have HOO := hide' HO
  have hm1 := m_canSay1'
  have hm2 := m_tell1
  clear hs hval hf hv hw ha HO
  unfold cmdV6 ansV at *
  go_enter Tryz.func87, Tryz.ntmps87
  go_wp2_with fail
  go_at_call 47
  refine (of1 _).mono ?_
  rintro e w' ⟨rfl, hw'⟩
  subst hw'
  go_wp2_with fail
  go_at_call 123
  refine (HC.out _ _).mono ?_
  rintro e w1 ⟨rfl, hb1⟩
  obtain ⟨hc1, hf1⟩ := bcell hb1
  have hz1 : w.heap.size + 1 < w1.heap.size := by have := hb1.size; simp at this; omega
  have hy1 : w.heap.size < w1.heap.size := by omega
  have H1 := hide' ((HB2.out _ _).trans (hb1.mono (by simp; omega)))
  clear hb1
  go_wp2_with fail
  go_at_call 210
  refine (HS.out _).mono ?_
  rintro e w2 ⟨rfl, hb2⟩
  obtain ⟨hc2, hf2⟩ := bcell hb2
  have hz2 : w.heap.size + 1 < w2.heap.size := by have := hb2.size; omega
  have hy2 : w.heap.size < w2.heap.size := by omega
  have H2 := hide' (H1.out.trans (hb2.mono H1.out.size))
  clear hb2 HC HS H1 HB2
  go_wp2_with fail
  go_at_call 212
  refine (HOO.out _ H2.out).mono ?_
  rintro e w3 ⟨rfl, hb3⟩
  have H3 := hide' (H2.out.trans (hb3.mono H2.out.size))
  clear hb3
  go_wp2
  go_ret2
  exact ⟨rfl, H3.out⟩

set_option maxRecDepth 20000 in
set_option maxHeartbeats 2000000 in
theorem tell_bad2 (ck : Int) (a : Option Addr) (n c : Nat) (ss : List ByteArray) (val cw : ByteArray) (ft : Bool) (cid : Int) (ak : Int) (fa va : Option Addr) (fn fc vn vc : Nat) (bs : List Bool) (vs : List ByteArray) (wd : ByteArray) (id : Int) (w : World) (hs : StrsIn w a n c ss) (hval : val.size ≤ maxLen) (hf : BoolsIn w fa fn fc bs) (hv : StrsIn w va vn vc vs) (hw : wd.size ≤ maxLen) (ha : answerB ck ss val ak bs vs wd = false) :
    Calls Tryz.prog 87 #[.int .i64 2, cmdV6 ck (.slice a n c) val cw ft cid, ansV ak (.slice fa fn fc) (.slice va vn vc) wd, .int .i64 id] w fun e w' => e = .returned (.tuple #[.string ⟨#[]⟩, .int .i64 1]) ∧ Below w.heap.size w w' := by
  have HB2 := hide' (show ∀ x y, Below w.heap.size w ((w.alloc x).alloc y) from fun x y => ((Below.refl _ _).alloc (Nat.le_refl _) _).alloc (by simp) _)
  have HC : Hid (∀ x y, Calls Tryz.prog 123 #[cmdV6 ck (.slice a n c) val cw ft cid, ansV ak (.slice fa fn fc) (.slice va vn vc) wd] ((w.alloc x).alloc y) fun e w' => e = .returned (.bool (answerB ck ss val ak bs vs wd)) ∧ Below ((w.alloc x).alloc y).heap.size ((w.alloc x).alloc y) w') := fun x y => answer_any ck a n c ss val cw ft cid ak fa va fn fc vn vc bs vs wd _ (hs.later (HB2.out x y)) hval (hf.later (HB2.out x y)) (hv.later (HB2.out x y)) hw
  have HS : Hid (∀ W, Calls Tryz.prog 243 #[.agg #[], cmdV6 ck (.slice a n c) val cw ft cid, .int .i64 id] W fun e w' => e = .returned (.bool (frSayB ck n id)) ∧ Below W.heap.size W w') := fun W => canSay2 ck a n c val cw ft cid id W
  rw [ha] at HC
  clear hs hval hf hv hw ha HS
  unfold cmdV6 ansV at *
  go_enter Tryz.func87, Tryz.ntmps87
  go_wp2_with fail
  go_at_call 47
  refine (of2 _).mono ?_
  rintro e w' ⟨rfl, hw'⟩
  subst hw'
  go_wp2_with fail
  go_at_call 123
  refine (HC.out _ _).mono ?_
  rintro e w1 ⟨rfl, hb1⟩
  obtain ⟨hc1, hf1⟩ := bcell hb1
  have hz1 : w.heap.size + 1 < w1.heap.size := by have := hb1.size; simp at this; omega
  have hy1 : w.heap.size < w1.heap.size := by omega
  have H1 := hide' ((HB2.out _ _).trans (hb1.mono (by simp; omega)))
  clear hb1
  go_wp2
  go_ret2
  exact ⟨rfl, H1.out⟩

set_option maxRecDepth 20000 in
set_option maxHeartbeats 2000000 in
theorem tell_good2 (ck : Int) (a : Option Addr) (n c : Nat) (ss : List ByteArray) (val cw : ByteArray) (ft : Bool) (cid : Int) (ak : Int) (fa va : Option Addr) (fn fc vn vc : Nat) (bs : List Bool) (vs : List ByteArray) (wd : ByteArray) (id : Int) (w : World) (hs : StrsIn w a n c ss) (hval : val.size ≤ maxLen) (hf : BoolsIn w fa fn fc bs) (hv : StrsIn w va vn vc vs) (hw : wd.size ≤ maxLen) (ha : answerB ck ss val ak bs vs wd = true) (hd : frSayB ck n id = true) (out : ByteArray)
    (HO : ∀ W, Below w.heap.size w W → Calls Tryz.prog 245 #[.agg #[], cmdV6 ck (.slice a n c) val cw ft cid, ansV ak (.slice fa fn fc) (.slice va vn vc) wd, .int .i64 id] W fun e w' => e = .returned (.string out) ∧ Below W.heap.size W w') :
    Calls Tryz.prog 87 #[.int .i64 2, cmdV6 ck (.slice a n c) val cw ft cid, ansV ak (.slice fa fn fc) (.slice va vn vc) wd, .int .i64 id] w fun e w' => e = .returned (.tuple #[.string out, .int .i64 0]) ∧ Below w.heap.size w w' := by
  have HB2 := hide' (show ∀ x y, Below w.heap.size w ((w.alloc x).alloc y) from fun x y => ((Below.refl _ _).alloc (Nat.le_refl _) _).alloc (by simp) _)
  have HC : Hid (∀ x y, Calls Tryz.prog 123 #[cmdV6 ck (.slice a n c) val cw ft cid, ansV ak (.slice fa fn fc) (.slice va vn vc) wd] ((w.alloc x).alloc y) fun e w' => e = .returned (.bool (answerB ck ss val ak bs vs wd)) ∧ Below ((w.alloc x).alloc y).heap.size ((w.alloc x).alloc y) w') := fun x y => answer_any ck a n c ss val cw ft cid ak fa va fn fc vn vc bs vs wd _ (hs.later (HB2.out x y)) hval (hf.later (HB2.out x y)) (hv.later (HB2.out x y)) hw
  have HS : Hid (∀ W, Calls Tryz.prog 243 #[.agg #[], cmdV6 ck (.slice a n c) val cw ft cid, .int .i64 id] W fun e w' => e = .returned (.bool (frSayB ck n id)) ∧ Below W.heap.size W w') := fun W => canSay2 ck a n c val cw ft cid id W
  rw [ha] at HC
  rw [hd] at HS
  have HOO := hide' HO
  have hm1 := m_canSay2
  have hm2 := m_tell2
  clear hs hval hf hv hw ha HO
  unfold cmdV6 ansV at *
  go_enter Tryz.func87, Tryz.ntmps87
  go_wp2_with fail
  go_at_call 47
  refine (of2 _).mono ?_
  rintro e w' ⟨rfl, hw'⟩
  subst hw'
  go_wp2_with fail
  go_at_call 123
  refine (HC.out _ _).mono ?_
  rintro e w1 ⟨rfl, hb1⟩
  obtain ⟨hc1, hf1⟩ := bcell hb1
  have hz1 : w.heap.size + 1 < w1.heap.size := by have := hb1.size; simp at this; omega
  have hy1 : w.heap.size < w1.heap.size := by omega
  have H1 := hide' ((HB2.out _ _).trans (hb1.mono (by simp; omega)))
  clear hb1
  go_wp2_with fail
  go_at_call 243
  refine (HS.out _).mono ?_
  rintro e w2 ⟨rfl, hb2⟩
  obtain ⟨hc2, hf2⟩ := bcell hb2
  have hz2 : w.heap.size + 1 < w2.heap.size := by have := hb2.size; omega
  have hy2 : w.heap.size < w2.heap.size := by omega
  have H2 := hide' (H1.out.trans (hb2.mono H1.out.size))
  clear hb2 HC HS H1 HB2
  go_wp2_with fail
  go_at_call 245
  refine (HOO.out _ H2.out).mono ?_
  rintro e w3 ⟨rfl, hb3⟩
  have H3 := hide' (H2.out.trans (hb3.mono H2.out.size))
  clear hb3
  go_wp2
  go_ret2
  exact ⟨rfl, H3.out⟩

set_option maxRecDepth 20000 in
set_option maxHeartbeats 2000000 in
theorem tell_bad3 (ck : Int) (a : Option Addr) (n c : Nat) (ss : List ByteArray) (val cw : ByteArray) (ft : Bool) (cid : Int) (ak : Int) (fa va : Option Addr) (fn fc vn vc : Nat) (bs : List Bool) (vs : List ByteArray) (wd : ByteArray) (id : Int) (w : World) (hs : StrsIn w a n c ss) (hval : val.size ≤ maxLen) (hf : BoolsIn w fa fn fc bs) (hv : StrsIn w va vn vc vs) (hw : wd.size ≤ maxLen) (ha : answerB ck ss val ak bs vs wd = false) :
    Calls Tryz.prog 87 #[.int .i64 3, cmdV6 ck (.slice a n c) val cw ft cid, ansV ak (.slice fa fn fc) (.slice va vn vc) wd, .int .i64 id] w fun e w' => e = .returned (.tuple #[.string ⟨#[]⟩, .int .i64 1]) ∧ Below w.heap.size w w' := by
  have HB2 := hide' (show ∀ x y, Below w.heap.size w ((w.alloc x).alloc y) from fun x y => ((Below.refl _ _).alloc (Nat.le_refl _) _).alloc (by simp) _)
  have HC : Hid (∀ x y, Calls Tryz.prog 123 #[cmdV6 ck (.slice a n c) val cw ft cid, ansV ak (.slice fa fn fc) (.slice va vn vc) wd] ((w.alloc x).alloc y) fun e w' => e = .returned (.bool (answerB ck ss val ak bs vs wd)) ∧ Below ((w.alloc x).alloc y).heap.size ((w.alloc x).alloc y) w') := fun x y => answer_any ck a n c ss val cw ft cid ak fa va fn fc vn vc bs vs wd _ (hs.later (HB2.out x y)) hval (hf.later (HB2.out x y)) (hv.later (HB2.out x y)) hw
  have HS : Hid (∀ W, Calls Tryz.prog 250 #[.agg #[], cmdV6 ck (.slice a n c) val cw ft cid, .int .i64 id] W fun e w' => e = .returned (.bool true) ∧ Below W.heap.size W w') := fun W => canSay3 _ id W
  rw [ha] at HC
  clear hs hval hf hv hw ha HS
  unfold cmdV6 ansV at *
  go_enter Tryz.func87, Tryz.ntmps87
  go_wp2_with fail
  go_at_call 47
  refine (of3 _).mono ?_
  rintro e w' ⟨rfl, hw'⟩
  subst hw'
  go_wp2_with fail
  go_at_call 123
  refine (HC.out _ _).mono ?_
  rintro e w1 ⟨rfl, hb1⟩
  obtain ⟨hc1, hf1⟩ := bcell hb1
  have hz1 : w.heap.size + 1 < w1.heap.size := by have := hb1.size; simp at this; omega
  have hy1 : w.heap.size < w1.heap.size := by omega
  have H1 := hide' ((HB2.out _ _).trans (hb1.mono (by simp; omega)))
  clear hb1
  go_wp2
  go_ret2
  exact ⟨rfl, H1.out⟩

set_option maxRecDepth 20000 in
set_option maxHeartbeats 2000000 in
theorem tell_good3 (ck : Int) (a : Option Addr) (n c : Nat) (ss : List ByteArray) (val cw : ByteArray) (ft : Bool) (cid : Int) (ak : Int) (fa va : Option Addr) (fn fc vn vc : Nat) (bs : List Bool) (vs : List ByteArray) (wd : ByteArray) (id : Int) (w : World) (hs : StrsIn w a n c ss) (hval : val.size ≤ maxLen) (hf : BoolsIn w fa fn fc bs) (hv : StrsIn w va vn vc vs) (hw : wd.size ≤ maxLen) (ha : answerB ck ss val ak bs vs wd = true) (out : ByteArray)
    (HO : ∀ W, Below w.heap.size w W → Calls Tryz.prog 252 #[.agg #[], cmdV6 ck (.slice a n c) val cw ft cid, ansV ak (.slice fa fn fc) (.slice va vn vc) wd, .int .i64 id] W fun e w' => e = .returned (.string out) ∧ Below W.heap.size W w') :
    Calls Tryz.prog 87 #[.int .i64 3, cmdV6 ck (.slice a n c) val cw ft cid, ansV ak (.slice fa fn fc) (.slice va vn vc) wd, .int .i64 id] w fun e w' => e = .returned (.tuple #[.string out, .int .i64 0]) ∧ Below w.heap.size w w' := by
  have HB2 := hide' (show ∀ x y, Below w.heap.size w ((w.alloc x).alloc y) from fun x y => ((Below.refl _ _).alloc (Nat.le_refl _) _).alloc (by simp) _)
  have HC : Hid (∀ x y, Calls Tryz.prog 123 #[cmdV6 ck (.slice a n c) val cw ft cid, ansV ak (.slice fa fn fc) (.slice va vn vc) wd] ((w.alloc x).alloc y) fun e w' => e = .returned (.bool (answerB ck ss val ak bs vs wd)) ∧ Below ((w.alloc x).alloc y).heap.size ((w.alloc x).alloc y) w') := fun x y => answer_any ck a n c ss val cw ft cid ak fa va fn fc vn vc bs vs wd _ (hs.later (HB2.out x y)) hval (hf.later (HB2.out x y)) (hv.later (HB2.out x y)) hw
  have HS : Hid (∀ W, Calls Tryz.prog 250 #[.agg #[], cmdV6 ck (.slice a n c) val cw ft cid, .int .i64 id] W fun e w' => e = .returned (.bool true) ∧ Below W.heap.size W w') := fun W => canSay3 _ id W
  rw [ha] at HC

  have HOO := hide' HO
  have hm1 := m_canSay3
  have hm2 := m_tell3
  clear hs hval hf hv hw ha HO
  unfold cmdV6 ansV at *
  go_enter Tryz.func87, Tryz.ntmps87
  go_wp2_with fail
  go_at_call 47
  refine (of3 _).mono ?_
  rintro e w' ⟨rfl, hw'⟩
  subst hw'
  go_wp2_with fail
  go_at_call 123
  refine (HC.out _ _).mono ?_
  rintro e w1 ⟨rfl, hb1⟩
  obtain ⟨hc1, hf1⟩ := bcell hb1
  have hz1 : w.heap.size + 1 < w1.heap.size := by have := hb1.size; simp at this; omega
  have hy1 : w.heap.size < w1.heap.size := by omega
  have H1 := hide' ((HB2.out _ _).trans (hb1.mono (by simp; omega)))
  clear hb1
  go_wp2_with fail
  go_at_call 250
  refine (HS.out _).mono ?_
  rintro e w2 ⟨rfl, hb2⟩
  obtain ⟨hc2, hf2⟩ := bcell hb2
  have hz2 : w.heap.size + 1 < w2.heap.size := by have := hb2.size; omega
  have hy2 : w.heap.size < w2.heap.size := by omega
  have H2 := hide' (H1.out.trans (hb2.mono H1.out.size))
  clear hb2 HC HS H1 HB2
  go_wp2_with fail
  go_at_call 252
  refine (HOO.out _ H2.out).mono ?_
  rintro e w3 ⟨rfl, hb3⟩
  have H3 := hide' (H2.out.trans (hb3.mono H2.out.size))
  clear hb3
  go_wp2
  go_ret2
  exact ⟨rfl, H3.out⟩

set_option maxRecDepth 20000 in
set_option maxHeartbeats 2000000 in
theorem tell_nosay2 (ck : Int) (a : Option Addr) (n c : Nat) (ss : List ByteArray) (val cw : ByteArray) (ft : Bool) (cid : Int) (ak : Int) (fa va : Option Addr) (fn fc vn vc : Nat) (bs : List Bool) (vs : List ByteArray) (wd : ByteArray) (id : Int) (w : World) (hs : StrsIn w a n c ss) (hval : val.size ≤ maxLen) (hf : BoolsIn w fa fn fc bs) (hv : StrsIn w va vn vc vs) (hw : wd.size ≤ maxLen) (ha : answerB ck ss val ak bs vs wd = true) (hd : frSayB ck n id = false) :
    Calls Tryz.prog 87 #[.int .i64 2, cmdV6 ck (.slice a n c) val cw ft cid, ansV ak (.slice fa fn fc) (.slice va vn vc) wd, .int .i64 id] w fun e w' => e = .returned (.tuple #[.string ⟨#[]⟩, .int .i64 1]) ∧ Below w.heap.size w w' := by
  have HB2 := hide' (show ∀ x y, Below w.heap.size w ((w.alloc x).alloc y) from fun x y => ((Below.refl _ _).alloc (Nat.le_refl _) _).alloc (by simp) _)
  have HC : Hid (∀ x y, Calls Tryz.prog 123 #[cmdV6 ck (.slice a n c) val cw ft cid, ansV ak (.slice fa fn fc) (.slice va vn vc) wd] ((w.alloc x).alloc y) fun e w' => e = .returned (.bool (answerB ck ss val ak bs vs wd)) ∧ Below ((w.alloc x).alloc y).heap.size ((w.alloc x).alloc y) w') := fun x y => answer_any ck a n c ss val cw ft cid ak fa va fn fc vn vc bs vs wd _ (hs.later (HB2.out x y)) hval (hf.later (HB2.out x y)) (hv.later (HB2.out x y)) hw
  have HS : Hid (∀ W, Calls Tryz.prog 243 #[.agg #[], cmdV6 ck (.slice a n c) val cw ft cid, .int .i64 id] W fun e w' => e = .returned (.bool (frSayB ck n id)) ∧ Below W.heap.size W w') := fun W => canSay2 ck a n c val cw ft cid id W
  rw [ha] at HC
  rw [hd] at HS
  have hm1 := m_canSay2
  clear hs hval hf hv hw ha
  unfold cmdV6 ansV at *
  go_enter Tryz.func87, Tryz.ntmps87
  go_wp2_with fail
  go_at_call 47
  refine (of2 _).mono ?_
  rintro e w' ⟨rfl, hw'⟩
  subst hw'
  go_wp2_with fail
  go_at_call 123
  refine (HC.out _ _).mono ?_
  rintro e w1 ⟨rfl, hb1⟩
  obtain ⟨hc1, hf1⟩ := bcell hb1
  have hz1 : w.heap.size + 1 < w1.heap.size := by have := hb1.size; simp at this; omega
  have hy1 : w.heap.size < w1.heap.size := by omega
  have H1 := hide' ((HB2.out _ _).trans (hb1.mono (by simp; omega)))
  clear hb1
  go_wp2_with fail
  go_at_call 243
  refine (HS.out _).mono ?_
  rintro e w2 ⟨rfl, hb2⟩
  obtain ⟨hc2, hf2⟩ := bcell hb2
  have hz2 : w.heap.size + 1 < w2.heap.size := by have := hb2.size; omega
  have hy2 : w.heap.size < w2.heap.size := by omega
  have H2 := hide' (H1.out.trans (hb2.mono H1.out.size))
  clear hb2 HC HS H1 HB2
  go_wp2
  go_ret2
  exact ⟨rfl, H2.out⟩

set_option maxRecDepth 20000 in
set_option maxHeartbeats 2000000 in
theorem tell_nodial (d ck : Int) (kv : Value) (val cw : ByteArray) (ft : Bool) (cid : Int) (ak : Int) (fv vv : Value) (wd : ByteArray) (id : Int) (w : World) (g1 : d ≠ 1) (g2 : d ≠ 2) (g3 : d ≠ 3) :
    Calls Tryz.prog 87 #[.int .i64 d, cmdV6 ck kv val cw ft cid, ansV ak fv vv wd, .int .i64 id] w fun e w' => e = .returned (.tuple #[.string ⟨#[]⟩, .int .i64 1]) ∧ Below w.heap.size w w' := by
  unfold cmdV6 ansV
  have HO := hide' (fun W => of_other d W g1 g2 g3)
  clear g1 g2 g3
  go_enter Tryz.func87, Tryz.ntmps87
  go_wp2_with fail
  go_at_call 47
  refine (HO.out _).mono ?_
  rintro e w' ⟨rfl, hw⟩
  subst hw
  go_wp2
  go_ret2
  exact ⟨rfl, ((Below.refl _ _).alloc (Nat.le_refl _) _).alloc (by simp) _⟩
end Go.Proofs.YtlonjggfnleolaaGreatDoor
