/-
  What Owner and the reference Owner answer, for every argument.
-/
import Derived.Test.YtlonjggfnleolaaGreatDoorRefOwner
import Derived.Test.YtlonjggfnleolaaGreatDoorRefKey
namespace Go.Proofs.YtlonjggfnleolaaGreatDoor
open Go.RowKit
set_option linter.unusedVariables false

/-- May there be an owner? -/
def ownOk (x y : Int) (s : ByteArray) : Prop := 1 ≤ x ∧ x ≤ 4 ∧ 1 ≤ y ∧ y ≤ 16 ∧ keyB s = true

theorem hide'' {p : Prop} (h : p) : Hid p := h
theorem ownerG_ok (x y : Int) (s : ByteArray) (w : World) (hl : s.size ≤ maxLen) (h : ownOk x y s) :
    Calls Tryz.prog 23 #[.int .i64 x, .int .i64 y, .string s] w fun e w' => e = .returned (.tuple #[.int .i64 (ownerN x.toNat y.toNat s), .int .i64 0]) ∧ w' = w := by
  obtain ⟨h1, h2, h3, h4, h5⟩ := h
  obtain ⟨a, rfl⟩ := Int.eq_ofNat_of_zero_le (show 0 ≤ x by omega)
  obtain ⟨b, rfl⟩ := Int.eq_ofNat_of_zero_le (show 0 ≤ y by omega)
  exact owner_ok a b s w (by omega) (by omega) (by omega) (by omega) h5 hl

set_option maxHeartbeats 1000000 in
theorem ownerG_no (x y : Int) (s : ByteArray) (w : World) (hl : s.size ≤ maxLen) (h : ¬ ownOk x y s) :
    Calls Tryz.prog 23 #[.int .i64 x, .int .i64 y, .string s] w fun e w' => e = .returned (.tuple #[.int .i64 0, .int .i64 1]) ∧ w' = w := by
  cases hr : ringB x y with
  | false =>
    go_enter Tryz.func23, Tryz.ntmps23
    go_wp2_with (first | (go_at_call 49; refine (ring_any _ _ _).mono ?_; rintro e w' ⟨rfl, rfl⟩) | (go_at_call 50; refine (key_any _ _ hl).mono ?_; rintro e w' ⟨rfl, rfl⟩))
    go_ret2
    exact ⟨rfl, rfl⟩
  | true =>
    have hk : keyB s = false := by
      cases hk : keyB s with
      | false => rfl
      | true =>
        exfalso
        apply h
        simp only [ringB, withinB, Bool.and_eq_true, decide_eq_true_eq] at hr
        exact ⟨hr.1.1, hr.1.2, hr.2.1, hr.2.2, hk⟩
    clear h
    go_enter Tryz.func23, Tryz.ntmps23
    go_wp2_with (first | (go_at_call 49; refine (ring_any _ _ _).mono ?_; rintro e w' ⟨rfl, rfl⟩) | (go_at_call 50; refine (key_any _ _ hl).mono ?_; rintro e w' ⟨rfl, rfl⟩))
    go_ret2
    exact ⟨rfl, rfl⟩

set_option maxHeartbeats 1000000 in
theorem refOwnerG_ok (x y : Int) (s : ByteArray) (w : World) (hl : s.size ≤ maxLen) (h : ownOk x y s) :
    Calls Tryz.prog 98 #[.int .i64 x, .int .i64 y, .string s] w fun e w' => e = .returned (.tuple #[.int .i64 (ownerN x.toNat y.toNat s), .int .i64 0]) ∧ ∃ q, w' = w.drewN q := by
  obtain ⟨h1, h2, h3, h4, h5⟩ := h
  obtain ⟨a, rfl⟩ := Int.eq_ofNat_of_zero_le (show 0 ≤ x by omega)
  obtain ⟨b, rfl⟩ := Int.eq_ofNat_of_zero_le (show 0 ≤ y by omega)
  have g1 : ¬ (a : Int) < 1 := by omega
  have g2 : ¬ 4 < (a : Int) := by omega
  have g3 : ¬ (b : Int) < 1 := by omega
  have g4 : ¬ 16 < (b : Int) := by omega
  have e1 : ((a : Int)).toNat = a := by omega
  have e2 : ((b : Int)).toNat = b := by omega
  rw [e1, e2]
  have HO := hide'' (refowner_any a b s w (by omega) (by omega) (by omega) (by omega) hl)
  clear e1 e2 h1 h2 h3 h4
  go_enter Tryz.func98, Tryz.ntmps98
  go_wp2_with (first | (go_at_call 137; refine (refkey_any _ _ hl).mono ?_; rintro e w' ⟨rfl, rfl⟩) | (go_at_call 138; refine HO.out.mono ?_; rintro e w' ⟨rfl, q, rfl⟩))
  go_ret2
  exact ⟨rfl, _, rfl⟩

set_option maxHeartbeats 2000000 in
theorem refOwnerG_no (x y : Int) (s : ByteArray) (w : World) (hl : s.size ≤ maxLen) (h : ¬ ownOk x y s) :
    Calls Tryz.prog 98 #[.int .i64 x, .int .i64 y, .string s] w fun e w' => e = .returned (.tuple #[.int .i64 0, .int .i64 1]) ∧ w' = w := by
  cases hk : keyB s with
  | false =>
    clear h
    go_enter Tryz.func98, Tryz.ntmps98
    go_wp2_with (go_at_call 137; refine (refkey_any _ _ hl).mono ?_; rintro e w' ⟨rfl, rfl⟩)
    all_goals (go_ret2; exact ⟨rfl, rfl⟩)
  | true =>
    have h' : x < 1 ∨ (1 ≤ x ∧ 4 < x) ∨ (1 ≤ x ∧ x ≤ 4 ∧ y < 1) ∨ (1 ≤ x ∧ x ≤ 4 ∧ 1 ≤ y ∧ 16 < y) := by
      unfold ownOk at h
      simp only [hk, and_true] at h
      omega
    clear h
    rcases h' with h | ⟨h, h1⟩ | ⟨h, h1, h2⟩ | ⟨h, h1, h2, h3⟩
    all_goals
      go_enter Tryz.func98, Tryz.ntmps98
      go_wp2_with (go_at_call 137; refine (refkey_any _ _ hl).mono ?_; rintro e w' ⟨rfl, rfl⟩)
      all_goals (go_ret2; exact ⟨rfl, rfl⟩)
end Go.Proofs.YtlonjggfnleolaaGreatDoor
