/-
  What check.Command answers, for every command whose keys lie in memory.
-/
import Derived.Test.YtlonjggfnleolaaGreatDoorKeys
namespace Go.Proofs.YtlonjggfnleolaaGreatDoor
open Go.RowKit
set_option linter.unusedVariables false

theorem StrsAt.later {w w' : World} {v : Value} {ss : List ByteArray} (h : StrsAt w v ss) (hb : Below w.heap.size w w') : StrsAt w' v ss := by
  obtain ⟨hf, sm, hsz⟩ := h
  refine ⟨?_, sm, hsz⟩
  rcases hf with ⟨b, o, c, rfl, hlt, hc⟩ | ⟨a, rfl, rfl⟩
  · exact .inl ⟨b, o, c, rfl, Nat.lt_of_lt_of_le hlt hb.size, fun i s hs => (hb.cell (p := ⟨b, o + i, none⟩) hlt).trans (hc i s hs)⟩
  · exact .inr ⟨a, rfl, rfl⟩


set_option maxHeartbeats 1000000 in
theorem cmd_get (v : Value) (ss : List ByteArray) (val wd : ByteArray) (ft : Bool) (id : Int) (w : World) (h : StrsAt w v ss) (hv : val.size ≤ maxLen) :
    Calls Tryz.prog 48 #[.agg #[.int .i64 1, v, .string val, .string wd, .bool ft, .int .i64 id]] w fun e w' => e = .returned (.bool (keysB ss 4 && val.toList.isEmpty)) ∧ Below w.heap.size w w' := by
  cases h1 : keysB ss 4 with
  | true =>
    go_enter Tryz.func48, Tryz.ntmps48
    go_wp2_with (first | (go_at_call 75; refine (keys_any v ss _ _ (h.later ((Below.refl _ _).alloc (Nat.le_refl _) _))).mono ?_; rintro e w' ⟨rfl, rfl⟩) | (go_at_call 76; refine (value_any _ _ hv).mono ?_; rintro e w' ⟨rfl, rfl⟩))
    go_ret
    exact ⟨ret_bool (Bool.true_and _).symm, ((Below.refl _ _).alloc (Nat.le_refl _) _)⟩
  | false =>
    go_enter Tryz.func48, Tryz.ntmps48
    go_wp2_with (first | (go_at_call 75; refine (keys_any v ss _ _ (h.later ((Below.refl _ _).alloc (Nat.le_refl _) _))).mono ?_; rintro e w' ⟨rfl, rfl⟩) | (go_at_call 76; refine (value_any _ _ hv).mono ?_; rintro e w' ⟨rfl, rfl⟩))
    go_ret
    exact ⟨ret_bool rfl, ((Below.refl _ _).alloc (Nat.le_refl _) _)⟩

set_option maxHeartbeats 1000000 in
theorem cmd_set (v : Value) (ss : List ByteArray) (val wd : ByteArray) (ft : Bool) (id : Int) (w : World) (h : StrsAt w v ss) (hv : val.size ≤ maxLen) :
    Calls Tryz.prog 48 #[.agg #[.int .i64 2, v, .string val, .string wd, .bool ft, .int .i64 id]] w fun e w' => e = .returned (.bool (keysB ss 1 && decide ((val.size : Int) ≤ 40))) ∧ Below w.heap.size w w' := by
  cases h1 : keysB ss 1 with
  | true =>
    go_enter Tryz.func48, Tryz.ntmps48
    go_wp2_with (first | (go_at_call 75; refine (keys_any v ss _ _ (h.later ((Below.refl _ _).alloc (Nat.le_refl _) _))).mono ?_; rintro e w' ⟨rfl, rfl⟩) | (go_at_call 76; refine (value_any _ _ hv).mono ?_; rintro e w' ⟨rfl, rfl⟩))
    go_ret
    exact ⟨ret_bool (Bool.true_and _).symm, ((Below.refl _ _).alloc (Nat.le_refl _) _)⟩
  | false =>
    go_enter Tryz.func48, Tryz.ntmps48
    go_wp2_with (first | (go_at_call 75; refine (keys_any v ss _ _ (h.later ((Below.refl _ _).alloc (Nat.le_refl _) _))).mono ?_; rintro e w' ⟨rfl, rfl⟩) | (go_at_call 76; refine (value_any _ _ hv).mono ?_; rintro e w' ⟨rfl, rfl⟩))
    go_ret
    exact ⟨ret_bool rfl, ((Below.refl _ _).alloc (Nat.le_refl _) _)⟩

set_option maxHeartbeats 1000000 in
theorem cmd_del (v : Value) (ss : List ByteArray) (val wd : ByteArray) (ft : Bool) (id : Int) (w : World) (h : StrsAt w v ss) (hv : val.size ≤ maxLen) :
    Calls Tryz.prog 48 #[.agg #[.int .i64 3, v, .string val, .string wd, .bool ft, .int .i64 id]] w fun e w' => e = .returned (.bool (keysB ss 1 && val.toList.isEmpty)) ∧ Below w.heap.size w w' := by
  cases h1 : keysB ss 1 with
  | true =>
    go_enter Tryz.func48, Tryz.ntmps48
    go_wp2_with (first | (go_at_call 75; refine (keys_any v ss _ _ (h.later ((Below.refl _ _).alloc (Nat.le_refl _) _))).mono ?_; rintro e w' ⟨rfl, rfl⟩) | (go_at_call 76; refine (value_any _ _ hv).mono ?_; rintro e w' ⟨rfl, rfl⟩))
    go_ret
    exact ⟨ret_bool (Bool.true_and _).symm, ((Below.refl _ _).alloc (Nat.le_refl _) _)⟩
  | false =>
    go_enter Tryz.func48, Tryz.ntmps48
    go_wp2_with (first | (go_at_call 75; refine (keys_any v ss _ _ (h.later ((Below.refl _ _).alloc (Nat.le_refl _) _))).mono ?_; rintro e w' ⟨rfl, rfl⟩) | (go_at_call 76; refine (value_any _ _ hv).mono ?_; rintro e w' ⟨rfl, rfl⟩))
    go_ret
    exact ⟨ret_bool rfl, ((Below.refl _ _).alloc (Nat.le_refl _) _)⟩

set_option maxHeartbeats 1000000 in
theorem cmd_other (k : Int) (v : Value) (val wd : ByteArray) (ft : Bool) (id : Int) (w : World) (k1 : k ≠ 1) (k2 : k ≠ 2) (k3 : k ≠ 3) :
    Calls Tryz.prog 48 #[.agg #[.int .i64 k, v, .string val, .string wd, .bool ft, .int .i64 id]] w fun e w' => e = .returned (.bool false) ∧ Below w.heap.size w w' := by
  have g1 : (k == 1) = false := by simpa using k1
  have g2 : (k == 2) = false := by simpa using k2
  have g3 : (k == 3) = false := by simpa using k3
  go_enter Tryz.func48, Tryz.ntmps48
  go_wp2
  go_ret
  exact ⟨rfl, ((Below.refl _ _).alloc (Nat.le_refl _) _)⟩
end Go.Proofs.YtlonjggfnleolaaGreatDoor
