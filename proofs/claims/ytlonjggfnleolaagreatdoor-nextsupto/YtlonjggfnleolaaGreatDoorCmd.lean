/-
  What check.keys and check.Value answer, for every list of texts in memory.
-/
import Derived.Test.YtlonjggfnleolaaGreatDoorBase

namespace Go.Proofs.YtlonjggfnleolaaGreatDoor
open Go.RowKit
set_option linter.unusedVariables false

/-- A list of texts in memory. -/
structure StrsAt (w : World) (v : Value) (ss : List ByteArray) : Prop where
  form : (∃ b o c, v = .slice (some ⟨b, o, none⟩) ss.length c ∧ b < w.heap.size ∧ ∀ (i : Nat) (s : ByteArray), ss[i]? = some s → w.cell? ⟨b, o + i, none⟩ = some (.string s)) ∨ (∃ a, v = .slice a 0 0 ∧ ss = [])
  small : ss.length ≤ 140737488355328
  sizes : ∀ s ∈ ss, s.size ≤ maxLen

def keysB (ss : List ByteArray) (most : Int) : Bool := withinB 1 ss.length most && ss.all keyB
theorem keysB_f1 {ss : List ByteArray} {most : Int} (h : withinB 1 ss.length most = false) : keysB ss most = false := by simp only [keysB, h, Bool.false_and]
theorem keysB_f2 {ss : List ByteArray} {most : Int} {k : Nat} {s : ByteArray} (h : ss[k]? = some s) (hf : keyB s = false) : keysB ss most = false := by
  have : ss.all keyB = false := by
    rw [List.all_eq_false]; exact ⟨s, List.mem_of_getElem? h, by simp [hf]⟩
  simp only [keysB, this, Bool.and_false]
theorem keysB_t {ss : List ByteArray} {most : Int} (h : withinB 1 ss.length most = true) (h2 : (ss.take ss.length).all keyB = true) : keysB ss most = true := by
  rw [List.take_length] at h2
  simp only [keysB, h, h2, Bool.and_self]

set_option maxHeartbeats 1000000 in
theorem keys_any (v : Value) (ss : List ByteArray) (most : Int) (w : World) (h : StrsAt w v ss) :
    Calls Tryz.prog 75 #[v, .int .i64 most] w fun e w' => e = .returned (.bool (keysB ss most)) ∧ w' = w := by
  obtain ⟨hf, sm, hsz⟩ := h
  have HSZ : Hid (∀ s ∈ ss, s.size ≤ maxLen) := hsz
  clear hsz
  cases h1 : withinB 1 ss.length most with
  | false =>
    have HK : Hid (keysB ss most = false) := keysB_f1 h1
    rcases hf with ⟨b, o, c, rfl, _, hc⟩ | ⟨a, rfl, rfl⟩
    · clear hc
      go_enter Tryz.func75, Tryz.ntmps75
      go_wp2_with (go_at_call 77; refine (within_any _ _ _ _).mono ?_; rintro e w' ⟨rfl, rfl⟩)
      go_ret
      exact ⟨ret_bool HK.out.symm, rfl⟩
    · go_enter Tryz.func75, Tryz.ntmps75
      have h1' : withinB 1 0 most = false := h1
      go_wp2_with (go_at_call 77; refine (within_any _ _ _ _).mono ?_; rintro e w' ⟨rfl, rfl⟩)
      go_ret
      exact ⟨ret_bool HK.out.symm, rfl⟩
  | true =>
    rcases hf with ⟨b, o, c, rfl, _, hc⟩ | ⟨a, rfl, rfl⟩
    · have HC : Hid (∀ (i : Nat) (s : ByteArray), ss[i]? = some s → w.cell? ⟨b, o + i, none⟩ = some (.string s)) := hc
      clear hc
      have HT : Hid ((ss.take ss.length).all keyB = true → keysB ss most = true) := keysB_t h1
      have HF : Hid (∀ k s, ss[k]? = some s → keyB s = false → keysB ss most = false) := fun k s a b => keysB_f2 a b
      generalize hK : keysB ss most = KK at *
      clear hK
      generalize hn : ss.length = n at *
      have HN : Hid (ss.length = n) := hn
      clear hn
      go_enter Tryz.func75, Tryz.ntmps75
      go_wp2_with (go_at_call 77; refine (within_any _ _ _ _).mono ?_; rintro e w' ⟨rfl, rfl⟩)
      go_loop [14] (fun i => ∃ k : Nat, k ≤ n ∧ i = .int .i64 k ∧ Hid ((ss.take k).all keyB = true)) (fun i => n - (intOf i).toNat)
      case atStart => exact ⟨0, Nat.zero_le _, rfl, (by show _ = _; simp)⟩
      case round =>
        obtain ⟨k, hk, rfl, hall⟩ := hrel
        by_cases hlt : k < n
        · obtain ⟨s, hs⟩ : ∃ s, ss[k]? = some s := ⟨ss[k]'(by rw [HN.out]; exact hlt), List.getElem?_eq_getElem _⟩
          have hcell := HC.out k s hs
          have hm := HSZ.out s (List.mem_of_getElem? hs)
          have HS : Hid (ss[k]? = some s) := hs
          clear hs
          cases hb : keyB s with
          | true =>
            go_wp2_with (go_at_call 50; refine (key_any _ _ hm).mono ?_; rintro e w' ⟨rfl, rfl⟩)
            go_round
            case rel =>
              refine ⟨k + 1, by omega, by go_num, ?_⟩
              show _ = _
              rw [List.take_add_one, HS.out, List.all_append, hall.out]; simp [hb]
            case measure => simp [intOf]; omega
          | false =>
            go_wp2_with (go_at_call 50; refine (key_any _ _ hm).mono ?_; rintro e w' ⟨rfl, rfl⟩)
            go_ret
            exact ⟨ret_bool (HF.out k s HS.out hb).symm, rfl⟩
        · have : k = n := by omega
          subst this
          go_wp2
          go_ret
          exact ⟨ret_bool (HT.out hall.out).symm, rfl⟩
    · exfalso
      simp [withinB] at h1

set_option maxHeartbeats 400000 in
theorem value_any (s : ByteArray) (w : World) (hs : s.size ≤ maxLen) :
    Calls Tryz.prog 76 #[.string s] w fun e w' => e = .returned (.bool (decide ((s.size : Int) ≤ 40))) ∧ w' = w := by
  unfold maxLen at hs
  go_enter Tryz.func76, Tryz.ntmps76
  go_wp2
  go_ret
  exact ⟨rfl, rfl⟩
end Go.Proofs.YtlonjggfnleolaaGreatDoor


/-
  What check.Command answers, for every command whose keys lie in memory.
-/

namespace Go.Proofs.YtlonjggfnleolaaGreatDoor
open Go.RowKit
set_option linter.unusedVariables false

theorem StrsAt.later {w w' : World} {v : Value} {ss : List ByteArray} (h : StrsAt w v ss) (hb : Below w.heap.size w w') : StrsAt w' v ss := by
  obtain ⟨hf, sm, hsz⟩ := h
  refine ⟨?_, sm, hsz⟩
  rcases hf with ⟨b, o, c, rfl, hlt, hc⟩ | ⟨a, rfl, rfl⟩
  · exact .inl ⟨b, o, c, rfl, Nat.lt_of_lt_of_le hlt hb.size, fun i s hs => (hb.cell (p := ⟨b, o + i, none⟩) hlt).trans (hc i s hs)⟩
  · exact .inr ⟨a, rfl, rfl⟩


set_option maxHeartbeats 1000000 in
theorem cmd_get (v : Value) (ss : List ByteArray) (val wd : ByteArray) (ft : Bool) (id : Int) (w : World) (h : StrsAt w v ss) (hv : val.size ≤ maxLen) :
    Calls Tryz.prog 48 #[.agg #[.int .i64 1, v, .string val, .string wd, .bool ft, .int .i64 id]] w fun e w' => e = .returned (.bool (keysB ss 4 && val.toList.isEmpty)) ∧ Below w.heap.size w w' := by
  cases h1 : keysB ss 4 with
  | true =>
    go_enter Tryz.func48, Tryz.ntmps48
    go_wp2_with (first | (go_at_call 75; refine (keys_any v ss _ _ (h.later ((Below.refl _ _).alloc (Nat.le_refl _) _))).mono ?_; rintro e w' ⟨rfl, rfl⟩) | (go_at_call 76; refine (value_any _ _ hv).mono ?_; rintro e w' ⟨rfl, rfl⟩))
    go_ret
    exact ⟨ret_bool (Bool.true_and _).symm, ((Below.refl _ _).alloc (Nat.le_refl _) _)⟩
  | false =>
    go_enter Tryz.func48, Tryz.ntmps48
    go_wp2_with (first | (go_at_call 75; refine (keys_any v ss _ _ (h.later ((Below.refl _ _).alloc (Nat.le_refl _) _))).mono ?_; rintro e w' ⟨rfl, rfl⟩) | (go_at_call 76; refine (value_any _ _ hv).mono ?_; rintro e w' ⟨rfl, rfl⟩))
    go_ret
    exact ⟨ret_bool rfl, ((Below.refl _ _).alloc (Nat.le_refl _) _)⟩

set_option maxHeartbeats 1000000 in
theorem cmd_set (v : Value) (ss : List ByteArray) (val wd : ByteArray) (ft : Bool) (id : Int) (w : World) (h : StrsAt w v ss) (hv : val.size ≤ maxLen) :
    Calls Tryz.prog 48 #[.agg #[.int .i64 2, v, .string val, .string wd, .bool ft, .int .i64 id]] w fun e w' => e = .returned (.bool (keysB ss 1 && decide ((val.size : Int) ≤ 40))) ∧ Below w.heap.size w w' := by
  cases h1 : keysB ss 1 with
  | true =>
    go_enter Tryz.func48, Tryz.ntmps48
    go_wp2_with (first | (go_at_call 75; refine (keys_any v ss _ _ (h.later ((Below.refl _ _).alloc (Nat.le_refl _) _))).mono ?_; rintro e w' ⟨rfl, rfl⟩) | (go_at_call 76; refine (value_any _ _ hv).mono ?_; rintro e w' ⟨rfl, rfl⟩))
    go_ret
    exact ⟨ret_bool (Bool.true_and _).symm, ((Below.refl _ _).alloc (Nat.le_refl _) _)⟩
  | false =>
    go_enter Tryz.func48, Tryz.ntmps48
    go_wp2_with (first | (go_at_call 75; refine (keys_any v ss _ _ (h.later ((Below.refl _ _).alloc (Nat.le_refl _) _))).mono ?_; rintro e w' ⟨rfl, rfl⟩) | (go_at_call 76; refine (value_any _ _ hv).mono ?_; rintro e w' ⟨rfl, rfl⟩))
    go_ret
    exact ⟨ret_bool rfl, ((Below.refl _ _).alloc (Nat.le_refl _) _)⟩

set_option maxHeartbeats 1000000 in
theorem cmd_del (v : Value) (ss : List ByteArray) (val wd : ByteArray) (ft : Bool) (id : Int) (w : World) (h : StrsAt w v ss) (hv : val.size ≤ maxLen) :
    Calls Tryz.prog 48 #[.agg #[.int .i64 3, v, .string val, .string wd, .bool ft, .int .i64 id]] w fun e w' => e = .returned (.bool (keysB ss 1 && val.toList.isEmpty)) ∧ Below w.heap.size w w' := by
  cases h1 : keysB ss 1 with
  | true =>
    go_enter Tryz.func48, Tryz.ntmps48
    go_wp2_with (first | (go_at_call 75; refine (keys_any v ss _ _ (h.later ((Below.refl _ _).alloc (Nat.le_refl _) _))).mono ?_; rintro e w' ⟨rfl, rfl⟩) | (go_at_call 76; refine (value_any _ _ hv).mono ?_; rintro e w' ⟨rfl, rfl⟩))
    go_ret
    exact ⟨ret_bool (Bool.true_and _).symm, ((Below.refl _ _).alloc (Nat.le_refl _) _)⟩
  | false =>
    go_enter Tryz.func48, Tryz.ntmps48
    go_wp2_with (first | (go_at_call 75; refine (keys_any v ss _ _ (h.later ((Below.refl _ _).alloc (Nat.le_refl _) _))).mono ?_; rintro e w' ⟨rfl, rfl⟩) | (go_at_call 76; refine (value_any _ _ hv).mono ?_; rintro e w' ⟨rfl, rfl⟩))
    go_ret
    exact ⟨ret_bool rfl, ((Below.refl _ _).alloc (Nat.le_refl _) _)⟩

set_option maxHeartbeats 1000000 in
theorem cmd_other (k : Int) (v : Value) (val wd : ByteArray) (ft : Bool) (id : Int) (w : World) (k1 : k ≠ 1) (k2 : k ≠ 2) (k3 : k ≠ 3) :
    Calls Tryz.prog 48 #[.agg #[.int .i64 k, v, .string val, .string wd, .bool ft, .int .i64 id]] w fun e w' => e = .returned (.bool false) ∧ Below w.heap.size w w' := by
  have g1 : (k == 1) = false := by simpa using k1
  have g2 : (k == 2) = false := by simpa using k2
  have g3 : (k == 3) = false := by simpa using k3
  go_enter Tryz.func48, Tryz.ntmps48
  go_wp2
  go_ret
  exact ⟨rfl, ((Below.refl _ _).alloc (Nat.le_refl _) _)⟩
end Go.Proofs.YtlonjggfnleolaaGreatDoor
