/-
  What the reference Key answers: the same as check.Key.
-/
import Derived.Test.YtlonjggfnleolaaGreatDoorBase
namespace Go.Proofs.YtlonjggfnleolaaGreatDoor
open Go.RowKit
set_option linter.unusedVariables false

theorem ldB_cases (b : UInt8) : (ldB b = true ∧ ((97 ≤ (b.toNat : Int) ∧ (b.toNat : Int) ≤ 122) ∨ (48 ≤ (b.toNat : Int) ∧ (b.toNat : Int) ≤ 57))) ∨ (ldB b = false ∧ ((b.toNat : Int) < 48 ∨ (57 < (b.toNat : Int) ∧ (b.toNat : Int) < 97) ∨ 122 < (b.toNat : Int))) := by
  unfold ldB letB digB
  by_cases h1 : 97 ≤ (b.toNat : Int) <;> by_cases h2 : (b.toNat : Int) ≤ 122 <;> by_cases h3 : 48 ≤ (b.toNat : Int) <;> by_cases h4 : (b.toNat : Int) ≤ 57 <;> simp [h1, h2, h3, h4] <;> omega

theorem keyB_false {s : ByteArray} {k : Nat} (h : k < s.size) (hf : ldB s[k] = false) : keyB s = false := by
  simp only [keyB, allLd, all_at h hf, Bool.and_false]
theorem keyB_rest {s : ByteArray} (h : (s.data.toList.take s.size).all ldB = true) : keyB s = withinB 1 s.size 8 := by
  have : allLd s = true := by rw [allLd, ← h, List.take_of_length_le (by simp)]
  simp only [keyB, this, Bool.and_true]

set_option maxHeartbeats 2000000 in
theorem refkey_any (s : ByteArray) (w : World) (hs : s.size ≤ maxLen) :
    Calls Tryz.prog 137 #[.string s] w fun e w' => e = .returned (.bool (keyB s)) ∧ w' = w := by
  unfold maxLen at hs
  have HF : Hid (∀ k (h : k < s.size), ldB s[k] = false → keyB s = false) := fun k h hf => keyB_false h hf
  have HT : Hid ((s.data.toList.take s.size).all ldB = true → keyB s = withinB 1 s.size 8) := keyB_rest
  generalize hKK : keyB s = KK at *
  clear hKK
  go_enter Tryz.func137, Tryz.ntmps137
  go_wp2
  go_loop [3] (fun i => ∃ k : Nat, k ≤ s.size ∧ i = .int .i64 k ∧ Hid ((s.data.toList.take k).all ldB = true)) (fun i => s.size - (intOf i).toNat)
  case atStart => exact ⟨0, Nat.zero_le _, rfl, (by show _ = _; simp)⟩
  case round =>
    obtain ⟨k, hk, rfl, hall⟩ := hrel
    by_cases hlt : k < s.size
    · rcases ldB_cases s[k] with ⟨hb, h | h⟩ | ⟨hb, h | h | h⟩
      · have HN : Hid ((s.data.toList.take (k + 1)).all ldB = true) := by show _ = _; rw [take_snoc s k hlt, List.all_append, hall.out]; simp [hb]
        obtain ⟨h1, h2⟩ := h
        clear hb
        go_wp2
        all_goals go_round
        all_goals first | exact ⟨k + 1, by omega, by go_num, HN⟩ | (simp [intOf]; omega)
      · have HN : Hid ((s.data.toList.take (k + 1)).all ldB = true) := by show _ = _; rw [take_snoc s k hlt, List.all_append, hall.out]; simp [hb]
        obtain ⟨h1, h2⟩ := h
        clear hb
        go_wp2
        all_goals go_round
        all_goals first | exact ⟨k + 1, by omega, by go_num, HN⟩ | (simp [intOf]; omega)
      · have HH := HF.out k hlt hb
        have H2 : Hid (KK = false) := HH
        clear hb HH
        go_wp2
        all_goals (go_ret; exact ⟨ret_bool H2.out.symm, rfl⟩)
      · have HH := HF.out k hlt hb
        have H2 : Hid (KK = false) := HH
        obtain ⟨h1, h2⟩ := h
        clear hb HH
        go_wp2
        all_goals (go_ret; exact ⟨ret_bool H2.out.symm, rfl⟩)
      · have HH := HF.out k hlt hb
        have H2 : Hid (KK = false) := HH
        clear hb HH
        go_wp2
        all_goals (go_ret; exact ⟨ret_bool H2.out.symm, rfl⟩)
    · have hk2 : k = s.size := by omega
      subst hk2
      have HH : Hid (KK = withinB 1 s.size 8) := HT.out hall.out
      by_cases h1 : 1 ≤ s.size
      · go_wp2
        go_ret
        refine ⟨ret_bool ?_, rfl⟩
        rw [HH.out]
        unfold withinB
        simp; omega
      · go_wp2
        go_ret
        refine ⟨ret_bool ?_, rfl⟩
        rw [HH.out]
        unfold withinB
        simp; omega
end Go.Proofs.YtlonjggfnleolaaGreatDoor
