/-
  junctionkeep.Parted returns true for every argument, given that junctionkeep.words does.
-/
import Derived.Test.YtlonjggfnleolaaGreatDoorKey
namespace Go.Proofs.YtlonjggfnleolaaGreatDoor
open Go.RowKit
set_option linter.unusedVariables false

theorem owner_int (s p : Int) (sn pn : Nat) (key : ByteArray) (w : World) (hs : s = sn) (hp : p = pn) (h1 : 1 ≤ sn) (h2 : sn ≤ 4) (h3 : 1 ≤ pn) (h4 : pn ≤ 16) (hk : keyB key = true) (hl : key.size ≤ maxLen) :
    Calls Tryz.prog 23 #[.int .i64 s, .int .i64 p, .string key] w fun e w' => e = .returned (.tuple #[.int .i64 (ownerN sn pn key), .int .i64 0]) ∧ w' = w := by
  subst hs hp; exact owner_ok sn pn key w h1 h2 h3 h4 hk hl
def prevO (n p : Nat) (K : ByteArray) : Nat := if n = 1 then 0 else ownerN (n - 1) p K

set_option maxHeartbeats 1000000 in
theorem parted_any (words_any : ∀ w : World, Calls Tryz.prog 16 #[] w fun e w' => e = .returned (.bool true) ∧ Below w.heap.size w w')
    (a0 : Int) (a1 : Int) (a2 : Int) (w0 : (Lit.int .i64 a0).wf = true) (w1 : (Lit.int .i64 a1).wf = true) (w2 : (Lit.int .i64 a2).wf = true) (w : World) :
    Calls Tryz.prog 8 #[.int .i64 a0, .int .i64 a1, .int .i64 a2] w fun e w' => e = .returned (.bool true) ∧ Below w.heap.size w w' := by
  have HW : Hid (∀ w : World, Calls Tryz.prog 16 #[] w fun e w' => e = .returned (.bool true) ∧ Below w.heap.size w w') := words_any
  clear words_any
  have hp := pickN_lt a0 16 (by omega)
  have hc := pickN_lt a1 4 (by omega)
  have hr := pickN_lt a2 6 (by omega)
  have hkey := keyS_ok (pickN a1 4) hc (pickN a2 6) hr
  obtain ⟨hkb, hks⟩ := hkey
  have HKB : Hid (keyB (keyS (pickN a1 4) (pickN a2 6)) = true) := hkb
  clear hkb
  have hkm : (keyS (pickN a1 4) (pickN a2 6)).size ≤ maxLen := by unfold maxLen; omega
  go_enter Tryz.func8, Tryz.ntmps8
  go_wp2_with fail
  go_at_call 16
  refine (HW.out _).mono ?_
  rintro e wa ⟨rfl, hb1⟩
  go_wp2_with fail
  go_at_call 17
  refine (pick_any a0 16 _ w0 (by omega) (by omega)).mono ?_
  rintro e wb ⟨rfl, hwb⟩
  subst hwb
  go_wp2_with fail
  go_at_call 17
  refine (pick_any a1 4 _ w1 (by omega) (by omega)).mono ?_
  rintro e wb ⟨rfl, hwb⟩
  subst hwb
  go_wp2_with fail
  go_at_call 22
  refine (jkey_any (pickN a1 4) a2 _ w2 hc).mono ?_
  rintro e wc ⟨rfl, hb2⟩
  generalize keyS (pickN a1 4) (pickN a2 6) = K at *
  generalize hP : pickN a0 16 = P at *
  go_wp2
  go_loop [10, 11] (fun l i => ∃ n : Nat, 1 ≤ n ∧ n ≤ 5 ∧ i = .int .i64 n ∧ l = .int .i64 (prevO n (P + 1) K)) (fun _ i => 5 - (intOf i).toNat)
  case atStart => exact ⟨1, by omega, by omega, rfl, rfl⟩
  case round =>
    obtain ⟨n, hn1, hn5, rfl, rfl⟩ := hrel
    by_cases hlt : n ≤ 4
    · have hO1 := ownerN_lt n (P + 1) K hn1
      have hO2 : n = 1 ∨ (1 < n ∧ (ownerN n (P + 1) K = prevO n (P + 1) K ∨ ownerN n (P + 1) K = n - 1)) := by
        by_cases h1 : n = 1
        · exact .inl h1
        · refine .inr ⟨by omega, ?_⟩
          have h2 := ownerN_succ (n - 1) (P + 1) K
          rw [show n - 1 + 1 = n by omega] at h2
          simpa [prevO, h1] using h2
      have HN : Hid (prevO (n + 1) (P + 1) K = ownerN n (P + 1) K) := by
        show _ = _
        have : ¬ n + 1 = 1 := by omega
        rw [prevO, if_neg this, Nat.add_sub_cancel]
      generalize prevO n (P + 1) K = L at *
      have HC := fun w => owner_int (n : Int) (1 + (P : Int)) n (P + 1) K w rfl (by omega) hn1 hlt (by omega) (by omega) HKB.out hkm
      generalize ownerN n (P + 1) K = O at *
      have HD : Hid (∀ (w : World), Calls Tryz.prog 23 #[Value.int IntKind.i64 ↑n, Value.int IntKind.i64 (1 + ↑P), Value.string K] w fun e w' => e = Ending.returned (Value.tuple #[Value.int IntKind.i64 ↑O, Value.int IntKind.i64 0]) ∧ w' = w) := HC
      clear HC
      have g1 : ¬ (O : Int) < 0 := by omega
      have g2 : (O : Int) < n := by omega
      have hO3 : n = 1 ∨ (1 < n ∧ O = L) ∨ (1 < n ∧ O ≠ L ∧ O = n - 1) := by omega
      clear hO2
      rcases hO3 with h1 | ⟨h1, h2⟩ | ⟨h1, h4, h2⟩
      · subst h1
        go_wp2_with fail
        go_at_call 23
        refine (HD.out _).mono ?_
        rintro e wd ⟨rfl, hwd⟩
        subst hwd
        go_wp2_with fail
        go_at_call 23
        refine (HD.out _).mono ?_
        rintro e wd ⟨rfl, hwd⟩
        subst hwd
        go_wp2
        go_round
        case rel => exact ⟨2, by omega, by omega, rfl, by rw [HN.out]⟩
        case measure => simp [intOf]
      · subst h2
        go_wp2_with fail
        go_at_call 23
        refine (HD.out _).mono ?_
        rintro e wd ⟨rfl, hwd⟩
        subst hwd
        go_wp2_with fail
        go_at_call 23
        refine (HD.out _).mono ?_
        rintro e wd ⟨rfl, hwd⟩
        subst hwd
        go_wp2
        go_round
        case rel => exact ⟨n + 1, by omega, by omega, by go_num, by rw [HN.out]⟩
        case measure => simp [intOf]; omega
      · have h3 : ((O : Int) != (n : Int) - 1) = false := by
          have : (O : Int) = (n : Int) - 1 := by omega
          simp [this]
        have h5 : ((O : Int) != (L : Int)) = true := by
          rw [bne_iff_ne]; omega
        clear h2 h4
        go_wp2_with fail
        go_at_call 23
        refine (HD.out _).mono ?_
        rintro e wd ⟨rfl, hwd⟩
        subst hwd
        go_wp2_with fail
        go_at_call 23
        refine (HD.out _).mono ?_
        rintro e wd ⟨rfl, hwd⟩
        subst hwd
        go_wp2
        go_round
        case rel => exact ⟨n + 1, by omega, by omega, by go_num, by rw [HN.out]⟩
        case measure => simp [intOf]; omega
    · go_wp2
      go_ret
      exact ⟨rfl, hb1.trans (hb2.mono hb1.size)⟩
end Go.Proofs.YtlonjggfnleolaaGreatDoor
