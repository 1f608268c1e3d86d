/-
  What the reference owner answers: the same as ring.Owner.
-/
import Derived.Test.YtlonjggfnleolaaGreatDoorHash
namespace Go.Proofs.YtlonjggfnleolaaGreatDoor
open Go.RowKit
set_option linter.unusedVariables false

/-- The reference's four variables beside the program's two. -/
def RInv (h : Int) (x : Nat × Int) (b a l v : Int) : Prop :=
  0 ≤ l ∧ -1 ≤ b ∧ (0 ≤ b → (x.1 : Int) = b ∧ x.2 = a - h ∧ h ≤ a ∧ a < 4294967296) ∧ (b < 0 → (x.1 : Int) = l ∧ x.2 = v - h + 4294967296 ∧ 0 ≤ v ∧ v < h)
def RSt (h : Int) (first : Prop) (x : Nat × Int) (b a l v : Int) : Prop :=
  (first ∧ b = -1 ∧ l = -1 ∧ x = (0, awayN h 0 0)) ∨ (¬ first ∧ RInv h x b a l v)

theorem away_cases (h : Int) (s p : Nat) (h1 : 0 ≤ h) (h2 : h < 4294967296) :
    (h ≤ num (pt s p).data.toList ∧ awayN h s p = num (pt s p).data.toList - h) ∨ (num (pt s p).data.toList < h ∧ awayN h s p = num (pt s p).data.toList - h + 4294967296) := by
  have := num_bd (pt s p).data.toList
  unfold awayN
  omega

/-- One point more: the two go on side by side. -/
theorem rstep {h : Int} {x : Nat × Int} {b a l v : Int} (s p : Nat) (first : Prop) (h1 : 0 ≤ h) (h2 : h < 4294967296) (hf : first → s = 0 ∧ p = 0) (R : RSt h first x b a l v) (b' a' l' v' : Int)
    (hb : (h ≤ num (pt s p).data.toList ∧ (b < 0 ∨ num (pt s p).data.toList < a) ∧ b' = s ∧ a' = num (pt s p).data.toList) ∨ (¬ (h ≤ num (pt s p).data.toList ∧ (b < 0 ∨ num (pt s p).data.toList < a)) ∧ b' = b ∧ a' = a))
    (hl : ((l < 0 ∨ num (pt s p).data.toList < v) ∧ l' = s ∧ v' = num (pt s p).data.toList) ∨ (¬ (l < 0 ∨ num (pt s p).data.toList < v) ∧ l' = l ∧ v' = v)) :
    RInv h (stepO h s p x) b' a' l' v' := by
  have hn := num_bd (pt s p).data.toList
  have ha := away_cases h s p h1 h2
  rcases R with ⟨f, rfl, rfl, rfl⟩ | ⟨f, r1, r2, r3, r4⟩
  · obtain ⟨rfl, rfl⟩ := hf f
    have hs : stepO h 0 0 (0, awayN h 0 0) = (0, awayN h 0 0) := by unfold stepO; rw [if_neg (by simp)]
    rw [hs]
    unfold RInv
    simp only
    generalize num (pt 0 0).data.toList = n at *
    generalize awayN h 0 0 = d at *
    refine ⟨?_, ?_, ?_, ?_⟩ <;> omega
  · unfold RInv stepO
    generalize num (pt s p).data.toList = n at *
    generalize awayN h s p = d at *
    split
    · simp only
      refine ⟨?_, ?_, ?_, ?_⟩ <;> omega
    · refine ⟨?_, ?_, ?_, ?_⟩ <;> omega

theorem RSt.out {h : Int} {x : Nat × Int} {b a l v : Int} {first : Prop} (R : RSt h first x b a l v) (hf : ¬ first) : RInv h x b a l v := by
  rcases R with ⟨f, _⟩ | ⟨_, r⟩
  · exact absurd f hf
  · exact r

set_option maxRecDepth 20000 in
set_option maxHeartbeats 4000000 in
theorem refowner_any (S P : Nat) (key : ByteArray) (w : World) (hS : 1 ≤ S) (hS4 : S ≤ 4) (hP : 1 ≤ P) (hP2 : P ≤ 16) (hk : key.size ≤ maxLen) :
    Calls Tryz.prog 138 #[.int .i64 S, .int .i64 P, .string key] w fun e w' => e = .returned (.int .i64 (ownerN S P key)) ∧ ∃ q, w' = w.drewN q := by
  have hb := num_bd key.data.toList
  obtain ⟨hb1, hb2⟩ := hb
  have HO : Hid (ownerN S P key = (outerO (num key.data.toList) P S).1) := by show _ = _; rfl
  go_enter Tryz.func138, Tryz.ntmps138
  go_wp2_with fail
  go_at_call 164
  refine (hash_any key _ hk).mono ?_
  rintro e w' ⟨rfl, rfl⟩
  generalize num key.data.toList = fr at *
  go_wp2
  go_loopw [8, 9, 10, 11, 12] (fun sb sa sl sv i wr => ∃ k : Nat, k ≤ S ∧ i = .int .i64 k ∧ (∃ q, wr = w'.drewN q) ∧ ∃ b a l v : Int, sb = .int .i64 b ∧ sa = .int .i64 a ∧ sl = .int .i64 l ∧ sv = .int .i64 v ∧ RSt fr (k = 0) (outerO fr P k) b a l v) (fun _ _ _ _ i _ => S - (intOf i).toNat)
  case atStart => exact ⟨0, Nat.zero_le _, rfl, ⟨0, rfl⟩, -1, 0, -1, 0, rfl, rfl, rfl, rfl, .inl ⟨rfl, rfl, rfl, rfl⟩⟩
  case round =>
    obtain ⟨k, hk1, rfl, ⟨q, rfl⟩, b, a, l, v, rfl, rfl, rfl, rfl, HR⟩ := hrel
    by_cases hlt : k < S
    · generalize hx : outerO fr P k = x at *
      have HX : Hid (outerO fr P k = x) := hx
      clear hx
      have HR' : Hid (RSt fr (k = 0 ∧ (0 : Nat) = 0) (innerO fr k x 0) b a l v) := by
        show RSt fr (k = 0 ∧ (0 : Nat) = 0) x b a l v
        simpa using HR
      clear HR
      go_wp2
      go_loopw [8, 9, 10, 11, 13] (fun sb sa sl sv i wr => ∃ j : Nat, j ≤ P ∧ i = .int .i64 j ∧ (∃ q, wr = w'.drewN q) ∧ ∃ b a l v : Int, sb = .int .i64 b ∧ sa = .int .i64 a ∧ sl = .int .i64 l ∧ sv = .int .i64 v ∧ Hid (RSt fr (k = 0 ∧ j = 0) (innerO fr k x j) b a l v)) (fun _ _ _ _ i _ => P - (intOf i).toNat)
      case atStart => exact ⟨0, Nat.zero_le _, rfl, ⟨_, rfl⟩, b, a, l, v, rfl, rfl, rfl, rfl, (by have h0 := HR'.out; show RSt _ _ _ _ _ _ _; simpa using h0)⟩
      case round =>
        obtain ⟨j, hj1, rfl, ⟨q2, rfl⟩, b, a, l, v, rfl, rfl, rfl, rfl, HR2⟩ := hrel
        by_cases hjt : j < P
        · have hz := pt_size k j
          have hz2 : (pt k j).size ≤ maxLen := by unfold maxLen; omega
          have d1 := dec100_size k
          have d2 := dec100_size j
          have hn := num_bd (pt k j).data.toList
          obtain ⟨hn1, hn2⟩ := hn
          have HS := fun b' a' l' v' hb hl => rstep k j (k = 0 ∧ j = 0) hb1 hb2 (fun f => f) HR2.out b' a' l' v' hb hl
          have HS2 : Hid (∀ b' a' l' v' : Int, ((fr ≤ num (pt k j).data.toList ∧ (b < 0 ∨ num (pt k j).data.toList < a) ∧ b' = k ∧ a' = num (pt k j).data.toList) ∨ (¬ (fr ≤ num (pt k j).data.toList ∧ (b < 0 ∨ num (pt k j).data.toList < a)) ∧ b' = b ∧ a' = a)) → (((l < 0 ∨ num (pt k j).data.toList < v) ∧ l' = k ∧ v' = num (pt k j).data.toList) ∨ (¬ (l < 0 ∨ num (pt k j).data.toList < v) ∧ l' = l ∧ v' = v)) → RInv fr (innerO fr k x (j + 1)) b' a' l' v') := HS
          clear HS HR2
          go_wp2_with fail
          go_at_call 142
          refine (decimal_any k _ (by omega)).mono ?_
          rintro e w1 ⟨rfl, q3, rfl⟩
          go_wp2_with fail
          go_at_call 142
          refine (decimal_any j _ (by omega)).mono ?_
          rintro e w1 ⟨rfl, q4, rfl⟩
          go_wp2_with fail
          go_at_call 164
          refine (hash_any (pt k j) _ hz2).mono ?_
          rintro e w1 ⟨rfl, hw1⟩
          subst hw1
          generalize num (pt k j).data.toList = n at *
          go_wp2
          all_goals go_roundw
          all_goals first
            | (refine ⟨j + 1, by omega, by go_num, ⟨_, rfl⟩, _, _, _, _, rfl, rfl, rfl, rfl, ?_⟩; exact Or.inr ⟨by omega, HS2.out _ _ _ _ (by omega) (by omega)⟩)
            | (simp [intOf]; omega)
        · have hj2 : j = P := by omega
          subst hj2
          have hR3 := HR2.out.out (by omega)
          have HR3 : Hid (RInv fr (outerO fr j (k + 1)) b a l v) := by
            show RInv _ _ _ _ _ _
            simp only [outerO, HX.out]
            exact hR3
          clear hR3 HR2
          go_wp2
          go_roundw
          case rel => exact ⟨k + 1, by omega, by go_num, ⟨_, rfl⟩, b, a, l, v, rfl, rfl, rfl, rfl, Or.inr ⟨by omega, HR3.out⟩⟩
          case measure => simp [intOf]; omega
    · have hk2 : k = S := by omega
      subst hk2
      obtain ⟨r1, r2, r3, r4⟩ := HR.out (by omega)
      have HH : Hid ((ownerN k P key : Int) = if b < 0 then l else b) := by
        show _ = _
        rw [HO.out]
        split
        · exact (r4 (by omega)).1
        · exact (r3 (by omega)).1
      clear r1 r2 r3 r4 HR
      by_cases hbn : b < 0
      · go_wp2
        go_ret
        exact ⟨ret_int (by rw [HH.out, if_pos hbn]), _, rfl⟩
      · have hbn' : ¬ b < 0 := hbn
        go_wp2
        go_ret
        exact ⟨ret_int (by rw [HH.out, if_neg (by omega)]), _, rfl⟩
end Go.Proofs.YtlonjggfnleolaaGreatDoor
