/-
  The script of Writes: plays.
-/
import Derived.Test.YtlonjggfnleolaaGreatDoorGiven
namespace Go.Proofs.YtlonjggfnleolaaGreatDoor
open Go.RowKit
set_option linter.unusedVariables false

/-- The steps of a script in memory. -/
structure ScriptIn (w : World) (b o N : Nat) : Prop where
  lt : b < w.heap.size
  ops : ∀ j, j < N → ∃ (k : Int) (cs : List Value), cs.length = 18 ∧ w.cell? ⟨b, o + j * 18, none⟩ = some (.int .i64 k) ∧ w.rangeAt b (o + j * 18) cs ∧ OpIn w k (.agg cs.toArray)

set_option maxRecDepth 20000 in
set_option maxHeartbeats 4000000 in
theorem plays_some (b o N c : Nat) (w : World) (hS : ScriptIn w b o N) (hN : N ≤ c) (hN2 : N ≤ 140737488355328) :
    Calls Tryz.prog 15 #[.slice (some ⟨b, o, none⟩) N c, .int .i64 1, .int .i64 3, .int .i64 0] w fun e w' => e = .returned (.bool true) ∧ Below w.heap.size w w' := by
  obtain ⟨hlt, hops⟩ := hS
  have HOP := hide' hops
  have HG : Hid (∀ p W, Calls Tryz.prog 39 #[p, .int .i64 1, .int .i64 3] W fun e w' => e = .returned (.bool true) ∧ Below W.heap.size W w') := fun p W => given_any p W
  have HST : Hid (∀ p W k v, OpIn W k v → 1 ≤ k → k ≤ 3 → Calls Tryz.prog 40 #[p, v] W fun e w' => e = .returned (.bool true) ∧ Below W.heap.size W w') := fun p W k v h h1 h3 => step_any p W k v h h1 h3
  clear hops
  go_enter Tryz.func15, Tryz.ntmps15
  go_wp2_with fail
  go_at_call 39
  refine (HG.out _ _).mono ?_
  rintro e w1 ⟨rfl, hb1⟩
  rw [World.size_alloc] at hb1
  have H1 := hide' hb1
  clear hb1
  go_wp2
  go_loopw [10, 11] (fun k i wr => ∃ j : Nat, j ≤ N ∧ i = .int .i64 j ∧ Hid (Below (w.heap.size + 1) (w.alloc (.cells #[.slice none 0 0, .slice none 0 0, .slice none 0 0, .slice none 0 0, .slice none 0 0, .slice none 0 0, .int .i64 0] 87)) wr)) (fun _ i _ => N - (intOf i).toNat)
  case atStart => exact ⟨0, Nat.zero_le _, rfl, H1⟩
  case round =>
    obtain ⟨j, hj, rfl, HJ⟩ := hrel
    have HBW : Hid (Below w.heap.size w wr) := ((Below.refl _ _).alloc (Nat.le_refl _) _).trans (HJ.out.mono (by omega))
    have hsz : w.heap.size < wr.heap.size := by have := HJ.out.size; simp at this; omega
    have hbr : b < wr.heap.size := by omega
    by_cases hltj : j < N
    · obtain ⟨k, cs, hcl, e0, hr, hO⟩ := HOP.out j hltj
      have HO := hide' (hO.later HBW.out)
      have HR : Hid (wr.rangeAt b (o + j * 18) cs) := fun m v hv => (HBW.out.cell (p := ⟨b, o + j * 18 + m, none⟩) hlt).trans (hr m v hv)
      have HI : Hid ((Tryz.prog.info? 95).map (·.size) = some cs.length) := by rw [hcl]; exact (show (Tryz.prog.info? 95).map (·.size) = some 18 by kernel_rfl)
      rw [← HBW.out.cell (p := ⟨b, o + j * 18, none⟩) hlt] at e0
      clear hO hr hcl
      by_cases hk1 : 1 ≤ k
      · by_cases hk3 : k ≤ 3
        · have hk0 : ¬ k = 0 := by omega
          go_wp2_with (show wpList _ _ _ ({ dst := _, op := Op.load 95 _, type := _, pos := _, after := _, guard := _ } :: _) _ _; refine wpList_load_mid rfl 95 _ rfl b (o + j * 18) rfl cs _ HR.out Tryz.underlying95 rfl HI.out ?_)
          go_at_call 40
          refine (HST.out _ _ k _ HO.out hk1 hk3).mono ?_
          rintro e w2 ⟨rfl, hb2⟩
          have H2 : Hid (Below (w.heap.size + 1) (w.alloc (.cells #[.slice none 0 0, .slice none 0 0, .slice none 0 0, .slice none 0 0, .slice none 0 0, .slice none 0 0, .int .i64 0] 87)) w2) := HJ.out.trans (hb2.mono (by omega))
          clear hb2
          go_wp2
          go_roundw
          case rel => exact ⟨j + 1, by omega, by go_num, H2⟩
          case measure => simp [intOf]; omega
        · go_wp2
          go_roundw
          case rel => exact ⟨j + 1, by omega, by go_num, HJ⟩
          case measure => simp [intOf]; omega
      · go_wp2
        go_roundw
        case rel => exact ⟨j + 1, by omega, by go_num, HJ⟩
        case measure => simp [intOf]; omega
    · have hj2 : j = N := by omega
      subst hj2
      have HC : Hid (∀ i, i < 7 → wr.cell? ⟨w.heap.size, i, none⟩ = zWorld[i]?) := by
        intro i hi
        have h1 := (HJ.out.block w.heap.size (by omega)).trans (blkNew w _)
        exact blkCell h1 i
      have HE := hide' (fun lo hi => ends_any w.heap.size lo hi wr HC.out)
      have HL := hide' (looks_any w.heap.size wr HC.out)
      clear HC
      go_wp2_with fail
      go_at_call 41
      refine (HE.out _ _).mono ?_
      rintro e w2 ⟨rfl, hw2⟩
      subst hw2
      go_wp2_with fail
      go_at_call 42
      refine HL.out.mono ?_
      rintro e w3 ⟨rfl, hw3⟩
      subst hw3
      go_wp2
      go_ret
      exact ⟨rfl, HBW.out⟩
set_option maxRecDepth 20000 in
set_option maxHeartbeats 4000000 in
theorem plays_nil (w : World) :
    Calls Tryz.prog 15 #[.slice none 0 0, .int .i64 1, .int .i64 3, .int .i64 0] w fun e w' => e = .returned (.bool true) ∧ Below w.heap.size w w' := by
  have HG : Hid (∀ p W, Calls Tryz.prog 39 #[p, .int .i64 1, .int .i64 3] W fun e w' => e = .returned (.bool true) ∧ Below W.heap.size W w') := fun p W => given_any p W
  go_enter Tryz.func15, Tryz.ntmps15
  go_wp2_with fail
  go_at_call 39
  refine (HG.out _ _).mono ?_
  rintro e w1 ⟨rfl, hb1⟩
  rw [World.size_alloc] at hb1
  have H1 := hide' hb1
  clear hb1
  go_wp2
  go_loopw [10, 11] (fun k i wr => ∃ j : Nat, j ≤ 0 ∧ i = .int .i64 j ∧ Hid (Below (w.heap.size + 1) (w.alloc (.cells #[.slice none 0 0, .slice none 0 0, .slice none 0 0, .slice none 0 0, .slice none 0 0, .slice none 0 0, .int .i64 0] 87)) wr)) (fun _ i _ => 0 - (intOf i).toNat)
  case atStart => exact ⟨0, Nat.zero_le _, rfl, H1⟩
  case round =>
    obtain ⟨j, hj, rfl, HJ⟩ := hrel
    have HBW : Hid (Below w.heap.size w wr) := ((Below.refl _ _).alloc (Nat.le_refl _) _).trans (HJ.out.mono (by omega))
    have hsz : w.heap.size < wr.heap.size := by have := HJ.out.size; simp at this; omega
    have hj2 : j = 0 := by omega
    subst hj2
    have HC : Hid (∀ i, i < 7 → wr.cell? ⟨w.heap.size, i, none⟩ = zWorld[i]?) := by
      intro i hi
      have h1 := (HJ.out.block w.heap.size (by omega)).trans (blkNew w _)
      exact blkCell h1 i
    have HE := hide' (fun lo hi => ends_any w.heap.size lo hi wr HC.out)
    have HL := hide' (looks_any w.heap.size wr HC.out)
    clear HC
    go_wp2_with fail
    go_at_call 41
    refine (HE.out _ _).mono ?_
    rintro e w2 ⟨rfl, hw2⟩
    subst hw2
    go_wp2_with fail
    go_at_call 42
    refine HL.out.mono ?_
    rintro e w3 ⟨rfl, hw3⟩
    subst hw3
    go_wp2
    go_ret
    exact ⟨rfl, HBW.out⟩

set_option maxRecDepth 20000 in
theorem writes_some (b o N c : Nat) (w : World) (hS : ScriptIn w b o N) (hN : N ≤ c) (hN2 : N ≤ 140737488355328) :
    Calls Tryz.prog 3 #[.slice (some ⟨b, o, none⟩) N c] w fun e w' => e = .returned (.bool true) ∧ Below w.heap.size w w' := by
  have HP := hide' (plays_some b o N c w hS hN hN2)
  clear hS
  go_enter Tryz.func3, Tryz.ntmps3
  go_wp2_with fail
  go_at_call 15
  refine HP.out.mono ?_
  rintro e w1 ⟨rfl, hb⟩
  have HB := hide' hb
  clear hb
  go_wp2
  go_ret
  exact ⟨rfl, HB.out⟩

set_option maxRecDepth 20000 in
theorem writes_nil (w : World) :
    Calls Tryz.prog 3 #[.slice none 0 0] w fun e w' => e = .returned (.bool true) ∧ Below w.heap.size w w' := by
  have HP := hide' (plays_nil w)
  go_enter Tryz.func3, Tryz.ntmps3
  go_wp2_with fail
  go_at_call 15
  refine HP.out.mono ?_
  rintro e w1 ⟨rfl, hb⟩
  have HB := hide' hb
  clear hb
  go_wp2
  go_ret
  exact ⟨rfl, HB.out⟩
end Go.Proofs.YtlonjggfnleolaaGreatDoor
