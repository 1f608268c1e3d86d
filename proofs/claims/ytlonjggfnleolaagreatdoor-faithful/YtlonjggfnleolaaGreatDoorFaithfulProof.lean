/-
  junctionkeep.Faithful returns true for every three lists that it may be handed, and what came in reads as it did: no condition beyond the card's own (the three library tables that the row lists read as the program's text lays them).
-/
import Derived.Test.YtlonjggfnleolaaGreatDoorCards
import Derived.Test.YtlonjggfnleolaaGreatDoorTie
import Derived.Test.YtlonjggfnleolaaGreatDoorFaithfulFacts
import Derived.Test.YtlonjggfnleolaaGreatDoorFaL
import Derived.ProofKit
import Derived.ChangeOld
import Derived.Below
import Derived.LaidMore
import Derived.Stop.Joined
import Derived.ChangeMaps5
import Derived.Deep.DeepHandedRow
import Derived.Deep.DeepWitnessRowRef
namespace Go.Proofs.YtlonjggfnleolaaGreatDoor
open Go.ChangeShapes Go.WideShapes Go.ChangeAt Go.RowKit
set_option linter.unusedVariables false

theorem ownFaithful : ownKnob Tryz.prog.godebug = none := by kernel_rfl
theorem laidOutFaithful : laidOutB Tryz.prog = true := by kernel_rfl
theorem door_metFaithful (os : Os) (args : Array Value) : laidMetH Tryz.prog Rows.faithfulRow.laid ((World.doorLaid Tryz.prog 4000 os).forCall (fun _ _ => 0) ⟨#[], args, []⟩).memory :=
  laidMetH_of_parts3 (fuel := 8) (laidMet_of_run' 8 (by kernel_rfl) (by kernel_rfl)) (by kernel_rfl) (by kernel_rfl)

set_option maxRecDepth 100000 in
theorem faithful_lifted (os : Os) (started : os.Started) (H : Type) (enc : TypeId × Value → H) :
    ReturnsInHanded {} Tryz.checked os 11 .any (fun w args => (Rows.faithfulSpec.pre enc Tryz.prog Tryz.f11 [] false w args ∧ laidMetH Tryz.prog Rows.faithfulRow.laid w) ∧ sizedMet enc Tryz.prog Tryz.f11 (OpenSpec.ofChange Rows.faithfulSpec) false w args)
      (Rows.faithfulSpec.post enc Tryz.prog Tryz.f11 false true false false) := by
  refine returnsInHanded_of_change_and (C := Tryz.checked) (X := fun w _ => laidMetH Tryz.prog Rows.faithfulRow.laid w) (fun _ _ _ hh h => h.of_heap hh) ownFaithful started (by kernel_rfl) Tryz.func11
    (ChangeSpec.witness_shaped (enc := enc) (C := Tryz.checked) (os := os) (X := fun w _ => laidMetH Tryz.prog Rows.faithfulRow.laid w) false (World.doorLaid Tryz.prog 4000 os) #[.slice none 0 0, .slice none 0 0, .slice none 0 0] 8 rfl (World.shaped_of_RefB (by kernel_rfl) (by kernel_rfl)) (by kernel_rfl) (by kernel_rfl) (by kernel_rfl) (door_metFaithful os _)) ?_
  intro W base args ds gs before hval0 hW _ hsz0 hL _
  have hval : ∀ (j : Nat) t v, Tryz.f11.params[j]? = some t → args[j]? = some v → Value.okWide Tryz.prog W .any base t v := hval0
  have hsz : (DataW.weightsEach Tryz.prog (Tryz.f11.params.toList ++ Rows.faithfulSpec.plain.varTypes Tryz.prog) (ds ++ gs)).all (· ≤ reachBytes) = true := hsz0
  have hW' := hW
  obtain ⟨p, q, hA0, hV, rfl, hfz, hnd⟩ := hW
  have hA : DataW.TrodAll enc Tryz.prog W 0 (fun _ => true) true Tryz.f11.params.toList args.toList ds p := hA0
  rw [Tryz.params11] at hA hval hsz
  have hlt := hA.lt
  obtain ⟨v0, vs0, d0, ds0, p0, q0, hargs, rfl, rfl, h0, r0⟩ := trodAll_cons hA
  obtain ⟨v1, vs1, d1, ds1, p1, q1, rfl, rfl, rfl, h1, r1⟩ := trodAll_cons r0
  obtain ⟨v2, vs2, d2, ds2, p2, q2, rfl, rfl, rfl, h2, r2⟩ := trodAll_cons r1
  obtain ⟨rfl, rfl, rfl⟩ := trodAll_nil r2
  obtain rfl : args = #[v0, v1, v2] := by cases args; simp_all
  obtain ⟨rfl, rfl⟩ := trodVars_none hV
  have hok0 := hval 0 25 v0 rfl rfl
  have hok1 := hval 1 46 v1 rfl rfl
  have hok2 := hval 2 47 v2 rfl rfl
  clear hA0 hval0 hsz0
  have hw0 : ∀ k ∈ DataW.weights Tryz.prog 25 d0, k ≤ reachBytes := fun k hk => of_decide_eq_true (List.all_eq_true.1 hsz k (DataW.weights_mem_each (j := 0) rfl rfl k hk))
  have hw1 : ∀ k ∈ DataW.weights Tryz.prog 46 d1, k ≤ reachBytes := fun k hk => of_decide_eq_true (List.all_eq_true.1 hsz k (DataW.weights_mem_each (j := 1) rfl rfl k hk))
  have hw2 : ∀ k ∈ DataW.weights Tryz.prog 47 d2, k ≤ reachBytes := fun k hk => of_decide_eq_true (List.all_eq_true.1 hsz k (DataW.weights_mem_each (j := 2) rfl rfl k hk))
  have HC : Calls Tryz.prog 11 #[v0, v1, v2] W fun e w' => e = .returned (.bool true) ∧ Below W.heap.size W w' := by
    obtain ⟨fuel0, hf0⟩ := h0
    obtain ⟨fuel1, hf1⟩ := h1
    obtain ⟨fuel2, hf2⟩ := h2
    obtain ⟨b0, l0, cap0, rfl⟩ := okWide_slice Tryz.underlying25 hok0
    obtain ⟨b1, l1, cap1, rfl⟩ := okWide_slice Tryz.underlying46 hok1
    obtain ⟨b2, l2, cap2, rfl⟩ := okWide_slice Tryz.underlying47 hok2
    obtain ⟨xs, _, _, _, e0, R0⟩ := raw_openS (x := (d0, p0)) (by simpa [Value.cells] using hf0) hw0
    obtain ⟨_, _, _, ls, e1, R1⟩ := lists_open (x := (d1, p1)) (by simpa [Value.cells] using hf1) hw1
    obtain ⟨_, _, _, e2, R2⟩ := steps_open (x := (d2, p2)) (by simpa [Value.cells] using hf2) hw2
    cases e0
    cases e1
    cases e2
    exact faithful_any _ _ _ xs _ _ _ ls _ _ _ W R0 R1 R2
  refine HC.mono fun e W' ⟨he, bel⟩ => ?_
  subst he
  exact ⟨_, rfl, _, _, _, [], _, [], hW', trodAll_mk1 (shut_bool Tryz.underlying4 _), (trodAll_cons_mk (Below.trod laidOutFaithful (by kernel_rfl) (of_decide_eq_true (by kernel_rfl)) h0 bel (fun x hx => hlt x (by simp only [List.mem_append]; exact .inl hx))) (trodAll_cons_mk (Below.trod laidOutFaithful (by kernel_rfl) (of_decide_eq_true (by kernel_rfl)) h1 bel (fun x hx => hlt x (by simp only [List.mem_append]; exact .inr (.inl hx)))) (trodAll_cons_mk (Below.trod laidOutFaithful (by kernel_rfl) (of_decide_eq_true (by kernel_rfl)) h2 bel (fun x hx => hlt x (by simp only [List.mem_append]; exact .inr (.inr (.inl hx))))) trodAll_mk0))), rfl, bel.frame _, fun h => by cases h⟩

theorem faithful_over : Rows.FaithfulSaid :=
  OpenClaim.holds_of_wide 11 Tryz.f11 rfl rfl rfl rfl rfl rfl rfl ⟨rfl, rfl, rfl, rfl, rfl⟩ rfl rfl rfl rfl rfl faithful_named Tryz.func11 faithful_closed
    (of_decide_eq_true (by kernel_rfl)) (by unfold Func.isWrapper; first | (rw [if_pos (by decide +kernel)]; kernel_rfl) | (rw [if_neg (by decide +kernel)]; exact ⟨rfl, rfl⟩))
    (fun os started H enc _ => faithful_lifted os started H enc)

theorem faithful_holds : Rows.FaithfulCardSaid :=
  Claim7.holds_tied_plain_at .later [] _ _ _ _
    faithful_over (fun _ h => by cases h) (by kernel_rfl) (fun _ h => by cases h) faithful_row_tie rfl ⟨rfl, rfl⟩ (by kernel_rfl) rfl
    (fun f fn hf hfn => by
      obtain rfl : f = 11 := Option.some.inj ((show Tryz.prog.funcNamed "junction/junctionkeep.Faithful" = some 11 by kernel_rfl).symm.trans hf) |>.symm
      obtain rfl : fn = Tryz.f11 := (Option.some.inj (Tryz.func11.symm.trans hfn)).symm
      exact ⟨by kernel_rfl, fun j t ht => by
        rw [Tryz.params11] at ht
        have hm : t ∈ [25, 46, 47] := by simpa using Array.mem_of_getElem? ht
        have hall : ([25, 46, 47].all fun u => !Tryz.prog.wantsStandIn u) = true := by kernel_rfl
        exact (show Tryz.prog.wantsStandIn t = false by simpa using List.all_eq_true.1 hall t hm)⟩)
    (by kernel_rfl)
#print axioms faithful_holds
end Go.Proofs.YtlonjggfnleolaaGreatDoor
