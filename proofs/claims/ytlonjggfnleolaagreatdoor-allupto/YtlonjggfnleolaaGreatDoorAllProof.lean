/-
  junctionlaw.All returns true for every script of bulk at most 1048576, and what came in reads as it did: no condition beyond that one and the card's own (the three library tables that the row lists read as the program's text lays them).
-/
import Derived.Test.YtlonjggfnleolaaGreatDoorCards
import Derived.Test.YtlonjggfnleolaaGreatDoorTie
import Derived.Test.YtlonjggfnleolaaGreatDoorAllFacts
import Derived.Test.YtlonjggfnleolaaGreatDoorOpenB
import Derived.ProofKit
import Derived.ChangeOld
import Derived.Below
import Derived.ChangeSlices
import Derived.ChangeMaps5
import Derived.LaidMore
import Derived.Stop.Joined
import Derived.Deep.DeepHandedRow
import Derived.Deep.DeepWitnessRowRef
namespace Go.Proofs.YtlonjggfnleolaaGreatDoor
open Go.ChangeShapes Go.WideShapes Go.ChangeAt Go.RowKit Go.Proofs.Tryz
set_option linter.unusedVariables false

theorem NH : ownKnob prog.godebug = none := by kernel_rfl
theorem EJ : laidOutB prog = true := by kernel_rfl
theorem Cx (os : Os) (args : Array Value) : laidMetH prog Rows.allUptoRow.laid ((World.doorLaid prog 4000 os).forCall (fun _ _ => 0) ⟨#[], args, []⟩).memory :=
  laidMetH_of_parts3 (fuel := 8) (laidMet_of_run' 8 (by kernel_rfl) (by kernel_rfl)) (by kernel_rfl) (by kernel_rfl)
theorem KB (os : Os) {H : Type} (enc : TypeId × Value → H) : ∃ places, DataW.whole enc prog ((World.doorLaid prog 4000 os).forCall (fun _ _ => 0) ⟨#[], #[.slice none 0 0], []⟩).memory f14.params.toList Rows.allSpec.vars false #[Value.slice none 0 0].toList 8 = some ([.nil], [], places) :=
  ⟨[], by kernel_rfl⟩

set_option maxRecDepth 100000 in
theorem QO (os : Os) (started : os.Started) (H : Type) (enc : TypeId × Value → H) (F : Stop.Interp) :
    ReturnsInHanded {} checked os 14 .any ((Rows.OpenSpec.upto Rows.allSpec).preRow enc prog f14 Rows.allUptoRow.domain false Rows.allUptoRow.laid) (((Rows.OpenSpec.upto Rows.allSpec).at F).post enc prog f14 false true false false) := by
  obtain ⟨places, hx⟩ := KB os enc
  refine returnsInHanded_of_row (C := checked) (s := Rows.OpenSpec.upto Rows.allSpec) NH started (by kernel_rfl) func14
    (witness_row_atRef (enc := enc) (C := checked) false (World.doorLaid prog 4000 os) #[.slice none 0 0] rfl (by kernel_rfl) (by kernel_rfl) (by kernel_rfl)
      (OpenSpec.preRow_of_cond 8 hx (by kernel_rfl) (fun k hk => by cases hk; kernel_rfl) (by kernel_rfl) (Cx os _))) ?_
  intro W base args ds gs before hval0 hW _ hcond hsz0 hL _ _
  have hval : ∀ (j : Nat) t v, f14.params[j]? = some t → args[j]? = some v → Value.okWide prog W .any base t v := hval0
  have hsz : (DataW.weightsEach prog (f14.params.toList ++ Rows.allSpec.plain.varTypes prog) (ds ++ gs)).all (· ≤ reachBytes) = true := hsz0
  have hbulk : Rows.uptoBulkAll (ds ++ gs) ≤ 1048576 := of_decide_eq_true (hcond _ rfl)
  have hW' := hW
  obtain ⟨p, q, hA0, hV, rfl, hfz, hnd⟩ := hW
  have hA : DataW.TrodAll enc prog W 0 (fun _ => true) true f14.params.toList args.toList ds p := hA0
  rw [params14] at hA hval hsz
  have hlt := hA.lt
  obtain ⟨v0, vs0, d0, ds0, p0, q0, hargs, rfl, rfl, h0, r0⟩ := trodAll_cons hA
  obtain ⟨rfl, rfl, rfl⟩ := trodAll_nil r0
  obtain rfl : args = #[v0] := by cases args; simp_all
  obtain ⟨rfl, rfl⟩ := trodVars_none hV
  have hok := hval 0 22 v0 rfl rfl
  clear hA0 hval0 hsz0
  have hd0 : Rows.uptoBulk d0 ≤ 1048576 := by
    simp only [List.cons_append, List.nil_append, Rows.uptoBulkAll] at hbulk
    omega
  have HC : Calls prog 14 #[v0] W fun e w' => e = .returned (.bool true) ∧ Below W.heap.size W w' := by
    obtain ⟨fuel, hf⟩ := h0
    obtain ⟨a0, len, cap, rfl⟩ := okWide_slice underlying22 hok
    have hw : ∀ k ∈ DataW.weights prog 22 d0, k ≤ reachBytes := fun k hk => of_decide_eq_true (List.all_eq_true.1 hsz k (DataW.weights_mem_each (j := 0) rfl rfl k hk))
    rcases Dv (x := (d0, p0)) (by simpa [Value.cells] using hf) hok hw with h | ⟨b, o, N, c, kf, csf, bk, h, hS, hN, hN2⟩
    · rw [h]; exact all_nil W
    · have hN2 : N + lu bk N ≤ Rows.uptoBulk d0 := hN2
      rw [h]; exact all_some b o N c kf csf bk W hS hN (by omega) (by omega)
  refine HC.mono fun e W' ⟨he, jx⟩ => ?_
  subst he
  exact ⟨_, rfl, _, _, _, [], _, [], hW', trodAll_mk1 (shut_bool underlying4 _), (trodAll_cons_mk (Below.trod EJ (by kernel_rfl) (of_decide_eq_true (by kernel_rfl)) h0 jx (fun x hx => hlt x (List.mem_append.2 (.inl hx)))) trodAll_mk0), rfl, jx.frame _, fun h => by cases h⟩

theorem Jo : Rows.AllUptoSaid :=
  OpenClaim.holds_of_cond 14 f14 rfl rfl rfl rfl rfl rfl rfl ⟨rfl, rfl, rfl, rfl, rfl⟩ rfl rfl rfl rfl rfl Gj func14 QN
    (of_decide_eq_true (by kernel_rfl)) (by unfold Func.isWrapper; first | (rw [if_pos (by decide +kernel)]; kernel_rfl) | (rw [if_neg (by decide +kernel)]; exact ⟨rfl, rfl⟩))
    (fun os started H enc _ F => by rw [OpenClaim.pre_eq_preRow]; exact QO os started H enc F)

theorem all_holds : Rows.AllUptoCardSaid :=
  Claim7.holds_tied_plain_at .later [] _ _ _ _
    Jo (fun _ h => by cases h) (by kernel_rfl) (fun _ h => by cases h) allUpto_row_tie rfl ⟨rfl, rfl⟩ (by kernel_rfl) rfl
    (fun f fn hf hfn => by
      obtain rfl : f = 14 := Option.some.inj ((show prog.funcNamed "junction/junctionlaw.All" = some 14 by kernel_rfl).symm.trans hf) |>.symm
      obtain rfl : fn = f14 := (Option.some.inj (func14.symm.trans hfn)).symm
      exact ⟨by kernel_rfl, fun j t ht => by
        rw [params14] at ht
        have hm : t ∈ [22] := by simpa using Array.mem_of_getElem? ht
        have hall : ([22].all fun u => !prog.wantsStandIn u) = true := by kernel_rfl
        exact (show prog.wantsStandIn t = false by simpa using List.all_eq_true.1 hall t hm)⟩)
    (by kernel_rfl)
#print axioms all_holds
end Go.Proofs.YtlonjggfnleolaaGreatDoor
