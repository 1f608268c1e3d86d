/-
  junctionkeep.Pieced returns true for every input of bulk at most 1048576, and what came in reads as it did: no condition beyond that one and the card's own (the three library tables that the row lists read as the program's text lays them).
-/
import Derived.Test.YtlonjggfnleolaaGreatDoorRows
import Derived.Test.YtlonjggfnleolaaGreatDoorCards
import Derived.Test.YtlonjggfnleolaaGreatDoorTie
import Derived.Test.YtlonjggfnleolaaGreatDoorPieceB
import Derived.SizedLaws
import Derived.WalkKit
import Derived.ProofKit
import Derived.OpenShut
import Derived.ChangeOld
import Derived.Below
import Derived.Carry
import Derived.ChangeSlices
import Derived.ChangeMaps5
import Derived.LaidMore
import Derived.Stop.Joined
import Derived.SevenTiedAt
import Derived.Deep.DeepHandedRow
import Derived.Deep.DeepWitnessRowRef
namespace Go.Proofs.YtlonjggfnleolaaGreatDoor
open Go.ChangeShapes Go.WideShapes Go.ChangeAt Go.RowKit
set_option linter.unusedVariables false

theorem add_plainP (b o i : Nat) : (⟨b, o, none⟩ : Addr).add i = ⟨b, o + i, none⟩ := by
  unfold Addr.add
  split
  · subst_vars; rfl
  · rfl
theorem ownP : ownKnob Tryz.prog.godebug = none := by kernel_rfl
theorem laidOutP : laidOutB Tryz.prog = true := by kernel_rfl

theorem door_metP (os : Os) (args : Array Value) : laidMetH Tryz.prog Rows.piecedUptoRow.laid ((World.doorLaid Tryz.prog 4000 os).forCall (fun _ _ => 0) ⟨#[], args, []⟩).memory :=
  laidMetH_of_parts3 (fuel := 8) (laidMet_of_run' 8 (by kernel_rfl) (by kernel_rfl)) (by kernel_rfl) (by kernel_rfl)
theorem readsP (os : Os) {H : Type} (enc : TypeId × Value → H) : ∃ places, DataW.whole enc Tryz.prog ((World.doorLaid Tryz.prog 4000 os).forCall (fun _ _ => 0) ⟨#[], #[.int .i64 0, .slice none 0 0, .string ⟨#[]⟩, .slice none 0 0, .slice none 0 0], []⟩).memory Tryz.f7.params.toList Rows.piecedSpec.vars false #[Value.int .i64 0, .slice none 0 0, .string ⟨#[]⟩, .slice none 0 0, .slice none 0 0].toList 8 = some ([.lit (.int .i64 0), .nil, .lit (.string []), .nil, .nil], [], places) :=
  ⟨[], by kernel_rfl⟩

set_option maxRecDepth 20000 in
/-- A list of numbers that came in. -/
theorem raw_openP {H : Type} {enc : TypeId × Value → H} {W : World} {base fuel : Nat} {v : Value} {x : DataW H × List MemPlace} (h : DataW.trod enc Tryz.prog W 0 (fun _ => true) true fuel 25 [v] = some x) (hok : Value.okWide Tryz.prog W .any base 25 v) (hw : ∀ k ∈ DataW.weights Tryz.prog 25 x.1, k ≤ reachBytes) :
    ∃ a n c xs, v = .slice a n c ∧ RawIn W a n c xs := by
  rcases open_ints Tryz.underlying25 Tryz.underlying3 (by kernel_rfl) h with ⟨hcs, hx⟩ | ⟨a, len, cap, zs, hcs, hb, hl, hm, hzl, hx, hel, hwf⟩
  · have : v = .slice none 0 0 := by simpa using hcs
    subst this
    exact ⟨none, 0, 0, [], rfl, ⟨rfl, Nat.le_refl _, by omega, fun _ _ _ h => by omega, fun i hi => by omega, fun i hi => by omega⟩⟩
  · simp at hcs hzl
    subst hcs
    have hhas : a.spot = none ∧ a.block < W.heap.size := by
      simp [Value.okWide, Cell.okWide, Cell.ok, Tryz.underlying25, World.has] at hok
      obtain ⟨_, _, _, hsp, r, c, hsh, _⟩ := hok
      refine ⟨hsp, ?_⟩
      unfold World.shape? at hsh
      split at hsh
      · rename_i hbk
        exact (Array.getElem?_eq_some_iff.1 hbk).1
      · cases hsh
    obtain ⟨b, o, sp⟩ := a
    obtain ⟨hsp, hlt⟩ := hhas
    simp only at hsp hlt
    subst hsp
    have hwt : cap * 8 ≤ 140737488351232 := by
      have e : Tryz.prog.bytesOf 3 = 8 := by kernel_rfl
      have e3 : (lits (H := H) .i64 (zs.take len)).length + (lits (H := H) .i64 (zs.drop len)).length = cap := by
        simp [lits]; omega
      have := hw (cap * 8) (by rw [hx]; simp only [DataW.weights, Tryz.underlying25, e, e3]; exact List.mem_cons_self)
      unfold reachBytes at this
      omega
    have hg : ∀ i, i < len → (zs.take len).getD i 0 = zs.getD i 0 := fun i hi => by
      simp [List.getD, List.getElem?_take_of_lt hi]
    refine ⟨some ⟨b, o, none⟩, len, cap, zs.take len, rfl, ⟨by simp; omega, hl, by omega, fun g o' e _ => by cases e; exact hlt, fun i hi => ⟨b, o, rfl, ?_⟩, fun i hi => ?_⟩⟩
    · rw [hg i hi]
      have := hel i (by omega)
      rw [add_plainP] at this
      exact this
    · rw [hg i hi]
      refine hwf _ ?_
      have hi2 : i < zs.length := by omega
      have hgz : zs.getD i 0 = zs[i] := by simp [List.getD, List.getElem?_eq_getElem hi2]
      rw [hgz]
      exact List.getElem_mem hi2

set_option maxRecDepth 100000 in
theorem pieced_lifted (os : Os) (started : os.Started) (H : Type) (enc : TypeId × Value → H) (F : Stop.Interp) :
    ReturnsInHanded {} Tryz.checked os 7 .any ((Rows.OpenSpec.upto Rows.piecedSpec).preRow enc Tryz.prog Tryz.f7 Rows.piecedUptoRow.domain false Rows.piecedUptoRow.laid) (((Rows.OpenSpec.upto Rows.piecedSpec).at F).post enc Tryz.prog Tryz.f7 false true false false) := by
  obtain ⟨places, hx⟩ := readsP os enc
  refine returnsInHanded_of_row (C := Tryz.checked) (s := Rows.OpenSpec.upto Rows.piecedSpec) ownP started (by kernel_rfl) Tryz.func7
    (witness_row_atRef (enc := enc) (C := Tryz.checked) false (World.doorLaid Tryz.prog 4000 os) #[.int .i64 0, .slice none 0 0, .string ⟨#[]⟩, .slice none 0 0, .slice none 0 0] rfl (by kernel_rfl) (by kernel_rfl) (by kernel_rfl)
      (OpenSpec.preRow_of_cond 8 hx (by kernel_rfl) (fun k hk => by cases hk; kernel_rfl) (by kernel_rfl) (door_metP os _))) ?_
  intro W base args ds gs before hval0 hW _ hcond hsz0 hL _ _
  have hval : ∀ (j : Nat) t v, Tryz.f7.params[j]? = some t → args[j]? = some v → Value.okWide Tryz.prog W .any base t v := hval0
  have hsz : (DataW.weightsEach Tryz.prog (Tryz.f7.params.toList ++ Rows.piecedSpec.plain.varTypes Tryz.prog) (ds ++ gs)).all (· ≤ reachBytes) = true := hsz0
  have hbulk : Rows.uptoBulkAll (ds ++ gs) ≤ 1048576 := of_decide_eq_true (hcond _ rfl)
  have hW' := hW
  obtain ⟨p, q, hA0, hV, rfl, hfz, hnd⟩ := hW
  have hA : DataW.TrodAll enc Tryz.prog W 0 (fun _ => true) true Tryz.f7.params.toList args.toList ds p := hA0
  rw [Tryz.params7] at hA hval hsz
  have hlt := hA.lt
  obtain ⟨v0, vs0, d0, ds0, p0, q0, hargs, rfl, rfl, h0, r0⟩ := trodAll_cons hA
  obtain ⟨v1, vs1, d1, ds1, p1, q1, rfl, rfl, rfl, h1, r1⟩ := trodAll_cons r0
  obtain ⟨v2, vs2, d2, ds2, p2, q2, rfl, rfl, rfl, h2, r2⟩ := trodAll_cons r1
  obtain ⟨v3, vs3, d3, ds3, p3, q3, rfl, rfl, rfl, h3, r3⟩ := trodAll_cons r2
  obtain ⟨v4, vs4, d4, ds4, p4, q4, rfl, rfl, rfl, h4, r4⟩ := trodAll_cons r3
  obtain ⟨rfl, rfl, rfl⟩ := trodAll_nil r4
  obtain rfl : args = #[v0, v1, v2, v3, v4] := by cases args; simp_all
  obtain ⟨rfl, rfl⟩ := trodVars_none hV
  obtain ⟨a0, rfl, rfl, rfl, w0⟩ := open_int Tryz.underlying3 (hval 0 3 v0 rfl rfl) h0
  obtain ⟨tx, rfl, rfl, rfl, wt⟩ := Go.ChangeMaps.open_string Tryz.underlying9 (hval 2 9 v2 rfl rfl) h2
  have hok1 := hval 1 25 v1 rfl rfl
  have hok3 := hval 3 25 v3 rfl rfl
  have hok4 := hval 4 25 v4 rfl rfl
  clear hA0 hval0 hsz0
  have htx : tx.size ≤ 1048576 := by
    simp only [List.cons_append, List.nil_append, Rows.uptoBulkAll, Rows.uptoBulk] at hbulk
    have := len_size tx
    omega
  have hw1 : ∀ k ∈ DataW.weights Tryz.prog 25 d1, k ≤ reachBytes := fun k hk => of_decide_eq_true (List.all_eq_true.1 hsz k (DataW.weights_mem_each (j := 1) rfl rfl k hk))
  have hw3 : ∀ k ∈ DataW.weights Tryz.prog 25 d3, k ≤ reachBytes := fun k hk => of_decide_eq_true (List.all_eq_true.1 hsz k (DataW.weights_mem_each (j := 3) rfl rfl k hk))
  have hw4 : ∀ k ∈ DataW.weights Tryz.prog 25 d4, k ≤ reachBytes := fun k hk => of_decide_eq_true (List.all_eq_true.1 hsz k (DataW.weights_mem_each (j := 4) rfl rfl k hk))
  have HC : Calls Tryz.prog 7 #[.int .i64 a0, v1, .string tx, v3, v4] W fun e w' => e = .returned (.bool true) ∧ Below W.heap.size W w' := by
    obtain ⟨fuel, hf⟩ := h1
    obtain ⟨fuel3, hf3⟩ := h3
    obtain ⟨fuel4, hf4⟩ := h4
    obtain ⟨b1, l1, cap1, rfl⟩ := okWide_slice Tryz.underlying25 hok1
    obtain ⟨b3, l3, cap3, rfl⟩ := okWide_slice Tryz.underlying25 hok3
    obtain ⟨b4, l4, cap4, rfl⟩ := okWide_slice Tryz.underlying25 hok4
    obtain ⟨_, _, _, xs, e1, R1⟩ := raw_openP (x := (d1, p1)) (by simpa [Value.cells] using hf) hok1 hw1
    obtain ⟨_, _, _, ys, e3, R3⟩ := raw_openP (x := (d3, p3)) (by simpa [Value.cells] using hf3) hok3 hw3
    obtain ⟨_, _, _, zs, e4, R4⟩ := raw_openP (x := (d4, p4)) (by simpa [Value.cells] using hf4) hok4 hw4
    cases e1
    cases e3
    cases e4
    exact pieced_any a0 _ _ _ xs tx _ _ _ ys _ _ _ zs W w0 R1 R3 R4 (by omega)
  refine HC.mono fun e W' ⟨he, bel⟩ => ?_
  subst he
  exact ⟨_, rfl, _, _, _, [], _, [], hW', trodAll_mk1 (shut_bool Tryz.underlying4 _), (trodAll_cons_mk (shut_int Tryz.underlying3 w0) (trodAll_cons_mk (Below.trod laidOutP (by kernel_rfl) (of_decide_eq_true (by kernel_rfl)) h1 bel (fun x hx => hlt x (by simp only [List.mem_append]; exact .inr (.inl hx)))) (trodAll_cons_mk (Go.ChangeMaps.shut_string Tryz.underlying9 wt) (trodAll_cons_mk (Below.trod laidOutP (by kernel_rfl) (of_decide_eq_true (by kernel_rfl)) h3 bel (fun x hx => hlt x (by simp only [List.mem_append]; exact .inr (.inr (.inr (.inl hx)))))) (trodAll_cons_mk (Below.trod laidOutP (by kernel_rfl) (of_decide_eq_true (by kernel_rfl)) h4 bel (fun x hx => hlt x (by simp only [List.mem_append]; exact .inr (.inr (.inr (.inr (.inl hx))))))) trodAll_mk0))))), rfl, bel.frame _, fun h => by cases h⟩

theorem pieced_over : Rows.PiecedUptoSaid :=
  OpenClaim.holds_of_cond 7 Tryz.f7 rfl rfl rfl rfl rfl rfl rfl ⟨rfl, rfl, rfl, rfl, rfl⟩ rfl rfl rfl rfl rfl (by kernel_rfl) Tryz.func7 (by kernel_rfl)
    (of_decide_eq_true (by kernel_rfl)) (by unfold Func.isWrapper; first | (rw [if_pos (by decide +kernel)]; kernel_rfl) | (rw [if_neg (by decide +kernel)]; exact ⟨rfl, rfl⟩))
    (fun os started H enc _ F => by rw [OpenClaim.pre_eq_preRow]; exact pieced_lifted os started H enc F)

theorem pieced_holds : Rows.PiecedUptoCardSaid :=
  Claim7.holds_tied_plain_at .later [] _ _ _ _
    pieced_over (fun _ h => by cases h) (by kernel_rfl) (fun _ h => by cases h) piecedUpto_row_tie rfl ⟨rfl, rfl⟩ (by kernel_rfl) rfl
    (fun f fn hf hfn => by
      obtain rfl : f = 7 := Option.some.inj ((show Tryz.prog.funcNamed "junction/junctionkeep.Pieced" = some 7 by kernel_rfl).symm.trans hf) |>.symm
      obtain rfl : fn = Tryz.f7 := (Option.some.inj (Tryz.func7.symm.trans hfn)).symm
      exact ⟨by kernel_rfl, fun j t ht => by
        rw [Tryz.params7] at ht
        have hm : t ∈ [3, 25, 9, 25, 25] := by simpa using Array.mem_of_getElem? ht
        have hall : ([3, 25, 9, 25, 25].all fun u => !Tryz.prog.wantsStandIn u) = true := by kernel_rfl
        exact (show Tryz.prog.wantsStandIn t = false by simpa using List.all_eq_true.1 hall t hm)⟩)
    (by kernel_rfl)
#print axioms pieced_holds
end Go.Proofs.YtlonjggfnleolaaGreatDoor
