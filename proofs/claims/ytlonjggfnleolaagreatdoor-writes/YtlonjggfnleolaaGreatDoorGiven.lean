/-
  The script of Writes: given.
-/
import Derived.Test.YtlonjggfnleolaaGreatDoorPlay
import Derived.Deep.MidRow
namespace Go.Proofs.YtlonjggfnleolaaGreatDoor
open Go.RowKit
set_option linter.unusedVariables false
/-- The cells of the given script. -/
def givenG (b : Nat) : Array Value := #[.int .i64 1, .int .i64 0, .int .i64 2, .slice (some ⟨b, 0, none⟩) 1 1, .string ⟨#[120, 121]⟩, .string ⟨#[]⟩, .bool false, .int .i64 0, .int .i64 0, .slice none 0 0, .slice none 0 0, .string ⟨#[]⟩, .int .i64 0, .int .i64 0, .int .i64 0, .string ⟨#[]⟩, .int .i64 1, .int .i64 0, .int .i64 4, .int .i64 0, .int .i64 0, .slice none 0 0, .string ⟨#[]⟩, .string ⟨#[]⟩, .bool false, .int .i64 0, .int .i64 0, .slice none 0 0, .slice none 0 0, .string ⟨#[]⟩, .int .i64 0, .int .i64 0, .int .i64 0, .string ⟨#[]⟩, .int .i64 1, .int .i64 0, .int .i64 4, .int .i64 0, .int .i64 0, .slice none 0 0, .string ⟨#[]⟩, .string ⟨#[]⟩, .bool false, .int .i64 0, .int .i64 0, .slice none 0 0, .slice none 0 0, .string ⟨#[]⟩, .int .i64 0, .int .i64 0, .int .i64 0, .string ⟨#[]⟩, .int .i64 2, .int .i64 0, .int .i64 4, .int .i64 0, .int .i64 0, .slice none 0 0, .string ⟨#[]⟩, .string ⟨#[]⟩, .bool false, .int .i64 0, .int .i64 0, .slice none 0 0, .slice none 0 0, .string ⟨#[]⟩, .int .i64 0, .int .i64 0, .int .i64 0, .string ⟨#[]⟩, .int .i64 3, .int .i64 0, .int .i64 5, .int .i64 0, .int .i64 0, .slice none 0 0, .string ⟨#[]⟩, .string ⟨#[]⟩, .bool false, .int .i64 0, .int .i64 0, .slice none 0 0, .slice none 0 0, .string ⟨#[]⟩, .int .i64 0, .int .i64 0, .int .i64 0, .string ⟨#[103, 101, 116, 32, 97, 32, 98, 10]⟩, .int .i64 0, .int .i64 0, .int .i64 8, .int .i64 0, .int .i64 0, .slice none 0 0, .string ⟨#[]⟩, .string ⟨#[]⟩, .bool false, .int .i64 0, .int .i64 0, .slice none 0 0, .slice none 0 0, .string ⟨#[]⟩, .int .i64 3, .int .i64 5, .int .i64 2, .string ⟨#[]⟩, .int .i64 0, .int .i64 0, .int .i64 9, .int .i64 0, .int .i64 0, .slice none 0 0, .string ⟨#[]⟩, .string ⟨#[]⟩, .bool false, .int .i64 0, .int .i64 0, .slice none 0 0, .slice none 0 0, .string ⟨#[]⟩, .int .i64 0, .int .i64 0, .int .i64 0, .string ⟨#[]⟩, .int .i64 1, .int .i64 0, .int .i64 9, .int .i64 0, .int .i64 0, .slice none 0 0, .string ⟨#[]⟩, .string ⟨#[]⟩, .bool false, .int .i64 0, .int .i64 0, .slice none 0 0, .slice none 0 0, .string ⟨#[]⟩, .int .i64 0, .int .i64 0, .int .i64 0, .string ⟨#[]⟩, .int .i64 2, .int .i64 0, .int .i64 9, .int .i64 0, .int .i64 0, .slice none 0 0, .string ⟨#[]⟩, .string ⟨#[]⟩, .bool false, .int .i64 0, .int .i64 0, .slice none 0 0, .slice none 0 0, .string ⟨#[]⟩, .int .i64 0, .int .i64 0, .int .i64 0, .string ⟨#[]⟩, .int .i64 3, .int .i64 0, .int .i64 10, .int .i64 0, .int .i64 0, .slice none 0 0, .string ⟨#[]⟩, .string ⟨#[]⟩, .bool false, .int .i64 0, .int .i64 0, .slice none 0 0, .slice none 0 0, .string ⟨#[]⟩, .int .i64 0, .int .i64 0, .int .i64 0, .string ⟨#[103, 101, 116, 32, 97, 10, 115, 101, 116, 32, 98, 32, 49, 10, 120, 10]⟩, .int .i64 0, .int .i64 0]
set_option maxRecDepth 20000 in
theorem given_build (b : Nat) (W : World) : (Instr.buildSlice 22 10 #[(0, .agg #[.int .i64 1, .int .i64 0, .int .i64 2, .slice (some ⟨b, 0, none⟩) 1 1, .string ⟨#[120, 121]⟩, .string ⟨#[]⟩, .bool false, .int .i64 0, .int .i64 0, .slice none 0 0, .slice none 0 0, .string ⟨#[]⟩, .int .i64 0, .int .i64 0, .int .i64 0, .string ⟨#[]⟩, .int .i64 1, .int .i64 0]), (1, .agg #[.int .i64 4, .int .i64 0, .int .i64 0, .slice none 0 0, .string ⟨#[]⟩, .string ⟨#[]⟩, .bool false, .int .i64 0, .int .i64 0, .slice none 0 0, .slice none 0 0, .string ⟨#[]⟩, .int .i64 0, .int .i64 0, .int .i64 0, .string ⟨#[]⟩, .int .i64 1, .int .i64 0]), (2, .agg #[.int .i64 4, .int .i64 0, .int .i64 0, .slice none 0 0, .string ⟨#[]⟩, .string ⟨#[]⟩, .bool false, .int .i64 0, .int .i64 0, .slice none 0 0, .slice none 0 0, .string ⟨#[]⟩, .int .i64 0, .int .i64 0, .int .i64 0, .string ⟨#[]⟩, .int .i64 2, .int .i64 0]), (3, .agg #[.int .i64 4, .int .i64 0, .int .i64 0, .slice none 0 0, .string ⟨#[]⟩, .string ⟨#[]⟩, .bool false, .int .i64 0, .int .i64 0, .slice none 0 0, .slice none 0 0, .string ⟨#[]⟩, .int .i64 0, .int .i64 0, .int .i64 0, .string ⟨#[]⟩, .int .i64 3, .int .i64 0]), (4, .agg #[.int .i64 5, .int .i64 0, .int .i64 0, .slice none 0 0, .string ⟨#[]⟩, .string ⟨#[]⟩, .bool false, .int .i64 0, .int .i64 0, .slice none 0 0, .slice none 0 0, .string ⟨#[]⟩, .int .i64 0, .int .i64 0, .int .i64 0, .string ⟨#[103, 101, 116, 32, 97, 32, 98, 10]⟩, .int .i64 0, .int .i64 0]), (5, .agg #[.int .i64 8, .int .i64 0, .int .i64 0, .slice none 0 0, .string ⟨#[]⟩, .string ⟨#[]⟩, .bool false, .int .i64 0, .int .i64 0, .slice none 0 0, .slice none 0 0, .string ⟨#[]⟩, .int .i64 3, .int .i64 5, .int .i64 2, .string ⟨#[]⟩, .int .i64 0, .int .i64 0]), (6, .agg #[.int .i64 9, .int .i64 0, .int .i64 0, .slice none 0 0, .string ⟨#[]⟩, .string ⟨#[]⟩, .bool false, .int .i64 0, .int .i64 0, .slice none 0 0, .slice none 0 0, .string ⟨#[]⟩, .int .i64 0, .int .i64 0, .int .i64 0, .string ⟨#[]⟩, .int .i64 1, .int .i64 0]), (7, .agg #[.int .i64 9, .int .i64 0, .int .i64 0, .slice none 0 0, .string ⟨#[]⟩, .string ⟨#[]⟩, .bool false, .int .i64 0, .int .i64 0, .slice none 0 0, .slice none 0 0, .string ⟨#[]⟩, .int .i64 0, .int .i64 0, .int .i64 0, .string ⟨#[]⟩, .int .i64 2, .int .i64 0]), (8, .agg #[.int .i64 9, .int .i64 0, .int .i64 0, .slice none 0 0, .string ⟨#[]⟩, .string ⟨#[]⟩, .bool false, .int .i64 0, .int .i64 0, .slice none 0 0, .slice none 0 0, .string ⟨#[]⟩, .int .i64 0, .int .i64 0, .int .i64 0, .string ⟨#[]⟩, .int .i64 3, .int .i64 0]), (9, .agg #[.int .i64 10, .int .i64 0, .int .i64 0, .slice none 0 0, .string ⟨#[]⟩, .string ⟨#[]⟩, .bool false, .int .i64 0, .int .i64 0, .slice none 0 0, .slice none 0 0, .string ⟨#[]⟩, .int .i64 0, .int .i64 0, .int .i64 0, .string ⟨#[103, 101, 116, 32, 97, 10, 115, 101, 116, 32, 98, 32, 49, 10, 120, 10]⟩, .int .i64 0, .int .i64 0])]).run Tryz.prog W = .ok (.slice (some ⟨W.heap.size, 0, none⟩) 10 10) (W.alloc (.cells (givenG b) 95)) := by kernel_rfl
def givenK : List Int := [1, 4, 4, 4, 5, 8, 9, 9, 9, 10]
set_option maxRecDepth 20000 in
theorem givenG_k (b : Nat) : ∀ j, j < 10 → (givenG b)[18 * j]? = some (.int .i64 (givenK.getD j 0)) := by
  intro j hj
  match j, hj with
  | 0, _ => rfl
  | 1, _ => rfl
  | 2, _ => rfl
  | 3, _ => rfl
  | 4, _ => rfl
  | 5, _ => rfl
  | 6, _ => rfl
  | 7, _ => rfl
  | 8, _ => rfl
  | 9, _ => rfl
set_option maxRecDepth 20000 in
theorem givenG_0 (b : Nat) : (givenG b)[0]? = some (.int .i64 1) ∧ (givenG b)[1]? = some (.int .i64 0) ∧ (givenG b)[2]? = some (.int .i64 2) ∧ (givenG b)[3]? = some (.slice (some ⟨b, 0, none⟩) 1 1) ∧ (givenG b)[4]? = some (.string ⟨#[120, 121]⟩) ∧ (givenG b)[5]? = some (.string ⟨#[]⟩) ∧ (givenG b)[6]? = some (.bool false) ∧ (givenG b)[7]? = some (.int .i64 0) ∧ (givenG b)[8]? = some (.int .i64 0) ∧ (givenG b)[9]? = some (.slice none 0 0) ∧ (givenG b)[10]? = some (.slice none 0 0) ∧ (givenG b)[11]? = some (.string ⟨#[]⟩) ∧ (givenG b)[12]? = some (.int .i64 0) ∧ (givenG b)[13]? = some (.int .i64 0) ∧ (givenG b)[14]? = some (.int .i64 0) ∧ (givenG b)[15]? = some (.string ⟨#[]⟩) ∧ (givenG b)[16]? = some (.int .i64 1) ∧ (givenG b)[17]? = some (.int .i64 0) := ⟨rfl, rfl, rfl, rfl, rfl, rfl, rfl, rfl, rfl, rfl, rfl, rfl, rfl, rfl, rfl, rfl, rfl, rfl⟩
theorem givenK_out : ∀ j, j < 10 → j ≠ 0 → ¬ (givenK.getD j 0 ≤ 3) := by decide
theorem givenK_in : ∀ j, j < 10 → (givenK.getD j 0 ≥ 1) := by decide

theorem wp_of_run {P : Program} {o : Oper} {a : Act} {w w' : World} {K : Act → World → Prop} {Q : Exit → Act → World → Prop} {v : Value} (h : (execOp a.eval o).run P w = .ok (.value v) w') (hk : K (a.put o.dst v) w') : o.wp P a w K Q := by
  unfold Oper.wp
  rw [h]
  exact hk

theorem given_op (b : Nat) (wr : World) (hb : b < wr.heap.size) (hc : wr.cell? ⟨b, 0, none⟩ = some (.string ⟨#[97]⟩)) : OpIn wr 1 (.agg #[.int .i64 1, .int .i64 0, .int .i64 2, .slice (some ⟨b, 0, none⟩) 1 1, .string ⟨#[120, 121]⟩, .string ⟨#[]⟩, .bool false, .int .i64 0, .int .i64 0, .slice none 0 0, .slice none 0 0, .string ⟨#[]⟩, .int .i64 0, .int .i64 0, .int .i64 0, .string ⟨#[]⟩, .int .i64 1, .int .i64 0]) := by
  refine ⟨0, 2, some ⟨b, 0, none⟩, 1, 1, [⟨#[97]⟩], ⟨#[120, 121]⟩, ⟨#[]⟩, false, 0, 0, none, none, 0, 0, 0, 0, [], [], ⟨#[]⟩, 0, 0, 0, ⟨#[]⟩, 1, 0, rfl, ⟨rfl, Nat.le_refl _, by simp, ?_, .inl ⟨_, _, rfl, hb, ?_⟩⟩, by decide, ⟨rfl, Nat.le_refl _, by simp, .inr ⟨rfl, rfl⟩⟩, ⟨rfl, Nat.le_refl _, by simp, by simp, .inr ⟨rfl, rfl⟩⟩, by decide, by decide, by decide, by decide, by decide⟩
  · intro s hs
    simp at hs
    subst hs
    decide
  · intro i s hs
    have hi : i = 0 := by have := (List.getElem?_eq_some_iff.1 hs).1; simp at this; exact this
    subst hi
    simp at hs
    subst hs
    exact hc
theorem given_first (b B : Nat) (wr : World) (hb : b < wr.heap.size) (hc : wr.cell? ⟨b, 0, none⟩ = some (.string ⟨#[97]⟩)) (hG : ∀ m, wr.cell? ⟨B, m, none⟩ = (givenG b)[m]?) : ∃ cs : List Value, cs.length = 18 ∧ wr.rangeAt B 0 cs ∧ OpIn wr 1 (.agg cs.toArray) := by
  refine ⟨[.int .i64 1, .int .i64 0, .int .i64 2, .slice (some ⟨b, 0, none⟩) 1 1, .string ⟨#[120, 121]⟩, .string ⟨#[]⟩, .bool false, .int .i64 0, .int .i64 0, .slice none 0 0, .slice none 0 0, .string ⟨#[]⟩, .int .i64 0, .int .i64 0, .int .i64 0, .string ⟨#[]⟩, .int .i64 1, .int .i64 0], rfl, ?_, given_op b wr hb hc⟩
  intro j v hv
  rw [Nat.zero_add, hG]
  obtain ⟨E0, E1, E2, E3, E4, E5, E6, E7, E8, E9, E10, E11, E12, E13, E14, E15, E16, E17⟩ := givenG_0 b
  have hj : j < 18 := (List.getElem?_eq_some_iff.1 hv).1
  rw [← hv]
  match j, hj with
  | 0, _ => exact E0
  | 1, _ => exact E1
  | 2, _ => exact E2
  | 3, _ => exact E3
  | 4, _ => exact E4
  | 5, _ => exact E5
  | 6, _ => exact E6
  | 7, _ => exact E7
  | 8, _ => exact E8
  | 9, _ => exact E9
  | 10, _ => exact E10
  | 11, _ => exact E11
  | 12, _ => exact E12
  | 13, _ => exact E13
  | 14, _ => exact E14
  | 15, _ => exact E15
  | 16, _ => exact E16
  | 17, _ => exact E17

set_option maxRecDepth 20000 in
set_option maxHeartbeats 4000000 in
theorem given_any (p : Value) (w : World) :
    Calls Tryz.prog 39 #[p, .int .i64 1, .int .i64 3] w fun e w' => e = .returned (.bool true) ∧ Below w.heap.size w w' := by
  go_enter Tryz.func39, Tryz.ntmps39
  go_wp2
  refine wp_of_run (v := .slice (some ⟨(w.alloc (.cells #[.string ⟨#[97]⟩] 9)).heap.size, 0, none⟩) 10 10) (w' := (w.alloc (.cells #[.string ⟨#[97]⟩] 9)).alloc (.cells (givenG w.heap.size) 95)) (by kernel_rfl) ?_
  rw [World.size_alloc]
  generalize hG : givenG w.heap.size = G
  have HG := hide' hG
  clear hG
  generalize Value.agg #[.int .i64 2, .slice (some ⟨w.heap.size, 0, none⟩) 1 1, .string ⟨#[120, 121]⟩, .string ⟨#[]⟩, .bool false, .int .i64 0] = z0
  generalize Value.agg #[.int .i64 1, .int .i64 0, .int .i64 2, .slice (some ⟨w.heap.size, 0, none⟩) 1 1, .string ⟨#[120, 121]⟩, .string ⟨#[]⟩, .bool false, .int .i64 0, .int .i64 0, .slice none 0 0, .slice none 0 0, .string ⟨#[]⟩, .int .i64 0, .int .i64 0, .int .i64 0, .string ⟨#[]⟩, .int .i64 1, .int .i64 0] = z1
  generalize Value.agg #[.int .i64 4, .int .i64 0, .int .i64 0, .slice none 0 0, .string ⟨#[]⟩, .string ⟨#[]⟩, .bool false, .int .i64 0, .int .i64 0, .slice none 0 0, .slice none 0 0, .string ⟨#[]⟩, .int .i64 0, .int .i64 0, .int .i64 0, .string ⟨#[]⟩, .int .i64 1, .int .i64 0] = z2
  generalize Value.agg #[.int .i64 4, .int .i64 0, .int .i64 0, .slice none 0 0, .string ⟨#[]⟩, .string ⟨#[]⟩, .bool false, .int .i64 0, .int .i64 0, .slice none 0 0, .slice none 0 0, .string ⟨#[]⟩, .int .i64 0, .int .i64 0, .int .i64 0, .string ⟨#[]⟩, .int .i64 2, .int .i64 0] = z3
  generalize Value.agg #[.int .i64 4, .int .i64 0, .int .i64 0, .slice none 0 0, .string ⟨#[]⟩, .string ⟨#[]⟩, .bool false, .int .i64 0, .int .i64 0, .slice none 0 0, .slice none 0 0, .string ⟨#[]⟩, .int .i64 0, .int .i64 0, .int .i64 0, .string ⟨#[]⟩, .int .i64 3, .int .i64 0] = z4
  generalize Value.agg #[.int .i64 5, .int .i64 0, .int .i64 0, .slice none 0 0, .string ⟨#[]⟩, .string ⟨#[]⟩, .bool false, .int .i64 0, .int .i64 0, .slice none 0 0, .slice none 0 0, .string ⟨#[]⟩, .int .i64 0, .int .i64 0, .int .i64 0, .string ⟨#[103, 101, 116, 32, 97, 32, 98, 10]⟩, .int .i64 0, .int .i64 0] = z5
  generalize Value.agg #[.int .i64 8, .int .i64 0, .int .i64 0, .slice none 0 0, .string ⟨#[]⟩, .string ⟨#[]⟩, .bool false, .int .i64 0, .int .i64 0, .slice none 0 0, .slice none 0 0, .string ⟨#[]⟩, .int .i64 3, .int .i64 5, .int .i64 2, .string ⟨#[]⟩, .int .i64 0, .int .i64 0] = z6
  generalize Value.agg #[.int .i64 9, .int .i64 0, .int .i64 0, .slice none 0 0, .string ⟨#[]⟩, .string ⟨#[]⟩, .bool false, .int .i64 0, .int .i64 0, .slice none 0 0, .slice none 0 0, .string ⟨#[]⟩, .int .i64 0, .int .i64 0, .int .i64 0, .string ⟨#[]⟩, .int .i64 1, .int .i64 0] = z7
  generalize Value.agg #[.int .i64 9, .int .i64 0, .int .i64 0, .slice none 0 0, .string ⟨#[]⟩, .string ⟨#[]⟩, .bool false, .int .i64 0, .int .i64 0, .slice none 0 0, .slice none 0 0, .string ⟨#[]⟩, .int .i64 0, .int .i64 0, .int .i64 0, .string ⟨#[]⟩, .int .i64 2, .int .i64 0] = z8
  generalize Value.agg #[.int .i64 9, .int .i64 0, .int .i64 0, .slice none 0 0, .string ⟨#[]⟩, .string ⟨#[]⟩, .bool false, .int .i64 0, .int .i64 0, .slice none 0 0, .slice none 0 0, .string ⟨#[]⟩, .int .i64 0, .int .i64 0, .int .i64 0, .string ⟨#[]⟩, .int .i64 3, .int .i64 0] = z9
  generalize Value.agg #[.int .i64 10, .int .i64 0, .int .i64 0, .slice none 0 0, .string ⟨#[]⟩, .string ⟨#[]⟩, .bool false, .int .i64 0, .int .i64 0, .slice none 0 0, .slice none 0 0, .string ⟨#[]⟩, .int .i64 0, .int .i64 0, .int .i64 0, .string ⟨#[103, 101, 116, 32, 97, 10, 115, 101, 116, 32, 98, 32, 49, 10, 120, 10]⟩, .int .i64 0, .int .i64 0] = z10
  generalize Value.agg #[.int .i64 3, .int .i64 5, .int .i64 2] = z11
  go_wp2
  have HCK : Hid (∀ wr, Below (w.heap.size + 1 + 1) ((w.alloc (.cells #[.string ⟨#[97]⟩] 9)).alloc (.cells G 95)) wr → ∀ m, wr.cell? ⟨w.heap.size + 1, m, none⟩ = G[m]?) := by
    intro wr h m
    have h1 := blkNew (w.alloc (.cells #[.string ⟨#[97]⟩] 9)) (.cells G 95)
    rw [World.size_alloc] at h1
    have h2 := (h.block (w.heap.size + 1) (by omega)).trans h1
    exact blkCell h2 m
  go_loopw [8, 9] (fun i k wr => ∃ j : Nat, j ≤ 10 ∧ i = .int .i64 j ∧ Hid (Below (w.heap.size + 1 + 1) ((w.alloc (.cells #[.string ⟨#[97]⟩] 9)).alloc (.cells G 95)) wr)) (fun i _ _ => 10 - (intOf i).toNat)
  case atStart => exact ⟨0, Nat.zero_le _, rfl, Below.refl _ _⟩
  case round =>
    obtain ⟨j, hj, rfl, HJ⟩ := hrel
    have hsz : w.heap.size + 1 < wr.heap.size := by have := HJ.out.size; simp at this; omega
    by_cases hlt : j < 10
    · have ck : wr.cell? ⟨w.heap.size + 1, j * 18, none⟩ = some (.int .i64 (givenK.getD j 0)) := by
        rw [HCK.out wr HJ.out, ← HG.out, Nat.mul_comm]; exact givenG_k _ j hlt
      have ck' : wr.cell? ⟨w.heap.size + 1, 18 * j, none⟩ = some (.int .i64 (givenK.getD j 0)) := by
        rw [Nat.mul_comm]; exact ck
      have hk1 := givenK_in j hlt
      by_cases h0 : j = 0
      · have hc0 : wr.cell? ⟨w.heap.size, 0, none⟩ = some (.string ⟨#[97]⟩) := by
          refine (World.cell?_of_block (HJ.out.block w.heap.size (by omega))).trans ?_
          go_simp
        obtain ⟨cs, hcl, hcr, hO⟩ := given_first w.heap.size (w.heap.size + 1) wr (by omega) hc0 (fun m => by rw [HCK.out wr HJ.out, HG.out])
        have HO := hide' hO
        have HR : Hid (wr.rangeAt (w.heap.size + 1) (j * 18) cs) := by
          have e : j * 18 = 0 := by omega
          rw [e]; exact hcr
        have HI : Hid ((Tryz.prog.info? 95).map (·.size) = some cs.length) := by rw [hcl]; exact (show (Tryz.prog.info? 95).map (·.size) = some 18 by kernel_rfl)
        have hkk : givenK.getD j 0 = 1 := by rw [h0]; rfl
        rw [hkk] at ck ck'
        have H0 : Hid (j = 0) := h0
        clear hk1 hO hc0 hcr hcl h0 hkk
        go_wp2_with (show wpList _ _ _ ({ dst := _, op := Op.load 95 _, type := _, pos := _, after := _, guard := _ } :: _) _ _; refine wpList_load_mid rfl 95 _ rfl (w.heap.size + 1) (j * 18) rfl cs _ HR.out Tryz.underlying95 rfl HI.out ?_)
        go_at_call 40
        refine (step_any _ _ 1 _ HO.out (by decide) (by decide)).mono ?_
        rintro e w1 ⟨rfl, hb1⟩
        have H1 : Hid (Below (w.heap.size + 1 + 1) ((w.alloc (.cells #[.string ⟨#[97]⟩] 9)).alloc (.cells G 95)) w1) := HJ.out.trans (hb1.mono (by omega))
        clear hb1
        go_wp2_with fail
        exact ⟨⟨j + 1, by omega, by go_num, H1⟩, by simp [intOf]; omega⟩
      · have hk3 := givenK_out j hlt h0
        generalize givenK.getD j 0 = K at *
        go_wp2_with fail
        exact ⟨⟨j + 1, by omega, by go_num, HJ⟩, by simp [intOf]; omega⟩
    · have hj2 : j = 10 := by omega
      subst hj2
      go_wp2
      go_ret
      exact ⟨rfl, ((((Below.refl _ _).alloc (Nat.le_refl _) _).alloc (by simp) _).trans (HJ.out.mono (by omega)))⟩
end Go.Proofs.YtlonjggfnleolaaGreatDoor
