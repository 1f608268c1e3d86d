/-
  A step of a script that was handed on; a script in memory.
-/
import Derived.Test.YtlonjggfnleolaaGreatDoorAsks
import Derived.Test.YtlonjggfnleolaaGreatDoorReadEx
import Derived.Deep.MidRow

namespace Go.Proofs.YtlonjggfnleolaaGreatDoor
open Go.RowKit
set_option linter.unusedVariables false

/-- A list of truths that a call was handed. -/
structure BoolsIn (w : World) (a : Option Addr) (n c : Nat) (bs : List Bool) : Prop where
  len : bs.length = n
  cap : n ≤ c
  small : bs.length ≤ 140737488355328
  form : (∃ b o, a = some ⟨b, o, none⟩ ∧ b < w.heap.size ∧ ∀ (i : Nat) (s : Bool), bs[i]? = some s → w.cell? ⟨b, o + i, none⟩ = some (.bool s)) ∨ (bs = [] ∧ c = 0)
theorem BoolsIn.later {w w' : World} {a : Option Addr} {n c : Nat} {bs : List Bool} (h : BoolsIn w a n c bs) (hb : Below w.heap.size w w') : BoolsIn w' a n c bs := by
  obtain ⟨hl, hc, sm, hf⟩ := h
  refine ⟨hl, hc, sm, ?_⟩
  rcases hf with ⟨b, o, rfl, hlt, hcell⟩ | h
  · exact .inl ⟨b, o, rfl, Nat.lt_of_lt_of_le hlt hb.size, fun i s hs => (hb.cell (p := ⟨b, o + i, none⟩) hlt).trans (hcell i s hs)⟩
  · exact .inr h
/-- One step's value. -/
def opV (k at' : Int) (ck : Int) (kv : Value) (val cw : ByteArray) (ft : Bool) (cid : Int) (ak : Int) (fv vv : Value) (wd : ByteArray) (g0 g1 g2 : Int) (s : ByteArray) (x y : Int) : Value :=
  .agg #[.int .i64 k, .int .i64 at', .int .i64 ck, kv, .string val, .string cw, .bool ft, .int .i64 cid, .int .i64 ak, fv, vv, .string wd, .int .i64 g0, .int .i64 g1, .int .i64 g2, .string s, .int .i64 x, .int .i64 y]

/-- A step that may be handed on. -/
def OpIn (w : World) (k : Int) (v : Value) : Prop :=
  ∃ (at' ck : Int) (a : Option Addr) (n c : Nat) (ss : List ByteArray) (val cw : ByteArray) (ft : Bool) (cid ak : Int) (fa va : Option Addr) (fn fc vn vc : Nat) (bs : List Bool) (vs : List ByteArray) (wd : ByteArray) (g0 g1 g2 : Int) (s : ByteArray) (x y : Int),
    v = opV k at' ck (.slice a n c) val cw ft cid ak (.slice fa fn fc) (.slice va vn vc) wd g0 g1 g2 s x y ∧ StrsIn w a n c ss ∧ val.size ≤ maxLen ∧ BoolsIn w fa fn fc bs ∧ StrsIn w va vn vc vs ∧ wd.size ≤ maxLen ∧ s.size ≤ maxLen ∧ n ≤ 8796093022208 ∧ fn ≤ 140737488355328 ∧ vn ≤ 8796093022208

theorem OpIn.later {w w' : World} {k : Int} {v : Value} (h : OpIn w k v) (hB : Below w.heap.size w w') : OpIn w' k v := by
  obtain ⟨at', ck, a, n, c, ss, val, cw, ft, cid, ak, fa, va, fn, fc, vn, vc, bs, vs, wd, g0, g1, g2, s, x, y, hv, h1, h2, h3, h4, h5, h6, h7, h8, h9⟩ := h
  exact ⟨at', ck, a, n, c, ss, val, cw, ft, cid, ak, fa, va, fn, fc, vn, vc, bs, vs, wd, g0, g1, g2, s, x, y, hv, h1.later hB, h2, h3.later hB, h4.later hB, h5, h6, h7, h8, h9⟩

/-- The steps of a script in memory. -/
structure ScriptIn (w : World) (b o N : Nat) : Prop where
  lt : b < w.heap.size
  ops : ∀ j, j < N → ∃ (k : Int) (cs : List Value), cs.length = 18 ∧ w.cell? ⟨b, o + j * 18, none⟩ = some (.int .i64 k) ∧ w.rangeAt b (o + j * 18) cs ∧ OpIn w k (.agg cs.toArray)

end Go.Proofs.YtlonjggfnleolaaGreatDoor


/-
  The given steps.
-/

namespace Go.Proofs.YtlonjggfnleolaaGreatDoor
open Go.RowKit
set_option linter.unusedVariables false
/-- The cells of the given script. -/
def givenG (b : Nat) : Array Value := #[.int .i64 1, .int .i64 0, .int .i64 2, .slice (some ⟨b, 0, none⟩) 1 1, .string ⟨#[120, 121]⟩, .string ⟨#[]⟩, .bool false, .int .i64 0, .int .i64 0, .slice none 0 0, .slice none 0 0, .string ⟨#[]⟩, .int .i64 0, .int .i64 0, .int .i64 0, .string ⟨#[]⟩, .int .i64 1, .int .i64 0, .int .i64 4, .int .i64 0, .int .i64 0, .slice none 0 0, .string ⟨#[]⟩, .string ⟨#[]⟩, .bool false, .int .i64 0, .int .i64 0, .slice none 0 0, .slice none 0 0, .string ⟨#[]⟩, .int .i64 0, .int .i64 0, .int .i64 0, .string ⟨#[]⟩, .int .i64 1, .int .i64 0, .int .i64 4, .int .i64 0, .int .i64 0, .slice none 0 0, .string ⟨#[]⟩, .string ⟨#[]⟩, .bool false, .int .i64 0, .int .i64 0, .slice none 0 0, .slice none 0 0, .string ⟨#[]⟩, .int .i64 0, .int .i64 0, .int .i64 0, .string ⟨#[]⟩, .int .i64 2, .int .i64 0, .int .i64 4, .int .i64 0, .int .i64 0, .slice none 0 0, .string ⟨#[]⟩, .string ⟨#[]⟩, .bool false, .int .i64 0, .int .i64 0, .slice none 0 0, .slice none 0 0, .string ⟨#[]⟩, .int .i64 0, .int .i64 0, .int .i64 0, .string ⟨#[]⟩, .int .i64 3, .int .i64 0, .int .i64 5, .int .i64 0, .int .i64 0, .slice none 0 0, .string ⟨#[]⟩, .string ⟨#[]⟩, .bool false, .int .i64 0, .int .i64 0, .slice none 0 0, .slice none 0 0, .string ⟨#[]⟩, .int .i64 0, .int .i64 0, .int .i64 0, .string ⟨#[103, 101, 116, 32, 97, 32, 98, 10]⟩, .int .i64 0, .int .i64 0, .int .i64 8, .int .i64 0, .int .i64 0, .slice none 0 0, .string ⟨#[]⟩, .string ⟨#[]⟩, .bool false, .int .i64 0, .int .i64 0, .slice none 0 0, .slice none 0 0, .string ⟨#[]⟩, .int .i64 3, .int .i64 5, .int .i64 2, .string ⟨#[]⟩, .int .i64 0, .int .i64 0, .int .i64 9, .int .i64 0, .int .i64 0, .slice none 0 0, .string ⟨#[]⟩, .string ⟨#[]⟩, .bool false, .int .i64 0, .int .i64 0, .slice none 0 0, .slice none 0 0, .string ⟨#[]⟩, .int .i64 0, .int .i64 0, .int .i64 0, .string ⟨#[]⟩, .int .i64 1, .int .i64 0, .int .i64 9, .int .i64 0, .int .i64 0, .slice none 0 0, .string ⟨#[]⟩, .string ⟨#[]⟩, .bool false, .int .i64 0, .int .i64 0, .slice none 0 0, .slice none 0 0, .string ⟨#[]⟩, .int .i64 0, .int .i64 0, .int .i64 0, .string ⟨#[]⟩, .int .i64 2, .int .i64 0, .int .i64 9, .int .i64 0, .int .i64 0, .slice none 0 0, .string ⟨#[]⟩, .string ⟨#[]⟩, .bool false, .int .i64 0, .int .i64 0, .slice none 0 0, .slice none 0 0, .string ⟨#[]⟩, .int .i64 0, .int .i64 0, .int .i64 0, .string ⟨#[]⟩, .int .i64 3, .int .i64 0, .int .i64 10, .int .i64 0, .int .i64 0, .slice none 0 0, .string ⟨#[]⟩, .string ⟨#[]⟩, .bool false, .int .i64 0, .int .i64 0, .slice none 0 0, .slice none 0 0, .string ⟨#[]⟩, .int .i64 0, .int .i64 0, .int .i64 0, .string ⟨#[103, 101, 116, 32, 97, 10, 115, 101, 116, 32, 98, 32, 49, 10, 120, 10]⟩, .int .i64 0, .int .i64 0]
set_option maxRecDepth 20000 in
theorem given_build (b : Nat) (W : World) : (Instr.buildSlice 22 10 #[(0, .agg #[.int .i64 1, .int .i64 0, .int .i64 2, .slice (some ⟨b, 0, none⟩) 1 1, .string ⟨#[120, 121]⟩, .string ⟨#[]⟩, .bool false, .int .i64 0, .int .i64 0, .slice none 0 0, .slice none 0 0, .string ⟨#[]⟩, .int .i64 0, .int .i64 0, .int .i64 0, .string ⟨#[]⟩, .int .i64 1, .int .i64 0]), (1, .agg #[.int .i64 4, .int .i64 0, .int .i64 0, .slice none 0 0, .string ⟨#[]⟩, .string ⟨#[]⟩, .bool false, .int .i64 0, .int .i64 0, .slice none 0 0, .slice none 0 0, .string ⟨#[]⟩, .int .i64 0, .int .i64 0, .int .i64 0, .string ⟨#[]⟩, .int .i64 1, .int .i64 0]), (2, .agg #[.int .i64 4, .int .i64 0, .int .i64 0, .slice none 0 0, .string ⟨#[]⟩, .string ⟨#[]⟩, .bool false, .int .i64 0, .int .i64 0, .slice none 0 0, .slice none 0 0, .string ⟨#[]⟩, .int .i64 0, .int .i64 0, .int .i64 0, .string ⟨#[]⟩, .int .i64 2, .int .i64 0]), (3, .agg #[.int .i64 4, .int .i64 0, .int .i64 0, .slice none 0 0, .string ⟨#[]⟩, .string ⟨#[]⟩, .bool false, .int .i64 0, .int .i64 0, .slice none 0 0, .slice none 0 0, .string ⟨#[]⟩, .int .i64 0, .int .i64 0, .int .i64 0, .string ⟨#[]⟩, .int .i64 3, .int .i64 0]), (4, .agg #[.int .i64 5, .int .i64 0, .int .i64 0, .slice none 0 0, .string ⟨#[]⟩, .string ⟨#[]⟩, .bool false, .int .i64 0, .int .i64 0, .slice none 0 0, .slice none 0 0, .string ⟨#[]⟩, .int .i64 0, .int .i64 0, .int .i64 0, .string ⟨#[103, 101, 116, 32, 97, 32, 98, 10]⟩, .int .i64 0, .int .i64 0]), (5, .agg #[.int .i64 8, .int .i64 0, .int .i64 0, .slice none 0 0, .string ⟨#[]⟩, .string ⟨#[]⟩, .bool false, .int .i64 0, .int .i64 0, .slice none 0 0, .slice none 0 0, .string ⟨#[]⟩, .int .i64 3, .int .i64 5, .int .i64 2, .string ⟨#[]⟩, .int .i64 0, .int .i64 0]), (6, .agg #[.int .i64 9, .int .i64 0, .int .i64 0, .slice none 0 0, .string ⟨#[]⟩, .string ⟨#[]⟩, .bool false, .int .i64 0, .int .i64 0, .slice none 0 0, .slice none 0 0, .string ⟨#[]⟩, .int .i64 0, .int .i64 0, .int .i64 0, .string ⟨#[]⟩, .int .i64 1, .int .i64 0]), (7, .agg #[.int .i64 9, .int .i64 0, .int .i64 0, .slice none 0 0, .string ⟨#[]⟩, .string ⟨#[]⟩, .bool false, .int .i64 0, .int .i64 0, .slice none 0 0, .slice none 0 0, .string ⟨#[]⟩, .int .i64 0, .int .i64 0, .int .i64 0, .string ⟨#[]⟩, .int .i64 2, .int .i64 0]), (8, .agg #[.int .i64 9, .int .i64 0, .int .i64 0, .slice none 0 0, .string ⟨#[]⟩, .string ⟨#[]⟩, .bool false, .int .i64 0, .int .i64 0, .slice none 0 0, .slice none 0 0, .string ⟨#[]⟩, .int .i64 0, .int .i64 0, .int .i64 0, .string ⟨#[]⟩, .int .i64 3, .int .i64 0]), (9, .agg #[.int .i64 10, .int .i64 0, .int .i64 0, .slice none 0 0, .string ⟨#[]⟩, .string ⟨#[]⟩, .bool false, .int .i64 0, .int .i64 0, .slice none 0 0, .slice none 0 0, .string ⟨#[]⟩, .int .i64 0, .int .i64 0, .int .i64 0, .string ⟨#[103, 101, 116, 32, 97, 10, 115, 101, 116, 32, 98, 32, 49, 10, 120, 10]⟩, .int .i64 0, .int .i64 0])]).run Tryz.prog W = .ok (.slice (some ⟨W.heap.size, 0, none⟩) 10 10) (W.alloc (.cells (givenG b) 95)) := by kernel_rfl
def givenK : List Int := [1, 4, 4, 4, 5, 8, 9, 9, 9, 10]
set_option maxRecDepth 20000 in
theorem givenG_k (b : Nat) : ∀ j, j < 10 → (givenG b)[18 * j]? = some (.int .i64 (givenK.getD j 0)) := by
  intro j hj
  match j, hj with
  | 0, _ => rfl
  | 1, _ => rfl
  | 2, _ => rfl
  | 3, _ => rfl
  | 4, _ => rfl
  | 5, _ => rfl
  | 6, _ => rfl
  | 7, _ => rfl
  | 8, _ => rfl
  | 9, _ => rfl
set_option maxRecDepth 20000 in
theorem givenG_0 (b : Nat) : (givenG b)[0]? = some (.int .i64 1) ∧ (givenG b)[1]? = some (.int .i64 0) ∧ (givenG b)[2]? = some (.int .i64 2) ∧ (givenG b)[3]? = some (.slice (some ⟨b, 0, none⟩) 1 1) ∧ (givenG b)[4]? = some (.string ⟨#[120, 121]⟩) ∧ (givenG b)[5]? = some (.string ⟨#[]⟩) ∧ (givenG b)[6]? = some (.bool false) ∧ (givenG b)[7]? = some (.int .i64 0) ∧ (givenG b)[8]? = some (.int .i64 0) ∧ (givenG b)[9]? = some (.slice none 0 0) ∧ (givenG b)[10]? = some (.slice none 0 0) ∧ (givenG b)[11]? = some (.string ⟨#[]⟩) ∧ (givenG b)[12]? = some (.int .i64 0) ∧ (givenG b)[13]? = some (.int .i64 0) ∧ (givenG b)[14]? = some (.int .i64 0) ∧ (givenG b)[15]? = some (.string ⟨#[]⟩) ∧ (givenG b)[16]? = some (.int .i64 1) ∧ (givenG b)[17]? = some (.int .i64 0) := ⟨rfl, rfl, rfl, rfl, rfl, rfl, rfl, rfl, rfl, rfl, rfl, rfl, rfl, rfl, rfl, rfl, rfl, rfl⟩
theorem givenK_out : ∀ j, j < 10 → j ≠ 0 → ¬ (givenK.getD j 0 ≤ 3) := by decide
theorem givenK_in : ∀ j, j < 10 → (givenK.getD j 0 ≥ 1) := by decide

theorem wp_of_run {P : Program} {o : Oper} {a : Act} {w w' : World} {K : Act → World → Prop} {Q : Exit → Act → World → Prop} {v : Value} (h : (execOp a.eval o).run P w = .ok (.value v) w') (hk : K (a.put o.dst v) w') : o.wp P a w K Q := by
  unfold Oper.wp
  rw [h]
  exact hk

end Go.Proofs.YtlonjggfnleolaaGreatDoor
