/-
  A step of a script that was handed on; a script in memory.
-/
import Derived.Test.YtlonjggfnleolaaGreatDoorAsks
namespace Go.Proofs.YtlonjggfnleolaaGreatDoor
open Go.RowKit
set_option linter.unusedVariables false

/-- A list of truths that a call was handed. -/
structure BoolsIn (w : World) (a : Option Addr) (n c : Nat) (bs : List Bool) : Prop where
  len : bs.length = n
  cap : n ≤ c
  small : bs.length ≤ 140737488355328
  form : (∃ b o, a = some ⟨b, o, none⟩ ∧ b < w.heap.size ∧ ∀ (i : Nat) (s : Bool), bs[i]? = some s → w.cell? ⟨b, o + i, none⟩ = some (.bool s)) ∨ (bs = [] ∧ c = 0)
theorem BoolsIn.later {w w' : World} {a : Option Addr} {n c : Nat} {bs : List Bool} (h : BoolsIn w a n c bs) (hb : Below w.heap.size w w') : BoolsIn w' a n c bs := by
  obtain ⟨hl, hc, sm, hf⟩ := h
  refine ⟨hl, hc, sm, ?_⟩
  rcases hf with ⟨b, o, rfl, hlt, hcell⟩ | h
  · exact .inl ⟨b, o, rfl, Nat.lt_of_lt_of_le hlt hb.size, fun i s hs => (hb.cell (p := ⟨b, o + i, none⟩) hlt).trans (hcell i s hs)⟩
  · exact .inr h
/-- One step's value. -/
def opV (k at' : Int) (ck : Int) (kv : Value) (val cw : ByteArray) (ft : Bool) (cid : Int) (ak : Int) (fv vv : Value) (wd : ByteArray) (g0 g1 g2 : Int) (s : ByteArray) (x y : Int) : Value :=
  .agg #[.int .i64 k, .int .i64 at', .int .i64 ck, kv, .string val, .string cw, .bool ft, .int .i64 cid, .int .i64 ak, fv, vv, .string wd, .int .i64 g0, .int .i64 g1, .int .i64 g2, .string s, .int .i64 x, .int .i64 y]

/-- A step that may be handed on. -/
def OpIn (w : World) (k : Int) (v : Value) : Prop :=
  ∃ (at' ck : Int) (a : Option Addr) (n c : Nat) (ss : List ByteArray) (val cw : ByteArray) (ft : Bool) (cid ak : Int) (fa va : Option Addr) (fn fc vn vc : Nat) (bs : List Bool) (vs : List ByteArray) (wd : ByteArray) (g0 g1 g2 : Int) (s : ByteArray) (x y : Int),
    v = opV k at' ck (.slice a n c) val cw ft cid ak (.slice fa fn fc) (.slice va vn vc) wd g0 g1 g2 s x y ∧ StrsIn w a n c ss ∧ val.size ≤ maxLen ∧ BoolsIn w fa fn fc bs ∧ StrsIn w va vn vc vs ∧ wd.size ≤ maxLen ∧ s.size ≤ maxLen ∧ n ≤ 8796093022208 ∧ fn ≤ 140737488355328 ∧ vn ≤ 8796093022208

end Go.Proofs.YtlonjggfnleolaaGreatDoor
