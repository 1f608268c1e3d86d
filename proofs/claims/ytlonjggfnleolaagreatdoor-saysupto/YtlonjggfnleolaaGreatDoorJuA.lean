/-
  What a call turns, and what it leaves; a builder that is a part of a struct: copyCheck, WriteString, String.
-/
import Derived.Test.YtlonjggfnleolaaGreatDoorReadEx
import Derived.Lib.FrozenHead
import Derived.Lib.Builder
import Derived.Shelf.Strings.BuilderX
import Derived.Deep.RegionHeld3
namespace Go.Proofs.YtlonjggfnleolaaGreatDoor
open Go.RowKit Go.Shelf
set_option linter.unusedVariables false

/-- From w to w' no block has turned but those of M and new ones. -/
structure Chg (M : List Nat) (w w' : World) : Prop where
  os : w'.os = w.os
  tape : w'.tape = w.tape
  output : w'.output = w.output
  size : w.heap.size ≤ w'.heap.size
  block : ∀ k, k < w.heap.size → k ∉ M → w'.heap[k]? = w.heap[k]?
theorem Chg.refl (M : List Nat) (w : World) : Chg M w w := ⟨rfl, rfl, rfl, Nat.le_refl _, fun _ _ _ => rfl⟩
theorem Chg.of_below {M : List Nat} {w w' : World} (h : Below w.heap.size w w') : Chg M w w' := ⟨h.os, h.tape, h.output, h.size, fun k hk _ => h.block k hk⟩
theorem Chg.undrew {M : List Nat} {w w' : World} (h : Chg M w.drew w') : Chg M w w' := ⟨h.os, h.tape, h.output, h.size, h.block⟩
/-- What is turned later is among the first, or new. -/
def Later (w : World) (M M' : List Nat) : Prop := ∀ b ∈ M', b ∈ M ∨ w.heap.size ≤ b
theorem Later.refl (w : World) (M : List Nat) : Later w M M := fun b h => .inl h
theorem Later.trans {w w' : World} {M M' M'' : List Nat} (h : Later w M M') (k : Later w' M' M'') (hs : w.heap.size ≤ w'.heap.size) : Later w M M'' := fun b hb => by
  rcases k b hb with h1 | h1
  · exact h b h1
  · exact .inr (Nat.le_trans hs h1)
theorem Chg.trans {M M' : List Nat} {a b c : World} (h : Chg M a b) (k : Chg M' b c) (hl : Later a M M') : Chg M a c :=
  ⟨k.os.trans h.os, k.tape.trans h.tape, k.output.trans h.output, Nat.le_trans h.size k.size, fun i hi hn => (k.block i (Nat.lt_of_lt_of_le hi h.size) (fun hm => by
    rcases hl i hm with h1 | h1
    · exact hn h1
    · omega)).trans (h.block i hi hn)⟩
theorem Chg.more {M M' : List Nat} {a b : World} (h : Chg M a b) (hm : ∀ x ∈ M, x ∈ M') : Chg M' a b :=
  ⟨h.os, h.tape, h.output, h.size, fun k hk hn => h.block k hk (fun hh => hn (hm k hh))⟩
theorem Chg.keep {M : List Nat} {a b : World} (h : Chg M a b) {k : Nat} {o : Obj} (hk : a.heap[k]? = some o) (hn : k ∉ M) : b.heap[k]? = some o := (h.block k (blkLt hk) hn).trans hk
theorem Chg.set {M : List Nat} {a w : World} (h : Chg M a w) {p : Addr} (hp : p.block ∈ M ∨ a.heap.size ≤ p.block) (v : Value) : Chg M a (w.setCell p v) := by
  have sb : Below 0 w (w.setCell p v) := (Below.refl 0 w).setCell (p := p) (Nat.zero_le _) _
  exact ⟨sb.os.trans h.os, sb.tape.trans h.tape, sb.output.trans h.output, Nat.le_trans h.size sb.size, fun k hk hn => (Below.heap_setCell w p v k (fun e => by
    rcases hp with hp | hp
    · exact hn (e ▸ hp)
    · omega)).trans (h.block k hk hn)⟩
theorem Chg.grown {M : List Nat} {a w w' : World} {row : Option Nat} (h : Chg M a w) (hg : w.grownBy w' row) (hr : ∀ b, row = some b → b ∈ M ∨ a.heap.size ≤ b) : Chg M a w' :=
  ⟨hg.os.trans h.os, hg.tape.trans h.tape, hg.output.trans h.output, Nat.le_trans h.size hg.size, fun k hk hn => (hg.block k (Nat.lt_of_lt_of_le hk h.size) (fun e => by
    rcases hr k e.symm with h1 | h1
    · exact hn h1
    · omega)).trans (h.block k hk hn)⟩

theorem shapeOf {w : World} {b T n : Nat} {Z : Array Value} {f : Nat × Nat} (h : w.heap[b]? = some (.cells Z T f)) (hn : Z.size = n) : w.shape? b = some (T, n) := by simp [World.shape?, h, hn]
theorem info123 : (Tryz.prog.info? 123).map (·.size) = some 2 := by kernel_rfl
set_option maxHeartbeats 1000000 in
set_option maxRecDepth 100000 in
theorem bld_check_used (b o : Nat) (w : World) (h0 : w.cell? ⟨b, o, none⟩ = some (.pointer (some ⟨b, o, none⟩))) :
    Calls Tryz.prog 159 #[.pointer (some ⟨b, o, none⟩)] w fun e w' => e = .returned (.tuple #[]) ∧ w' = w := by
  obtain ⟨j, hj, hjs⟩ := Option.map_eq_some_iff.1 info123
  have hlt := World.block_lt_of_cell? w ⟨b, o, none⟩ h0
  go_enter Tryz.func159, Tryz.ntmps159
  go_wp2
  rw [Lib.run_neq_ptr_same w _ Tryz.underlying121 hj]
  go_wp2
  go_end0
  exact ⟨rfl, rfl⟩

set_option maxHeartbeats 1000000 in
set_option maxRecDepth 100000 in
theorem bld_check_fresh (b o T n : Nat) (Z : Array Value) (w : World) (hb : w.heap[b]? = some (.cells Z T (0, 0))) (hn : Z.size = n) (ho : o < n) (hlies : liesAt Tryz.prog Tryz.prog.depth T (n / Tryz.prog.cellsOf T) o 123 1 = true) (h0 : Z[o]? = some (.pointer none)) :
    Calls Tryz.prog 159 #[.pointer (some ⟨b, o, none⟩)] w fun e w' => e = .returned (.tuple #[]) ∧ w' = w.setCell ⟨b, o, none⟩ (.pointer (some ⟨b, o, none⟩)) := by
  obtain ⟨j, hj, hjs⟩ := Option.map_eq_some_iff.1 info123
  have hsh := shapeOf hb hn
  have hc : w.cell? ⟨b, o, none⟩ = some (.pointer none) := (blkCell hb o).trans h0
  have hf := blkFree hb o
  have hlt := blkLt hb
  go_enter Tryz.func159, Tryz.ntmps159
  go_wp2
  rw [Lib.run_to_unsafe w ⟨b, o, none⟩ Tryz.underlying121 Tryz.underlying269 hj (by rw [hjs]; decide) hsh ho]
  simp only [Result.andThen]
  rw [Oper.upon_value]
  go_wp2
  rw [run_callFunc_extern Tryz.func169 (by kernel_rfl) (by kernel_rfl) (by kernel_rfl) (e := Extern.AbiNoEscape.same) (by kernel_rfl)]
  rw [Lib.run_noEscape]
  simp only [Result.andThen]
  rw [Oper.upon_value]
  go_wp2
  rw [Lib.run_from_unsafe w ⟨b, o, none⟩ Tryz.underlying269 Tryz.underlying121 hj hsh hlies]
  simp only [Result.andThen]
  rw [Oper.upon_value]
  go_wp2
  go_end0
  exact ⟨rfl, rfl⟩
end Go.Proofs.YtlonjggfnleolaaGreatDoor
