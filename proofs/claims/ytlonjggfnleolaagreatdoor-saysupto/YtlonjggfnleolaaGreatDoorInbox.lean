/-
  What the inbox does with the example: Take, Waiting, Len, Use.
-/
import Derived.Test.YtlonjggfnleolaaGreatDoorReadEx
import Derived.Deep.RegionHeld3
namespace Go.Proofs.YtlonjggfnleolaaGreatDoor
open Go.RowKit
set_option linter.unusedVariables false

/-- Of what there was, nothing but block D has turned; there may be more. -/
structure Turn (D : Nat) (w w' : World) : Prop where
  os : w'.os = w.os
  tape : w'.tape = w.tape
  output : w'.output = w.output
  size : w.heap.size ≤ w'.heap.size
  block : ∀ k, k < w.heap.size → k ≠ D → w'.heap[k]? = w.heap[k]?
theorem Turn.refl (D : Nat) (w : World) : Turn D w w := ⟨rfl, rfl, rfl, Nat.le_refl _, fun _ _ _ => rfl⟩
theorem Turn.trans {D : Nat} {a b c : World} (h : Turn D a b) (k : Turn D b c) : Turn D a c :=
  ⟨k.os.trans h.os, k.tape.trans h.tape, k.output.trans h.output, Nat.le_trans h.size k.size, fun i hi hn => (k.block i (Nat.lt_of_lt_of_le hi h.size) hn).trans (h.block i hi hn)⟩
theorem Turn.of_below {D : Nat} {w w' : World} (h : Below w.heap.size w w') : Turn D w w' := ⟨h.os, h.tape, h.output, h.size, fun k hk _ => h.block k hk⟩
theorem Turn.drew {D : Nat} {a w : World} (h : Turn D a w) : Turn D a w.drew := ⟨h.os, h.tape, h.output, h.size, h.block⟩
theorem Turn.drewN {D : Nat} {a w : World} (h : Turn D a w) (n : Nat) : Turn D a (w.drewN n) := ⟨h.os, h.tape, h.output, h.size, h.block⟩
theorem Turn.alloc {D : Nat} {a w : World} (h : Turn D a w) (o : Obj) : Turn D a (w.alloc o) := h.trans (.of_below ((Below.refl _ _).alloc (Nat.le_refl _) o))
theorem Turn.setCell {D : Nat} {a w : World} (h : Turn D a w) (i : Nat) (v : Value) : Turn D a (w.setCell ⟨D, i, none⟩ v) :=
  h.trans ⟨by simp [World.setCell], by simp [World.setCell], by simp [World.setCell], by simp, fun k _ hn => Below.heap_setCell w ⟨D, i, none⟩ v k hn⟩
end Go.Proofs.YtlonjggfnleolaaGreatDoor
