/-
  junction: Ask, for every dialect and command.
-/
import Derived.Test.YtlonjggfnleolaaGreatDoorLists
namespace Go.Proofs.YtlonjggfnleolaaGreatDoor
open Go.RowKit
set_option linter.unusedVariables false

/-- A list of texts that a call was handed: with its room. -/
structure StrsIn (w : World) (a : Option Addr) (n c : Nat) (ss : List ByteArray) : Prop where
  len : ss.length = n
  cap : n ≤ c
  small : ss.length ≤ 140737488355328
  sizes : ∀ s ∈ ss, s.size ≤ maxLen
  form : (∃ b o, a = some ⟨b, o, none⟩ ∧ b < w.heap.size ∧ ∀ (i : Nat) (s : ByteArray), ss[i]? = some s → w.cell? ⟨b, o + i, none⟩ = some (.string s)) ∨ (ss = [] ∧ c = 0)
theorem StrsIn.strs {w : World} {a : Option Addr} {n c : Nat} {ss : List ByteArray} (h : StrsIn w a n c ss) : StrsAt w (.slice a n c) ss := by
  obtain ⟨hl, hc, sm, sz, hf⟩ := h
  refine ⟨?_, sm, sz⟩
  rcases hf with ⟨b, o, rfl, hb, hcell⟩ | ⟨rfl, rfl⟩
  · exact .inl ⟨b, o, c, by rw [hl], hb, hcell⟩
  · simp at hl; subst hl; exact .inr ⟨a, rfl, rfl⟩
theorem StrsIn.later {w w' : World} {a : Option Addr} {n c : Nat} {ss : List ByteArray} (h : StrsIn w a n c ss) (hb : Below w.heap.size w w') : StrsIn w' a n c ss := by
  obtain ⟨hl, hc, sm, sz, hf⟩ := h
  refine ⟨hl, hc, sm, sz, ?_⟩
  rcases hf with ⟨b, o, rfl, hlt, hcell⟩ | h
  · exact .inl ⟨b, o, rfl, Nat.lt_of_lt_of_le hlt hb.size, fun i s hs => (hb.cell (p := ⟨b, o + i, none⟩) hlt).trans (hcell i s hs)⟩
  · exact .inr h

def dialB (d : Int) : Bool := decide (d = 1) || decide (d = 2) || decide (d = 3)
def sayB (d k : Int) (n : Nat) (id : Int) : Bool := dialB d && (decide (d ≠ 2) || frSayB k n id)

/-- The bytes that Ask writes. -/
def askS (d k : Int) (ss : List ByteArray) (val : ByteArray) (id : Int) : ByteArray :=
  if d = 1 then linesAskB k ss val else if d = 2 then headB 1 k (ss.headD ⟨#[]⟩).size val.size id ++ ss.headD ⟨#[]⟩ ++ val else ⟨(listsAskL (nameB k :: ss ++ if k = 2 then [val] else [])).toArray⟩

end Go.Proofs.YtlonjggfnleolaaGreatDoor
