/-
  check: Word and finds, for every argument.
-/
import Derived.Test.YtlonjggfnleolaaGreatDoorRefAsk
import Derived.Test.YtlonjggfnleolaaGreatDoorOpA
namespace Go.Proofs.YtlonjggfnleolaaGreatDoor
open Go.RowKit
set_option linter.unusedVariables false

def allLet (s : ByteArray) : Bool := s.data.toList.all letB
def wordB (s : ByteArray) : Bool := withinB 1 s.size 8 && allLet s

theorem BoolsIn.at {w : World} {a : Option Addr} {n c : Nat} {bs : List Bool} (h : BoolsIn w a n c bs) : ∀ (i : Nat) (s : Bool), bs[i]? = some s → ∃ b o, a = some ⟨b, o, none⟩ ∧ b < w.heap.size ∧ w.cell? ⟨b, o + i, none⟩ = some (.bool s) := by
  rcases h.form with ⟨b, o, rfl, hlt, hcell⟩ | ⟨rfl, _⟩
  · exact fun i s hs => ⟨b, o, rfl, hlt, hcell i s hs⟩
  · intro i s hs; simp at hs
theorem StrsIn.at {w : World} {a : Option Addr} {n c : Nat} {bs : List ByteArray} (h : StrsIn w a n c bs) : ∀ (i : Nat) (s : ByteArray), bs[i]? = some s → ∃ b o, a = some ⟨b, o, none⟩ ∧ b < w.heap.size ∧ w.cell? ⟨b, o + i, none⟩ = some (.string s) := by
  rcases h.form with ⟨b, o, rfl, hlt, hcell⟩ | ⟨rfl, _⟩
  · exact fun i s hs => ⟨b, o, rfl, hlt, hcell i s hs⟩
  · intro i s hs; simp at hs

/-- An answer. -/
def ansV (k : Int) (f v : Value) (wd : ByteArray) : Value := .agg #[.int .i64 k, f, v, .string wd]
def findOk (p : Bool × ByteArray) : Bool := decide ((p.2.size : Int) ≤ 40) && (p.1 || p.2.data.toList.isEmpty)
def findsB (bs : List Bool) (vs : List ByteArray) (n : Int) : Bool := decide ((bs.length : Int) = n) && decide ((vs.length : Int) = n) && (bs.zip vs).all findOk

theorem findsB_bad {bs : List Bool} {vs : List ByteArray} {n : Int} {i : Nat} {f : Bool} {x : ByteArray} (h1 : bs[i]? = some f) (h2 : vs[i]? = some x) (h : findOk (f, x) = false) : findsB bs vs n = false := by
  unfold findsB
  rw [List.all_eq_false.2 ⟨(f, x), ?_, by simp [h]⟩]
  · simp
  · exact List.mem_of_getElem? (i := i) (by rw [List.getElem?_zip_eq_some]; exact ⟨h1, h2⟩)
theorem zip_take_step {bs : List Bool} {vs : List ByteArray} {i : Nat} {f : Bool} {x : ByteArray} (h1 : bs[i]? = some f) (h2 : vs[i]? = some x) (h : ((bs.zip vs).take i).all findOk = true) (hf : findOk (f, x) = true) : ((bs.zip vs).take (i + 1)).all findOk = true := by
  have : (bs.zip vs)[i]? = some (f, x) := by rw [List.getElem?_zip_eq_some]; exact ⟨h1, h2⟩
  rw [List.take_add_one, this, List.all_append, h]; simp [hf]

theorem empty_of_size {x : ByteArray} (h : x.size = 0) : x = ⟨#[]⟩ := by
  apply ba_ext; have : x.data.toList.length = 0 := by simpa using h
  rw [List.length_eq_zero_iff.1 this]

end Go.Proofs.YtlonjggfnleolaaGreatDoor
