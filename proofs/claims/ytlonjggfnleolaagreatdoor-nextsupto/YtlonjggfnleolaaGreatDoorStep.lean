/-
  What the walk of package speech does at a byte that is there: next, expect.
-/
import Derived.Test.YtlonjggfnleolaaGreatDoorBase
import Derived.Deep.QuietTactic
import Derived.BigQuiet
import Derived.RegionTactic
import Derived.BigRegion
namespace Go.Proofs.YtlonjggfnleolaaGreatDoor
open Go.RowKit
set_option linter.unusedVariables false

/-- Nothing but block B has turned, nothing is new. -/
structure Only (B : Nat) (w w' : World) : Prop where
  os : w'.os = w.os
  tape : w'.tape = w.tape
  output : w'.output = w.output
  size : w'.heap.size = w.heap.size
  block : ∀ k, k ≠ B → w'.heap[k]? = w.heap[k]?
theorem Only.refl (B : Nat) (w : World) : Only B w w := ⟨rfl, rfl, rfl, rfl, fun _ _ => rfl⟩
theorem Only.trans {B : Nat} {a b c : World} (h : Only B a b) (k : Only B b c) : Only B a c :=
  ⟨k.os.trans h.os, k.tape.trans h.tape, k.output.trans h.output, k.size.trans h.size, fun i hi => (k.block i hi).trans (h.block i hi)⟩
theorem Only.drew {B : Nat} {a w : World} (h : Only B a w) : Only B a w.drew := ⟨h.os, h.tape, h.output, h.size, h.block⟩
theorem Only.drewN {B : Nat} {a w : World} (h : Only B a w) (n : Nat) : Only B a (w.drewN n) := ⟨h.os, h.tape, h.output, h.size, h.block⟩
theorem Only.setCell {B : Nat} {a w : World} (h : Only B a w) {p : Addr} (hp : p.block = B) (u : Value) : Only B a (w.setCell p u) :=
  h.trans ⟨by simp [World.setCell], by simp [World.setCell], by simp [World.setCell], by simp, fun k hk => Below.heap_setCell w p u k (by omega)⟩
theorem Only.below {B : Nat} {w w' : World} (h : Only B w w') : Below B w w' := ⟨h.os, h.tape, h.output, Nat.le_of_eq h.size.symm, fun k hk => h.block k (by omega)⟩
theorem Only.cell {B : Nat} {w w' : World} (h : Only B w w') {p : Addr} (hp : p.block ≠ B) : w'.cell? p = w.cell? p := World.cell?_of_block (w := w) (h.block p.block hp)
theorem Only.frozen {B : Nat} {w w' : World} (h : Only B w w') {p : Addr} (hp : p.block ≠ B) : w'.frozen? p = w.frozen? p := World.frozen?_of_block (w := w) (h.block p.block hp)

/-- A walk of lists.Read, at block B, over the n bytes bs at block g. -/
structure WalkAt (w : World) (B g o cap : Nat) (bs : List UInt8) (t : Nat) : Prop where
  c0 : w.cell? ⟨B, 0, none⟩ = some (.slice (some ⟨g, o, none⟩) bs.length cap)
  c1 : w.cell? ⟨B, 1, none⟩ = some (.int .i64 t)
  c2 : w.cell? ⟨B, 2, none⟩ = some (.bool false)
  c3 : w.cell? ⟨B, 3, none⟩ = some (.bool false)
  f1 : w.frozen? ⟨B, 1, none⟩ = false
  f2 : w.frozen? ⟨B, 2, none⟩ = false
  f3 : w.frozen? ⟨B, 3, none⟩ = false
  gB : g ≠ B
  small : bs.length ≤ 1000000
  by_ : ∀ (i : Nat) (b : UInt8), bs[i]? = some b → w.cell? ⟨g, o + i, none⟩ = some (.int .u8 (b.toNat : Int))

theorem WalkAt.kept {w w' : World} {B g o cap : Nat} {bs : List UInt8} {t t' : Nat} (h : WalkAt w B g o cap bs t) (k : Only B w w')
    (c0 : w'.cell? ⟨B, 0, none⟩ = some (.slice (some ⟨g, o, none⟩) bs.length cap))
    (c1 : w'.cell? ⟨B, 1, none⟩ = some (.int .i64 t')) (c2 : w'.cell? ⟨B, 2, none⟩ = some (.bool false)) (c3 : w'.cell? ⟨B, 3, none⟩ = some (.bool false))
    (f : ∀ j, w'.frozen? ⟨B, j, none⟩ = w.frozen? ⟨B, j, none⟩) : WalkAt w' B g o cap bs t' :=
  ⟨c0, c1, c2, c3, (f 1).trans h.f1, (f 2).trans h.f2, (f 3).trans h.f3, h.gB, h.small, fun i b hi => (k.cell (p := ⟨g, o + i, none⟩) h.gB).trans (h.by_ i b hi)⟩

theorem get_lt {bs : List UInt8} {t : Nat} {b : UInt8} (h : bs[t]? = some b) : t < bs.length := (List.getElem?_eq_some_iff.1 h).1

set_option maxHeartbeats 1000000 in
theorem next_ok (w : World) (B g o cap : Nat) (bs : List UInt8) (t : Nat) (b : UInt8) (W : WalkAt w B g o cap bs t) (hb : bs[t]? = some b) :
    Calls Tryz.prog 258 #[.pointer (some ⟨B, 0, none⟩)] w fun e w' => e = .returned (.tuple #[.int .u8 (b.toNat : Int), .bool true]) ∧ WalkAt w' B g o cap bs t ∧ Only B w w' := by
  have ht := get_lt hb
  have e1 : ((t : Int) == (bs.length : Int)) = false := by rw [beq_eq_false_iff_ne]; omega
  have HW : Hid (WalkAt w B g o cap bs t) := W
  obtain ⟨c0, c1, c2, c3, f1, f2, f3, gB, sm, hbs⟩ := W
  have cb := hbs t b hb
  clear hbs hb
  generalize hn : bs.length = n at *
  have HN : Hid (bs.length = n) := hn
  clear hn
  go_enter Tryz.func258, Tryz.ntmps258
  go_wp2
  go_region
  have d3 : (w.setCell ⟨B, 3, none⟩ (.bool false)).cell? ⟨B, 3, none⟩ = some (.bool false) := World.cell?_setCell_same' _ _ _ (by rw [c3]; rfl)
  go_wp2
  go_region
  go_wp2
  go_ret2
  have hO : Only B w ((w.setCell ⟨B, 3, none⟩ (.bool false)).drew).drew := (((Only.refl B w).setCell rfl _).drew).drew
  refine ⟨rfl, HW.out.kept hO (by rw [HN.out]; go_simp) (by go_simp) (by go_simp) (by go_simp) (fun j => by go_simp), hO⟩

set_option maxHeartbeats 1000000 in
theorem expect_ok (w : World) (B g o cap : Nat) (bs : List UInt8) (t : Nat) (b : UInt8) (W : WalkAt w B g o cap bs t) (hb : bs[t]? = some b) :
    Calls Tryz.prog 253 #[.pointer (some ⟨B, 0, none⟩), .int .u8 (b.toNat : Int)] w fun e w' => e = .returned (.tuple #[]) ∧ WalkAt w' B g o cap bs (t + 1) ∧ Only B w w' := by
  have ht := get_lt hb
  have sm := W.small
  go_enter Tryz.func253, Tryz.ntmps253
  go_wp2_with fail
  go_at_call 258
  refine (next_ok w B g o cap bs t b W hb).mono ?_
  rintro e w1 ⟨rfl, W1, O1⟩
  have HW : Hid (WalkAt w1 B g o cap bs t) := W1
  obtain ⟨c0, c1, c2, c3, f1, f2, f3, gB, _, hbs⟩ := W1
  clear hbs hb W
  generalize hn : bs.length = n at *
  have HN : Hid (bs.length = n) := hn
  clear hn
  have d2 : (w1.setCell ⟨B, 2, none⟩ (.bool false)).cell? ⟨B, 2, none⟩ = some (.bool false) := World.cell?_setCell_same' _ _ _ (by rw [c2]; rfl)
  go_wp2
  go_end0
  have hO : Only B w1 ((w1.setCell ⟨B, 2, none⟩ (.bool false)).setCell ⟨B, 1, none⟩ (.int .i64 ((t : Int) + 1))) := ((Only.refl B w1).setCell rfl _).setCell rfl _
  refine ⟨rfl, HW.out.kept hO (by rw [HN.out]; go_simp) (by go_simp) (by go_simp) (by go_simp) (fun j => by go_simp), O1.trans hO⟩

end Go.Proofs.YtlonjggfnleolaaGreatDoor
