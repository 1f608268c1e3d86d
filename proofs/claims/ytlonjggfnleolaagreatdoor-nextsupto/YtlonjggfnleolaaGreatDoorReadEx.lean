/-
  What lists.Read tells of the example.
-/
import Derived.Test.YtlonjggfnleolaaGreatDoorCount
import Derived.Test.YtlonjggfnleolaaGreatDoorText
import Derived.Test.YtlonjggfnleolaaGreatDoorTexts
namespace Go.Proofs.YtlonjggfnleolaaGreatDoor
open Go.RowKit
set_option linter.unusedVariables false

theorem blkCell {w : World} {b : Nat} {cs : Array Value} {t : TypeId} {f : Nat × Nat} (h : w.heap[b]? = some (.cells cs t f)) (i : Nat) : w.cell? ⟨b, i, none⟩ = cs[i]? := by
  simp [World.cell?, h]
theorem blkFree {w : World} {b : Nat} {cs : Array Value} {t : TypeId} (h : w.heap[b]? = some (.cells cs t (0, 0))) (i : Nat) : w.frozen? ⟨b, i, none⟩ = false := by
  simp [World.frozen?, h]
theorem blkLt {w : World} {b : Nat} {o : Obj} (h : w.heap[b]? = some o) : b < w.heap.size := (Array.getElem?_eq_some_iff.1 h).1
theorem blkNew (w : World) (o : Obj) : (w.alloc o).heap[w.heap.size]? = some o := by
  show (w.heap.push o)[w.heap.size]? = some o
  exact Array.getElem?_push_size
theorem blkSet {w : World} {b i : Nat} {cs : Array Value} {t : TypeId} {f : Nat × Nat} (h : w.heap[b]? = some (.cells cs t f)) (v : Value) : (w.setCell ⟨b, i, none⟩ v).heap[b]? = some (.cells (cs.setIfInBounds i v) t f) := by
  have hlt := blkLt h
  have he : w.heap[b] = .cells cs t f := (Array.getElem?_eq_some_iff.1 h).2
  simp [World.setCell, Array.getElem_modify, hlt, he]

theorem WalkAt.alloc {w : World} {B g o cap : Nat} {bs : List UInt8} {t : Nat} (h : WalkAt w B g o cap bs t) (ob : Obj) (hB : B < w.heap.size) (hg : g < w.heap.size) : WalkAt (w.alloc ob) B g o cap bs t := by
  have k : ∀ b i, b < w.heap.size → (w.alloc ob).cell? ⟨b, i, none⟩ = w.cell? ⟨b, i, none⟩ := fun b i hb => World.cell?_of_block (w := w) (Below.heap_alloc w ob b hb)
  have f : ∀ b i, b < w.heap.size → (w.alloc ob).frozen? ⟨b, i, none⟩ = w.frozen? ⟨b, i, none⟩ := fun b i hb => World.frozen?_of_block (w := w) (Below.heap_alloc w ob b hb)
  exact ⟨(k _ _ hB).trans h.c0, (k _ _ hB).trans h.c1, (k _ _ hB).trans h.c2, (k _ _ hB).trans h.c3, (f _ _ hB).trans h.f1, (f _ _ hB).trans h.f2, (f _ _ hB).trans h.f3, h.gB, h.small, fun i b hi => (k _ _ hg).trans (h.by_ i b hi)⟩
theorem WalkAt.set {w : World} {B g o cap : Nat} {bs : List UInt8} {t : Nat} (h : WalkAt w B g o cap bs t) (T i : Nat) (v : Value) (hB : T ≠ B) (hg : T ≠ g) : WalkAt (w.setCell ⟨T, i, none⟩ v) B g o cap bs t := by
  have k : ∀ b j, b ≠ T → (w.setCell ⟨T, i, none⟩ v).cell? ⟨b, j, none⟩ = w.cell? ⟨b, j, none⟩ := fun b j hb => World.cell?_of_block (w := w) (Below.heap_setCell w ⟨T, i, none⟩ v b hb)
  have f : ∀ b j, b ≠ T → (w.setCell ⟨T, i, none⟩ v).frozen? ⟨b, j, none⟩ = w.frozen? ⟨b, j, none⟩ := fun b j hb => World.frozen?_of_block (w := w) (Below.heap_setCell w ⟨T, i, none⟩ v b hb)
  exact ⟨(k _ _ hB.symm).trans h.c0, (k _ _ hB.symm).trans h.c1, (k _ _ hB.symm).trans h.c2, (k _ _ hB.symm).trans h.c3, (f _ _ hB.symm).trans h.f1, (f _ _ hB.symm).trans h.f2, (f _ _ hB.symm).trans h.f3, h.gB, h.small, fun i b hi => (k _ _ hg.symm).trans (h.by_ i b hi)⟩

def exL : List UInt8 := [42, 50, 10, 36, 51, 10, 103, 101, 116, 10, 36, 49, 10, 97, 10]
def zStep : Array Value := #[.int .i64 0, .slice none 0 0, .string ⟨#[]⟩, .string ⟨#[]⟩, .bool false, .int .i64 0, .int .i64 0, .bool false]

/-- Within lists.Read: the walk at B, the result at R, the texts at T. -/
structure LR (w0 w : World) (g o cap t R B T : Nat) (ts : Array Value) : Prop where
  W : WalkAt w B g o cap exL t
  hR : w.heap[R]? = some (.cells zStep 255 (0, 0))
  hT : w.heap[T]? = some (.cells ts 9 (0, 0))
  bel : Below w0.heap.size w0 w
  hB : B < w.heap.size
  hg : g < w0.heap.size
  h1 : w0.heap.size ≤ R
  h2 : R < B
  h3 : B < T
theorem LR.only {w0 w w' : World} {g o cap t t' R B T : Nat} {ts : Array Value} (h : LR w0 w g o cap t R B T ts) (k : Only B w w') (W' : WalkAt w' B g o cap exL t') : LR w0 w' g o cap t' R B T ts :=
  ⟨W', (k.block R (by have := h.h2; omega)).trans h.hR, (k.block T (by have := h.h3; omega)).trans h.hT, h.bel.trans (k.below.mono (by have := h.h1; have := h.h2; omega)), by rw [k.size]; exact h.hB, h.hg, h.h1, h.h2, h.h3⟩
theorem LR.alloc {w0 w : World} {g o cap t R B T : Nat} {ts : Array Value} (h : LR w0 w g o cap t R B T ts) (ob : Obj) : LR w0 (w.alloc ob) g o cap t R B T ts :=
  ⟨h.W.alloc ob h.hB (Nat.lt_of_lt_of_le h.hg h.bel.size), (Below.heap_alloc w ob R (blkLt h.hR)).trans h.hR, (Below.heap_alloc w ob T (blkLt h.hT)).trans h.hT, h.bel.alloc h.bel.size ob, by have := h.hB; simp; omega, h.hg, h.h1, h.h2, h.h3⟩
theorem LR.set {w0 w : World} {g o cap t R B T : Nat} {ts : Array Value} (h : LR w0 w g o cap t R B T ts) (i : Nat) (v : Value) : LR w0 (w.setCell ⟨T, i, none⟩ v) g o cap t R B T (ts.setIfInBounds i v) :=
  have := h.h1
  have := h.h2
  have := h.h3
  have := h.hg
  ⟨h.W.set T i v (by omega) (by omega), (Below.heap_setCell w ⟨T, i, none⟩ v R (by show R ≠ T; omega)).trans h.hR, blkSet h.hT v, h.bel.setCell (p := ⟨T, i, none⟩) (by show w0.heap.size ≤ T; omega) v, by simp; exact h.hB, h.hg, h.h1, h.h2, h.h3⟩
theorem LR.drew {w0 w : World} {g o cap t R B T : Nat} {ts : Array Value} (h : LR w0 w g o cap t R B T ts) : LR w0 w.drew g o cap t R B T ts :=
  ⟨⟨h.W.c0, h.W.c1, h.W.c2, h.W.c3, h.W.f1, h.W.f2, h.W.f3, h.W.gB, h.W.small, h.W.by_⟩, h.hR, h.hT, h.bel.drew, h.hB, h.hg, h.h1, h.h2, h.h3⟩

theorem hmk (w : World) : (Instr.makeSlice 34 (.int .i64 0) (.int .i64 5)).run Tryz.prog w = .ok (.slice (some ⟨w.heap.size, 0, none⟩) 0 5) (w.alloc (.cells #[.string ⟨#[]⟩, .string ⟨#[]⟩, .string ⟨#[]⟩, .string ⟨#[]⟩, .string ⟨#[]⟩] 9)) := by kernel_rfl

set_option maxRecDepth 20000 in
set_option maxHeartbeats 2000000 in
theorem read_ex (w : World) (g o cap : Nat) (hg : g < w.heap.size) (hcap : 15 ≤ cap) (hb : ∀ (i : Nat) (b : UInt8), exL[i]? = some b → w.cell? ⟨g, o + i, none⟩ = some (.int .u8 (b.toNat : Int))) :
    Calls Tryz.prog 251 #[.agg #[], .slice (some ⟨g, o, none⟩) 15 cap] w fun e w' => (∃ b c, e = .returned (exStep b c) ∧ w.heap.size ≤ b ∧ b < w'.heap.size ∧ w'.cell? ⟨b, 0, none⟩ = some (.string ⟨#[97]⟩)) ∧ Below w.heap.size w w' := by
  have HB := hide' hb
  clear hb
  have hmk := hmk
  go_enter Tryz.func251, Tryz.ntmps251
  go_wp2_with fail
  go_at_call 253
  refine (expect_ok _ _ g o cap exL 0 42 ⟨by go_simp; rfl, by go_simp, by go_simp, by go_simp, by go_simp, by go_simp, by go_simp, by omega, by decide, fun i b hi => ?_⟩ rfl).mono ?_
  · have q : ∀ a b c, Below w.heap.size w (((w.alloc a).alloc b).alloc c) := fun a b c => ((((Below.refl _ _).alloc (Nat.le_refl _) _).alloc (by simp) _).alloc (by simp; omega) _)
    exact ((q _ _ _).cell (p := ⟨g, o + i, none⟩) hg).trans (HB.out i b hi)
  rintro e w1 ⟨rfl, W1, O1⟩
  have hs1 := O1.size
  simp at hs1
  have hR1 : w1.heap[w.heap.size + 1]? = some (.cells zStep 255 (0, 0)) := by
    rw [O1.block _ (by omega), Below.heap_alloc _ _ _ (by simp)]
    have := blkNew (w.alloc (.cells #[] 162)) (.cells zStep 255 (0, 0))
    rw [World.size_alloc] at this
    exact this
  have hBel1 : Below w.heap.size w w1 := ((((Below.refl _ _).alloc (Nat.le_refl _) _).alloc (by simp) _).alloc (by simp; omega) _).trans (O1.below.mono (by omega))
  clear O1
  go_wp2_with fail
  go_at_call 254
  refine (count1_ok _ _ g o cap exL 1 50 1 5 W1 rfl rfl (by decide) (by decide) (by decide) (by decide)).mono ?_
  rintro e w2 ⟨rfl, W2, O2⟩
  have hs2 := O2.size
  have hR2 := (O2.block (w.heap.size + 1) (by omega)).trans hR1
  have hBel2 := hBel1.trans (O2.below.mono (by omega))
  clear O2 hR1 W1 hBel1
  rw [show ((50 : UInt8).toNat : Int) - 48 = 2 by decide]
  have hsz : w2.heap.size = w.heap.size + 3 := by omega
  go_wp2
  generalize hW3 : w2.alloc (Obj.cells #[Value.string { data := #[] }, Value.string { data := #[] }, Value.string { data := #[] }, Value.string { data := #[] }, Value.string { data := #[] }] 9) = w3
  have L3 : LR w w3 g o cap 3 (w.heap.size + 1) (w.heap.size + 1 + 1) (w.heap.size + 1 + 1 + 1) #[.string ⟨#[]⟩, .string ⟨#[]⟩, .string ⟨#[]⟩, .string ⟨#[]⟩, .string ⟨#[]⟩] := by
    rw [← hW3]
    refine ⟨W2.alloc _ (by omega) (by omega), (Below.heap_alloc w2 _ _ (by omega)).trans hR2, ?_, hBel2.alloc hBel2.size _, by simp; omega, hg, by omega, by omega, by omega⟩
    have := blkNew w2 (.cells #[.string ⟨#[]⟩, .string ⟨#[]⟩, .string ⟨#[]⟩, .string ⟨#[]⟩, .string ⟨#[]⟩] 9)
    rw [hsz] at this
    exact this
  clear hW3 W2 hR2 hBel2 hs2 hsz hs1
  clear w2
  clear w1
  refine wp_loop_rounds 3 ?_
  rw [rounds_succ]
  go_wp2_with fail
  go_at_call 253
  refine (expect_ok _ _ g o cap exL 3 36 L3.W rfl).mono ?_
  rintro e w4 ⟨rfl, W4, O4⟩
  have L4 := L3.only O4 W4
  clear L3 O4 W4
  clear w3
  go_wp2_with fail
  go_at_call 254
  refine (count1_ok _ _ g o cap exL 4 51 0 40 L4.W rfl rfl (by decide) (by decide) (by decide) (by decide)).mono ?_
  rintro e w5 ⟨rfl, W5, O5⟩
  have L5 := L4.only O5 W5
  clear L4 O5 W5
  clear w4
  rw [show ((51 : UInt8).toNat : Int) - 48 = 3 by decide]
  go_wp2_with fail
  go_at_call 255
  refine (text_ok _ _ g o cap exL 6 3 L5.W (by decide) hcap (by omega)).mono ?_
  rintro e w6 ⟨rfl, W6, O6⟩
  have L6 := L5.only O6 W6
  clear L5 O6 W6
  clear w5
  rw [show (ByteArray.mk ((exL.drop 6).take 3).toArray) = ⟨#[103, 101, 116]⟩ by decide +kernel]
  have t0 : w6.cell? ⟨w.heap.size + 1 + 1 + 1, 0, none⟩ = some (.string ⟨#[]⟩) := blkCell L6.hT 0
  have tf : w6.frozen? ⟨w.heap.size + 1 + 1 + 1, 0, none⟩ = false := blkFree L6.hT 0
  have ts := blkLt L6.hT
  have HL := hide' L6
  clear L6
  go_wp2_with fail
  go_at_call 253
  have L7 := (HL.out.set 0 (.string ⟨#[103, 101, 116]⟩)).alloc (Obj.cells #[Value.string { data := #[103, 101, 116] }] 9)
  refine (expect_ok _ _ g o cap exL 9 10 L7.W rfl).mono ?_
  rintro e w8 ⟨rfl, W8, O8⟩
  have L8 := L7.only O8 W8
  clear L7 O8 W8 HL t0 tf ts
  go_wp2
  rw [rounds_succ]
  go_wp2_with fail
  go_at_call 253
  refine (expect_ok _ _ g o cap exL 10 36 L8.W rfl).mono ?_
  rintro e w9 ⟨rfl, W9, O9⟩
  have L9 := L8.only O9 W9
  clear L8 O9 W9
  clear w8
  go_wp2_with fail
  go_at_call 254
  refine (count1_ok _ _ g o cap exL 11 49 0 40 L9.W rfl rfl (by decide) (by decide) (by decide) (by decide)).mono ?_
  rintro e w10 ⟨rfl, W10, O10⟩
  have L10 := L9.only O10 W10
  clear L9 O10 W10
  clear w9
  rw [show ((49 : UInt8).toNat : Int) - 48 = 1 by decide]
  go_wp2_with fail
  go_at_call 255
  refine (text_ok _ _ g o cap exL 13 1 L10.W (by decide) hcap (by omega)).mono ?_
  rintro e w11 ⟨rfl, W11, O11⟩
  have L11 := L10.only O11 W11
  clear L10 O11 W11
  clear w10
  rw [show (ByteArray.mk ((exL.drop 13).take 1).toArray) = ⟨#[97]⟩ by decide +kernel]
  have t0 : w11.cell? ⟨w.heap.size + 1 + 1 + 1, 1, none⟩ = some (.string ⟨#[]⟩) := blkCell L11.hT 1
  have tf : w11.frozen? ⟨w.heap.size + 1 + 1 + 1, 1, none⟩ = false := blkFree L11.hT 1
  have ts := blkLt L11.hT
  have HL := hide' L11
  clear L11
  go_wp2_with fail
  go_at_call 253
  have L12 := (HL.out.set 1 (.string ⟨#[97]⟩)).alloc (Obj.cells #[Value.string { data := #[97] }] 9)
  refine (expect_ok _ _ g o cap exL 14 10 L12.W rfl).mono ?_
  rintro e w13 ⟨rfl, W13, O13⟩
  have L13 := L12.only O13 W13
  clear L12 O13 W13 HL t0 tf ts
  have d0 := blkCell L13.hT 0
  have d1 := blkCell L13.hT 1
  have e1 := L13.W.c1
  have e2 := L13.W.c2
  have e3 := L13.W.c3
  have ts := blkLt L13.hT
  have HL := hide' L13
  clear L13
  go_wp2
  rw [rounds_succ]
  go_wp2_with fail
  go_at_call 256
  refine (readTexts_ex _ _ ts (by rw [d0]; rfl) (by rw [d1]; rfl)).mono ?_
  rintro e w14 ⟨⟨b, c, rfl, hb1, hb2, hb3⟩, hB14⟩
  have hR14 := (hB14.block (w.heap.size + 1) (blkLt HL.out.hR)).trans HL.out.hR
  have hBel := HL.out.bel.trans (hB14.mono HL.out.bel.size)
  have hbw : w.heap.size ≤ b := Nat.le_trans HL.out.bel.size hb1
  have hne : b ≠ w.heap.size + 1 := by have := blkLt HL.out.hR; omega
  clear hB14 HL d0 d1 e1 e2 e3 ts
  have r0 := blkCell hR14 0
  have r1 := blkCell hR14 1
  have r2 := blkCell hR14 2
  have r3 := blkCell hR14 3
  have r4 := blkCell hR14 4
  have r5 := blkCell hR14 5
  have r6 := blkCell hR14 6
  have r7 := blkCell hR14 7
  have rf := blkFree hR14
  have HR := hide' hR14
  clear hR14
  simp [zStep] at r0 r1 r2 r3 r4 r5 r6 r7
  unfold exStep
  go_wp2
  refine bodyPost_ret (v := exStep b c) (by simp [results, Tryz.results251, go_sem, exStep, r0, r1, r2, r3, r4, r5, r6, r7]) rfl ⟨⟨_, _, rfl, hbw, ?_, ?_⟩, ?_⟩
  · simpa using hb2
  · go_simp
  · have hle : w.heap.size ≤ w.heap.size + 1 := by omega
    exact (((((((hBel.setCell (p := ⟨w.heap.size + 1, 0, none⟩) hle _).setCell (p := ⟨w.heap.size + 1, 1, none⟩) hle _).setCell (p := ⟨w.heap.size + 1, 2, none⟩) hle _).setCell (p := ⟨w.heap.size + 1, 3, none⟩) hle _).setCell (p := ⟨w.heap.size + 1, 4, none⟩) hle _).setCell (p := ⟨w.heap.size + 1, 5, none⟩) hle _).setCell (p := ⟨w.heap.size + 1, 6, none⟩) hle _).setCell (p := ⟨w.heap.size + 1, 7, none⟩) hle _
end Go.Proofs.YtlonjggfnleolaaGreatDoor
