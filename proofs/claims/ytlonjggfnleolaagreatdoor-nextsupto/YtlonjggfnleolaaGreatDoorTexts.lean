/-
  What readTexts tells of the texts get and a.
-/
import Derived.Test.YtlonjggfnleolaaGreatDoorCmd
import Derived.RegionTactic
import Derived.BigRegion
namespace Go.Proofs.YtlonjggfnleolaaGreatDoor
open Go.RowKit
set_option linter.unusedVariables false

set_option maxHeartbeats 400000 in
theorem kindOf_get (w : World) : Calls Tryz.prog 224 #[.string ⟨#[103, 101, 116]⟩] w fun e w' => e = .returned (.int .i64 1) ∧ w' = w := by
  go_enter Tryz.func224, Tryz.ntmps224
  go_wp2
  go_ret
  exact ⟨rfl, rfl⟩

theorem hide' {p : Prop} (h : p) : Hid p := h
theorem b8g : (keysB [⟨#[97]⟩] 4 && (ByteArray.mk #[]).toList.isEmpty) = true := by decide +kernel
theorem bcell2 {W w1 : World} (hb : Below W.heap.size W w1) : (∀ b o, b < W.heap.size → w1.cell? ⟨b, o, none⟩ = W.cell? ⟨b, o, none⟩) ∧ (∀ b o, b < W.heap.size → w1.frozen? ⟨b, o, none⟩ = W.frozen? ⟨b, o, none⟩) :=
  ⟨fun b o h => hb.cell (p := ⟨b, o, none⟩) h, fun b o h => hb.frozen (p := ⟨b, o, none⟩) h⟩

/-- What readTexts tells of the example: a Get of a. -/
def exStep (b c : Nat) : Value := .agg #[.int .i64 1, .slice (some ⟨b, 0, none⟩) 1 c, .string ⟨#[]⟩, .string ⟨#[]⟩, .bool false, .int .i64 0, .int .i64 15, .bool false]

set_option maxRecDepth 20000 in
set_option maxHeartbeats 1000000 in
theorem readTexts_ex (T : Nat) (w : World) (hT : T < w.heap.size) (h0 : w.cell? ⟨T, 0, none⟩ = some (.string ⟨#[103, 101, 116]⟩)) (h1 : w.cell? ⟨T, 1, none⟩ = some (.string ⟨#[97]⟩)) :
    Calls Tryz.prog 256 #[.slice (some ⟨T, 0, none⟩) 2 5, .int .i64 15] w fun e w' => (∃ b c, e = .returned (exStep b c) ∧ w.heap.size ≤ b ∧ b < w'.heap.size ∧ w'.cell? ⟨b, 0, none⟩ = some (.string ⟨#[97]⟩)) ∧ Below w.heap.size w w' := by
  go_enter Tryz.func256, Tryz.ntmps256
  go_wp2_with (go_at_call 224; refine (kindOf_get _).mono ?_; rintro e w' ⟨rfl, rfl⟩)
  generalize (Question.appendCap 1 0 9).cut (w.tape w.drawn (Question.appendCap 1 0 9)) = C
  generalize hZ : (#[Value.string ⟨#[97]⟩] ++ Builtin.zeroCells #[Value.string ⟨#[]⟩] (C - 1)) = Z
  have hZ0 : Z[0]? = some (.string ⟨#[97]⟩) := by rw [← hZ, Array.getElem?_append_left (by decide)]; rfl
  have HZ : Hid (Z[0]? = some (.string ⟨#[97]⟩)) := hZ0
  clear hZ hZ0
  generalize hW : (((w.alloc (Obj.cells #[Value.int IntKind.i64 0, Value.slice none 0 0, Value.string { data := #[] }, Value.string { data := #[] }, Value.bool false, Value.int IntKind.i64 0, Value.int IntKind.i64 0, Value.bool false] 255)).alloc (Obj.cells #[Value.int IntKind.i64 1, Value.slice (some { block := w.heap.size + 1 + 1, off := 0 }) 1 C, Value.string { data := #[] }, Value.string { data := #[] }, Value.bool false, Value.int IntKind.i64 0] 36)).alloc (Obj.cells Z 9)).drew = W
  have HWW := hide' hW
  clear hW
  have hs : W.heap.size = w.heap.size + 3 := by rw [← HWW.out]; simp
  have hBW : Below w.heap.size w W := by rw [← HWW.out]; exact ((((Below.refl _ _).alloc (Nat.le_refl _) _).alloc (by simp) _).alloc (by simp; omega) _).drew
  have hz : W.cell? ⟨w.heap.size + 1 + 1, 0, none⟩ = some (.string ⟨#[97]⟩) := by
    rw [← HWW.out]
    have := HZ.out
    go_simp
  have r0 : W.cell? ⟨w.heap.size, 0, none⟩ = some (.int .i64 0) := by rw [← HWW.out]; go_simp
  have r1 : W.cell? ⟨w.heap.size, 1, none⟩ = some (.slice none 0 0) := by rw [← HWW.out]; go_simp
  have r2 : W.cell? ⟨w.heap.size, 2, none⟩ = some (.string ⟨#[]⟩) := by rw [← HWW.out]; go_simp
  have r3 : W.cell? ⟨w.heap.size, 3, none⟩ = some (.string ⟨#[]⟩) := by rw [← HWW.out]; go_simp
  have r4 : W.cell? ⟨w.heap.size, 4, none⟩ = some (.bool false) := by rw [← HWW.out]; go_simp
  have r5 : W.cell? ⟨w.heap.size, 5, none⟩ = some (.int .i64 0) := by rw [← HWW.out]; go_simp
  have r6 : W.cell? ⟨w.heap.size, 6, none⟩ = some (.int .i64 0) := by rw [← HWW.out]; go_simp
  have r7 : W.cell? ⟨w.heap.size, 7, none⟩ = some (.bool false) := by rw [← HWW.out]; go_simp
  have rf : ∀ j, W.frozen? ⟨w.heap.size, j, none⟩ = false := by intro j; rw [← HWW.out]; go_simp
  have k0 : W.cell? ⟨w.heap.size + 1, 0, none⟩ = some (.int .i64 1) := by rw [← HWW.out]; go_simp
  have k1 : W.cell? ⟨w.heap.size + 1, 1, none⟩ = some (.slice (some ⟨w.heap.size + 1 + 1, 0, none⟩) 1 C) := by rw [← HWW.out]; go_simp
  have k2 : W.cell? ⟨w.heap.size + 1, 2, none⟩ = some (.string ⟨#[]⟩) := by rw [← HWW.out]; go_simp
  have k3 : W.cell? ⟨w.heap.size + 1, 3, none⟩ = some (.string ⟨#[]⟩) := by rw [← HWW.out]; go_simp
  have k4 : W.cell? ⟨w.heap.size + 1, 4, none⟩ = some (.bool false) := by rw [← HWW.out]; go_simp
  have k5 : W.cell? ⟨w.heap.size + 1, 5, none⟩ = some (.int .i64 0) := by rw [← HWW.out]; go_simp
  have hS : StrsAt W (.slice (some ⟨w.heap.size + 1 + 1, 0, none⟩) 1 C) [⟨#[97]⟩] := ⟨.inl ⟨_, 0, C, rfl, by omega, fun i s hs => by
    match i, hs with
    | 0, hs => simp at hs; subst hs; exact hz⟩, by simp, by decide⟩
  refine (cmd_get _ [⟨#[97]⟩] _ _ _ _ _ hS (by decide)).mono ?_
  rintro e w1 ⟨rfl, hb1⟩
  obtain ⟨hc, hf⟩ := bcell2 hb1
  have hz1 : w.heap.size < W.heap.size := by omega
  have hz2 : w.heap.size + 1 < W.heap.size := by omega
  rw [b8g]
  go_wp2
  have hs1 := hb1.size
  refine bodyPost_ret (v := exStep (w.heap.size + 1 + 1) C) (by simp [results, Tryz.results256, go_sem, exStep, hc, hz1, r0, r1, r2, r3, r4, r5, r6, r7]) rfl ⟨⟨_, _, rfl, by omega, ?_, ?_⟩, ?_⟩
  · simp; omega
  · go_simp
  · have q := hBW.trans (hb1.mono (by omega))
    exact (((((((q.setCell (p := ⟨w.heap.size, 0, none⟩) (Nat.le_refl _) _).setCell (p := ⟨w.heap.size, 1, none⟩) (Nat.le_refl _) _).setCell (p := ⟨w.heap.size, 2, none⟩) (Nat.le_refl _) _).setCell (p := ⟨w.heap.size, 3, none⟩) (Nat.le_refl _) _).setCell (p := ⟨w.heap.size, 4, none⟩) (Nat.le_refl _) _).setCell (p := ⟨w.heap.size, 5, none⟩) (Nat.le_refl _) _).setCell (p := ⟨w.heap.size, 6, none⟩) (Nat.le_refl _) _).setCell (p := ⟨w.heap.size, 7, none⟩) (Nat.le_refl _) _
end Go.Proofs.YtlonjggfnleolaaGreatDoor
