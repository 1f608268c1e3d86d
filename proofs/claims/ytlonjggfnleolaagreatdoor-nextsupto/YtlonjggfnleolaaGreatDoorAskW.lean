/-
  What Ask answers at the document example of a Set in lines.
-/
import Derived.Test.YtlonjggfnleolaaGreatDoorCmd
import Derived.Test.YtlonjggfnleolaaGreatDoorDec
import Derived.Deep.QuietTactic
import Derived.BigQuiet
import Derived.RegionTactic
import Derived.Deep.RegionWith
import Derived.BigRegion
namespace Go.Proofs.YtlonjggfnleolaaGreatDoor
open Go.RowKit
set_option linter.unusedVariables false

theorem b8a : keysB [⟨#[97]⟩] 1 = true := by decide +kernel

set_option maxHeartbeats 400000 in
theorem nameOf2 (w : World) : Calls Tryz.prog 213 #[.int .i64 2] w fun e w' => e = .returned (.string ⟨#[115, 101, 116]⟩) ∧ w' = w := by
  go_enter Tryz.func213, Tryz.ntmps213
  go_wp2
  go_ret
  exact ⟨rfl, rfl⟩
set_option maxHeartbeats 400000 in
theorem join1 (b o c : Nat) (s sep : ByteArray) (w : World) (h : w.cell? ⟨b, o, none⟩ = some (.string s)) : Calls Tryz.prog 214 #[.slice (some ⟨b, o, none⟩) 1 c, .string sep] w fun e w' => e = .returned (.string s) ∧ w' = w := by
  go_enter Tryz.func214, Tryz.ntmps214
  go_wp2
  go_ret
  exact ⟨rfl, rfl⟩
set_option maxHeartbeats 400000 in
theorem sized_any (s : ByteArray) (w : World) (hs : s.size < 100) : Calls Tryz.prog 215 #[.string s] w fun e w' => e = .returned (.string (dec100 s.size ++ ⟨#[10]⟩ ++ s ++ ⟨#[10]⟩)) ∧ w' = w := by
  have hd := dec100_size s.size
  go_enter Tryz.func215, Tryz.ntmps215
  go_wp2_with (go_at_call 122; refine (itoa_any _ _ hs).mono ?_; rintro e w' ⟨rfl, rfl⟩)
  go_ret
  exact ⟨rfl, rfl⟩
set_option maxHeartbeats 400000 in
theorem canSay1 (c : Array Value) (id : Int) (w : World) : Calls Tryz.prog 210 #[.agg #[], .agg c, .int .i64 id] w fun e w' => e = .returned (.bool true) ∧ Below w.heap.size w w' := by
  go_enter Tryz.func210, Tryz.ntmps210
  go_wp2
  go_ret
  exact ⟨rfl, ((Below.refl _ _).alloc (Nat.le_refl _) _).alloc (by simp) _⟩

theorem bcell {W w1 : World} (hb : Below W.heap.size W w1) : (∀ b o, b < W.heap.size → w1.cell? ⟨b, o, none⟩ = W.cell? ⟨b, o, none⟩) ∧ (∀ b o, b < W.heap.size → w1.frozen? ⟨b, o, none⟩ = W.frozen? ⟨b, o, none⟩) :=
  ⟨fun b o h => hb.cell (p := ⟨b, o, none⟩) h, fun b o h => hb.frozen (p := ⟨b, o, none⟩) h⟩

set_option maxHeartbeats 1000000 in
theorem linesAsk_words (b : Nat) (w : World) (hb : b < w.heap.size) (h : w.cell? ⟨b, 0, none⟩ = some (.string ⟨#[97]⟩)) :
    Calls Tryz.prog 209 #[.agg #[], .agg #[.int .i64 2, .slice (some ⟨b, 0, none⟩) 1 1, .string ⟨#[120, 121]⟩, .string ⟨#[]⟩, .bool false, .int .i64 0], .int .i64 0] w
      fun e w' => e = .returned (.string ⟨#[115, 101, 116, 32, 97, 32, 50, 10, 120, 121, 10]⟩) ∧ Below w.heap.size w w' := by
  have hd : dec100 2 = ⟨#[50]⟩ := by decide +kernel
  go_enter Tryz.func209, Tryz.ntmps209
  go_wp2
  go_quiet ((first | (go_at_call 213; exact Calls.quiet_of_same (nameOf2 _)) | (go_at_call 214; refine Calls.quiet_of_same (join1 _ _ _ ⟨#[97]⟩ _ _ ?_); go_simp)))
  go_wp2_with (go_at_call 215; refine (sized_any _ _ (by decide)).mono ?_; rintro e w' ⟨rfl, rfl⟩)
  go_ret
  exact ⟨ret_str (by decide +kernel), below_drewN (((Below.refl _ _).alloc (Nat.le_refl _) _).alloc (by simp) _) nq⟩

theorem m_canSay1 (w : World) : (method 432 160 (.agg #[]) "CanSay").run Tryz.prog w = .ok (210, .agg #[]) w := by kernel_rfl
theorem m_ask1 (w : World) : (method 432 160 (.agg #[]) "Ask").run Tryz.prog w = .ok (209, .agg #[]) w := by kernel_rfl

set_option maxRecDepth 20000 in
set_option maxHeartbeats 1000000 in
theorem ask_words (b : Nat) (w : World) (hb : b < w.heap.size) (h : w.cell? ⟨b, 0, none⟩ = some (.string ⟨#[97]⟩)) :
    Calls Tryz.prog 21 #[.int .i64 1, .agg #[.int .i64 2, .slice (some ⟨b, 0, none⟩) 1 1, .string ⟨#[120, 121]⟩, .string ⟨#[]⟩, .bool false, .int .i64 0], .int .i64 0] w
      fun e w' => e = .returned (.tuple #[.string ⟨#[115, 101, 116, 32, 97, 32, 50, 10, 120, 121, 10]⟩, .int .i64 0]) ∧ Below w.heap.size w w' := by
  have hS : StrsAt w (.slice (some ⟨b, 0, none⟩) 1 1) [⟨#[97]⟩] := ⟨.inl ⟨b, 0, 1, rfl, hb, fun i s hs => by
    match i, hs with
    | 0, hs => simp at hs; subst hs; exact h⟩, by simp, by decide⟩
  go_enter Tryz.func21, Tryz.ntmps21
  go_wp2_with (go_at_call 47; refine (of1 _).mono ?_; rintro e w' ⟨rfl, rfl⟩)
  go_at_call 48
  refine (cmd_set _ [⟨#[97]⟩] _ _ _ _ _ (hS.later ((Below.refl _ _).alloc (Nat.le_refl _) _)) (by decide)).mono ?_
  rintro e w1 ⟨rfl, hb1⟩
  obtain ⟨hc, hf⟩ := bcell hb1
  have hz : w.heap.size < w1.heap.size := by have := hb1.size; simp at this; omega
  have hk := b8a
  have hm1 := m_canSay1
  have hm2 := m_ask1
  go_wp2_with fail
  go_at_call 210
  refine (canSay1 _ _ _).mono ?_
  rintro e w2 ⟨rfl, hb2⟩
  obtain ⟨hc2, hf2⟩ := bcell hb2
  have hz2 : w.heap.size < w2.heap.size := by have := hb2.size; omega
  go_wp2_with fail
  go_at_call 209
  refine (linesAsk_words b _ (by omega) ?_).mono ?_
  · rw [hc2 _ _ (by omega), hc _ _ (by simp; omega)]; go_simp
  rintro e w3 ⟨rfl, hb3⟩
  go_wp2
  go_ret2
  have q1 : Below w.heap.size w w1 := ((Below.refl _ _).alloc (Nat.le_refl _) _).trans (hb1.mono (by simp))
  exact ⟨rfl, (q1.trans (hb2.mono q1.size)).trans (hb3.mono (by omega))⟩
end Go.Proofs.YtlonjggfnleolaaGreatDoor
