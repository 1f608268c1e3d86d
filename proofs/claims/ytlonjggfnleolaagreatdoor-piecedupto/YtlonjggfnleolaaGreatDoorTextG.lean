/-
  The walk over a list's bytes, in every state: text.
-/
import Derived.Test.YtlonjggfnleolaaGreatDoorCountG
namespace Go.Proofs.YtlonjggfnleolaaGreatDoor
open Go.RowKit
set_option linter.unusedVariables false

theorem conv_cells (W : World) (g o n t k cc : Nat) (bs : List UInt8) (hlen : bs.length = n) (hc : ∀ i, i < n → W.cell? ⟨g, o + i, none⟩ = some (.int .u8 (byAt bs i))) (hk : t + k ≤ n) :
    (convert 80 9 (.slice (some ⟨g, o + t, none⟩) k cc)).run Tryz.prog W = .ok (.string (bytesOf bs t k)) W := by
  have hl : ((bs.drop t).take k).length = k := by simp; omega
  rw [run_convert_bytes_arg (P := Tryz.prog) W 80 5 Tryz.underlying80 Tryz.underlying5 g (o + t) k _ (((bs.drop t).take k).map fun b => (b.toNat : Int)) (by simpa using hl) (fun j hj => ?_) 9 Tryz.underlying9, strOfNums_bytes]
  · rfl
  have hj2 : t + j < bs.length := by omega
  have e2 : ((bs.drop t).take k)[j]? = some bs[t + j] := by
    rw [List.getElem?_take_of_lt hj, List.getElem?_drop, List.getElem?_eq_getElem hj2]
  rw [Nat.add_assoc, hc (t + j) (by omega)]
  rw [List.getD, List.getElem?_map, e2]
  simp [byAt, List.getD, List.getElem?_eq_getElem hj2]

set_option maxRecDepth 20000 in
set_option maxHeartbeats 4000000 in
theorem textG (w : World) (B : Nat) (a : Option Addr) (n c : Nat) (bs : List UInt8) (s : WS) (k : Nat) (W : WalkG w B a n c bs s) (hk : k ≤ 40) (hn : s.short = true ∨ 1 ≤ n) :
    Calls Tryz.prog 255 #[.pointer (some ⟨B, 0, none⟩), .int .i64 (k : Int)] w fun e w' => e = .returned (.string (textW bs k s).1) ∧ WalkG w' B a n c bs (textW bs k s).2 ∧ Only B w w' := by
  have HW := hide' W
  obtain ⟨p, wr, sh⟩ := s
  obtain ⟨c0, c1, c2, c3, fr, len, cap, sm, hp, gB, hby⟩ := W
  simp only at c1 c2 c3 hp hn
  have HN := hide' len
  cases wr with
  | true =>
    have e : textW bs k ⟨p, true, sh⟩ = (noB, ⟨p, true, sh⟩) := by simp [textW]
    rw [e]
    clear len hby gB e
    go_enter Tryz.func255, Tryz.ntmps255
    go_wp2
    go_ret
    exact ⟨rfl, HW.out, Only.refl _ _⟩
  | false =>
    cases sh with
    | true =>
      have e : textW bs k ⟨p, false, true⟩ = (noB, ⟨p, false, true⟩) := by simp [textW]
      rw [e]
      clear len hby gB e
      go_enter Tryz.func255, Tryz.ntmps255
      go_wp2
      go_ret
      exact ⟨rfl, HW.out, Only.refl _ _⟩
    | false =>
      have hn1 : 1 ≤ n := by rcases hn with h | h; cases h; exact h
      obtain ⟨g, o, rfl, _⟩ := hby 0 (by omega)
      have hcell : ∀ i, i < n → w.cell? ⟨g, o + i, none⟩ = some (.int .u8 (byAt bs i)) := by
        intro i hi
        obtain ⟨g', o', e, hc⟩ := hby i hi
        cases e
        exact hc
      have hgB := gB g o rfl
      clear hby gB hn
      by_cases hl : n < p + k
      · have e : textW bs k ⟨p, false, false⟩ = (noB, ⟨p, false, true⟩) := by simp [textW, len, hl]
        rw [e]
        have e0 : (n : Int) - p < k := by omega
        have d3 : (w.setCell ⟨B, 3, none⟩ (.bool true)).cell? ⟨B, 3, none⟩ = some (.bool true) := World.cell?_setCell_same' _ _ _ (by rw [c3]; rfl)
        clear len hcell e
        go_enter Tryz.func255, Tryz.ntmps255
        go_wp2
        go_region
        go_wp2
        go_ret
        have hO : Only B w ((w.setCell ⟨B, 3, none⟩ (.bool true)).drew) := ((Only.refl B w).setCell rfl _).drew
        refine ⟨rfl, HW.out.kept hO (by go_simp) (by go_simp) (by go_simp) (by go_simp) (fun j => by go_simp) hp, hO⟩
      · have e : textW bs k ⟨p, false, false⟩ = (bytesOf bs p k, ⟨p + k, false, false⟩) := by
          simp only [textW, len, Bool.or_self, Bool.false_eq_true, if_false]; rw [if_neg hl]
        rw [e]
        have e0 : ¬ (n : Int) - p < k := by omega
        have hO : Only B w ((w.setCell ⟨B, 1, none⟩ (.int .i64 ((p : Int) + k))).drew.drew) := (((Only.refl B w).setCell rfl _).drew).drew
        have d1 : (w.setCell ⟨B, 1, none⟩ (.int .i64 ((p : Int) + k))).cell? ⟨B, 1, none⟩ = some (.int .i64 ((p : Int) + k)) := World.cell?_setCell_same' _ _ _ (by rw [c1]; rfl)
        by_cases hcp : c = p
        · have hk0 : k = 0 := by omega
          have hnp : n = p := by omega
          subst hk0
          have hv : bytesOf bs p 0 = noB := by simp [bytesOf, noB]
          rw [hv]
          have hcv := run_convert_bytes_arg (P := Tryz.prog) ((w.setCell ⟨B, 1, none⟩ (.int .i64 ((p : Int) + (0 : Nat)))).drew.drew) 80 5 Tryz.underlying80 Tryz.underlying5 g o 0 0 [] rfl (fun i hi => by omega) 9 Tryz.underlying9
          have hs0 : strOfNums [] = noB := rfl
          rw [hs0] at hcv
          subst hcp
          have HO := hide' hO
          subst hnp
          simp only [Int.natCast_zero, Int.add_zero] at hcv d1 e0
          clear len hcell e hv hO
          go_enter Tryz.func255, Tryz.ntmps255
          go_wp2
          go_region
          go_wp2
          go_region
          go_wp2
          go_ret
          have hO := HO.out
          simp only [Int.natCast_zero, Int.add_zero] at hO
          refine ⟨rfl, HW.out.kept hO (by go_simp) (by go_simp) (by go_simp) (by go_simp) (fun j => by go_simp) (by show n + 0 ≤ n; omega), hO⟩
        · have hcv := conv_cells ((w.setCell ⟨B, 1, none⟩ (.int .i64 ((p : Int) + k))).drew.drew) g o n p k (c - p) bs len (fun i hi => (hO.cell (p := ⟨g, o + i, none⟩) hgB).trans (hcell i hi)) (by omega)
          have HO := hide' hO
          clear len hcell e hO
          generalize bytesOf bs p k = V at *
          go_enter Tryz.func255, Tryz.ntmps255
          go_wp2
          go_region
          go_wp2
          go_region
          go_wp2
          go_ret
          have hO := HO.out
          refine ⟨rfl, HW.out.kept hO (by go_simp) (by go_simp) (by go_simp) (by go_simp) (fun j => by go_simp) (by show p + k ≤ n; omega), hO⟩
end Go.Proofs.YtlonjggfnleolaaGreatDoor
