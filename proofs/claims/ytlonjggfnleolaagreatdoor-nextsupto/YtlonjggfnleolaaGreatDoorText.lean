/-
  What the walk of package speech does at a text that is there.
-/
import Derived.Test.YtlonjggfnleolaaGreatDoorStep
import Derived.Laws.BytesArg
namespace Go.Proofs.YtlonjggfnleolaaGreatDoor
open Go.RowKit
set_option linter.unusedVariables false

theorem strOfNums_bytes (l : List UInt8) : strOfNums (l.map fun b => (b.toNat : Int)) = ⟨l.toArray⟩ := by
  unfold strOfNums
  rw [List.map_map]
  congr 1
  congr 1
  conv => rhs; rw [← List.map_id l]
  apply List.map_congr_left
  intro x _
  simp

theorem conv_win (W : World) (g o cap t k : Nat) (bs : List UInt8) (hc : ∀ (i : Nat) (b : UInt8), bs[i]? = some b → W.cell? ⟨g, o + i, none⟩ = some (.int .u8 (b.toNat : Int))) (hk : t + k ≤ bs.length) (hcap : bs.length ≤ cap) :
    (convert 80 9 (.slice (if cap = t then some ⟨g, o, none⟩ else some ⟨g, o + t, none⟩) (t + k - t) (cap - t))).run Tryz.prog W = .ok (.string ⟨((bs.drop t).take k).toArray⟩) W := by
  have hl : ((bs.drop t).take k).length = k := by simp; omega
  have e1 : t + k - t = k := by omega
  rw [e1]
  by_cases h : cap = t
  · have hk0 : k = 0 := by omega
    subst hk0
    rw [if_pos h, run_convert_bytes_arg (P := Tryz.prog) W 80 5 Tryz.underlying80 Tryz.underlying5 g o 0 _ [] rfl (fun i hi => by omega) 9 Tryz.underlying9]
    rfl
  · rw [if_neg h, run_convert_bytes_arg (P := Tryz.prog) W 80 5 Tryz.underlying80 Tryz.underlying5 g (o + t) k _ (((bs.drop t).take k).map fun b => (b.toNat : Int)) (by simpa using hl) (fun i hi => ?_) 9 Tryz.underlying9, strOfNums_bytes]
    have hi2 : t + i < bs.length := by omega
    have e2 : ((bs.drop t).take k)[i]? = some bs[t + i] := by
      rw [List.getElem?_take_of_lt hi, List.getElem?_drop, List.getElem?_eq_getElem hi2]
    rw [Nat.add_assoc, hc (t + i) bs[t + i] (List.getElem?_eq_getElem hi2)]
    rw [List.getD, List.getElem?_map, e2]
    rfl

set_option maxHeartbeats 1000000 in
set_option maxRecDepth 20000 in
theorem text_ok (w : World) (B g o cap : Nat) (bs : List UInt8) (t k : Nat) (W : WalkAt w B g o cap bs t) (hk : t + k ≤ bs.length) (hcap : bs.length ≤ cap) (hct : ¬ cap = t) :
    Calls Tryz.prog 255 #[.pointer (some ⟨B, 0, none⟩), .int .i64 k] w fun e w' => e = .returned (.string ⟨((bs.drop t).take k).toArray⟩) ∧ WalkAt w' B g o cap bs (t + k) ∧ Only B w w' := by
  have HW : Hid (WalkAt w B g o cap bs t) := W
  obtain ⟨c0, c1, c2, c3, f1, f2, f3, gB, sm, hbs⟩ := W
  have HB : Hid (∀ (i : Nat) (b : UInt8), bs[i]? = some b → w.cell? ⟨g, o + i, none⟩ = some (.int .u8 (b.toNat : Int))) := hbs
  clear hbs
  generalize hn : bs.length = n at *
  have HN : Hid (bs.length = n) := hn
  clear hn
  have e0 : ¬ (n : Int) - t < k := by omega
  have d1 : (w.setCell ⟨B, 1, none⟩ (.int .i64 ((t : Int) + k))).cell? ⟨B, 1, none⟩ = some (.int .i64 ((t : Int) + k)) := World.cell?_setCell_same' _ _ _ (by rw [c1]; rfl)
  have hcv := conv_win ((w.setCell ⟨B, 1, none⟩ (.int .i64 ((t : Int) + k))).drew.drew) g o cap t k bs (fun i b h => by
    have := HB.out i b h
    rw [← this]
    have hO : Only B w ((w.setCell ⟨B, 1, none⟩ (.int .i64 ((t : Int) + k))).drew.drew) := (((Only.refl B w).setCell rfl _).drew).drew
    exact hO.cell (p := ⟨g, o + i, none⟩) gB) (by rw [HN.out]; omega) (by rw [HN.out]; omega)
  generalize hS : (ByteArray.mk ((bs.drop t).take k).toArray) = S at *
  have HS : Hid (ByteArray.mk ((bs.drop t).take k).toArray = S) := hS
  clear hS
  have HCV : Hid (Sem.run Tryz.prog (convert 80 9 (Value.slice (if cap = t then some { block := g, off := o } else some { block := g, off := o + t }) (t + k - t) (cap - t))) ((w.setCell ⟨B, 1, none⟩ (.int .i64 ((t : Int) + k))).drew.drew) = .ok (.string S) ((w.setCell ⟨B, 1, none⟩ (.int .i64 ((t : Int) + k))).drew.drew)) := hcv
  clear hcv
  go_enter Tryz.func255, Tryz.ntmps255
  go_wp2
  go_region
  go_wp2
  have hcv := HCV.out
  rw [show t + k - t = k by omega, if_neg hct] at hcv
  go_region
  go_wp2
  go_ret
  have hO : Only B w ((w.setCell ⟨B, 1, none⟩ (.int .i64 ((t : Int) + k))).drew.drew) := (((Only.refl B w).setCell rfl _).drew).drew
  refine ⟨ret_str rfl, HW.out.kept hO (by rw [HN.out]; go_simp) (by go_simp) (by go_simp) (by go_simp) (fun j => by go_simp), hO⟩
end Go.Proofs.YtlonjggfnleolaaGreatDoor
