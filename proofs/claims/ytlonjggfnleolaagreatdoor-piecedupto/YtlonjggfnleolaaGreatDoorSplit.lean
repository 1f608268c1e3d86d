/-
  strings.Split at a blank: the words of a line.
-/
import Derived.Test.YtlonjggfnleolaaGreatDoorShelfB
import Derived.Test.YtlonjggfnleolaaGreatDoorSpec
import Derived.Lib.IndexBytes
namespace Go.Proofs.YtlonjggfnleolaaGreatDoor
open Go.RowKit
set_option linter.unusedVariables false

theorem splitK_L : ∀ (l : List UInt8), Lib.splitK [32] 0 (l.count 32) l = splitL l := by
  intro l
  induction l with
  | nil => rfl
  | cons b l ih =>
    by_cases hb : b = 32
    · subst hb
      rw [List.count_cons_self, Lib.splitK, Lib.index_one, splitL, if_pos rfl, ← ih]
      have e : Lib.indexByte (32 :: l) 32 = 0 := rfl
      rw [e]
      rfl
    · rw [List.count_cons_of_ne hb, splitL, if_neg hb, ← ih]
      cases hc : l.count 32 with
      | zero => rfl
      | succ k =>
        rw [Lib.splitK, Lib.splitK, Lib.index_one, Lib.index_one]
        have hm : 32 ∈ l := List.count_pos_iff.1 (by omega)
        have hge : 0 ≤ Lib.indexByte l 32 := by
          clear ih hc
          induction l with
          | nil => cases hm
          | cons d l ih2 =>
            unfold Lib.indexByte
            by_cases hd : (d == 32) = true
            · rw [if_pos hd]; omega
            · have : 32 ∈ l := by
                rcases List.mem_cons.1 hm with h | h
                · exact absurd (by simp [h]) hd
                · exact h
              have := ih2 this
              have h1 : (Lib.indexByte l 32 == -1) = false := by rw [beq_eq_false_iff_ne]; omega
              simp only [hd, h1, Bool.false_eq_true, if_false]
              omega
        have hb' : (b == 32) = false := by simpa using hb
        have h1 : (Lib.indexByte l 32 == -1) = false := by rw [beq_eq_false_iff_ne]; omega
        have e : Lib.indexByte (b :: l) 32 = Lib.indexByte l 32 + 1 := by
          conv => lhs; unfold Lib.indexByte
          simp only [hb', h1, Bool.false_eq_true, if_false]
        have h2 : (Lib.indexByte l 32 + 1 == -1) = false := by rw [beq_eq_false_iff_ne]; omega
        rw [e, h2, h1]
        simp only [Bool.false_eq_true, if_false]
        have e2 : (Lib.indexByte l 32 + 1).toNat = (Lib.indexByte l 32).toNat + 1 := by omega
        rw [e2]
        simp only [Nat.add_zero, List.take_succ_cons, List.length_cons, List.length_nil, Nat.zero_add, List.drop_succ_cons]
theorem splitB_words (s : ByteArray) : Lib.splitB ⟨#[32]⟩ 0 (Lib.countB s ⟨#[32]⟩) s = wordsOf s.data.toList := by
  have h1 := Lib.splitB_data ⟨#[32]⟩ 0 (Lib.countB s ⟨#[32]⟩) s
  have h2 : Lib.countB s ⟨#[32]⟩ = s.data.toList.count 32 := Lib.count_one 32 s.data.toList
  have h3 : Lib.splitK [32] 0 (Lib.countB s ⟨#[32]⟩) s.data.toList = splitL s.data.toList := by rw [h2]; exact splitK_L _
  have h4 : (Lib.splitB ⟨#[32]⟩ 0 (Lib.countB s ⟨#[32]⟩) s).map (·.data.toList) = splitL s.data.toList := h1.trans h3
  unfold wordsOf
  rw [← h4, List.map_map]
  conv => lhs; rw [← List.map_id (Lib.splitB _ _ _ _)]
  apply List.map_congr_left
  intro x _
  simp [mkB]

theorem hi9 : (Tryz.prog.info? (Tryz.lays146_ren.t 9)).map (fun i => (i.zero, i.size, i.bytes)) = some (some (.string ByteArray.empty), 1, 16) := by kernel_rfl

set_option maxHeartbeats 1000000 in
theorem split_any (s : ByteArray) (w : World) (hs : s.size < 4294967281) :
    Calls Tryz.prog 221 #[.string s, .string ⟨#[32]⟩] w fun e w' => e = .returned (.slice (some ⟨w.heap.size, 0, none⟩) (wordsOf s.data.toList).length (wordsOf s.data.toList).length) ∧ w' = w.alloc (.cells ((wordsOf s.data.toList).map Value.string).toArray 9) := by
  have hle := Lib.countB_le ⟨#[32]⟩ (by decide) s.size s (Nat.le_refl _)
  have hlen := Lib.splitB_all ⟨#[32]⟩ (by decide) 0 _ s rfl
  have c := Any.strings_genSplit_core { Tryz.lays146 with } hi9 s ⟨#[32]⟩ 0 (-1) (Lib.countB s ⟨#[32]⟩ + 1) w hs (by decide) (by decide)
    (fun x c hx => by
      have := Any.strings_Index_one { Tryz.lays146 with } x 32 (w.alloc (.cells c (Tryz.lays146_ren.t 9)))
      have e : Lib.indexByte x.data.toList 32 = Lib.indexB x ⟨#[32]⟩ := (Lib.index_one x.data.toList 32).symm
      rw [e] at this
      exact this)
    (by
      have := Any.strings_Count_one { Tryz.lays146 with } s 32 w
      have e : Lib.countByte s.data.toList 32 = Lib.countB s ⟨#[32]⟩ := (Lib.count_one 32 s.data.toList).symm
      rw [e] at this
      exact this)
    (by decide) (by decide) (by rw [if_pos (by decide)]; omega)
  rw [Nat.add_sub_cancel, hlen] at c
  have e2 : Lib.cellsOf (Lib.splitB ⟨#[32]⟩ 0 (Lib.countB s ⟨#[32]⟩) s) (Lib.countB s ⟨#[32]⟩ + 1) = ((Lib.splitB ⟨#[32]⟩ 0 (Lib.countB s ⟨#[32]⟩) s).map Value.string).toArray := by rw [← hlen]; exact Lib.cellsOf_full _
  rw [e2, ← hlen, splitB_words] at c
  have HC := hide' (show Calls Tryz.prog 226 #[.string s, .string ⟨#[32]⟩, .int .i64 0, .int .i64 (-1)] w fun e w' => e = .returned (.slice (some ⟨w.heap.size, 0, none⟩) (wordsOf s.data.toList).length (wordsOf s.data.toList).length) ∧ w' = w.alloc (.cells ((wordsOf s.data.toList).map Value.string).toArray 9) from c)
  clear c hle hlen e2
  generalize (wordsOf s.data.toList).length = L at *
  go_enter Tryz.func221, Tryz.ntmps221
  go_wp2_with (go_at_call 226; refine HC.out.mono ?_; rintro e w' ⟨rfl, rfl⟩)
  go_ret
  exact ⟨rfl, rfl⟩
end Go.Proofs.YtlonjggfnleolaaGreatDoor
