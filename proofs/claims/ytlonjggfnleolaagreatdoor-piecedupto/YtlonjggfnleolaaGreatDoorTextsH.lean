/-
  lists: what the texts of a list come to: a set; no keys.
-/
import Derived.Test.YtlonjggfnleolaaGreatDoorTextsG
namespace Go.Proofs.YtlonjggfnleolaaGreatDoor
open Go.RowKit
set_option linter.unusedVariables false

theorem below_undrew {w w1 : World} (h : Below w.drew.heap.size w.drew w1) : Below w.heap.size w w1 := ⟨h.os, h.tape, h.output, h.size, h.block⟩

set_option maxRecDepth 20000 in
set_option maxHeartbeats 4000000 in
/-- A set: its key and its value. -/
theorem readTexts_set (T : Nat) (x y z : ByteArray) (u : Nat) (w : World) (hT : TextsAt w T 5 [x, y, z]) (hs : y.size ≤ maxLen) (hs2 : z.size ≤ maxLen) (hk : kindB x = 2) :
    Calls Tryz.prog 256 #[.slice (some ⟨T, 0, none⟩) 3 5, .int .i64 (u : Int)] w fun e w' => StepOut w w' (some (textsR [x, y, z] u)) e ∧ Below w.heap.size w w' := by
  have hR : textsR [x, y, z] u = if cmdB 2 [y] z then ⟨⟨2, [y], z, noB, false, 0⟩, u, false⟩ else ⟨wrongC dataB false, u, false⟩ := by
    unfold textsR
    simp only [List.getD_cons_zero, List.drop_succ_cons, List.drop_zero, hk, if_true, List.length_cons, List.length_nil, List.take_succ_cons, List.take_zero, and_self, List.getD_cons_succ]
  have HR := hide' hR
  clear hR
  obtain ⟨i9, hi, hz0, hz1, hz2⟩ := info9
  have HI := hide' (And.intro hi (And.intro hz0 (And.intro hz1 hz2)))
  clear hi hz0 hz1 hz2
  have hlt := hT.lt
  have hlt1 : T < w.heap.size + 1 := by omega
  have hlt2 : T < w.heap.size + 1 + 1 := by omega
  obtain ⟨Z, hZ, hzs, hzl, hzi⟩ := hT
  have c0 : w.cell? ⟨T, 0, none⟩ = some (.string x) := by rw [blkCell hZ 0]; exact hzi 0 x rfl
  have c1 : w.cell? ⟨T, 1, none⟩ = some (.string y) := by rw [blkCell hZ 1]; exact hzi 1 y rfl
  have c2 : w.cell? ⟨T, 2, none⟩ = some (.string z) := by rw [blkCell hZ 2]; exact hzi 2 z rfl
  have c2' : w.cell? ⟨T, 1 + 1, none⟩ = some (.string z) := c2
  clear hZ hzs hzl hzi Z
  have HX := hide' (show ∀ W : World, Calls Tryz.prog 224 #[.string x] W fun e w' => e = .returned (.int .i64 2) ∧ w' = W from fun W => by rw [← hk]; exact kindOf_any x W)
  have HY := hide' c1
  clear hk
  have HN : Hid (∀ W, Below w.heap.size w W → ∀ (j : Nat) (v : Value), [Value.string y][j]? = some v → W.cell? ((⟨T, 1, none⟩ : Addr).add j) = some v) := fun W hW j v hv => by
    match j, hv with
    | 0, hv =>
      simp at hv
      subst hv
      have hadd : (⟨T, 1, none⟩ : Addr).add 0 = ⟨T, 1, none⟩ := by unfold Addr.add; split <;> simp_all
      rw [hadd]
      exact (hW.cell (p := ⟨T, 1, none⟩) hlt).trans HY.out
  have HO : Hid (∀ u ∈ [Value.string y], u.oneCell' = true) := fun u hu => by
    simp at hu
    subst hu
    rfl
  go_enter Tryz.func256, Tryz.ntmps256
  go_wp2_with (go_at_call 224; refine (HX.out _).mono ?_; rintro e w' ⟨rfl, rfl⟩)
  go_region
  go_wp2_with (first
    | (at_builtin; refine wpList_append_lies _ rfl _ _ _ rfl w.heap.size 9 i9 (.string ⟨#[]⟩) 1 16 Tryz.underlying34 HI.out.1 HI.out.2.1 HI.out.2.2.1 HI.out.2.2.2 rfl (by omega) (.slice none 0 0) 0 [] rfl (World.ownsRow_nil _ _ _ _) ⟨T, 1, none⟩ 1 4 [Value.string y] rfl rfl (HN.out _ (by repeat (first | with_reducible exact Below.refl _ _ | with_reducible refine Below.drew ?_ | with_reducible refine below_drewN ?_ _ | with_reducible refine Below.alloc ?_ (by simp; try omega) _ | with_reducible refine Below.setCell ?_ (by simp; try omega) _))) HO.out (by omega) (by unfold maxLen; omega) (by omega) (by simp; omega) _ rfl ?_; intro g cap w1 hown hgrow hat hlt3; have hB1 := below_undrew (grown_below hgrow); have HF := hide' (And.intro hown (And.intro hB1 hat)); obtain ⟨hRb, hCb⟩ := two_kept hB1; obtain ⟨⟨r0, r1, r2, r3, r4, r5, r6, r7⟩, rf⟩ := zcells_of hRb; obtain ⟨⟨k0, k1, k2, k3, k4, k5⟩, kf⟩ := ccells_of hCb; have hz1 := blkLt hCb; have HRC := hide' (And.intro hRb hCb); clear hown hgrow hat hB1 hRb hCb)
    | fail)
  have hg : g = w.heap.size + 1 + 1 := by
    rcases HF.out.2.2 with h | h
    · cases h
    · simpa using h
  have hTx : TextsAt w1 g cap [y] := by
    have := HF.out.1
    rw [List.nil_append] at this
    exact (owns_texts (ks := [y]) (m := 1) rfl (by omega) this).1
  have hTx2 := hTx.other (w' := w1.setCell ⟨w.heap.size + 1, 1, none⟩ (.slice (some ⟨g, 0, none⟩) 1 cap)) (Below.heap_setCell _ _ _ _ (by show g ≠ w.heap.size + 1; omega))
  have hS := texts_strs hTx2 (by simp) (by simpa using hs)
  have hbel : Below w.heap.size w w1 := (((Below.refl _ _).alloc (Nat.le_refl _) _).alloc (by simp) _).trans (HF.out.2.1.mono (by simp; omega))
  have hbel2 : Below w.heap.size w (w1.setCell ⟨w.heap.size + 1, 1, none⟩ (.slice (some ⟨g, 0, none⟩) 1 cap)) := hbel.setCell (p := ⟨w.heap.size + 1, 1, none⟩) (by show w.heap.size ≤ w.heap.size + 1; omega) _
  have hRb2 : (w1.setCell ⟨w.heap.size + 1, 1, none⟩ (.slice (some ⟨g, 0, none⟩) 1 cap)).heap[w.heap.size]? = some (.cells #[.int .i64 0, .slice none 0 0, .string ⟨#[]⟩, .string ⟨#[]⟩, .bool false, .int .i64 0, .int .i64 0, .bool false] 255 (0, 0)) := (Below.heap_setCell _ ⟨w.heap.size + 1, 1, none⟩ _ _ (by show w.heap.size ≠ w.heap.size + 1; omega)).trans HRC.out.1
  have hCb2 := blkSet (i := 1) HRC.out.2 (.slice (some ⟨g, 0, none⟩) 1 cap)
  have HCM := hide' (cmd_any 2 _ [y] z ⟨#[]⟩ false 0 _ hS hs2)
  clear hS r0 r1 r2 r3 r4 r5 r6 r7 rf k0 k1 k2 k3 k4 k5 kf HN HX c0 c1 c2 c2' HY
  clear HF HRC hTx hbel HI HO
  generalize hW2 : w1.setCell ⟨w.heap.size + 1, 1, none⟩ (.slice (some ⟨g, 0, none⟩) 1 cap) = w2 at *
  clear hW2
  unfold cmdV6 at HCM
  refine HCM.out.mono ?_
  rintro e w3 ⟨rfl, hb3⟩
  have hR3 := (hb3.block _ (blkLt hRb2)).trans hRb2
  have hC3 := (hb3.block _ (blkLt hCb2)).trans hCb2
  have hT3 := hTx2.later hb3
  have hB3 := hbel2.trans (hb3.mono hbel2.size)
  have HK := hide' (And.intro hR3 (And.intro hC3 (And.intro hT3 hB3)))
  obtain ⟨⟨r0, r1, r2, r3, r4, r5, r6, r7⟩, rf⟩ := zcells_of hR3
  obtain ⟨⟨k0, k1, k2, k3, k4, k5⟩, kf⟩ := ccells_of hC3
  have hz3 := blkLt hC3
  clear hb3 hR3 hC3 hT3 hB3 hRb2 hCb2 hTx2 hbel2 HCM
  cases hcm : cmdB 2 [y] z with
  | false =>
    go_wp2_with fail
    go_at_call 218
    refine (wrong_any _ _ _).mono ?_
    rintro e w4 ⟨rfl, hb4⟩
    have hR4 := (hb4.block _ (blkLt HK.out.1)).trans HK.out.1
    have hB4 := HK.out.2.2.2.trans (hb4.mono HK.out.2.2.2.size)
    obtain ⟨⟨s0, s1, s2, s3, s4, s5, s6, s7⟩, sf⟩ := zcells_of hR4
    have H4 := hide' hB4
    clear hb4 hR4 hB4 r0 r1 r2 r3 r4 r5 r6 r7 rf k0 k1 k2 k3 k4 k5 kf
    unfold stepV
    go_wp2
    refine bodyPost_ret (v := stepV 4 (.slice none 0 0) ⟨#[]⟩ dataB false 0 u false) (by simp [results, Tryz.results256, go_sem, stepV, dataB, s0, s1, s2, s3, s4, s5, s6, s7]) rfl ⟨?_, ?_⟩
    · rw [HR.out, hcm, if_neg (by simp)]
      exact ⟨_, rfl, .inl ⟨rfl, rfl⟩⟩
    · exact set8 H4.out (Nat.le_refl _) _ _ _ _ _ _ _ _
  | true =>
    go_wp2
    refine bodyPost_ret (v := stepV 2 (.slice (some ⟨g, 0, none⟩) 1 cap) z ⟨#[]⟩ false 0 u false) (by simp [results, Tryz.results256, go_sem, stepV, r0, r1, r2, r3, r4, r5, r6, r7]) rfl ⟨?_, ?_⟩
    · rw [HR.out, hcm, if_pos rfl]
      refine ⟨_, rfl, .inr ⟨g, cap, rfl, by omega, HK.out.2.2.1.other ?_⟩⟩
      exact set8_other (by omega) _ _ _ _ _ _ _ _
    · exact set8 HK.out.2.2.2 (Nat.le_refl _) _ _ _ _ _ _ _ _

set_option maxRecDepth 20000 in
set_option maxHeartbeats 4000000 in
/-- No keys: a word alone, or a set without its value. -/
theorem readTexts_none (T n : Nat) (x : ByteArray) (r : StepR) (u : Nat) (w : World) (hlt : T < w.heap.size) (c0 : w.cell? ⟨T, 0, none⟩ = some (.string x)) (hn : n ≤ 5) (h1 : 1 ≤ n) (hk : (kindB x = 2 ∧ n ≠ 3) ∨ (kindB x ≠ 2 ∧ n = 1)) :
    Calls Tryz.prog 256 #[.slice (some ⟨T, 0, none⟩) n 5, .int .i64 (u : Int)] w fun e w' => StepOut w w' (some ⟨wrongC dataB false, u, false⟩) e ∧ Below w.heap.size w w' := by
  have hlt1 : T < w.heap.size + 1 := by omega
  have hlt2 : T < w.heap.size + 1 + 1 := by omega
  have HB2 := hide' (show ∀ x y, Below w.heap.size w ((w.alloc x).alloc y) from fun x y => ((Below.refl _ _).alloc (Nat.le_refl _) _).alloc (by simp) _)
  have hcf : ∀ k : Int, cmdB k [] ⟨#[]⟩ = false := by
    intro k
    simp [cmdB, keysB, withinB]
  have HCM : Hid (∀ (k : Int) (W : World), Calls Tryz.prog 48 #[.agg #[.int .i64 k, .slice none 0 0, .string ⟨#[]⟩, .string ⟨#[]⟩, .bool false, .int .i64 0]] W fun e w' => e = .returned (.bool false) ∧ Below W.heap.size W w') := fun k W => by
    have := cmd_any k (.slice none 0 0) [] ⟨#[]⟩ ⟨#[]⟩ false 0 W ⟨.inr ⟨none, rfl, rfl⟩, by simp, by simp⟩ (by decide)
    rw [hcf k] at this
    exact this
  clear hcf
  rcases hk with ⟨hk, hn3⟩ | ⟨hk, hn1⟩
  case' inl =>
    have HX := hide' (show ∀ W : World, Calls Tryz.prog 224 #[.string x] W fun e w' => e = .returned (.int .i64 2) ∧ w' = W from fun W => by rw [← hk]; exact kindOf_any x W)
    have hn2 : (((n : Int) - 1) == 2) = false := by rw [beq_eq_false_iff_ne]; omega
    have hn2' : (((n - 1 : Nat) : Int) == 2) = false := by rw [beq_eq_false_iff_ne]; omega
    clear hk hn3
  case' inr =>
    have hkn : (kindB x == 2) = false := by simpa using hk
    have HX := hide' (show ∀ W : World, Calls Tryz.prog 224 #[.string x] W fun e w' => e = .returned (.int .i64 (kindB x)) ∧ w' = W from fun W => kindOf_any x W)
    subst hn1
    clear hk
    generalize kindB x = k at *
  all_goals
    go_enter Tryz.func256, Tryz.ntmps256
    go_wp2_with (first
      | (go_at_call 224; refine (HX.out _).mono ?_; rintro e w' ⟨rfl, rfl⟩)
      | (go_at_call 48; refine (HCM.out _ _).mono ?_; rintro e w3 ⟨rfl, hb3⟩; obtain ⟨hRb, hCb⟩ := two_kept hb3; have hz3 := blkLt hCb; have H3 := hide' (And.intro hRb ((HB2.out _ _).trans (hb3.mono (by simp; omega)))); clear hRb hCb hb3)
      | (go_at_call 218; refine (wrong_any _ _ _).mono ?_; rintro e w4 ⟨rfl, hb4⟩; have hR4 := (hb4.block _ (blkLt H3.out.1)).trans H3.out.1; have H4 := hide' (H3.out.2.trans (hb4.mono H3.out.2.size)); obtain ⟨⟨s0, s1, s2, s3, s4, s5, s6, s7⟩, sf⟩ := zcells_of hR4; clear hR4 hb4; unfold stepV))
    refine bodyPost_ret (v := stepV 4 (.slice none 0 0) ⟨#[]⟩ dataB false 0 u false) (by simp [results, Tryz.results256, go_sem, stepV, dataB, s0, s1, s2, s3, s4, s5, s6, s7]) rfl ⟨⟨_, rfl, .inl ⟨rfl, rfl⟩⟩, ?_⟩
    exact set8 H4.out (Nat.le_refl _) _ _ _ _ _ _ _ _

/-- What readTexts tells, for all texts. -/
theorem readTexts_any (T : Nat) (ts : List ByteArray) (n u : Nat) (w : World) (hn : ts.length = n) (hT : TextsAt w T 5 ts) (h1 : 1 ≤ n) (h5 : n ≤ 5) (hs : ∀ s ∈ ts, s.size ≤ maxLen) :
    Calls Tryz.prog 256 #[.slice (some ⟨T, 0, none⟩) n 5, .int .i64 (u : Int)] w fun e w' => StepOut w w' (some (textsR ts u)) e ∧ Below w.heap.size w w' := by
  subst hn
  have hc0 : ∀ x ks, ts = x :: ks → w.cell? ⟨T, 0, none⟩ = some (.string x) := by
    rintro x ks rfl
    obtain ⟨Z, hZ, _, _, hi⟩ := hT
    rw [blkCell hZ 0]
    exact hi 0 x rfl
  match ts, hT, h1, h5, hs, hc0 with
  | x :: ks, hT, h1, h5, hs, hc0 =>
    have c0 := hc0 x ks rfl
    by_cases hk : kindB x = 2
    · by_cases h3 : ks.length = 2
      · match ks, h3, hT, hs with
        | [y, z], _, hT, hs => exact readTexts_set T x y z u w hT (hs y (by simp)) (hs z (by simp)) hk
      · have e : textsR (x :: ks) u = ⟨wrongC dataB false, u, false⟩ := by
          have hc : cmdB 2 [] noB = false := by simp [cmdB, keysB, withinB]
          unfold textsR
          simp only [List.getD_cons_zero, List.drop_succ_cons, List.drop_zero, hk, if_true, h3, if_false, and_false]
          rw [hc]
          rfl
        rw [e]
        exact readTexts_none T _ x ⟨wrongC dataB false, u, false⟩ u w hT.lt c0 h5 h1 (.inl ⟨hk, by simp; omega⟩)
    · by_cases h0 : ks = []
      · subst h0
        have e : textsR [x] u = ⟨wrongC dataB false, u, false⟩ := by
          have hc : cmdB (kindB x) [] noB = false := by simp [cmdB, keysB, withinB]
          unfold textsR
          simp only [List.getD_cons_zero, List.drop_succ_cons, List.drop_nil, hk, if_false, false_and]
          rw [hc]
          rfl
        rw [e]
        exact readTexts_none T _ x ⟨wrongC dataB false, u, false⟩ u w hT.lt c0 h5 h1 (.inr ⟨hk, by simp⟩)
      · have hl : 1 ≤ ks.length := by cases ks with | nil => exact absurd rfl h0 | cons => simp
        exact readTexts_plain T x ks ks.length u w rfl hT hl (by simp at h5; omega) (fun s hs' => hs s (by simp [hs'])) hk
end Go.Proofs.YtlonjggfnleolaaGreatDoor
