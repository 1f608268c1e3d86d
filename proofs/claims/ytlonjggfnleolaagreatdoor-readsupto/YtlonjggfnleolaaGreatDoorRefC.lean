/-
  lists: what the texts of a list come to, for all texts.
-/
import Derived.Test.YtlonjggfnleolaaGreatDoorFrRight
import Derived.Test.YtlonjggfnleolaaGreatDoorKind
import Derived.Test.YtlonjggfnleolaaGreatDoorReaderEx
import Derived.Deep.AppendLies
import Derived.Test.YtlonjggfnleolaaGreatDoorRefA
import Derived.Maps.AppendAt

namespace Go.Proofs.YtlonjggfnleolaaGreatDoor
open Go.RowKit
set_option linter.unusedVariables false

theorem info9 : ∃ i, Tryz.prog.info? 9 = some i ∧ i.zero = some (.string ⟨#[]⟩) ∧ i.size = 1 ∧ i.bytes = 16 := by
  have h : (Tryz.prog.info? 9).map (fun i => (i.zero, i.size, i.bytes)) = some (some (.string ⟨#[]⟩), 1, 16) := by kernel_rfl
  cases hi : Tryz.prog.info? 9 with
  | none => rw [hi] at h; cases h
  | some i =>
    rw [hi] at h
    simp only [Option.map_some, Option.some.injEq, Prod.mk.injEq] at h
    exact ⟨i, rfl, h.1, h.2.1, h.2.2⟩

theorem owns_texts {w : World} {base g cap m : Nat} {ks : List ByteArray} (hk : ks.length = m) (hm : 0 < m) (h : w.ownsRow base 9 1 (.slice (some ⟨g, 0, none⟩) m cap) m (ks.map Value.string)) : TextsAt w g cap ks ∧ base ≤ g := by
  obtain ⟨_, h | ⟨g', cap', cur, e, hb, hh, hn, hc, hs, ht⟩⟩ := h
  · omega
  · cases e
    refine ⟨⟨cur, hh, by omega, by omega, fun i x hx => ?_⟩, hb⟩
    have hi : i < ks.length := (List.getElem?_eq_some_iff.1 hx).1
    have : (cur.toList.take (m * 1))[i]? = some (.string x) := by rw [ht, List.getElem?_map, hx]; rfl
    rw [List.getElem?_take_of_lt (by omega)] at this
    simpa using this
theorem texts_strs {w : World} {T cap : Nat} {ss : List ByteArray} (h : TextsAt w T cap ss) (hl : ss.length ≤ 140737488355328) (hs : ∀ s ∈ ss, s.size ≤ maxLen) : StrsAt w (.slice (some ⟨T, 0, none⟩) ss.length cap) ss := by
  obtain ⟨Z, hZ, hz, hc, hi⟩ := h
  refine ⟨.inl ⟨T, 0, cap, rfl, blkLt hZ, fun i s hs' => ?_⟩, hl, hs⟩
  rw [Nat.zero_add, blkCell hZ i]
  exact hi i s hs'
theorem grown_below {w w' : World} (h : w.grownBy w' none) : Below w.heap.size w w' := ⟨h.os, h.tape, h.output, h.size, fun k hk => h.block k hk (by simp)⟩
theorem TextsAt.later {w w' : World} {T cap : Nat} {ss : List ByteArray} (h : TextsAt w T cap ss) (hb : Below w.heap.size w w') : TextsAt w' T cap ss := by
  obtain ⟨Z, hZ, h⟩ := h
  exact ⟨Z, (hb.block T (blkLt hZ)).trans hZ, h⟩
theorem TextsAt.lt {w : World} {T cap : Nat} {ss : List ByteArray} (h : TextsAt w T cap ss) : T < w.heap.size := by
  obtain ⟨Z, hZ, h⟩ := h
  exact blkLt hZ
theorem TextsAt.other {w w' : World} {T cap : Nat} {ss : List ByteArray} (h : TextsAt w T cap ss) (hb : w'.heap[T]? = w.heap[T]?) : TextsAt w' T cap ss := by
  obtain ⟨Z, hZ, h⟩ := h
  exact ⟨Z, hb.trans hZ, h⟩
theorem set8_other {w : World} {R k : Nat} (hk : k ≠ R) (a b c d e f g i : Value) : ((((((((w.setCell ⟨R, 0, none⟩ a).setCell ⟨R, 1, none⟩ b).setCell ⟨R, 2, none⟩ c).setCell ⟨R, 3, none⟩ d).setCell ⟨R, 4, none⟩ e).setCell ⟨R, 5, none⟩ f).setCell ⟨R, 6, none⟩ g).setCell ⟨R, 7, none⟩ i).heap[k]? = w.heap[k]? := setOther hk _ _ _ _ _ _ _ _

/-- The cells of a command that is not filled yet. -/
structure CCells (W : World) (C : Nat) (k : Int) (kv : Value) (val : ByteArray) : Prop where
  all : W.cell? ⟨C, 0, none⟩ = some (.int .i64 k) ∧ W.cell? ⟨C, 1, none⟩ = some kv ∧ W.cell? ⟨C, 2, none⟩ = some (.string val) ∧ W.cell? ⟨C, 3, none⟩ = some (.string ⟨#[]⟩) ∧ W.cell? ⟨C, 4, none⟩ = some (.bool false) ∧ W.cell? ⟨C, 5, none⟩ = some (.int .i64 0)
  free : ∀ i, W.frozen? ⟨C, i, none⟩ = false
theorem ccells_of {W : World} {C : Nat} {k : Int} {kv : Value} {val : ByteArray} (h : W.heap[C]? = some (.cells #[.int .i64 k, kv, .string val, .string ⟨#[]⟩, .bool false, .int .i64 0] 36 (0, 0))) : CCells W C k kv val :=
  ⟨⟨blkCell h 0, blkCell h 1, blkCell h 2, blkCell h 3, blkCell h 4, blkCell h 5⟩, blkFree h⟩
theorem zcells_of {W : World} {R : Nat} (h : W.heap[R]? = some (.cells #[.int .i64 0, .slice none 0 0, .string ⟨#[]⟩, .string ⟨#[]⟩, .bool false, .int .i64 0, .int .i64 0, .bool false] 255 (0, 0))) : ZCells W R :=
  ⟨⟨blkCell h 0, blkCell h 1, blkCell h 2, blkCell h 3, blkCell h 4, blkCell h 5, blkCell h 6, blkCell h 7⟩, blkFree h⟩
theorem two_kept {w w1 : World} {A B : Obj} (h : Below ((w.alloc A).alloc B).heap.size ((w.alloc A).alloc B) w1) : w1.heap[w.heap.size]? = some A ∧ w1.heap[w.heap.size + 1]? = some B := by
  refine ⟨(h.block _ (by simp; omega)).trans ((Below.heap_alloc _ _ _ (by simp)).trans (blkNew w A)), (h.block _ (by simp)).trans ?_⟩
  have := blkNew (w.alloc A) B
  rw [World.size_alloc] at this
  exact this

def zCmdA (k : Int) : Array Value := #[.int .i64 k, .slice none 0 0, .string ⟨#[]⟩, .string ⟨#[]⟩, .bool false, .int .i64 0]

set_option maxRecDepth 20000 in
set_option maxHeartbeats 4000000 in
/-- Keys that stay as they are, at least one, and no set. -/
theorem readTexts_plain (T : Nat) (x : ByteArray) (ks : List ByteArray) (m u : Nat) (w : World) (hm : ks.length = m) (hT : TextsAt w T 5 (x :: ks)) (h1 : 1 ≤ m) (h5 : m ≤ 4) (hs : ∀ s ∈ ks, s.size ≤ maxLen) (hk : kindB x ≠ 2) :
    Calls Tryz.prog 256 #[.slice (some ⟨T, 0, none⟩) (m + 1) 5, .int .i64 (u : Int)] w fun e w' => StepOut w w' (some (textsR (x :: ks) u)) e ∧ Below w.heap.size w w' := by
  have hR : textsR (x :: ks) u = if cmdB (kindB x) ks noB then ⟨⟨kindB x, ks, noB, noB, false, 0⟩, u, false⟩ else ⟨wrongC dataB false, u, false⟩ := by
    unfold textsR
    simp only [List.getD_cons_zero, List.drop_succ_cons, List.drop_zero, hk, if_false, false_and]
  have HR := hide' hR
  clear hR
  obtain ⟨i9, hi, hz0, hz1, hz2⟩ := info9
  have HI := hide' (And.intro hi (And.intro hz0 (And.intro hz1 hz2)))
  clear hi hz0 hz1 hz2
  have hlt := hT.lt
  have hlt1 : T < w.heap.size + 1 := by omega
  have hlt2 : T < w.heap.size + 1 + 1 := by omega
  have HT := hide' hT
  obtain ⟨Z, hZ, hzs, hzl, hzi⟩ := hT
  have c0 : w.cell? ⟨T, 0, none⟩ = some (.string x) := by rw [blkCell hZ 0]; exact hzi 0 x rfl
  have HC : Hid (∀ j s, ks[j]? = some s → w.cell? ⟨T, 1 + j, none⟩ = some (.string s)) := fun j s h => by
    rw [blkCell hZ (1 + j), Nat.add_comm]; exact hzi (j + 1) s (by simpa using h)
  clear hZ hzs hzl hzi Z
  have hkn : (kindB x == 2) = false := by simpa using hk
  have HM := hide' hm
  clear hm hk
  generalize hgk : kindB x = k at *
  have HX := hide' (show ∀ W : World, Calls Tryz.prog 224 #[.string x] W fun e w' => e = .returned (.int .i64 k) ∧ w' = W from fun W => by rw [← hgk]; exact kindOf_any x W)
  clear hgk
  go_enter Tryz.func256, Tryz.ntmps256
  have HN : Hid (∀ (a b : Obj) (j : Nat) (v : Value), (ks.map Value.string)[j]? = some v → ((w.alloc a).alloc b).cell? ((⟨T, 1, none⟩ : Addr).add j) = some v) := fun a b j v hv => by
    have hadd : (⟨T, 1, none⟩ : Addr).add j = ⟨T, 1 + j, none⟩ := by unfold Addr.add; split <;> simp_all
    rw [List.getElem?_map] at hv
    cases hj : ks[j]? with
    | none => rw [hj] at hv; cases hv
    | some s =>
      rw [hj] at hv
      cases hv
      have hb : Below w.heap.size w ((w.alloc a).alloc b) := ((Below.refl _ _).alloc (Nat.le_refl _) _).alloc (by simp) _
      rw [hadd]
      exact (hb.cell (p := ⟨T, 1 + j, none⟩) hlt).trans (HC.out j s hj)
  have HO : Hid (∀ u ∈ ks.map Value.string, u.oneCell' = true) := fun u hu => by
    obtain ⟨s, _, rfl⟩ := List.mem_map.1 hu
    rfl
  go_wp2_with (first
    | (go_at_call 224; refine (HX.out _).mono ?_; rintro e w' ⟨rfl, rfl⟩)
    | (at_builtin; refine wpList_append_lies _ rfl _ _ _ rfl w.heap.size 9 i9 (.string ⟨#[]⟩) 1 16 Tryz.underlying34 HI.out.1 HI.out.2.1 HI.out.2.2.1 HI.out.2.2.2 rfl (by omega) (.slice none 0 0) 0 [] rfl (World.ownsRow_nil _ _ _ _) ⟨T, 1, none⟩ m 4 (ks.map Value.string) rfl (by rw [List.length_map, HM.out]; omega) (HN.out _ _) HO.out (by omega) (by unfold maxLen; omega) (by omega) (by simp; omega) _ rfl ?_; intro g cap w1 hown hgrow hat hlt3; have hB1 := grown_below hgrow; have HF := hide' (And.intro hown (And.intro hB1 hat)); obtain ⟨hRb, hCb⟩ := two_kept hB1; obtain ⟨⟨r0, r1, r2, r3, r4, r5, r6, r7⟩, rf⟩ := zcells_of hRb; obtain ⟨⟨k0, k1, k2, k3, k4, k5⟩, kf⟩ := ccells_of hCb; have hz1 := blkLt hCb; have HRC := hide' (And.intro hRb hCb); clear hown hgrow hat hB1 hRb hCb)
    | fail)
  have hg : g = w.heap.size + 1 + 1 := by
    rcases HF.out.2.2 with h | h
    · cases h
    · simpa using h
  have hTx : TextsAt w1 g cap ks := by
    have := HF.out.1
    rw [Nat.zero_add, List.nil_append] at this
    exact (owns_texts HM.out (by omega) this).1
  have hTx2 := hTx.other (w' := w1.setCell ⟨w.heap.size + 1, 1, none⟩ (.slice (some ⟨g, 0, none⟩) m cap)) (Below.heap_setCell _ _ _ _ (by show g ≠ w.heap.size + 1; omega))
  have hS := texts_strs hTx2 (by rw [HM.out]; omega) hs
  rw [HM.out] at hS
  have hbel : Below w.heap.size w w1 := (((Below.refl _ _).alloc (Nat.le_refl _) _).alloc (by simp) _).trans (HF.out.2.1.mono (by simp; omega))
  have hbel2 : Below w.heap.size w (w1.setCell ⟨w.heap.size + 1, 1, none⟩ (.slice (some ⟨g, 0, none⟩) m cap)) := hbel.setCell (p := ⟨w.heap.size + 1, 1, none⟩) (by show w.heap.size ≤ w.heap.size + 1; omega) _
  have hRb2 : (w1.setCell ⟨w.heap.size + 1, 1, none⟩ (.slice (some ⟨g, 0, none⟩) m cap)).heap[w.heap.size]? = some (.cells #[.int .i64 0, .slice none 0 0, .string ⟨#[]⟩, .string ⟨#[]⟩, .bool false, .int .i64 0, .int .i64 0, .bool false] 255 (0, 0)) := (Below.heap_setCell _ ⟨w.heap.size + 1, 1, none⟩ _ _ (by show w.heap.size ≠ w.heap.size + 1; omega)).trans HRC.out.1
  have hCb2 := blkSet (i := 1) HRC.out.2 (.slice (some ⟨g, 0, none⟩) m cap)
  have HCM := hide' (cmd_any k _ ks ⟨#[]⟩ ⟨#[]⟩ false 0 _ hS (by decide))
  clear hS r0 r1 r2 r3 r4 r5 r6 r7 rf k0 k1 k2 k3 k4 k5 kf HC HN HX c0
  clear HF HRC hTx hbel HT HI HO
  generalize hW2 : w1.setCell ⟨w.heap.size + 1, 1, none⟩ (.slice (some ⟨g, 0, none⟩) m cap) = w2 at *
  clear hW2
  unfold cmdV6 at HCM
  refine HCM.out.mono ?_
  rintro e w3 ⟨rfl, hb3⟩
  have hR3 := (hb3.block _ (blkLt hRb2)).trans hRb2
  have hC3 := (hb3.block _ (blkLt hCb2)).trans hCb2
  have hT3 := hTx2.later hb3
  have hB3 := hbel2.trans (hb3.mono hbel2.size)
  have HK := hide' (And.intro hR3 (And.intro hC3 (And.intro hT3 hB3)))
  obtain ⟨⟨r0, r1, r2, r3, r4, r5, r6, r7⟩, rf⟩ := zcells_of hR3
  obtain ⟨⟨k0, k1, k2, k3, k4, k5⟩, kf⟩ := ccells_of hC3
  have hz3 := blkLt hC3
  clear hb3 hR3 hC3 hT3 hB3 hRb2 hCb2 hTx2 hbel2 HCM
  have hcb : Hid (cmdB k ks noB = cmdB k ks ⟨#[]⟩) := (show _ = _ from rfl)
  cases hcm : cmdB k ks ⟨#[]⟩ with
  | false =>
    go_wp2_with fail
    go_at_call 218
    refine (wrong_any _ _ _).mono ?_
    rintro e w4 ⟨rfl, hb4⟩
    have hR4 := (hb4.block _ (blkLt HK.out.1)).trans HK.out.1
    have hB4 := HK.out.2.2.2.trans (hb4.mono HK.out.2.2.2.size)
    obtain ⟨⟨s0, s1, s2, s3, s4, s5, s6, s7⟩, sf⟩ := zcells_of hR4
    have H4 := hide' hB4
    clear hb4 hR4 hB4 r0 r1 r2 r3 r4 r5 r6 r7 rf k0 k1 k2 k3 k4 k5 kf
    unfold stepV
    go_wp2
    refine bodyPost_ret (v := stepV 4 (.slice none 0 0) ⟨#[]⟩ dataB false 0 u false) (by simp [results, Tryz.results256, go_sem, stepV, dataB, s0, s1, s2, s3, s4, s5, s6, s7]) rfl ⟨?_, ?_⟩
    · rw [HR.out, hcb.out, hcm, if_neg (by simp)]
      exact ⟨_, rfl, .inl ⟨rfl, rfl⟩⟩
    · exact set8 H4.out (Nat.le_refl _) _ _ _ _ _ _ _ _
  | true =>
    go_wp2
    refine bodyPost_ret (v := stepV k (.slice (some ⟨g, 0, none⟩) m cap) ⟨#[]⟩ ⟨#[]⟩ false 0 u false) (by simp [results, Tryz.results256, go_sem, stepV, r0, r1, r2, r3, r4, r5, r6, r7]) rfl ⟨?_, ?_⟩
    · rw [HR.out, hcb.out, hcm, if_pos rfl]
      refine ⟨_, rfl, .inr ⟨g, cap, by rw [HM.out], by omega, HK.out.2.2.1.other ?_⟩⟩
      exact set8_other (by omega) _ _ _ _ _ _ _ _
    · exact set8 HK.out.2.2.2 (Nat.le_refl _) _ _ _ _ _ _ _ _
end Go.Proofs.YtlonjggfnleolaaGreatDoor


/-
  The reference's reader: split; what a Read of the reference tells.
-/

namespace Go.Proofs.YtlonjggfnleolaaGreatDoor
open Go.RowKit
set_option linter.unusedVariables false

theorem splitL_nob : ∀ (l : List UInt8), (∀ b ∈ l, b ≠ 32) → splitL l = [l] := by
  intro l
  induction l with
  | nil => intro _; rfl
  | cons b l ih =>
    intro h
    have hb := h b (by simp)
    rw [splitL, if_neg hb, ih (fun c hc => h c (by simp [hc]))]
theorem splitL_bl : ∀ (l m : List UInt8), (∀ b ∈ l, b ≠ 32) → splitL (l ++ 32 :: m) = l :: splitL m := by
  intro l
  induction l with
  | nil => intro m _; simp [splitL]
  | cons b l ih =>
    intro m h
    have hb := h b (by simp)
    rw [List.cons_append, splitL, if_neg hb, ih m (fun c hc => h c (by simp [hc]))]
theorem splitL_ne' (l : List UInt8) : splitL l ≠ [] := by
  cases l with
  | nil => simp [splitL]
  | cons b l =>
    rw [splitL]
    split
    · simp
    · split <;> simp
theorem splitL_len' (l : List UInt8) : (splitL l).length ≤ l.length + 1 := by
  induction l with
  | nil => simp [splitL]
  | cons b l ih =>
    rw [splitL]
    split
    · simp; omega
    · split
      · rename_i h t e; rw [e] at ih; simp at ih ⊢; omega
      · simp
theorem extract_mkB (s : ByteArray) (f k : Nat) : s.extract f k = mkB ((s.data.toList.drop f).take (k - f)) := by
  unfold mkB
  apply ByteArray.ext
  rw [ByteArray.data_extract]
  apply Array.ext'
  rw [Array.toList_extract]
/-- Where a split stands. -/
structure SplitAt (bs : List UInt8) (f k : Nat) (acc : List ByteArray) : Prop where
  le : f ≤ k
  many : acc.length ≤ f
  nob : ∀ b ∈ (bs.drop f).take (k - f), b ≠ 32
  all : wordsOf bs = acc ++ wordsOf (bs.drop f)
theorem SplitAt.start (bs : List UInt8) : SplitAt bs 0 0 [] := ⟨Nat.le_refl _, Nat.le_refl _, fun b hb => by simp at hb, rfl⟩
theorem SplitAt.blank {s : ByteArray} {f k : Nat} {acc : List ByteArray} (h : SplitAt s.data.toList f k acc) (hk : k < s.size) (hb : s[k] = 32) : SplitAt s.data.toList (k + 1) (k + 1) (acc ++ [s.extract f k]) := by
  obtain ⟨h1, h2, h3, h4⟩ := h
  refine ⟨Nat.le_refl _, by simp; omega, fun b hb => by simp at hb, ?_⟩
  have hk' : k < s.data.toList.length := by simpa using hk
  have e : s.data.toList.drop f = (s.data.toList.drop f).take (k - f) ++ 32 :: s.data.toList.drop (k + 1) := by
    conv => lhs; rw [← List.take_append_drop (k - f) (s.data.toList.drop f)]
    rw [List.drop_drop, show f + (k - f) = k by omega, List.drop_eq_getElem_cons hk']
    congr 2
  rw [h4, extract_mkB]
  have e2 : wordsOf (s.data.toList.drop f) = mkB ((s.data.toList.drop f).take (k - f)) :: wordsOf (s.data.toList.drop (k + 1)) := by
    unfold wordsOf
    conv => lhs; rw [e, splitL_bl _ _ h3]
    rfl
  rw [e2]
  simp
theorem SplitAt.other {s : ByteArray} {f k : Nat} {acc : List ByteArray} (h : SplitAt s.data.toList f k acc) (hk : k < s.size) (hb : ¬ s[k] = 32) : SplitAt s.data.toList f (k + 1) acc := by
  obtain ⟨h1, h2, h3, h4⟩ := h
  refine ⟨by omega, h2, fun b hb' => ?_, h4⟩
  have hk' : k < s.data.toList.length := by simpa using hk
  rw [show k + 1 - f = (k - f) + 1 by omega, List.take_add_one, List.mem_append] at hb'
  rcases hb' with h | h
  · exact h3 b h
  · rw [List.getElem?_drop, show f + (k - f) = k by omega, List.getElem?_eq_getElem hk'] at h
    simp at h
    rw [h]
    exact hb
theorem SplitAt.fin {s : ByteArray} {f : Nat} {acc : List ByteArray} (h : SplitAt s.data.toList f s.size acc) : wordsOf s.data.toList = acc ++ [s.extract f s.size] := by
  obtain ⟨h1, h2, h3, h4⟩ := h
  have e : (s.data.toList.drop f).take (s.size - f) = s.data.toList.drop f := List.take_of_length_le (by simp)
  rw [e] at h3
  rw [h4, extract_mkB, e]
  congr 1
  unfold wordsOf
  rw [splitL_nob _ h3]
  rfl

theorem own_formR {w : World} {base e size n : Nat} {v : Value} {xs : List Value} (h : w.ownsRow base e size v n xs) : ∃ a n c, v = .slice a n c := by
  obtain ⟨_, ⟨rfl, _⟩ | ⟨g, cap, cur, rfl, _⟩⟩ := h
  · exact ⟨_, _, _, rfl⟩
  · exact ⟨_, _, _, rfl⟩
theorem grown_base {w w' : World} {base e size n : Nat} {v : Value} {xs : List Value} (ho : w.ownsRow base e size v n xs) (hg : w.grownBy w' v.ownBlock) (hb : base ≤ w.heap.size) : Below base w w' := by
  refine ⟨hg.os, hg.tape, hg.output, hg.size, fun k hk => hg.block k (by omega) (fun e => ?_)⟩
  obtain ⟨_, ⟨rfl, _⟩ | ⟨g, cap, cur, rfl, h1, _⟩⟩ := ho
  · cases e
  · have : k = g := by simpa [Value.ownBlock] using e
    omega

set_option maxRecDepth 20000 in
set_option maxHeartbeats 4000000 in
theorem refsplit_any (s : ByteArray) (w : World) (hs : s.size ≤ 1000000000000) :
    Calls Tryz.prog 183 #[.string s] w fun e w' => ∃ g c, e = .returned (.slice (some ⟨g, 0, none⟩) (wordsOf s.data.toList).length c) ∧ w'.ownsRow w.heap.size 9 1 (.slice (some ⟨g, 0, none⟩) (wordsOf s.data.toList).length c) (wordsOf s.data.toList).length ((wordsOf s.data.toList).map Value.string) ∧ Below w.heap.size w w' := by
  obtain ⟨i9, hi, hz0, hz1, hz2⟩ := info9
  have HI := hide' (And.intro hi (And.intro hz0 (And.intro hz1 hz2)))
  clear hi hz0 hz1 hz2
  go_enter Tryz.func183, Tryz.ntmps183
  go_wp2
  go_loopw [3, 4, 5] (fun l f i wr => ∃ (k fr : Nat) (acc : List ByteArray) (va : Option Addr) (vn vc : Nat), l = .slice va vn vc ∧ f = .int .i64 fr ∧ i = .int .i64 k ∧ k ≤ s.size ∧ fr ≤ k ∧ acc.length ≤ fr ∧ Hid (SplitAt s.data.toList fr k acc) ∧ Hid (wr.ownsRow w.heap.size 9 1 (.slice va vn vc) acc.length (acc.map Value.string) ∧ Below w.heap.size w wr)) (fun _ _ i _ => s.size - (intOf i).toNat)
  case atStart => exact ⟨0, 0, [], none, 0, 0, rfl, rfl, rfl, Nat.zero_le _, Nat.le_refl _, Nat.le_refl _, SplitAt.start _, World.ownsRow_nil _ _ _ _, Below.refl _ _⟩
  case round =>
    obtain ⟨k, fr, acc, va, vn, vc, rfl, rfl, rfl, hk, hfk, hacc, HS, HO⟩ := hrel
    have hbase : w.heap.size ≤ wr.heap.size := HO.out.2.size
    by_cases hlt : k < s.size
    · by_cases h32 : s[k] = 32
      · have HN := hide' (HS.out.blank hlt h32)
        have HLn : Hid (acc.length = acc.length) := (show _ = _ from rfl)
        have i1 : (fr : Int) ≤ (k : Int) := by omega
        have i2 : (k : Int) ≤ (s.size : Int) := by omega
        go_wp2_with (first
          | (at_builtin; refine wpList_append_own_at _ rfl _ _ _ rfl w.heap.size 9 i9 (.string ⟨#[]⟩) 1 16 Tryz.underlying34 HI.out.1 HI.out.2.1 HI.out.2.2.1 HI.out.2.2.2 rfl (by omega) (.slice va vn vc) acc.length (acc.map Value.string) rfl (World.ownsRow.alloc HO.out.1 _) ⟨wr.heap.size, 0, none⟩ 1 1 [.string (s.extract fr k)] rfl rfl (cell_one_new _ _ _) (by simp [Value.oneCell']) (by unfold maxLen; omega) (by omega) (by simp; omega) ?_; intro v' w9 hown hgrow hnil hat; obtain ⟨ua, un, uc, huf⟩ := own_formR hown; subst huf; have HG := hide' (And.intro hown hgrow); clear hown hgrow hnil hat)
          | fail)
        go_roundw
        case rel =>
          refine ⟨k + 1, k + 1, acc ++ [s.extract fr k], _, _, _, rfl, by go_num, by go_num, by omega, Nat.le_refl _, by simp; omega, HN, ?_, ?_⟩
          · have := HG.out.1
            rw [List.length_append, List.map_append]
            exact this
          · have h1 : Below w.heap.size wr (wr.alloc (.cells #[.string (s.extract fr k)] 9)) := (Below.refl _ _).alloc hbase _
            exact HO.out.2.trans (h1.trans (grown_base (World.ownsRow.alloc HO.out.1 _) HG.out.2 (by simp; omega)))
        case measure => simp [intOf]; omega
      · have HN := hide' (HS.out.other hlt h32)
        have hb' : ((s[k].toNat : Int) == 32) = false := u8_ne h32
        go_wp2
        go_roundw
        case rel => exact ⟨k + 1, fr, acc, _, _, _, rfl, rfl, by go_num, by omega, by omega, hacc, HN, HO⟩
        case measure => simp [intOf]; omega
    · have hk2 : k = s.size := by omega
      subst hk2
      have HF := hide' HS.out.fin
      have i1 : (fr : Int) ≤ (s.size : Int) := by omega
      have HLn : Hid (acc.length = acc.length) := (show _ = _ from rfl)
      go_wp2_with (first
        | (at_builtin; refine wpList_append_own_at _ rfl _ _ _ rfl w.heap.size 9 i9 (.string ⟨#[]⟩) 1 16 Tryz.underlying34 HI.out.1 HI.out.2.1 HI.out.2.2.1 HI.out.2.2.2 rfl (by omega) (.slice va vn vc) acc.length (acc.map Value.string) rfl (World.ownsRow.alloc HO.out.1 _) ⟨wr.heap.size, 0, none⟩ 1 1 [.string (s.extract fr s.size)] rfl rfl (cell_one_new _ _ _) (by simp [Value.oneCell']) (by unfold maxLen; omega) (by omega) (by simp; omega) ?_; intro v' w9 hown hgrow hnil hat; obtain ⟨ua, un, uc, huf⟩ := own_formR hown; subst huf; have HG := hide' (And.intro hown hgrow); clear hown hgrow hnil hat)
        | fail)
      go_ret
      have hown := HG.out.1
      have e1 : acc.length + 1 = (wordsOf s.data.toList).length := by rw [HF.out]; simp
      have e2 : acc.map Value.string ++ [.string (s.extract fr s.size)] = (wordsOf s.data.toList).map Value.string := by rw [HF.out]; simp
      rw [e1, e2] at hown
      have hown2 := hown
      obtain ⟨_, ⟨_, h0⟩ | ⟨g, cap, cur, e, _⟩⟩ := hown2
      · omega
      · cases e
        refine ⟨g, uc, rfl, hown, ?_⟩
        have h1 : Below w.heap.size wr (wr.alloc (.cells #[.string (s.extract fr s.size)] 9)) := (Below.refl _ _).alloc hbase _
        exact HO.out.2.trans (h1.trans (grown_base (World.ownsRow.alloc HO.out.1 _) HG.out.2 (by simp; omega)))
end Go.Proofs.YtlonjggfnleolaaGreatDoor


/-
  The reference's reader: line.
-/

namespace Go.Proofs.YtlonjggfnleolaaGreatDoor
open Go.RowKit
set_option linter.unusedVariables false

/-- The keys of a command that the reference read. -/
def KeysR (W : World) (lo : Nat) (v : Value) (ss : List ByteArray) : Prop :=
  (v = .slice none 0 0 ∧ ss = []) ∨ ∃ b o c Z, v = .slice (some ⟨b, o, none⟩) ss.length c ∧ lo ≤ b ∧ W.heap[b]? = some (.cells Z 9 (0, 0)) ∧ ∀ (i : Nat) (s : ByteArray), ss[i]? = some s → Z[o + i]? = some (.string s)
theorem KeysR.other {W W' : World} {lo lo' : Nat} {v : Value} {ss : List ByteArray} (h : KeysR W lo v ss) (hl : lo' ≤ lo) (k : ∀ b Z, W.heap[b]? = some (.cells Z 9 (0, 0)) → lo ≤ b → W'.heap[b]? = W.heap[b]?) : KeysR W' lo' v ss := by
  rcases h with h | ⟨b, o, c, Z, h1, h2, h3, h4⟩
  · exact .inl h
  · exact .inr ⟨b, o, c, Z, h1, by omega, (k b Z h3 h2).trans h3, h4⟩
theorem KeysR.form {W : World} {lo : Nat} {v : Value} {ss : List ByteArray} (h : KeysR W lo v ss) : ∃ a c, v = .slice a ss.length c := by
  rcases h with ⟨h, rfl⟩ | ⟨b, o, c, Z, h1, _⟩
  · exact ⟨_, _, h⟩
  · exact ⟨_, c, h1⟩
theorem KeysR.strs {W : World} {lo : Nat} {v : Value} {ss : List ByteArray} (h : KeysR W lo v ss) (hl : ss.length ≤ 140737488355328) (hs : ∀ s ∈ ss, s.size ≤ maxLen) : StrsAt W v ss := by
  rcases h with ⟨h, rfl⟩ | ⟨b, o, c, Z, h1, h2, h3, h4⟩
  · exact ⟨.inr ⟨_, h, rfl⟩, hl, hs⟩
  · exact ⟨.inl ⟨b, o, c, h1, blkLt h3, fun i s hi => (blkCell h3 _).trans (h4 i s hi)⟩, hl, hs⟩
def cmdVR (c : Cmd) (kv : Value) : Value := .agg #[.int .i64 c.kind, kv, .string c.val, .string c.word, .bool c.fatal, .int .i64 c.id]
def zCmdV : Value := .agg #[.int .i64 0, .slice none 0 0, .string ⟨#[]⟩, .string ⟨#[]⟩, .bool false, .int .i64 0]
/-- What the reference told of some bytes. -/
def RefOut (w w' : World) (r : Option StepR) (e : Ending) : Prop :=
  match r with
  | none => e = .returned (.tuple #[zCmdV, .int .i64 0])
  | some t => ∃ kv, e = .returned (.tuple #[cmdVR t.c kv, .int .i64 (if t.skip then 2 else 1)]) ∧ KeysR w' w.heap.size kv t.c.keys

/-! plain mathematics -/
theorem ln_end {pre bs : List UInt8} {b : UInt8} (hb : bs = pre ++ [b]) (h0 : lnR pre = none) :
    (¬ 0 ≤ Go.Lib.indexByte bs 10 → lnR bs = if 60 < bs.length then some ⟨wrongC longB false, 61, true⟩ else none) ∧
    (0 ≤ Go.Lib.indexByte bs 10 → (Go.Lib.indexByte bs 10).toNat ≤ 60 ∧ (Go.Lib.indexByte bs 10).toNat < bs.length ∧ lnR bs = lineR bs (Go.Lib.indexByte bs 10).toNat) := by
  have ht : bs.take 61 ++ bs.drop 61 = bs := List.take_append_drop _ _
  refine ⟨fun hn => ?_, fun hp => ?_⟩
  · have : ¬ 0 ≤ Go.Lib.indexByte (bs.take 61) 10 := fun h => hn (by
      have := (ib_nonneg_app (bs.take 61) (bs.drop 61) 10 h).1
      rw [ht] at this
      rw [this]; exact h)
    unfold lnR
    rw [if_neg this]
  · obtain ⟨_, hlt, _⟩ := ib_nonneg_app bs [] 10 hp
    by_cases h : 0 ≤ Go.Lib.indexByte (bs.take 61) 10
    · obtain ⟨e1, e2, _⟩ := ib_nonneg_app (bs.take 61) (bs.drop 61) 10 h
      rw [ht] at e1
      rw [e1]
      refine ⟨by rw [List.length_take] at e2; omega, by rw [← e1]; exact hlt, ?_⟩
      unfold lnR
      rw [if_pos h]
    · exfalso
      have e1 := ib_neg_app (bs.take 61) (bs.drop 61) 10 h
      rw [ht] at e1
      have hl : 61 < bs.length := by
        by_cases hd : bs.length ≤ 61
        · rw [List.take_of_length_le hd] at h; exact absurd hp h
        · omega
      have e3 : pre.take 61 = bs.take 61 := by
        rw [hb, List.take_append_of_le_length (by rw [hb] at hl; simp at hl; omega)]
      unfold lnR at h0
      rw [e3, if_neg h, if_pos (by rw [hb] at hl; simp at hl; omega)] at h0
      cases h0
theorem ln_more {pre bs : List UInt8} {b : UInt8} {e size : Nat} (hb : bs = pre ++ [b]) (h0 : lnR pre = none) (he : (e : Int) = Go.Lib.indexByte bs 10) (hs : setSizeR (wordsOf (bs.take e)) = some size) (h40 : ¬ 40 < size) (hl : e + 1 + size < bs.length) : bs.length = e + 1 + size + 1 ∧ bs.getD (e + 1 + size) 0 = b := by
  have hpl : bs.length = pre.length + 1 := by rw [hb]; simp
  have hp : 0 ≤ Go.Lib.indexByte bs 10 := by omega
  obtain ⟨f1, f2, f3⟩ := (ln_end hb h0).2 hp
  have hee : (Go.Lib.indexByte bs 10).toNat = e := by omega
  rw [hee] at f1 f2 f3
  have key : pre.length = e + 1 + size := by
    by_cases hgt : pre.length ≤ e + 1 + size
    · omega
    · exfalso
      have hi : Go.Lib.indexByte (pre.take 61) 10 = (e : Int) := by
        by_cases h : 0 ≤ Go.Lib.indexByte (pre.take 61) 10
        · have := (ib_nonneg_app (pre.take 61) (pre.drop 61 ++ [b]) 10 h).1
          rw [← List.append_assoc, List.take_append_drop, ← hb] at this
          omega
        · have := ib_neg_app (pre.take 61) (pre.drop 61 ++ [b]) 10 h
          rw [← List.append_assoc, List.take_append_drop, ← hb] at this
          rw [← he] at this
          split at this
          · rename_i hm
            rw [List.length_take] at this
            by_cases h61 : 61 ≤ pre.length
            · omega
            · have hd : pre.drop 61 = [] := List.drop_eq_nil_of_le (by omega)
              omega
          · omega
      unfold lnR at h0
      rw [if_pos (by omega), hi] at h0
      have hte : ((e : Int)).toNat = e := by omega
      rw [hte] at h0
      unfold lineR at h0
      have htk : pre.take e = bs.take e := by rw [hb, List.take_append_of_le_length (by omega)]
      rw [htk, hs] at h0
      simp only at h0
      unfold setR at h0
      rw [if_neg h40, if_neg (by omega)] at h0
      split at h0 <;> cases h0
  refine ⟨by omega, ?_⟩
  rw [hb, ← key]
  simp [List.getD]
theorem kindB_set (s : ByteArray) : kindB s = 2 ↔ s = ⟨#[115, 101, 116]⟩ := by
  constructor
  · intro h
    unfold kindB at h
    split at h
    · omega
    · split at h
      · rename_i h1 h2; exact h2
      · split at h <;> omega
  · rintro rfl; decide

/-- The kind by which the reference calls a word. -/
def kindRf (s : ByteArray) : Int := if s = ⟨#[103, 101, 116]⟩ then 1 else if s = ⟨#[100, 101, 108]⟩ then 3 else 0
theorem kindRf_eq (s : ByteArray) (ks : List ByteArray) : (kindB s = 2 ∨ cmdB (kindB s) ks noB = false) ↔ cmdB (kindRf s) ks noB = false := by
  unfold kindRf kindB
  by_cases h1 : s = ⟨#[103, 101, 116]⟩
  · simp [h1]
  · by_cases h2 : s = ⟨#[115, 101, 116]⟩
    · subst h2
      simp [cmdB]
    · by_cases h3 : s = ⟨#[100, 101, 108]⟩
      · simp [h3]
      · simp [h1, h2, h3]
theorem kindRf_ok {s : ByteArray} {ks : List ByteArray} (h : ¬ (kindB s = 2 ∨ cmdB (kindB s) ks noB = false)) : kindB s = kindRf s := by
  unfold kindRf kindB at *
  by_cases h1 : s = ⟨#[103, 101, 116]⟩
  · simp [h1]
  · by_cases h2 : s = ⟨#[115, 101, 116]⟩
    · exfalso; apply h; left; simp [h2]
    · by_cases h3 : s = ⟨#[100, 101, 108]⟩
      · simp [h3]
      · simp [h1, h2, h3]
end Go.Proofs.YtlonjggfnleolaaGreatDoor
