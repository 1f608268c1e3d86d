/-
  What was read of some bytes is read of them with more behind: plain mathematics.
-/
import Derived.Test.YtlonjggfnleolaaGreatDoorSpec

namespace Go.Proofs.YtlonjggfnleolaaGreatDoor
set_option linter.unusedVariables false

theorem byAt_app {bs x : List UInt8} {i : Nat} (h : i < bs.length) : byAt (bs ++ x) i = byAt bs i := by
  simp [byAt, List.getD, List.getElem?_append_left h]
theorem getD_app {bs x : List UInt8} {i : Nat} (h : i < bs.length) : (bs ++ x).getD i 0 = bs.getD i 0 := by
  simp [List.getD, List.getElem?_append_left h]
theorem numAt_app {bs x : List UInt8} {i : Nat} (h : i + 1 < bs.length) : numAt (bs ++ x) i = numAt bs i := by
  rw [numAt, numAt, byAt_app (by omega), byAt_app h]
theorem bytesOf_app {bs x : List UInt8} {i k : Nat} (h : i + k ≤ bs.length) : bytesOf (bs ++ x) i k = bytesOf bs i k := by
  unfold bytesOf
  congr 2
  rw [List.drop_append_of_le_length (by omega), List.take_append_of_le_length (by simp; omega)]
theorem frHead_app {bs x : List UInt8} (h : 7 ≤ bs.length) : frHead (bs ++ x) = frHead bs := by
  unfold frHead
  rw [byAt_app (by omega), byAt_app (by omega), byAt_app (by omega), numAt_app (by omega)]

theorem frR_mono {bs : List UInt8} {s : StepR} (x : List UInt8) (h : frR bs = some s) : frR (bs ++ x) = some s ∧ 1 ≤ s.used ∧ s.used ≤ bs.length := by
  unfold frR at h
  split at h
  · cases h
  rename_i h7
  unfold frR
  rw [if_neg (by simp; omega), frHead_app (by omega)]
  split at h
  · rename_i hh
    rw [if_pos hh]
    cases h
    exact ⟨rfl, by show 1 ≤ 7; omega, by show 7 ≤ _; omega⟩
  rename_i hh
  rw [if_neg hh, byAt_app (by omega), byAt_app (by omega), numAt_app (by omega), numAt_app (by omega)]
  split at h
  · cases h
  rename_i hl
  rw [if_neg (by simp; omega), bytesOf_app (by omega), bytesOf_app (by omega)]
  split at h
  · rename_i hk
    rw [if_pos hk]
    cases h
    exact ⟨rfl, by show 1 ≤ 7 + _ + _; omega, by show 7 + _ + _ ≤ _; omega⟩
  · rename_i hk
    rw [if_neg hk]
    cases h
    exact ⟨rfl, by show 1 ≤ 7 + _ + _; omega, by show 7 + _ + _ ≤ _; omega⟩

theorem ib_nonneg_app : ∀ (l m : List UInt8) (c : UInt8), 0 ≤ Go.Lib.indexByte l c → Go.Lib.indexByte (l ++ m) c = Go.Lib.indexByte l c ∧ (Go.Lib.indexByte l c).toNat < l.length ∧ l.getD (Go.Lib.indexByte l c).toNat 0 = c := by
  intro l
  induction l with
  | nil => intro m c h; simp [Go.Lib.indexByte] at h
  | cons b l ih =>
    intro m c h
    simp only [List.cons_append]
    by_cases hb : (b == c) = true
    · have hb' : b = c := by simpa using hb
      simp [Go.Lib.indexByte, hb']
    · have hb' : (b == c) = false := by simpa using hb
      unfold Go.Lib.indexByte at h ⊢
      simp only [hb', Bool.false_eq_true, if_false] at h ⊢
      by_cases hl : Go.Lib.indexByte l c = -1
      · simp [hl] at h
      · have hge := Go.Lib.indexByte_ge l c
        obtain ⟨h1, h2, h3⟩ := ih m c (by omega)
        have hl' : (Go.Lib.indexByte l c == -1) = false := by simpa using hl
        rw [h1]
        simp only [hl', Bool.false_eq_true, if_false] at h ⊢
        have t2 : (Go.Lib.indexByte l c + 1).toNat = (Go.Lib.indexByte l c).toNat + 1 := by omega
        refine ⟨trivial, ?_, ?_⟩
        · simp; omega
        · rw [t2, List.getD_cons_succ]; exact h3

theorem setR_mono {bs : List UInt8} {frm size : Nat} {key : ByteArray} {s : StepR} (x : List UInt8) (h : setR bs frm key size = some s) (h1 : 1 ≤ frm) (hf : frm ≤ bs.length) : setR (bs ++ x) frm key size = some s ∧ 1 ≤ s.used ∧ s.used ≤ bs.length := by
  unfold setR at h ⊢
  split at h
  · rename_i h40
    rw [if_pos h40]
    cases h
    exact ⟨rfl, h1, hf⟩
  rename_i h40
  rw [if_neg h40]
  split at h
  · cases h
  rename_i hl
  rw [if_neg (by simp; omega), getD_app (by omega), bytesOf_app (by omega)]
  split at h
  · rename_i hb
    rw [if_pos hb]
    cases h
    exact ⟨rfl, by show 1 ≤ frm + size; omega, by show frm + size ≤ _; omega⟩
  · rename_i hb
    rw [if_neg hb]
    cases h
    exact ⟨rfl, by show 1 ≤ frm + size + 1; omega, by show frm + size + 1 ≤ _; omega⟩

theorem lineR_mono {bs : List UInt8} {e : Nat} {s : StepR} (x : List UInt8) (h : lineR bs e = some s) (he : e < bs.length) : lineR (bs ++ x) e = some s ∧ 1 ≤ s.used ∧ s.used ≤ bs.length := by
  unfold lineR at h ⊢
  rw [List.take_append_of_le_length (by omega)]
  split at h
  · exact setR_mono x h (by omega) (by omega)
  · split at h
    · cases h
      rename_i hc
      rw [if_pos hc]
      exact ⟨rfl, by show 1 ≤ e + 1; omega, by show e + 1 ≤ _; omega⟩
    · cases h
      rename_i hc
      rw [if_neg hc]
      exact ⟨rfl, by show 1 ≤ e + 1; omega, by show e + 1 ≤ _; omega⟩

theorem lnR_mono {bs : List UInt8} {s : StepR} (x : List UInt8) (h : lnR bs = some s) : lnR (bs ++ x) = some s ∧ 1 ≤ s.used ∧ s.used ≤ bs.length := by
  unfold lnR at h ⊢
  have ht : (bs ++ x).take 61 = bs.take 61 ++ x.take (61 - bs.length) := List.take_append
  split at h
  · rename_i hi
    obtain ⟨h1, h2, _⟩ := ib_nonneg_app (bs.take 61) (x.take (61 - bs.length)) 10 hi
    rw [ht, h1, if_pos hi]
    exact lineR_mono x h (by simp at h2; omega)
  · rename_i hi
    split at h
    · rename_i hl
      have e0 : 61 - bs.length = 0 := by omega
      rw [ht, e0, List.take_zero, List.append_nil, if_neg hi, if_pos (by simp; omega)]
      cases h
      exact ⟨rfl, by show 1 ≤ 61; omega, by show 61 ≤ _; omega⟩
    · cases h

/-! lists -/
/-- What holds of a walk. -/
structure WS.ok (n : Nat) (s : WS) : Prop where
  pos : s.pos ≤ n
  bad : s.wrong = true → s.pos < n ∧ s.short = false

theorem look_same {n : Nat} {s : WS} (h : (s.look n).short = false) : s.short = false ∧ s.pos ≠ n ∧ s.look n = s := by
  obtain ⟨p, wr, sh⟩ := s
  simp only [WS.look, Bool.or_eq_false_iff, decide_eq_false_iff_not] at h ⊢
  obtain ⟨rfl, h2⟩ := h
  simp [h2]
theorem look_ok {n : Nat} {s : WS} (h : s.ok n) : (s.look n).ok n := by
  obtain ⟨p, wr, sh⟩ := s
  refine ⟨h.pos, fun hw => ?_⟩
  obtain ⟨h1, h2⟩ := h.bad hw
  refine ⟨h1, ?_⟩
  simp only [WS.look, Bool.or_eq_false_iff, decide_eq_false_iff_not] at h2 ⊢
  exact ⟨h2, by simp at h1; omega⟩
theorem look_more {n m : Nat} {s : WS} (h : s.ok n) (hs : (s.look n).short = false) : s.look (n + m) = s.look n := by
  obtain ⟨h1, h2, h3⟩ := look_same hs
  have := h.pos
  rw [h3]
  obtain ⟨p, wr, sh⟩ := s
  simp only [WS.look] at *
  subst h1
  simp
  omega

theorem expectW_ok {bs : List UInt8} {c : UInt8} {s : WS} (h : s.ok bs.length) : (expectW bs c s).ok bs.length := by
  unfold expectW
  split
  · exact look_ok h
  · rename_i hs
    simp only [Bool.or_eq_true, not_or, Bool.not_eq_true] at hs
    obtain ⟨h1, h2, h3⟩ := look_same hs.1
    have := h.pos
    split
    · exact ⟨by show s.pos + 1 ≤ _; omega, fun hw => by cases hw⟩
    · exact ⟨this, fun _ => ⟨by show s.pos < _; omega, rfl⟩⟩
theorem expectW_mono {bs : List UInt8} {c : UInt8} {s : WS} (x : List UInt8) (h : s.ok bs.length) (hs : (expectW bs c s).short = false) : expectW (bs ++ x) c s = expectW bs c s ∧ s.short = false := by
  have hl : (s.look bs.length).short = false := by
    cases hb : (s.look bs.length).short with
    | false => rfl
    | true => unfold expectW at hs; rw [if_pos (by rw [hb]; rfl), hb] at hs; cases hs
  obtain ⟨h1, h2, h3⟩ := look_same hl
  have := h.pos
  unfold expectW
  rw [List.length_append, look_more h hl, getD_app (by omega)]
  exact ⟨rfl, h1⟩

theorem countF_ok {bs : List UInt8} {least most : Nat} : ∀ (f p n : Nat) (first : Bool), p + f = bs.length → (countF bs least most f p n first).2.ok bs.length := by
  intro f
  induction f with
  | zero => intro p n first h; exact ⟨by show p ≤ _; omega, fun hw => by cases hw⟩
  | succ f ih =>
    intro p n first h
    unfold countF
    split
    · exact ⟨by show p + 1 ≤ _; omega, fun hw => by cases hw⟩
    · split
      · exact ⟨by show p ≤ _; omega, fun _ => ⟨by show p < _; omega, rfl⟩⟩
      · exact ih _ _ _ (by omega)
theorem countF_mono {bs : List UInt8} {least most : Nat} (x : List UInt8) : ∀ (f p n : Nat) (first : Bool), p + f = bs.length → (countF bs least most f p n first).2.short = false → countF (bs ++ x) least most (f + x.length) p n first = countF bs least most f p n first := by
  intro f
  induction f with
  | zero => intro p n first h hs; cases hs
  | succ f ih =>
    intro p n first h hs
    have e : f + 1 + x.length = (f + x.length) + 1 := by omega
    rw [e]
    unfold countF at hs ⊢
    rw [getD_app (by omega), byAt_app (by omega)]
    split at hs
    · rename_i hc; rw [if_pos hc, if_pos hc]
    · rename_i hc
      rw [if_neg hc, if_neg hc]
      split at hs
      · rename_i hd; rw [if_pos hd, if_pos hd]
      · rename_i hd
        rw [if_neg hd, if_neg hd]
        exact ih _ _ _ (by omega) hs

theorem countW_ok {bs : List UInt8} {least most : Nat} {s : WS} (h : s.ok bs.length) : (countW bs least most s).2.ok bs.length := by
  have := h.pos
  unfold countW
  split
  · exact look_ok h
  · exact countF_ok _ _ _ _ (by omega)
theorem countW_mono {bs : List UInt8} {least most : Nat} {s : WS} (x : List UInt8) (h : s.ok bs.length) (hs : (countW bs least most s).2.short = false) : countW (bs ++ x) least most s = countW bs least most s ∧ s.short = false := by
  have hl : (s.look bs.length).short = false := by
    cases hb : (s.look bs.length).short with
    | false => rfl
    | true => unfold countW at hs; rw [if_pos (by rw [hb]; rfl)] at hs; simp only [hb] at hs; cases hs
  obtain ⟨h1, h2, h3⟩ := look_same hl
  have := h.pos
  unfold countW at hs ⊢
  rw [List.length_append, look_more h hl]
  refine ⟨?_, h1⟩
  split
  · rfl
  · rename_i hc
    rw [if_neg hc] at hs
    have e : bs.length + x.length - s.pos = (bs.length - s.pos) + x.length := by omega
    rw [e]
    exact countF_mono x _ _ _ _ (by omega) hs

theorem textW_ok {bs : List UInt8} {n : Nat} {s : WS} (h : s.ok bs.length) : (textW bs n s).2.ok bs.length := by
  have := h.pos
  unfold textW
  split
  · exact h
  · rename_i hc
    simp only [Bool.or_eq_true, not_or, Bool.not_eq_true] at hc
    split
    · exact ⟨this, fun hw => by simp only [hc.1] at hw; cases hw⟩
    · exact ⟨by show s.pos + n ≤ _; omega, fun hw => by simp only [hc.1] at hw; cases hw⟩
theorem textW_mono {bs : List UInt8} {n : Nat} {s : WS} (x : List UInt8) (h : s.ok bs.length) (hs : (textW bs n s).2.short = false) : textW (bs ++ x) n s = textW bs n s ∧ s.short = false := by
  unfold textW at hs ⊢
  split at hs
  · rename_i hc
    rw [if_pos hc, if_pos hc]
    exact ⟨rfl, hs⟩
  · rename_i hc
    split at hs
    · cases hs
    · rename_i hl
      rw [if_neg hc, if_neg hc, if_neg hl, if_neg (by simp; omega), bytesOf_app (by omega)]
      exact ⟨rfl, hs⟩

theorem oneW_ok {bs : List UInt8} {s : WS} (h : s.ok bs.length) : (oneW bs s).2.ok bs.length := expectW_ok (textW_ok (countW_ok (expectW_ok h)))
theorem oneW_mono {bs : List UInt8} {s : WS} (x : List UInt8) (h : s.ok bs.length) (hs : (oneW bs s).2.short = false) : oneW (bs ++ x) s = oneW bs s ∧ s.short = false := by
  unfold oneW at hs ⊢
  simp only at hs ⊢
  have k1 := expectW_ok (c := 36) h
  have k2 := countW_ok (least := 0) (most := 40) k1
  have k3 := textW_ok (n := (countW bs 0 40 (expectW bs 36 s)).1) k2
  obtain ⟨e4, s3⟩ := expectW_mono x k3 hs
  obtain ⟨e3, s2⟩ := textW_mono x k2 s3
  obtain ⟨e2, s1⟩ := countW_mono x k1 s2
  obtain ⟨e1, s0⟩ := expectW_mono x h s1
  rw [e1, e2, e3, e4]
  exact ⟨rfl, s0⟩

theorem textsW_ok {bs : List UInt8} : ∀ (k : Nat) (s : WS) (acc : List ByteArray), s.ok bs.length → (textsW bs k s acc).2.ok bs.length := by
  intro k
  induction k with
  | zero => intro s acc h; exact h
  | succ k ih => intro s acc h; exact ih _ _ (oneW_ok h)
theorem textsW_mono {bs : List UInt8} (x : List UInt8) : ∀ (k : Nat) (s : WS) (acc : List ByteArray), s.ok bs.length → (textsW bs k s acc).2.short = false → textsW (bs ++ x) k s acc = textsW bs k s acc ∧ s.short = false := by
  intro k
  induction k with
  | zero => intro s acc h hs; exact ⟨rfl, hs⟩
  | succ k ih =>
    intro s acc h hs
    unfold textsW at hs ⊢
    obtain ⟨e, s1⟩ := ih _ _ (oneW_ok h) hs
    obtain ⟨e1, s0⟩ := oneW_mono x h s1
    rw [e1, e]
    exact ⟨rfl, s0⟩

theorem textsR_used (ts : List ByteArray) (u : Nat) : (textsR ts u).used = u := by
  unfold textsR
  simp only
  (repeat' split) <;> rfl
theorem expect0_pos {bs : List UInt8} (c : UInt8) (h : (expectW bs c ⟨0, false, false⟩).wrong = false) (hs : (expectW bs c ⟨0, false, false⟩).short = false) : 1 ≤ (expectW bs c ⟨0, false, false⟩).pos := by
  unfold expectW at h hs ⊢
  split at hs
  · rename_i hc
    simp only [Bool.or_eq_true, hs] at hc
    rcases hc with hc | hc <;> cases hc
  · rename_i hc
    rw [if_neg hc] at h ⊢
    split at h
    · rename_i hd; rw [if_pos hd]; show 1 ≤ 0 + 1; omega
    · cases h

theorem expectW_pos {bs : List UInt8} {c : UInt8} {s : WS} : s.pos ≤ (expectW bs c s).pos := by
  unfold expectW
  split
  · exact Nat.le_refl _
  · split
    · show s.pos ≤ s.pos + 1; omega
    · exact Nat.le_refl _
theorem countF_pos {bs : List UInt8} {least most : Nat} : ∀ (f p n : Nat) (first : Bool), p ≤ (countF bs least most f p n first).2.pos := by
  intro f
  induction f with
  | zero => intro p n first; exact Nat.le_refl _
  | succ f ih =>
    intro p n first
    unfold countF
    split
    · show p ≤ p + 1; omega
    · split
      · exact Nat.le_refl _
      · exact Nat.le_trans (by omega) (ih (p + 1) _ _)
theorem countW_pos {bs : List UInt8} {least most : Nat} {s : WS} : s.pos ≤ (countW bs least most s).2.pos := by
  unfold countW
  split
  · exact Nat.le_refl _
  · exact countF_pos _ _ _ _
theorem textW_pos {bs : List UInt8} {n : Nat} {s : WS} : s.pos ≤ (textW bs n s).2.pos := by
  unfold textW
  split
  · exact Nat.le_refl _
  · split
    · exact Nat.le_refl _
    · show s.pos ≤ s.pos + n; omega
theorem oneW_pos {bs : List UInt8} {s : WS} : s.pos ≤ (oneW bs s).2.pos :=
  Nat.le_trans (Nat.le_trans expectW_pos countW_pos) (Nat.le_trans textW_pos expectW_pos)
theorem textsW_pos {bs : List UInt8} : ∀ (k : Nat) (s : WS) (acc : List ByteArray), s.pos ≤ (textsW bs k s acc).2.pos := by
  intro k
  induction k with
  | zero => intro s acc; exact Nat.le_refl _
  | succ k ih => intro s acc; exact Nat.le_trans oneW_pos (ih _ _)

/-- A walk that is wrong stays so. -/
theorem wrong_stays {bs : List UInt8} {c : UInt8} {s : WS} (h : s.wrong = true) : (expectW bs c s).wrong = true := by
  unfold expectW; rw [if_pos (by simp [h])]; exact h
theorem countW_stays {bs : List UInt8} {least most : Nat} {s : WS} (h : s.wrong = true) : (countW bs least most s).2.wrong = true := by
  unfold countW; rw [if_pos (by simp [h])]; exact h
theorem textW_stays {bs : List UInt8} {n : Nat} {s : WS} (h : s.wrong = true) : (textW bs n s).2.wrong = true := by
  unfold textW; rw [if_pos (by simp [h])]; exact h
theorem textsW_stays {bs : List UInt8} : ∀ (k : Nat) (s : WS) (acc : List ByteArray), s.wrong = true → (textsW bs k s acc).2.wrong = true := by
  intro k
  induction k with
  | zero => intro s acc h; exact h
  | succ k ih => intro s acc h; exact ih _ _ (wrong_stays (textW_stays (countW_stays (wrong_stays h))))

theorem lsR_mono {bs : List UInt8} {s : StepR} (x : List UInt8) (h : lsR bs = some s) : lsR (bs ++ x) = some s ∧ 1 ≤ s.used ∧ s.used ≤ bs.length := by
  unfold lsR at h ⊢
  simp only at h ⊢
  have k0 : (⟨0, false, false⟩ : WS).ok bs.length := ⟨Nat.zero_le _, fun hw => by cases hw⟩
  have k1 := expectW_ok (c := 42) k0
  have k2 := countW_ok (least := 1) (most := 5) k1
  have k3 := textsW_ok (countW bs 1 5 (expectW bs 42 ⟨0, false, false⟩)).1 _ [] k2
  have hsh : (textsW bs (countW bs 1 5 (expectW bs 42 ⟨0, false, false⟩)).1 (countW bs 1 5 (expectW bs 42 ⟨0, false, false⟩)).2 []).2.short = false := by
    split at h
    · rename_i hw; exact (k3.bad hw).2
    · split at h
      · cases h
      · rename_i hs; simpa using hs
  obtain ⟨e3, s2⟩ := textsW_mono x _ _ [] k2 hsh
  obtain ⟨e2, s1⟩ := countW_mono x k1 s2
  obtain ⟨e1, s0⟩ := expectW_mono x k0 s1
  rw [e1, e2, e3]
  refine ⟨h, ?_⟩
  split at h
  · rename_i hw
    cases h
    exact ⟨by show 1 ≤ _ + 1; omega, by show _ + 1 ≤ _; have := (k3.bad hw).1; omega⟩
  · rename_i hw
    split at h
    · cases h
    · cases h
      rw [textsR_used]
      refine ⟨?_, k3.pos⟩
      have w1 : (expectW bs 42 ⟨0, false, false⟩).wrong = false := by
        cases hb : (expectW bs 42 ⟨0, false, false⟩).wrong with
        | false => rfl
        | true => exact absurd (textsW_stays _ _ _ (countW_stays hb)) hw
      exact Nat.le_trans (expect0_pos 42 w1 s1) (Nat.le_trans countW_pos (textsW_pos _ _ _))

theorem readR_mono {d : Int} {bs : List UInt8} {s : StepR} (x : List UInt8) (h : readR d bs = some s) : readR d (bs ++ x) = some s ∧ 1 ≤ s.used ∧ s.used ≤ bs.length := by
  unfold readR at h ⊢
  split at h
  · rename_i h1; rw [if_pos h1]; exact lnR_mono x h
  · rename_i h1
    rw [if_neg h1]
    split at h
    · rename_i h2; rw [if_pos h2]; exact frR_mono x h
    · rename_i h2; rw [if_neg h2]; exact lsR_mono x h
end Go.Proofs.YtlonjggfnleolaaGreatDoor


/-
  A reader, apart from the program: what waits, what is told; how bytes are cut means nothing.
-/

namespace Go.Proofs.YtlonjggfnleolaaGreatDoor
set_option linter.unusedVariables false

structure St where
  held : List UInt8
  pass : Bool
  closed : Bool

/-- All up to the next line end is taken away. -/
def passL (l : List UInt8) : List UInt8 × Bool := if 0 ≤ Go.Lib.indexByte l 10 then (l.drop ((Go.Lib.indexByte l 10).toNat + 1), false) else ([], true)
def takeS (s : St) (p : List UInt8) : St :=
  if s.closed then s else if s.pass then ⟨(passL (s.held ++ p)).1, (passL (s.held ++ p)).2, false⟩ else ⟨s.held ++ p, false, false⟩
/-- The state behind a step. -/
def afterS (s : St) (t : StepR) : St :=
  if t.c.fatal then ⟨[], false, true⟩ else if t.skip then ⟨(passL (s.held.drop t.used)).1, (passL (s.held.drop t.used)).2, s.closed⟩ else ⟨s.held.drop t.used, s.pass, s.closed⟩
def drainF (d : Int) : Nat → St → List Cmd × St
  | 0, s => ([], s)
  | f + 1, s => match readR d s.held with
    | none => ([], s)
    | some t => (t.c :: (drainF d f (afterS s t)).1, (drainF d f (afterS s t)).2)
def drainS (d : Int) (s : St) : List Cmd × St := drainF d s.held.length s
def feedS (d : Int) (s : St) (p : List UInt8) : List Cmd × St := drainS d (takeS s p)

structure St.ok (s : St) : Prop where
  pass : s.pass = true → s.held = []
  closed : s.closed = true → s.held = [] ∧ s.pass = false

theorem readR_nil (d : Int) : readR d [] = none := by
  cases h : readR d [] with
  | none => rfl
  | some s => have := (readR_mono [] h).2; simp at this; omega
theorem passL_len (l : List UInt8) : (passL l).1.length ≤ l.length := by
  unfold passL; split <;> simp
theorem passL_pass (l : List UInt8) (h : (passL l).2 = true) : (passL l).1 = [] := by
  unfold passL at h ⊢
  split at h
  · cases h
  · rename_i hi; rw [if_neg hi]
theorem afterS_len {d : Int} {s : St} {t : StepR} (h : readR d s.held = some t) : (afterS s t).held.length < s.held.length := by
  obtain ⟨_, h1, h2⟩ := readR_mono [] h
  unfold afterS
  split
  · show 0 < _; omega
  · split
    · have := passL_len (s.held.drop t.used)
      show (passL (s.held.drop t.used)).1.length < _
      simp at this; omega
    · show (s.held.drop t.used).length < _
      simp; omega
theorem drainF_more (d : Int) : ∀ (f : Nat) (s : St) (g : Nat), s.held.length ≤ f → f ≤ g → drainF d g s = drainF d f s := by
  intro f
  induction f with
  | zero =>
    intro s g h _
    have h0 : s.held = [] := List.length_eq_zero_iff.1 (by omega)
    cases g with
    | zero => rfl
    | succ g => unfold drainF; rw [h0, readR_nil]
  | succ f ih =>
    intro s g h hg
    obtain ⟨g, rfl⟩ : ∃ k, g = k + 1 := ⟨g - 1, by omega⟩
    unfold drainF
    cases hr : readR d s.held with
    | none => rfl
    | some t =>
      have hl := afterS_len hr
      simp only
      rw [ih (afterS s t) g (by omega) (by omega)]
theorem drainS_none {d : Int} {s : St} (h : readR d s.held = none) : drainS d s = ([], s) := by
  unfold drainS
  cases hl : s.held.length with
  | zero => rfl
  | succ f => unfold drainF; rw [h]
theorem drainS_some {d : Int} {s : St} {t : StepR} (h : readR d s.held = some t) : drainS d s = (t.c :: (drainS d (afterS s t)).1, (drainS d (afterS s t)).2) := by
  have hl := afterS_len h
  unfold drainS
  obtain ⟨f, hf⟩ : ∃ f, s.held.length = f + 1 := ⟨s.held.length - 1, by omega⟩
  rw [hf]
  conv => lhs; unfold drainF
  rw [h]
  simp only
  rw [drainF_more d (afterS s t).held.length (afterS s t) f (Nat.le_refl _) (by omega)]

theorem ib_cons (b : UInt8) (l : List UInt8) (c : UInt8) : Go.Lib.indexByte (b :: l) c = if b == c then 0 else if Go.Lib.indexByte l c == -1 then -1 else Go.Lib.indexByte l c + 1 := rfl
theorem ib_neg_app : ∀ (l m : List UInt8) (c : UInt8), ¬ 0 ≤ Go.Lib.indexByte l c → Go.Lib.indexByte (l ++ m) c = if 0 ≤ Go.Lib.indexByte m c then (l.length : Int) + Go.Lib.indexByte m c else -1 := by
  intro l
  induction l with
  | nil =>
    intro m c h
    have := Go.Lib.indexByte_ge m c
    simp only [List.nil_append, List.length_nil]
    split
    · omega
    · omega
  | cons b l ih =>
    intro m c h
    rw [List.cons_append]
    rw [ib_cons] at h ⊢
    cases hb : (b == c) with
    | true => simp [hb] at h
    | false =>
      have hge := Go.Lib.indexByte_ge l c
      have hl : ¬ 0 ≤ Go.Lib.indexByte l c := by
        intro h0
        apply h
        have : (Go.Lib.indexByte l c == -1) = false := by rw [beq_eq_false_iff_ne]; omega
        simp only [hb, this, Bool.false_eq_true, if_false]
        omega
      have e := ih m c hl
      simp only [Bool.false_eq_true, if_false]
      rw [e]
      by_cases hm : 0 ≤ Go.Lib.indexByte m c
      · have t : (((l.length : Int) + Go.Lib.indexByte m c) == -1) = false := by rw [beq_eq_false_iff_ne]; omega
        simp only [hm, if_true, t, Bool.false_eq_true, if_false, List.length_cons]
        omega
      · simp only [hm, if_false]
        rfl
theorem passL_app (l m : List UInt8) : passL (l ++ m) = if (passL l).2 = true then passL m else ((passL l).1 ++ m, false) := by
  unfold passL
  by_cases h : 0 ≤ Go.Lib.indexByte l 10
  · obtain ⟨h1, h2, _⟩ := ib_nonneg_app l m 10 h
    rw [h1, if_pos h, if_pos h]
    simp only [Bool.false_eq_true, if_false]
    rw [List.drop_append_of_le_length (by omega)]
  · rw [ib_neg_app l m 10 h, if_neg h]
    simp only [if_true]
    by_cases hm : 0 ≤ Go.Lib.indexByte m 10
    · simp only [hm, if_true]
      rw [if_pos (by omega)]
      have e : ((l.length : Int) + Go.Lib.indexByte m 10).toNat + 1 = l.length + ((Go.Lib.indexByte m 10).toNat + 1) := by omega
      rw [e, List.drop_append]
      simp
    · simp only [hm, if_false]
      rw [if_neg (by omega)]

theorem takeS_ok {s : St} (p : List UInt8) (h : s.ok) : (takeS s p).ok := by
  unfold takeS
  split
  · exact h
  · split
    · exact ⟨fun hp => passL_pass _ hp, fun hc => (by cases hc)⟩
    · exact ⟨fun hp => (by cases hp), fun hc => (by cases hc)⟩
theorem takeS_take {s : St} (p q : List UInt8) (h : s.ok) : takeS (takeS s p) q = takeS s (p ++ q) := by
  obtain ⟨held, pass, closed⟩ := s
  cases closed with
  | true => rfl
  | false =>
    cases pass with
    | false => simp [takeS]
    | true =>
      have h0 : held = [] := h.pass rfl
      subst h0
      simp only [takeS, Bool.false_eq_true, if_false, if_true, List.nil_append]
      rw [passL_app p q]
      cases hp : (passL p).2 with
      | true =>
        have := passL_pass p hp
        simp only [this, if_true, List.nil_append]
      | false => simp only [Bool.false_eq_true, if_false]
theorem live {d : Int} {s : St} {t : StepR} (h : s.ok) (hr : readR d s.held = some t) : s.closed = false ∧ s.pass = false := by
  have hne : s.held ≠ [] := by intro e; rw [e, readR_nil] at hr; cases hr
  refine ⟨?_, ?_⟩
  · cases hc : s.closed with
    | false => rfl
    | true => exact absurd (h.closed hc).1 hne
  · cases hc : s.pass with
    | false => rfl
    | true => exact absurd (h.pass hc) hne
theorem afterS_ok {d : Int} {s : St} {t : StepR} (h : s.ok) (hr : readR d s.held = some t) : (afterS s t).ok := by
  obtain ⟨hc, hp⟩ := live h hr
  unfold afterS
  split
  · exact ⟨fun hp => (by cases hp), fun _ => ⟨rfl, rfl⟩⟩
  · split
    · exact ⟨fun hp => passL_pass _ hp, fun hc' => (by simp only [hc] at hc'; cases hc')⟩
    · exact ⟨fun hp' => (by simp only [hp] at hp'; cases hp'), fun hc' => (by simp only [hc] at hc'; cases hc')⟩
theorem afterS_take {d : Int} {s : St} {t : StepR} (q : List UInt8) (h : s.ok) (hr : readR d s.held = some t) : readR d (takeS s q).held = some t ∧ afterS (takeS s q) t = takeS (afterS s t) q := by
  obtain ⟨hc, hp⟩ := live h hr
  obtain ⟨hm, h1, h2⟩ := readR_mono q hr
  obtain ⟨held, pass, closed⟩ := s
  simp only at hc hp hm h2
  subst hc
  subst hp
  have e0 : takeS ⟨held, false, false⟩ q = ⟨held ++ q, false, false⟩ := rfl
  rw [e0]
  refine ⟨hm, ?_⟩
  have ed : (held ++ q).drop t.used = held.drop t.used ++ q := List.drop_append_of_le_length h2
  unfold afterS
  simp only
  split
  · rfl
  · split
    · rw [ed, passL_app]
      unfold takeS
      simp only [Bool.false_eq_true, if_false]
      cases hq : (passL (held.drop t.used)).2 with
      | true =>
        have := passL_pass _ hq
        simp only [if_true, this, List.nil_append]
      | false => simp only [Bool.false_eq_true, if_false]
    · rw [ed]; rfl

theorem drain_take (d : Int) (q : List UInt8) : ∀ (n : Nat) (s : St), s.held.length ≤ n → s.ok → drainS d (takeS s q) = ((drainS d s).1 ++ (drainS d (takeS (drainS d s).2 q)).1, (drainS d (takeS (drainS d s).2 q)).2) ∧ (drainS d s).2.ok ∧ readR d (drainS d s).2.held = none := by
  intro n
  induction n with
  | zero =>
    intro s hn h
    have h0 : s.held = [] := List.length_eq_zero_iff.1 (by omega)
    have hr : readR d s.held = none := by rw [h0, readR_nil]
    rw [drainS_none hr]
    exact ⟨by simp, h, hr⟩
  | succ n ih =>
    intro s hn h
    cases hr : readR d s.held with
    | none =>
      rw [drainS_none hr]
      exact ⟨by simp, h, hr⟩
    | some t =>
      have hl := afterS_len hr
      obtain ⟨e1, e2⟩ := afterS_take q h hr
      obtain ⟨i1, i2, i3⟩ := ih (afterS s t) (by omega) (afterS_ok h hr)
      rw [drainS_some hr, drainS_some e1, e2, i1]
      exact ⟨by simp, i2, i3⟩

/-- How bytes are cut means nothing. -/
theorem feed_cut (d : Int) (s : St) (p q : List UInt8) (h : s.ok) : feedS d s (p ++ q) = ((feedS d s p).1 ++ (feedS d (feedS d s p).2 q).1, (feedS d (feedS d s p).2 q).2) := by
  unfold feedS
  rw [← takeS_take p q h]
  exact (drain_take d q _ (takeS s p) (Nat.le_refl _) (takeS_ok p h)).1
theorem feed_ok (d : Int) (s : St) (p : List UInt8) (h : s.ok) : (feedS d s p).2.ok ∧ readR d (feedS d s p).2.held = none := (drain_take d p _ (takeS s p) (Nat.le_refl _) (takeS_ok p h)).2
theorem takeS_nil {s : St} (h : s.ok) : takeS s [] = s := by
  obtain ⟨held, pass, closed⟩ := s
  cases closed with
  | true => rfl
  | false =>
    cases pass with
    | false => simp [takeS]
    | true =>
      have h0 : held = [] := h.pass rfl
      subst h0
      rfl
theorem feed_nil {d : Int} {s : St} (h : s.ok) (hr : readR d s.held = none) : feedS d s [] = ([], s) := by
  unfold feedS
  rw [takeS_nil h, drainS_none hr]
def st0 : St := ⟨[], false, false⟩
theorem st0_ok : st0.ok := ⟨fun _ => rfl, fun _ => ⟨rfl, rfl⟩⟩
end Go.Proofs.YtlonjggfnleolaaGreatDoor


/-
  A command is whole, or wrong, by its last byte: plain mathematics.
-/

namespace Go.Proofs.YtlonjggfnleolaaGreatDoor
set_option linter.unusedVariables false

/-! lists: what was read of more bytes, and ends within the first of them, is read of those alone -/
theorem expectW_loc {bs : List UInt8} (x : List UInt8) {c : UInt8} {s : WS} (hw : (expectW (bs ++ x) c s).wrong = false) (hs : (expectW (bs ++ x) c s).short = false) (hp : (expectW (bs ++ x) c s).pos ≤ bs.length) :
    expectW bs c s = expectW (bs ++ x) c s ∧ s.wrong = false ∧ s.short = false := by
  unfold expectW at hw hs hp ⊢
  by_cases hc : ((s.look (bs ++ x).length).short || s.wrong) = true
  · rw [if_pos hc] at hw hs
    have hw' : s.wrong = false := hw
    rw [hs, hw'] at hc
    cases hc
  · rw [if_neg hc] at hw hs hp ⊢
    have hc' := hc
    simp only [Bool.or_eq_true, not_or, Bool.not_eq_true] at hc'
    obtain ⟨h1, h2, h3⟩ := look_same hc'.1
    split at hw
    · rename_i he
      rw [if_pos he] at hp ⊢
      have hp' : s.pos + 1 ≤ bs.length := hp
      have hl : (s.look bs.length).short = false := by
        simp only [WS.look, h1, Bool.false_or, decide_eq_false_iff_not]; omega
      rw [getD_app (by omega)] at he
      rw [if_neg (by rw [hl, hc'.2]; simp), if_pos he]
      exact ⟨rfl, hc'.2, h1⟩
    · cases hw
theorem countF_up {bs : List UInt8} {least most : Nat} : ∀ (f p n : Nat) (first : Bool), (countF bs least most f p n first).2.wrong = false → (countF bs least most f p n first).2.short = false → p + 1 ≤ (countF bs least most f p n first).2.pos := by
  intro f
  induction f with
  | zero => intro p n first _ hs; cases hs
  | succ f ih =>
    intro p n first hw hs
    unfold countF at hw hs ⊢
    split at hw
    · rename_i hc; rw [if_pos hc]; exact Nat.le_refl _
    · rename_i hc
      rw [if_neg hc] at hs ⊢
      split at hw
      · cases hw
      · rename_i hd
        rw [if_neg hd] at hs ⊢
        exact Nat.le_trans (by omega) (ih _ _ _ hw hs)
theorem countF_loc {bs : List UInt8} {least most : Nat} (x : List UInt8) : ∀ (f p n : Nat) (first : Bool), p + f = bs.length → (countF (bs ++ x) least most (f + x.length) p n first).2.wrong = false → (countF (bs ++ x) least most (f + x.length) p n first).2.short = false → (countF (bs ++ x) least most (f + x.length) p n first).2.pos ≤ bs.length →
    countF bs least most f p n first = countF (bs ++ x) least most (f + x.length) p n first := by
  intro f
  induction f with
  | zero =>
    intro p n first h hw hs hp
    have := countF_up _ _ _ _ hw hs
    omega
  | succ f ih =>
    intro p n first h hw hs hp
    have e : f + 1 + x.length = (f + x.length) + 1 := by omega
    rw [e] at hw hs hp ⊢
    unfold countF at hw hs hp ⊢
    rw [getD_app (by omega), byAt_app (by omega)] at hw hs hp ⊢
    split at hw
    · rename_i hc; rw [if_pos hc, if_pos hc]
    · rename_i hc
      rw [if_neg hc] at hs hp ⊢
      rw [if_neg hc]
      split at hw
      · cases hw
      · rename_i hd
        rw [if_neg hd] at hs hp ⊢
        rw [if_neg hd]
        exact ih _ _ _ (by omega) hw hs hp
theorem countW_loc {bs : List UInt8} {least most : Nat} (x : List UInt8) {s : WS} (hw : (countW (bs ++ x) least most s).2.wrong = false) (hs : (countW (bs ++ x) least most s).2.short = false) (hp : (countW (bs ++ x) least most s).2.pos ≤ bs.length) :
    countW bs least most s = countW (bs ++ x) least most s ∧ s.wrong = false ∧ s.short = false := by
  unfold countW at hw hs hp ⊢
  by_cases hc : ((s.look (bs ++ x).length).short || s.wrong) = true
  · rw [if_pos hc] at hw hs
    have hw' : s.wrong = false := hw
    have hs' : (s.look (bs ++ x).length).short = false := hs
    rw [hs', hw'] at hc
    cases hc
  · rw [if_neg hc] at hw hs hp ⊢
    have hc' := hc
    simp only [Bool.or_eq_true, not_or, Bool.not_eq_true] at hc'
    obtain ⟨h1, h2, h3⟩ := look_same hc'.1
    have hup := countF_up _ _ _ _ hw hs
    have hl : (s.look bs.length).short = false := by
      simp only [WS.look, h1, Bool.false_or, decide_eq_false_iff_not]; omega
    rw [if_neg (by rw [hl, hc'.2]; simp)]
    have hlt : s.pos < bs.length := by omega
    have e : (bs ++ x).length - s.pos = (bs.length - s.pos) + x.length := by rw [List.length_append]; omega
    rw [e] at hw hs hp ⊢
    exact ⟨countF_loc x _ _ _ _ (by omega) hw hs hp, hc'.2, h1⟩
theorem textW_loc {bs : List UInt8} {n : Nat} (x : List UInt8) {s : WS} (hw : (textW (bs ++ x) n s).2.wrong = false) (hs : (textW (bs ++ x) n s).2.short = false) (hp : (textW (bs ++ x) n s).2.pos ≤ bs.length) :
    textW bs n s = textW (bs ++ x) n s ∧ s.wrong = false ∧ s.short = false := by
  unfold textW at hw hs hp ⊢
  by_cases hc : (s.wrong || s.short) = true
  · rw [if_pos hc] at hw hs
    have hw' : s.wrong = false := hw
    have hs' : s.short = false := hs
    rw [hs', hw'] at hc
    cases hc
  · rw [if_neg hc] at hw hs hp ⊢
    have hc' := hc
    simp only [Bool.or_eq_true, not_or, Bool.not_eq_true] at hc'
    split at hs
    · cases hs
    · rename_i hl
      rw [if_neg hl] at hp ⊢
      have hp' : s.pos + n ≤ bs.length := hp
      rw [if_neg hc, if_neg (by omega), bytesOf_app (by omega)]
      exact ⟨rfl, hc'.1, hc'.2⟩
theorem oneW_loc {bs : List UInt8} (x : List UInt8) {s : WS} (hw : (oneW (bs ++ x) s).2.wrong = false) (hs : (oneW (bs ++ x) s).2.short = false) (hp : (oneW (bs ++ x) s).2.pos ≤ bs.length) :
    oneW bs s = oneW (bs ++ x) s ∧ s.wrong = false ∧ s.short = false := by
  unfold oneW at hw hs hp ⊢
  simp only at hw hs hp ⊢
  obtain ⟨e4, w3, s3⟩ := expectW_loc x hw hs hp
  have p3 := Nat.le_trans expectW_pos hp
  obtain ⟨e3, w2, s2⟩ := textW_loc x w3 s3 p3
  have p2 := Nat.le_trans textW_pos p3
  obtain ⟨e2, w1, s1⟩ := countW_loc x w2 s2 p2
  have p1 := Nat.le_trans countW_pos p2
  obtain ⟨e1, w0, s0⟩ := expectW_loc x w1 s1 p1
  rw [e1, e2, e3, e4]
  exact ⟨rfl, w0, s0⟩
theorem textsW_loc {bs : List UInt8} (x : List UInt8) : ∀ (k : Nat) (s : WS) (acc : List ByteArray), (textsW (bs ++ x) k s acc).2.wrong = false → (textsW (bs ++ x) k s acc).2.short = false → (textsW (bs ++ x) k s acc).2.pos ≤ bs.length →
    textsW bs k s acc = textsW (bs ++ x) k s acc ∧ s.wrong = false ∧ s.short = false := by
  intro k
  induction k with
  | zero => intro s acc hw hs hp; exact ⟨rfl, hw, hs⟩
  | succ k ih =>
    intro s acc hw hs hp
    unfold textsW at hw hs hp ⊢
    have pp := textsW_pos (bs := bs ++ x) k (oneW (bs ++ x) s).2 (acc ++ [(oneW (bs ++ x) s).1])
    obtain ⟨e, w1, s1⟩ := ih _ _ hw hs hp
    obtain ⟨e1, w0, s0⟩ := oneW_loc x w1 s1 (Nat.le_trans pp hp)
    rw [e1, e]
    exact ⟨rfl, w0, s0⟩

/-- What a step is where one byte less is none. -/
def EdgeAt (n : Nat) (b : UInt8) (t : StepR) : Prop :=
  (t.c.fatal = true ∧ t.skip = false) ∨ (t.c.fatal = false ∧ t.skip = false ∧ t.used = n + 1) ∨ (t.c.fatal = false ∧ t.skip = true ∧ (t.used = n + 1 ∨ (t.used = n ∧ b ≠ 10)))

theorem textsR_plain (ts : List ByteArray) (u : Nat) : (textsR ts u).c.fatal = false ∧ (textsR ts u).skip = false := by
  unfold textsR
  simp only
  (repeat' split) <;> exact ⟨rfl, rfl⟩
theorem lsR_edge {bs : List UInt8} {b : UInt8} {t : StepR} (h0 : lsR bs = none) (h : lsR (bs ++ [b]) = some t) : EdgeAt bs.length b t := by
  unfold lsR at h
  simp only at h
  split at h
  · cases h; exact .inl ⟨rfl, rfl⟩
  · rename_i hw
    split at h
    · cases h
    · rename_i hs
      cases h
      have hw' := Bool.eq_false_iff.2 hw
      have hs' := Bool.eq_false_iff.2 hs
      have k0 : (⟨0, false, false⟩ : WS).ok (bs ++ [b]).length := ⟨Nat.zero_le _, fun hw => by cases hw⟩
      have k3 := textsW_ok (countW (bs ++ [b]) 1 5 (expectW (bs ++ [b]) 42 ⟨0, false, false⟩)).1 _ [] (countW_ok (least := 1) (most := 5) (expectW_ok (c := 42) k0))
      have hpos := k3.pos
      rw [List.length_append] at hpos
      refine .inr (.inl ⟨(textsR_plain _ _).1, (textsR_plain _ _).2, ?_⟩)
      rw [textsR_used]
      by_cases hp : (textsW (bs ++ [b]) (countW (bs ++ [b]) 1 5 (expectW (bs ++ [b]) 42 ⟨0, false, false⟩)).1 (countW (bs ++ [b]) 1 5 (expectW (bs ++ [b]) 42 ⟨0, false, false⟩)).2 []).2.pos ≤ bs.length
      · exfalso
        obtain ⟨e3, w2, s2⟩ := textsW_loc [b] _ _ [] hw' hs' hp
        have p2 := Nat.le_trans (textsW_pos _ _ _) hp
        obtain ⟨e2, w1, s1⟩ := countW_loc [b] w2 s2 p2
        have p1 := Nat.le_trans countW_pos p2
        obtain ⟨e1, _, _⟩ := expectW_loc [b] w1 s1 p1
        unfold lsR at h0
        simp only at h0
        rw [e1, e2, e3, if_neg hw, if_neg hs] at h0
        cases h0
      · simp at hpos
        omega
theorem frR_edge {bs : List UInt8} {b : UInt8} {t : StepR} (h0 : frR bs = none) (h : frR (bs ++ [b]) = some t) : EdgeAt bs.length b t := by
  unfold frR at h
  split at h
  · cases h
  rename_i h7
  split at h
  · cases h; exact .inl ⟨rfl, rfl⟩
  rename_i hh
  split at h
  · cases h
  rename_i hl
  split at h
  · cases h; exact .inl ⟨rfl, rfl⟩
  rename_i hk
  cases h
  refine .inr (.inl ⟨rfl, rfl, ?_⟩)
  show 7 + byAt (bs ++ [b]) 2 + numAt (bs ++ [b]) 3 = bs.length + 1
  rw [List.length_append] at hl h7
  simp only [List.length_cons, List.length_nil] at hl h7
  by_cases hle : 7 + byAt (bs ++ [b]) 2 + numAt (bs ++ [b]) 3 ≤ bs.length
  · exfalso
    have hb7 : 7 ≤ bs.length := by omega
    rw [byAt_app (by omega), numAt_app (by omega)] at hle
    rw [frHead_app hb7] at hh
    rw [byAt_app (by omega), bytesOf_app (by omega)] at hk
    unfold frR at h0
    rw [if_neg (by omega), if_neg hh, if_neg (by omega), if_neg hk] at h0
    cases h0
  · omega
theorem ib_nil (c : UInt8) : Go.Lib.indexByte [] c = -1 := rfl
theorem lnR_edge {bs : List UInt8} {b : UInt8} {t : StepR} (h0 : lnR bs = none) (h : lnR (bs ++ [b]) = some t) : EdgeAt bs.length b t := by
  unfold lnR at h0
  split at h0
  · rename_i hi
    obtain ⟨i1, i2, _⟩ := ib_nonneg_app (bs.take 61) ([b].take (61 - bs.length)) 10 hi
    have ht : (bs ++ [b]).take 61 = bs.take 61 ++ [b].take (61 - bs.length) := List.take_append
    unfold lnR at h
    rw [ht, i1, if_pos hi] at h
    generalize (Go.Lib.indexByte (bs.take 61) 10).toNat = e at *
    have he : e < bs.length := by simp at i2; omega
    unfold lineR at h0 h
    rw [List.take_append_of_le_length (by omega)] at h
    split at h0
    · rename_i size hs
      rw [hs] at h
      simp only at h
      unfold setR at h0 h
      split at h0
      · cases h0
      rename_i h40
      rw [if_neg h40] at h
      split at h0
      · rename_i hle
        split at h
        · cases h
        · rename_i hle2
          rw [List.length_append] at hle2
          simp only [List.length_cons, List.length_nil] at hle2
          have hn : e + 1 + size = bs.length := by omega
          have hb : (bs ++ [b]).getD (e + 1 + size) 0 = b := by rw [hn]; simp [List.getD]
          rw [hb] at h
          split at h
          · rename_i hb10
            cases h
            exact .inr (.inr ⟨rfl, rfl, .inr ⟨hn, hb10⟩⟩)
          · cases h
            exact .inr (.inl ⟨rfl, rfl, by show e + 1 + size + 1 = _; omega⟩)
      · split at h0 <;> cases h0
    · split at h0 <;> cases h0
  · rename_i hi
    split at h0
    · cases h0
    · rename_i hl
      have e1 : bs.take 61 = bs := List.take_of_length_le (by omega)
      have e2 : (bs ++ [b]).take 61 = bs ++ [b] := List.take_of_length_le (by simp; omega)
      rw [e1] at hi
      unfold lnR at h
      rw [e2, ib_neg_app bs [b] 10 hi] at h
      by_cases hb : b = 10
      · subst hb
        have e3 : Go.Lib.indexByte [10] 10 = 0 := by decide
        rw [e3] at h
        rw [show (if (0 : Int) ≤ 0 then (bs.length : Int) + 0 else -1) = (bs.length : Int) by simp, if_pos (by omega)] at h
        have e4 : ((bs.length : Int)).toNat = bs.length := by omega
        rw [e4] at h
        unfold lineR at h
        split at h
        · unfold setR at h
          split at h
          · cases h; exact .inr (.inl ⟨rfl, rfl, rfl⟩)
          · rw [if_pos (by simp)] at h
            cases h
        · split at h
          · cases h; exact .inr (.inl ⟨rfl, rfl, rfl⟩)
          · cases h; exact .inr (.inl ⟨rfl, rfl, rfl⟩)
      · have e3 : Go.Lib.indexByte [b] 10 = -1 := by
          rw [ib_cons, ib_nil]
          simp [hb]
        rw [e3] at h
        rw [show (if (0 : Int) ≤ -1 then (bs.length : Int) + -1 else -1) = -1 by simp, if_neg (by omega)] at h
        split at h
        · rename_i hl2
          rw [List.length_append] at hl2
          simp only [List.length_cons, List.length_nil] at hl2
          cases h
          exact .inr (.inr ⟨rfl, rfl, .inl (by show 61 = _; omega)⟩)
        · cases h
theorem readR_edge {d : Int} {bs : List UInt8} {b : UInt8} {t : StepR} (h0 : readR d bs = none) (h : readR d (bs ++ [b]) = some t) : EdgeAt bs.length b t := by
  unfold readR at h0 h
  split at h
  · rename_i h1; rw [if_pos h1] at h0; exact lnR_edge h0 h
  · rename_i h1
    rw [if_neg h1] at h0
    split at h
    · rename_i h2; rw [if_pos h2] at h0; exact frR_edge h0 h
    · rename_i h2; rw [if_neg h2] at h0; exact lsR_edge h0 h

theorem passL_cons {b : UInt8} (h : b ≠ 10) (l : List UInt8) : passL (b :: l) = passL l := by
  have e : (passL [b]).2 = true := by
    unfold passL
    rw [ib_cons, ib_nil]
    simp [h]
  have := passL_app [b] l
  rw [if_pos e] at this
  exact this
/-- The state behind a step, told by the bytes that were looked at. -/
def edgeS (t : StepR) (rest : List UInt8) : St := takeS ⟨[], t.skip, t.c.fatal⟩ rest
theorem after_edge {d : Int} {s : St} {n : Nat} {t : StepR} (hok : s.ok) (hn : n < s.held.length) (h0 : readR d (s.held.take n) = none) (h : readR d (s.held.take (n + 1)) = some t) : readR d s.held = some t ∧ afterS s t = edgeS t (s.held.drop (n + 1)) := by
  have hs : s.held.take (n + 1) ++ s.held.drop (n + 1) = s.held := List.take_append_drop _ _
  have hr : readR d s.held = some t := by
    have := (readR_mono (s.held.drop (n + 1)) h).1
    rwa [hs] at this
  refine ⟨hr, ?_⟩
  obtain ⟨hc, hp⟩ := live hok hr
  have e1 : s.held.take (n + 1) = s.held.take n ++ [s.held[n]] := by rw [List.take_add_one, List.getElem?_eq_getElem hn]; rfl
  have hl : (s.held.take n).length = n := by simp; omega
  rw [e1] at h
  have he := readR_edge h0 h
  rw [hl] at he
  unfold edgeS afterS takeS
  rcases he with ⟨hf, hk⟩ | ⟨hf, hk, hu⟩ | ⟨hf, hk, hu⟩
  · rw [if_pos hf, hf, hk]; rfl
  · rw [hf, hk, hu, hc, hp]; rfl
  · rw [hf, hk, hc]
    simp only [Bool.false_eq_true, if_false, if_true, List.nil_append]
    rcases hu with hu | ⟨hu, hb⟩
    · rw [hu]
    · rw [hu, List.drop_eq_getElem_cons hn, passL_cons hb]
end Go.Proofs.YtlonjggfnleolaaGreatDoor
