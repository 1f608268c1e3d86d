/-
  A reader, apart from the program: what waits, what is told; how bytes are cut means nothing.
-/
import Derived.Test.YtlonjggfnleolaaGreatDoorMono
namespace Go.Proofs.YtlonjggfnleolaaGreatDoor
set_option linter.unusedVariables false

structure St where
  held : List UInt8
  pass : Bool
  closed : Bool

/-- All up to the next line end is taken away. -/
def passL (l : List UInt8) : List UInt8 × Bool := if 0 ≤ Go.Lib.indexByte l 10 then (l.drop ((Go.Lib.indexByte l 10).toNat + 1), false) else ([], true)
def takeS (s : St) (p : List UInt8) : St :=
  if s.closed then s else if s.pass then ⟨(passL (s.held ++ p)).1, (passL (s.held ++ p)).2, false⟩ else ⟨s.held ++ p, false, false⟩
/-- The state behind a step. -/
def afterS (s : St) (t : StepR) : St :=
  if t.c.fatal then ⟨[], false, true⟩ else if t.skip then ⟨(passL (s.held.drop t.used)).1, (passL (s.held.drop t.used)).2, s.closed⟩ else ⟨s.held.drop t.used, s.pass, s.closed⟩
def drainF (d : Int) : Nat → St → List Cmd × St
  | 0, s => ([], s)
  | f + 1, s => match readR d s.held with
    | none => ([], s)
    | some t => (t.c :: (drainF d f (afterS s t)).1, (drainF d f (afterS s t)).2)
def drainS (d : Int) (s : St) : List Cmd × St := drainF d s.held.length s
def feedS (d : Int) (s : St) (p : List UInt8) : List Cmd × St := drainS d (takeS s p)

structure St.ok (s : St) : Prop where
  pass : s.pass = true → s.held = []
  closed : s.closed = true → s.held = [] ∧ s.pass = false

theorem readR_nil (d : Int) : readR d [] = none := by
  cases h : readR d [] with
  | none => rfl
  | some s => have := (readR_mono [] h).2; simp at this; omega
theorem passL_len (l : List UInt8) : (passL l).1.length ≤ l.length := by
  unfold passL; split <;> simp
theorem passL_pass (l : List UInt8) (h : (passL l).2 = true) : (passL l).1 = [] := by
  unfold passL at h ⊢
  split at h
  · cases h
  · rename_i hi; rw [if_neg hi]
theorem afterS_len {d : Int} {s : St} {t : StepR} (h : readR d s.held = some t) : (afterS s t).held.length < s.held.length := by
  obtain ⟨_, h1, h2⟩ := readR_mono [] h
  unfold afterS
  split
  · show 0 < _; omega
  · split
    · have := passL_len (s.held.drop t.used)
      show (passL (s.held.drop t.used)).1.length < _
      simp at this; omega
    · show (s.held.drop t.used).length < _
      simp; omega
theorem drainF_more (d : Int) : ∀ (f : Nat) (s : St) (g : Nat), s.held.length ≤ f → f ≤ g → drainF d g s = drainF d f s := by
  intro f
  induction f with
  | zero =>
    intro s g h _
    have h0 : s.held = [] := List.length_eq_zero_iff.1 (by omega)
    cases g with
    | zero => rfl
    | succ g => unfold drainF; rw [h0, readR_nil]
  | succ f ih =>
    intro s g h hg
    obtain ⟨g, rfl⟩ : ∃ k, g = k + 1 := ⟨g - 1, by omega⟩
    unfold drainF
    cases hr : readR d s.held with
    | none => rfl
    | some t =>
      have hl := afterS_len hr
      simp only
      rw [ih (afterS s t) g (by omega) (by omega)]
theorem drainS_none {d : Int} {s : St} (h : readR d s.held = none) : drainS d s = ([], s) := by
  unfold drainS
  cases hl : s.held.length with
  | zero => rfl
  | succ f => unfold drainF; rw [h]
theorem drainS_some {d : Int} {s : St} {t : StepR} (h : readR d s.held = some t) : drainS d s = (t.c :: (drainS d (afterS s t)).1, (drainS d (afterS s t)).2) := by
  have hl := afterS_len h
  unfold drainS
  obtain ⟨f, hf⟩ : ∃ f, s.held.length = f + 1 := ⟨s.held.length - 1, by omega⟩
  rw [hf]
  conv => lhs; unfold drainF
  rw [h]
  simp only
  rw [drainF_more d (afterS s t).held.length (afterS s t) f (Nat.le_refl _) (by omega)]

theorem ib_cons (b : UInt8) (l : List UInt8) (c : UInt8) : Go.Lib.indexByte (b :: l) c = if b == c then 0 else if Go.Lib.indexByte l c == -1 then -1 else Go.Lib.indexByte l c + 1 := rfl
theorem ib_neg_app : ∀ (l m : List UInt8) (c : UInt8), ¬ 0 ≤ Go.Lib.indexByte l c → Go.Lib.indexByte (l ++ m) c = if 0 ≤ Go.Lib.indexByte m c then (l.length : Int) + Go.Lib.indexByte m c else -1 := by
  intro l
  induction l with
  | nil =>
    intro m c h
    have := Go.Lib.indexByte_ge m c
    simp only [List.nil_append, List.length_nil]
    split
    · omega
    · omega
  | cons b l ih =>
    intro m c h
    rw [List.cons_append]
    rw [ib_cons] at h ⊢
    cases hb : (b == c) with
    | true => simp [hb] at h
    | false =>
      have hge := Go.Lib.indexByte_ge l c
      have hl : ¬ 0 ≤ Go.Lib.indexByte l c := by
        intro h0
        apply h
        have : (Go.Lib.indexByte l c == -1) = false := by rw [beq_eq_false_iff_ne]; omega
        simp only [hb, this, Bool.false_eq_true, if_false]
        omega
      have e := ih m c hl
      simp only [Bool.false_eq_true, if_false]
      rw [e]
      by_cases hm : 0 ≤ Go.Lib.indexByte m c
      · have t : (((l.length : Int) + Go.Lib.indexByte m c) == -1) = false := by rw [beq_eq_false_iff_ne]; omega
        simp only [hm, if_true, t, Bool.false_eq_true, if_false, List.length_cons]
        omega
      · simp only [hm, if_false]
        rfl
theorem passL_app (l m : List UInt8) : passL (l ++ m) = if (passL l).2 = true then passL m else ((passL l).1 ++ m, false) := by
  unfold passL
  by_cases h : 0 ≤ Go.Lib.indexByte l 10
  · obtain ⟨h1, h2, _⟩ := ib_nonneg_app l m 10 h
    rw [h1, if_pos h, if_pos h]
    simp only [Bool.false_eq_true, if_false]
    rw [List.drop_append_of_le_length (by omega)]
  · rw [ib_neg_app l m 10 h, if_neg h]
    simp only [if_true]
    by_cases hm : 0 ≤ Go.Lib.indexByte m 10
    · simp only [hm, if_true]
      rw [if_pos (by omega)]
      have e : ((l.length : Int) + Go.Lib.indexByte m 10).toNat + 1 = l.length + ((Go.Lib.indexByte m 10).toNat + 1) := by omega
      rw [e, List.drop_append]
      simp
    · simp only [hm, if_false]
      rw [if_neg (by omega)]

theorem takeS_ok {s : St} (p : List UInt8) (h : s.ok) : (takeS s p).ok := by
  unfold takeS
  split
  · exact h
  · split
    · exact ⟨fun hp => passL_pass _ hp, fun hc => (by cases hc)⟩
    · exact ⟨fun hp => (by cases hp), fun hc => (by cases hc)⟩
theorem takeS_take {s : St} (p q : List UInt8) (h : s.ok) : takeS (takeS s p) q = takeS s (p ++ q) := by
  obtain ⟨held, pass, closed⟩ := s
  cases closed with
  | true => rfl
  | false =>
    cases pass with
    | false => simp [takeS]
    | true =>
      have h0 : held = [] := h.pass rfl
      subst h0
      simp only [takeS, Bool.false_eq_true, if_false, if_true, List.nil_append]
      rw [passL_app p q]
      cases hp : (passL p).2 with
      | true =>
        have := passL_pass p hp
        simp only [this, if_true, List.nil_append]
      | false => simp only [Bool.false_eq_true, if_false]
theorem live {d : Int} {s : St} {t : StepR} (h : s.ok) (hr : readR d s.held = some t) : s.closed = false ∧ s.pass = false := by
  have hne : s.held ≠ [] := by intro e; rw [e, readR_nil] at hr; cases hr
  refine ⟨?_, ?_⟩
  · cases hc : s.closed with
    | false => rfl
    | true => exact absurd (h.closed hc).1 hne
  · cases hc : s.pass with
    | false => rfl
    | true => exact absurd (h.pass hc) hne
theorem afterS_ok {d : Int} {s : St} {t : StepR} (h : s.ok) (hr : readR d s.held = some t) : (afterS s t).ok := by
  obtain ⟨hc, hp⟩ := live h hr
  unfold afterS
  split
  · exact ⟨fun hp => (by cases hp), fun _ => ⟨rfl, rfl⟩⟩
  · split
    · exact ⟨fun hp => passL_pass _ hp, fun hc' => (by simp only [hc] at hc'; cases hc')⟩
    · exact ⟨fun hp' => (by simp only [hp] at hp'; cases hp'), fun hc' => (by simp only [hc] at hc'; cases hc')⟩
theorem afterS_take {d : Int} {s : St} {t : StepR} (q : List UInt8) (h : s.ok) (hr : readR d s.held = some t) : readR d (takeS s q).held = some t ∧ afterS (takeS s q) t = takeS (afterS s t) q := by
  obtain ⟨hc, hp⟩ := live h hr
  obtain ⟨hm, h1, h2⟩ := readR_mono q hr
  obtain ⟨held, pass, closed⟩ := s
  simp only at hc hp hm h2
  subst hc
  subst hp
  have e0 : takeS ⟨held, false, false⟩ q = ⟨held ++ q, false, false⟩ := rfl
  rw [e0]
  refine ⟨hm, ?_⟩
  have ed : (held ++ q).drop t.used = held.drop t.used ++ q := List.drop_append_of_le_length h2
  unfold afterS
  simp only
  split
  · rfl
  · split
    · rw [ed, passL_app]
      unfold takeS
      simp only [Bool.false_eq_true, if_false]
      cases hq : (passL (held.drop t.used)).2 with
      | true =>
        have := passL_pass _ hq
        simp only [if_true, this, List.nil_append]
      | false => simp only [Bool.false_eq_true, if_false]
    · rw [ed]; rfl

theorem drain_take (d : Int) (q : List UInt8) : ∀ (n : Nat) (s : St), s.held.length ≤ n → s.ok → drainS d (takeS s q) = ((drainS d s).1 ++ (drainS d (takeS (drainS d s).2 q)).1, (drainS d (takeS (drainS d s).2 q)).2) ∧ (drainS d s).2.ok ∧ readR d (drainS d s).2.held = none := by
  intro n
  induction n with
  | zero =>
    intro s hn h
    have h0 : s.held = [] := List.length_eq_zero_iff.1 (by omega)
    have hr : readR d s.held = none := by rw [h0, readR_nil]
    rw [drainS_none hr]
    exact ⟨by simp, h, hr⟩
  | succ n ih =>
    intro s hn h
    cases hr : readR d s.held with
    | none =>
      rw [drainS_none hr]
      exact ⟨by simp, h, hr⟩
    | some t =>
      have hl := afterS_len hr
      obtain ⟨e1, e2⟩ := afterS_take q h hr
      obtain ⟨i1, i2, i3⟩ := ih (afterS s t) (by omega) (afterS_ok h hr)
      rw [drainS_some hr, drainS_some e1, e2, i1]
      exact ⟨by simp, i2, i3⟩

/-- How bytes are cut means nothing. -/
theorem feed_cut (d : Int) (s : St) (p q : List UInt8) (h : s.ok) : feedS d s (p ++ q) = ((feedS d s p).1 ++ (feedS d (feedS d s p).2 q).1, (feedS d (feedS d s p).2 q).2) := by
  unfold feedS
  rw [← takeS_take p q h]
  exact (drain_take d q _ (takeS s p) (Nat.le_refl _) (takeS_ok p h)).1
theorem feed_ok (d : Int) (s : St) (p : List UInt8) (h : s.ok) : (feedS d s p).2.ok ∧ readR d (feedS d s p).2.held = none := (drain_take d p _ (takeS s p) (Nat.le_refl _) (takeS_ok p h)).2
theorem takeS_nil {s : St} (h : s.ok) : takeS s [] = s := by
  obtain ⟨held, pass, closed⟩ := s
  cases closed with
  | true => rfl
  | false =>
    cases pass with
    | false => simp [takeS]
    | true =>
      have h0 : held = [] := h.pass rfl
      subst h0
      rfl
theorem feed_nil {d : Int} {s : St} (h : s.ok) (hr : readR d s.held = none) : feedS d s [] = ([], s) := by
  unfold feedS
  rw [takeS_nil h, drainS_none hr]
def st0 : St := ⟨[], false, false⟩
theorem st0_ok : st0.ok := ⟨fun _ => rfl, fun _ => ⟨rfl, rfl⟩⟩
end Go.Proofs.YtlonjggfnleolaaGreatDoor
