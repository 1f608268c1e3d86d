/-
  What a reader tells is a command that may be, or something wrong; behind something fatal nothing is told.
-/
import Derived.Test.YtlonjggfnleolaaGreatDoorDecode
import Derived.Test.YtlonjggfnleolaaGreatDoorKeepE

namespace Go.Proofs.YtlonjggfnleolaaGreatDoor
open Go.RowKit
set_option linter.unusedVariables false

/-- A command as a reader tells it. -/
structure OkC (d : Int) (c : Cmd) : Prop where
  or_ : (cmdB c.kind c.keys c.val = true ∧ c.word = noB ∧ c.fatal = false ∧ (d = 2 → c.keys.length = 1)) ∨ (c.kind = 4 ∧ c.keys = [] ∧ c.val = noB ∧ 1 ≤ c.word.size)
  line : c.fatal = true → d ≠ 1
theorem okC_wrong {d : Int} {word : ByteArray} {ft : Bool} (h : 1 ≤ word.size) (hl : ft = true → d ≠ 1) : OkC d (wrongC word ft) := ⟨.inr ⟨rfl, rfl, rfl, h⟩, hl⟩
theorem bytesOf_size (bs : List UInt8) (i k : Nat) : (bytesOf bs i k).size ≤ k := by
  unfold bytesOf
  show (List.take k (List.drop i bs)).toArray.size ≤ k
  simp
  omega
theorem bytesOf_none (bs : List UInt8) (i : Nat) : bytesOf bs i 0 = noB := by simp [bytesOf, noB]
theorem emptyNo : noB.toList.isEmpty = true := by decide +kernel
theorem cmdB_setA {s val : ByteArray} (hs : keyB s = true) (hv : val.size ≤ 40) : cmdB 2 [s] val = true := by
  have : (val.size : Int) ≤ 40 := by omega
  simp [cmdB, keysB, withinB, hs, this]
theorem fr_ok {bs : List UInt8} {t : StepR} (h : frR bs = some t) : OkC 2 t.c := by
  unfold frR at h
  split at h
  · cases h
  · split at h
    · cases h; exact okC_wrong (by decide) (fun _ => by decide)
    · rename_i hh
      split at h
      · cases h
      · split at h
        · cases h; exact okC_wrong (by decide) (fun _ => by decide)
        · rename_i hk
          cases h
          have hk' : keyB (bytesOf bs 7 (byAt bs 2)) = true := by simpa using hk
          have hf : frHead bs = true := by simpa using hh
          simp only [frHead, Bool.and_eq_true, Bool.or_eq_true, decide_eq_true_eq] at hf
          obtain ⟨⟨⟨⟨⟨_, h1⟩, h3⟩, _⟩, _⟩, hv⟩ := hf
          refine ⟨.inl ⟨?_, rfl, rfl, fun _ => rfl⟩, fun h => (by cases h)⟩
          show cmdB (byAt bs 1 : Int) [bytesOf bs 7 (byAt bs 2)] (bytesOf bs (7 + byAt bs 2) (numAt bs 3)) = true
          have hs := bytesOf_size bs (7 + byAt bs 2) (numAt bs 3)
          by_cases h2 : byAt bs 1 = 2
          · rw [h2]
            have : numAt bs 3 ≤ 40 := by rcases hv with h | h <;> omega
            exact cmdB_setA hk' (by omega)
          · have h0 : numAt bs 3 = 0 := by rcases hv with h | h <;> omega
            rw [h0, bytesOf_none]
            rcases (show byAt bs 1 = 1 ∨ byAt bs 1 = 3 by omega) with h | h
            · rw [h]
              simp [cmdB, keysB, withinB, hk', emptyNo]
            · rw [h]
              simp [cmdB, keysB, withinB, hk', emptyNo]
theorem set_ok {bs : List UInt8} {frm : Nat} {key : ByteArray} {size : Nat} {t : StepR} (hk : keyB key = true) (h : setR bs frm key size = some t) : OkC 1 t.c := by
  unfold setR at h
  split at h
  · cases h; exact okC_wrong (by decide) (fun h => by cases h)
  · rename_i h40
    split at h
    · cases h
    · split at h
      · cases h; exact okC_wrong (by decide) (fun h => by cases h)
      · cases h
        have hs := bytesOf_size bs frm size
        exact ⟨.inl ⟨cmdB_setA (val := bytesOf bs frm size) hk (by omega), rfl, rfl, fun h => (by cases h)⟩, fun h => (by cases h)⟩
theorem ln_ok {bs : List UInt8} {t : StepR} (h : lnR bs = some t) : OkC 1 t.c := by
  unfold lnR at h
  split at h
  · unfold lineR at h
    split at h
    · rename_i size hsz
      refine set_ok ?_ h
      unfold setSizeR at hsz
      split at hsz
      · rename_i hc; exact hc.2.2
      · cases hsz
    · split at h
      · cases h; exact okC_wrong (by decide) (fun h => by cases h)
      · rename_i hc
        cases h
        rw [not_or] at hc
        exact ⟨.inl ⟨by simpa using hc.2, rfl, rfl, fun h => (by cases h)⟩, fun h => (by cases h)⟩
  · split at h
    · cases h; exact okC_wrong (by decide) (fun h => by cases h)
    · cases h
theorem texts_ok {d : Int} (hd : d ≠ 1) (hd2 : d ≠ 2) (ts : List ByteArray) (used : Nat) : OkC d (textsR ts used).c := by
  unfold textsR
  simp only
  generalize (if kindB (ts.getD 0 noB) = 2 then (if (ts.drop 1).length = 2 then (ts.drop 1).take 1 else []) else ts.drop 1) = keys
  generalize (if kindB (ts.getD 0 noB) = 2 ∧ (ts.drop 1).length = 2 then (ts.drop 1).getD 1 noB else noB) = val
  generalize kindB (ts.getD 0 noB) = k
  cases hc : cmdB k keys val with
  | true => rw [if_pos rfl]; exact ⟨.inl ⟨hc, rfl, rfl, fun h => absurd h hd2⟩, fun h => (by cases h)⟩
  | false => rw [if_neg (by decide)]; exact okC_wrong (by decide) (fun _ => hd)
theorem ls_ok {d : Int} (hd : d ≠ 1) (hd2 : d ≠ 2) {bs : List UInt8} {t : StepR} (h : lsR bs = some t) : OkC d t.c := by
  unfold lsR at h
  simp only at h
  split at h
  · cases h; exact okC_wrong (by decide) (fun _ => hd)
  · split at h
    · cases h
    · cases h
      exact texts_ok hd hd2 _ _
theorem read_ok {d : Int} {bs : List UInt8} {t : StepR} (h : readR d bs = some t) : OkC d t.c := by
  unfold readR at h
  split at h
  · rename_i h1; subst h1; exact ln_ok h
  · split at h
    · rename_i h2; subst h2; exact fr_ok h
    · rename_i h1 h2; exact ls_ok h1 h2 h
/-- All that is told may be, and behind something fatal nothing is told or held. -/
structure Told (d : Int) (cs : List Cmd) (s : St) : Prop where
  ok : ∀ c ∈ cs, OkC d c
  last : ∀ i c, cs[i]? = some c → c.fatal = true → i + 1 = cs.length ∧ s.held = []
theorem drain_told (d : Int) : ∀ (n : Nat) (s : St), s.held.length ≤ n → Told d (drainS d s).1 (drainS d s).2 := by
  intro n
  induction n with
  | zero =>
    intro s hn
    have h0 : s.held = [] := List.length_eq_zero_iff.1 (by omega)
    have hr : readR d s.held = none := by rw [h0, readR_nil]
    rw [drainS_none hr]
    exact ⟨fun c h => (by cases h), fun i c h => (by simp at h)⟩
  | succ n ih =>
    intro s hn
    cases hr : readR d s.held with
    | none => rw [drainS_none hr]; exact ⟨fun c h => (by cases h), fun i c h => (by simp at h)⟩
    | some t =>
      have hl := afterS_len hr
      have I := ih (afterS s t) (by omega)
      rw [drainS_some hr]
      refine ⟨fun c h => ?_, fun i c h hf => ?_⟩
      · rcases List.mem_cons.1 h with h | h
        · rw [h]; exact read_ok hr
        · exact I.ok c h
      · cases i with
        | zero =>
          have e : t.c = c := by simpa using h
          have ha : afterS s t = ⟨[], false, true⟩ := by unfold afterS; rw [e, hf]; rfl
          have hz : drainS d (afterS s t) = ([], ⟨[], false, true⟩) := by rw [ha]; exact drainS_none (readR_nil d)
          simp [hz]
        | succ i =>
          have h' : (drainS d (afterS s t)).1[i]? = some c := by simpa using h
          obtain ⟨h1, h2⟩ := I.last i c h' hf
          exact ⟨by simp; omega, h2⟩
theorem feed_told (d : Int) (p : List UInt8) : Told d (feedS d st0 p).1 (feedS d st0 p).2 := drain_told d _ _ (Nat.le_refl _)
end Go.Proofs.YtlonjggfnleolaaGreatDoor


/-
  junctionkeep: Pieced.
-/

namespace Go.Proofs.YtlonjggfnleolaaGreatDoor
open Go.RowKit
set_option linter.unusedVariables false

theorem cmdB_four : cmdB 4 [] noB = false := by decide +kernel
theorem notEmpty {T : ByteArray} (h : 1 ≤ T.size) : (T.toList == []) = false := by
  cases hl : T.toList with
  | nil => have := emptyB' (s := T) (by rw [hl]; rfl); subst this; exact absurd h (by decide)
  | cons => rfl
/-- Ask of a command that was read. -/
theorem ask_read {d : Int} {c : Cmd} (hd : d = 1 ∨ d = 2 ∨ d = 3) (g : cmdB c.kind c.keys c.val = true) (h1 : d = 2 → c.keys.length = 1) {lo : Nat} {ka : Option Addr} {kn kc : Nat} {W : World} (hK : KeysIn W lo (.slice ka kn kc) c.keys) :
    Calls Tryz.prog 21 #[.int .i64 d, .agg #[.int .i64 c.kind, .slice ka kn kc, .string c.val, .string c.word, .bool c.fatal, .int .i64 c.id], .int .i64 0] W fun e w' => (∃ T, e = .returned (.tuple #[.string T, .int .i64 0])) ∧ Below W.heap.size W w' := by
  have A := askable_of g
  have hn := (keysIn_cells hK).1
  have hl4 := A.len4
  have hsay : sayB d c.kind kn 0 = true := by
    unfold sayB dialB frSayB
    rcases hd with rfl | rfl | rfl
    · rfl
    · have := h1 rfl
      have hk1 : kn = 1 := by omega
      simp [hk1]
    · rfl
  have H := ask_any d c.kind ka kn kc c.keys c.val c.word c.fatal c.id 0 W (keysIn_strs hK (by omega) (fun s hs => keyB_size (A.keys s hs))) (by have := A.val40; unfold maxLen; omega)
  rw [g, hsay] at H
  exact H.mono fun e w' ⟨he, hb⟩ => ⟨⟨_, he⟩, hb⟩
theorem ask_wrong {d : Int} {c : Cmd} (h4 : c.kind = 4) (hk : c.keys = []) (hv : c.val = noB) {lo : Nat} {ka : Option Addr} {kn kc : Nat} {W : World} (hK : KeysIn W lo (.slice ka kn kc) c.keys) :
    Calls Tryz.prog 21 #[.int .i64 d, .agg #[.int .i64 c.kind, .slice ka kn kc, .string c.val, .string c.word, .bool c.fatal, .int .i64 c.id], .int .i64 0] W fun e w' => (∃ T, e = .returned (.tuple #[.string T, .int .i64 1])) ∧ Below W.heap.size W w' := by
  have hn := (keysIn_cells hK).1
  have hn0 : kn = 0 := by rw [hk] at hn; exact hn.symm
  have H := ask_any d c.kind ka kn kc c.keys c.val c.word c.fatal c.id 0 W (keysIn_strs hK (by omega) (fun s hs => by rw [hk] at hs; cases hs)) (by rw [hv]; decide)
  rw [h4, hk, hv, cmdB_four] at H
  rw [h4, hv]
  exact H.mono fun e w' ⟨he, hb⟩ => ⟨⟨_, he⟩, hb⟩

set_option maxRecDepth 20000 in
set_option maxHeartbeats 2000000 in
theorem pieced_any (x : Int) (a1 : Option Addr) (n1 c1 : Nat) (xs1 : List Int) (text : ByteArray) (a2 : Option Addr) (n2 c2 : Nat) (xs2 : List Int) (a3 : Option Addr) (n3 c3 : Nat) (xs3 : List Int) (w : World) (hx : (Lit.int .i64 x).wf = true) (h1 : RawIn w a1 n1 c1 xs1) (h2 : RawIn w a2 n2 c2 xs2) (h3 : RawIn w a3 n3 c3 xs3) (htx : text.size ≤ 90000000) :
    Calls Tryz.prog 7 #[.int .i64 x, .slice a1 n1 c1, .string text, .slice a2 n2 c2, .slice a3 n3 c3] w fun e w' => e = .returned (.bool true) ∧ Below w.heap.size w w' := by
  have HR1 := hide' h1
  have HR2 := hide' h2
  have HR3 := hide' h3
  have HP := hide' (fun W => pick_big x 3 W hx (by omega) (by omega))
  have hm := pickN_lt x 3 (by omega)
  clear h1 h2 h3
  generalize pickN x 3 = m at *
  obtain ⟨d, hd⟩ : ∃ d : Int, d = 1 + (m : Int) := ⟨_, rfl⟩
  have z1 : (1 : Int) + (m : Int) = d := hd.symm
  have hd3 : d = 1 ∨ d = 2 ∨ d = 3 := by omega
  have HD3 := hide' hd3
  have hdb : 1 ≤ d ∧ d ≤ 3 := by omega
  clear hd hd3
  go_enter Tryz.func7, Tryz.ntmps7
  go_wp2_with fail
  go_at_call 16
  refine (words_any _).mono ?_
  rintro e w1 ⟨rfl, hb1⟩
  have HB1 := hide' hb1
  clear hb1
  go_wp2_with fail
  go_at_call 17
  refine (HP.out _).mono ?_
  rintro e w2 ⟨rfl, hw2⟩
  subst hw2
  go_wp2_with fail
  go_at_call 18
  refine (said_any d 1 a1 n1 c1 xs1 10 _ (HR1.out.later HB1.out) HD3.out (by omega) (by omega)).mono ?_
  rintro e w3 ⟨v, s, cs0, rfl, hcs, hs, hgood, hlen, hsz, hb3⟩
  obtain ⟨va0, vc0, rfl⟩ := hcs.form
  have hB3 : Below w.heap.size w w3 := HB1.out.trans (hb3.mono HB1.out.size)
  have HB3 := hide' hB3
  clear hcs hs hgood hb3 hB3
  have hcat : ¬ 9223372036854775807 < s.size + text.size := by omega
  go_wp2_with fail
  go_at_call 19
  have hS0 : (s ++ text).size = s.size + text.size := ByteArray.size_append
  generalize s ++ text = S0 at *
  refine (fed_any d S0 a2 n2 c2 xs2 w3 (HR2.out.later HB3.out) HD3.out (by omega)).mono ?_
  rintro e w4 ⟨v, rfl, hcs1, hb4⟩
  obtain ⟨va, vc, rfl⟩ := hcs1.form
  have HB4 := hide' (HB3.out.trans (hb4.mono HB3.out.size))
  have HC4 := hide' hcs1
  clear hcs1 hb4
  go_wp2_with fail
  go_at_call 19
  refine (fed_any d S0 a3 n3 c3 xs3 w4 (HR3.out.later HB4.out) HD3.out (by omega)).mono ?_
  rintro e w5 ⟨v, rfl, hcs2, hb5⟩
  obtain ⟨va2, vc2, rfl⟩ := hcs2.form
  have HL0 := hide' (And.intro (HC4.out.below hb5) (And.intro hcs2 (HB4.out.trans (hb5.mono HB4.out.size))))
  have HT := hide' (feed_told d S0.data.toList)
  have hfl := feed_len d st0 S0.data.toList
  have hst0 : st0.held.length = 0 := rfl
  rw [len_size, hst0] at hfl
  clear hcs2 hb5 HC4 HP HR1 HR2 HR3
  generalize hcl : (feedS d st0 S0.data.toList).1.length = cl at *
  have HCL := hide' hcl
  clear hcl
  generalize (feedS d st0 S0.data.toList).1 = cs at *
  generalize hrst : (feedS d st0 S0.data.toList).2.held.length = rst at *
  have HRS := hide' hrst
  clear hrst
  have hgt : ¬ (S0.size : Int) < (rst : Int) := by omega
  rcases Nat.eq_zero_or_pos rst with hz | hz
  · subst hz
    go_wp2
    go_loopw [11, 22] (fun ok i wr => ∃ (j : Nat), i = .int .i64 j ∧ ok = .bool true ∧ j ≤ cl ∧ Hid (CmdsIn wr w3.heap.size (.slice va cl vc) cs ∧ CmdsIn wr w4.heap.size (.slice va2 cl vc2) cs ∧ Below w.heap.size w wr)) (fun _ i _ => cl - (intOf i).toNat)
    case atStart => exact ⟨0, rfl, rfl, Nat.zero_le _, HL0.out⟩
    case round =>
      obtain ⟨j, rfl, rfl, hj, HJ⟩ := hrel
      by_cases hlt : j < cl
      · have hlt' : (j : Int) < (cl : Int) := by omega
        obtain ⟨c, hc⟩ : ∃ c, cs[j]? = some c := ⟨_, List.getElem?_eq_getElem (by rw [HCL.out]; exact hlt)⟩
        have hok := HT.out.ok c (List.mem_of_getElem? hc)
        have hlast := HT.out.last j c hc
        obtain ⟨g, ka, kn, kc, rfl, hgl, hcap, hK1, hcell1⟩ := HJ.out.1.at_ hc
        obtain ⟨g', ka', kn', kc', rfl, hgl', hcap', hK2, hcell2⟩ := HJ.out.2.1.at_ hc
        have hnk : kn' = kn := (keysIn_cells hK2).1.symm.trans (keysIn_cells hK1).1
        subst hnk
        have hkl : c.keys.length = kn' := (keysIn_cells hK1).1
        have hk8 : kn' ≤ 4 ∧ ∀ s ∈ c.keys, s.size ≤ 8 := by
          rcases hok.or_ with ⟨g1, _⟩ | ⟨_, g2, _⟩
          · have A := askable_of g1
            exact ⟨by have := A.len4; omega, fun s hs => keyB_size (A.keys s hs)⟩
          · rw [g2] at hkl ⊢
            exact ⟨by have : (0 : Nat) = kn' := hkl; omega, fun s hs => by cases hs⟩
        have HSm : Hid (∀ W, Below wr.heap.size wr W → Calls Tryz.prog 20 #[.agg #[.int .i64 c.kind, .slice ka kn' kc, .string c.val, .string c.word, .bool c.fatal, .int .i64 c.id], .agg #[.int .i64 c.kind, .slice ka' kn' kc', .string c.val, .string c.word, .bool c.fatal, .int .i64 c.id]] W fun e w' => e = .returned (.bool true) ∧ Below W.heap.size W w') := fun W hW =>
          same_yes c.kind ka ka' kn' kc kc' c.val c.word c.fatal c.id c.id c.keys w3.heap.size w4.heap.size W (hK1.other (Nat.le_refl _) (fun b c Z hZ _ _ => hW.block b (blkLt hZ))) (hK2.other (Nat.le_refl _) (fun b c Z hZ _ _ => hW.block b (blkLt hZ))) (by omega) (fun s hs => by have := hk8.2 s hs; omega)
        have HK : Hid (∀ W, Below wr.heap.size wr W → KeysIn W w3.heap.size (.slice ka kn' kc) c.keys) := fun W hW => hK1.other (Nat.le_refl _) (fun b c Z hZ _ _ => hW.block b (blkLt hZ))
        have HCl : Hid (∀ W, Below wr.heap.size wr W → W.cell? ⟨g, j * 6, none⟩ = some (.int .i64 c.kind) ∧ W.cell? ⟨g, j * 6 + 1, none⟩ = some (.slice ka kn' kc) ∧ W.cell? ⟨g, j * 6 + 2, none⟩ = some (.string c.val) ∧ W.cell? ⟨g, j * 6 + 3, none⟩ = some (.string c.word) ∧ W.cell? ⟨g, j * 6 + 4, none⟩ = some (.bool c.fatal) ∧ W.cell? ⟨g, j * 6 + 5, none⟩ = some (.int .i64 c.id)) := fun W hW =>
          ⟨(hW.cell (p := ⟨g, j * 6, none⟩) hgl).trans (hcell1 0 (by omega)), (hW.cell (p := ⟨g, j * 6 + 1, none⟩) hgl).trans (hcell1 1 (by omega)), (hW.cell (p := ⟨g, j * 6 + 2, none⟩) hgl).trans (hcell1 2 (by omega)), (hW.cell (p := ⟨g, j * 6 + 3, none⟩) hgl).trans (hcell1 3 (by omega)), (hW.cell (p := ⟨g, j * 6 + 4, none⟩) hgl).trans (hcell1 4 (by omega)), (hW.cell (p := ⟨g, j * 6 + 5, none⟩) hgl).trans (hcell1 5 (by omega))⟩
        obtain ⟨p0, p1, p2, p3, p4, p5⟩ := HCl.out wr (Below.refl _ _)
        have q0 : wr.cell? ⟨g', j * 6, none⟩ = some (.int .i64 c.kind) := hcell2 0 (by omega)
        have q1 : wr.cell? ⟨g', j * 6 + 1, none⟩ = some (.slice ka' kn' kc') := hcell2 1 (by omega)
        have q2 : wr.cell? ⟨g', j * 6 + 2, none⟩ = some (.string c.val) := hcell2 2 (by omega)
        have q3 : wr.cell? ⟨g', j * 6 + 3, none⟩ = some (.string c.word) := hcell2 3 (by omega)
        have q4 : wr.cell? ⟨g', j * 6 + 4, none⟩ = some (.bool c.fatal) := hcell2 4 (by omega)
        have q5 : wr.cell? ⟨g', j * 6 + 5, none⟩ = some (.int .i64 c.id) := hcell2 5 (by omega)
        clear hcell1 hcell2 hK1 hK2
        rcases hok.or_ with ⟨g1, g2, g3, g4⟩ | ⟨g1, g2, g3, g4⟩
        · have HAk : Hid (∀ W, Below wr.heap.size wr W → Calls Tryz.prog 21 #[.int .i64 d, .agg #[.int .i64 c.kind, .slice ka kn' kc, .string c.val, .string c.word, .bool c.fatal, .int .i64 c.id], .int .i64 0] W fun e w' => (∃ T, e = .returned (.tuple #[.string T, .int .i64 0])) ∧ Below W.heap.size W w') := fun W hW => ask_read HD3.out g1 g4 (HK.out W hW)
          have hk4 : ¬ c.kind = 4 := by rcases (askable_of g1).kind with h | h | h <;> rw [h] <;> decide
          obtain ⟨k, ss, val, wd, ft, id0⟩ := c
          simp only at HSm HK HCl p0 p1 p2 p3 p4 p5 q0 q1 q2 q3 q4 q5 HAk hk4 g2 g3 hkl
          subst g2 g3
          clear hok hlast g1 g4 hc hk8 hkl
          go_wp2
          go_region_law (first
            | (go_simp; go_at_call 20; refine (HSm.out _ ?hx).mono ?_; (case hx => repeat (first | with_reducible exact Below.refl _ _ | with_reducible refine Below.drew ?_)); rintro e w6 ⟨rfl, hb6⟩; have HB6 := hide' (below_undrew hb6); obtain ⟨y0, y1, y2, y3, y4, y5⟩ := HCl.out w6 HB6.out; clear hb6))
          all_goals go_wp2_with fail
          all_goals
            go_at_call 21
            refine (HAk.out _ HB6.out).mono ?_
            rintro e w7 ⟨⟨T, rfl⟩, hb7⟩
            have HB7 := hide' (HB6.out.trans (hb7.mono HB6.out.size))
            obtain ⟨u0, u1, u2, u3, u4, u5⟩ := HCl.out w7 HB7.out
            clear hb7
            go_wp2
            go_roundw
            case rel =>
              exact ⟨j + 1, by go_num, rfl, by omega, HJ.out.1.below HB7.out, HJ.out.2.1.below HB7.out, HJ.out.2.2.trans (HB7.out.mono HJ.out.2.2.size)⟩
            case measure => simp [intOf]; omega
        · have HAk : Hid (∀ W, Below wr.heap.size wr W → Calls Tryz.prog 21 #[.int .i64 d, .agg #[.int .i64 c.kind, .slice ka kn' kc, .string c.val, .string c.word, .bool c.fatal, .int .i64 c.id], .int .i64 0] W fun e w' => (∃ T, e = .returned (.tuple #[.string T, .int .i64 1])) ∧ Below W.heap.size W w') := fun W hW => ask_wrong g1 g2 g3 (HK.out W hW)
          have hw1 := notEmpty g4
          have hw2 : c.word.toList.isEmpty = false := by
            cases hl : c.word.toList with
            | nil => rw [hl] at hw1; cases hw1
            | cons => rfl
          have hln := hok.line
          obtain ⟨k, ss, val, wd, ft, id0⟩ := c
          simp only at HSm HK HCl p0 p1 p2 p3 p4 p5 q0 q1 q2 q3 q4 q5 HAk g1 g2 g3 g4 hkl hw1 hw2 hlast hln
          subst g1 g2 g3
          obtain rfl : kn' = 0 := hkl.symm
          clear hok hc hk8 hkl
          cases ft with
          | false =>
            clear hlast hln
            go_wp2
            go_region_law (first
              | (go_simp; go_at_call 20; refine (HSm.out _ ?hx).mono ?_; (case hx => repeat (first | with_reducible exact Below.refl _ _ | with_reducible refine Below.drew ?_)); rintro e w6 ⟨rfl, hb6⟩; have HB6 := hide' (below_undrew hb6); obtain ⟨y0, y1, y2, y3, y4, y5⟩ := HCl.out w6 HB6.out; clear hb6))
            all_goals go_wp2_with fail
            all_goals
              go_at_call 21
              refine (HAk.out _ HB6.out).mono ?_
              rintro e w7 ⟨⟨T, rfl⟩, hb7⟩
              have HB7 := hide' (HB6.out.trans (hb7.mono HB6.out.size))
              obtain ⟨u0, u1, u2, u3, u4, u5⟩ := HCl.out w7 HB7.out
              clear hb7
              go_wp2
              go_roundw
              case rel =>
                exact ⟨j + 1, by go_num, rfl, by omega, HJ.out.1.below HB7.out, HJ.out.2.1.below HB7.out, HJ.out.2.2.trans (HB7.out.mono HJ.out.2.2.size)⟩
              case measure => simp [intOf]; omega
          | true =>
            obtain ⟨l1, l2⟩ := hlast rfl
            have HD1 : Hid (¬ d = 1) := hln rfl
            rw [HCL.out] at l1
            have HL1 : Hid (¬ (j : Int) < (cl : Int) - 1) := by
              show ¬ (j : Int) < (cl : Int) - 1
              omega
            clear hlast hln l1 l2
            go_wp2
            go_region_law (first
              | (go_simp; go_at_call 20; refine (HSm.out _ ?hx).mono ?_; (case hx => repeat (first | with_reducible exact Below.refl _ _ | with_reducible refine Below.drew ?_)); rintro e w6 ⟨rfl, hb6⟩; have HB6 := hide' (below_undrew hb6); obtain ⟨y0, y1, y2, y3, y4, y5⟩ := HCl.out w6 HB6.out; clear hb6))
            all_goals go_wp2_with fail
            all_goals first | (rename_i hbad; exfalso; have e1 := HD1.out; have e2 := HL1.out; simp only [beq_iff_eq] at hbad; omega) | skip
            all_goals
              go_at_call 21
              refine (HAk.out _ HB6.out).mono ?_
              rintro e w7 ⟨⟨T, rfl⟩, hb7⟩
              have HB7 := hide' (HB6.out.trans (hb7.mono HB6.out.size))
              obtain ⟨u0, u1, u2, u3, u4, u5⟩ := HCl.out w7 HB7.out
              clear hb7
              go_wp2
              go_roundw
              case rel =>
                exact ⟨j + 1, by go_num, rfl, by omega, HJ.out.1.below HB7.out, HJ.out.2.1.below HB7.out, HJ.out.2.2.trans (HB7.out.mono HJ.out.2.2.size)⟩
              case measure => simp [intOf]; omega
      · have hlt' : ¬ (j : Int) < (cl : Int) := by omega
        go_wp2
        go_ret
        exact ⟨rfl, HJ.out.2.2⟩
  · skip
    go_wp2
    go_loopw [11, 22] (fun ok i wr => ∃ (j : Nat), i = .int .i64 j ∧ ok = .bool true ∧ j ≤ cl ∧ Hid (CmdsIn wr w3.heap.size (.slice va cl vc) cs ∧ CmdsIn wr w4.heap.size (.slice va2 cl vc2) cs ∧ Below w.heap.size w wr)) (fun _ i _ => cl - (intOf i).toNat)
    case atStart => exact ⟨0, rfl, rfl, Nat.zero_le _, HL0.out⟩
    case round =>
      obtain ⟨j, rfl, rfl, hj, HJ⟩ := hrel
      by_cases hlt : j < cl
      · have hlt' : (j : Int) < (cl : Int) := by omega
        obtain ⟨c, hc⟩ : ∃ c, cs[j]? = some c := ⟨_, List.getElem?_eq_getElem (by rw [HCL.out]; exact hlt)⟩
        have hok := HT.out.ok c (List.mem_of_getElem? hc)
        have hlast := HT.out.last j c hc
        obtain ⟨g, ka, kn, kc, rfl, hgl, hcap, hK1, hcell1⟩ := HJ.out.1.at_ hc
        obtain ⟨g', ka', kn', kc', rfl, hgl', hcap', hK2, hcell2⟩ := HJ.out.2.1.at_ hc
        have hnk : kn' = kn := (keysIn_cells hK2).1.symm.trans (keysIn_cells hK1).1
        subst hnk
        have hkl : c.keys.length = kn' := (keysIn_cells hK1).1
        have hk8 : kn' ≤ 4 ∧ ∀ s ∈ c.keys, s.size ≤ 8 := by
          rcases hok.or_ with ⟨g1, _⟩ | ⟨_, g2, _⟩
          · have A := askable_of g1
            exact ⟨by have := A.len4; omega, fun s hs => keyB_size (A.keys s hs)⟩
          · rw [g2] at hkl ⊢
            exact ⟨by have : (0 : Nat) = kn' := hkl; omega, fun s hs => by cases hs⟩
        have HSm : Hid (∀ W, Below wr.heap.size wr W → Calls Tryz.prog 20 #[.agg #[.int .i64 c.kind, .slice ka kn' kc, .string c.val, .string c.word, .bool c.fatal, .int .i64 c.id], .agg #[.int .i64 c.kind, .slice ka' kn' kc', .string c.val, .string c.word, .bool c.fatal, .int .i64 c.id]] W fun e w' => e = .returned (.bool true) ∧ Below W.heap.size W w') := fun W hW =>
          same_yes c.kind ka ka' kn' kc kc' c.val c.word c.fatal c.id c.id c.keys w3.heap.size w4.heap.size W (hK1.other (Nat.le_refl _) (fun b c Z hZ _ _ => hW.block b (blkLt hZ))) (hK2.other (Nat.le_refl _) (fun b c Z hZ _ _ => hW.block b (blkLt hZ))) (by omega) (fun s hs => by have := hk8.2 s hs; omega)
        have HK : Hid (∀ W, Below wr.heap.size wr W → KeysIn W w3.heap.size (.slice ka kn' kc) c.keys) := fun W hW => hK1.other (Nat.le_refl _) (fun b c Z hZ _ _ => hW.block b (blkLt hZ))
        have HCl : Hid (∀ W, Below wr.heap.size wr W → W.cell? ⟨g, j * 6, none⟩ = some (.int .i64 c.kind) ∧ W.cell? ⟨g, j * 6 + 1, none⟩ = some (.slice ka kn' kc) ∧ W.cell? ⟨g, j * 6 + 2, none⟩ = some (.string c.val) ∧ W.cell? ⟨g, j * 6 + 3, none⟩ = some (.string c.word) ∧ W.cell? ⟨g, j * 6 + 4, none⟩ = some (.bool c.fatal) ∧ W.cell? ⟨g, j * 6 + 5, none⟩ = some (.int .i64 c.id)) := fun W hW =>
          ⟨(hW.cell (p := ⟨g, j * 6, none⟩) hgl).trans (hcell1 0 (by omega)), (hW.cell (p := ⟨g, j * 6 + 1, none⟩) hgl).trans (hcell1 1 (by omega)), (hW.cell (p := ⟨g, j * 6 + 2, none⟩) hgl).trans (hcell1 2 (by omega)), (hW.cell (p := ⟨g, j * 6 + 3, none⟩) hgl).trans (hcell1 3 (by omega)), (hW.cell (p := ⟨g, j * 6 + 4, none⟩) hgl).trans (hcell1 4 (by omega)), (hW.cell (p := ⟨g, j * 6 + 5, none⟩) hgl).trans (hcell1 5 (by omega))⟩
        obtain ⟨p0, p1, p2, p3, p4, p5⟩ := HCl.out wr (Below.refl _ _)
        have q0 : wr.cell? ⟨g', j * 6, none⟩ = some (.int .i64 c.kind) := hcell2 0 (by omega)
        have q1 : wr.cell? ⟨g', j * 6 + 1, none⟩ = some (.slice ka' kn' kc') := hcell2 1 (by omega)
        have q2 : wr.cell? ⟨g', j * 6 + 2, none⟩ = some (.string c.val) := hcell2 2 (by omega)
        have q3 : wr.cell? ⟨g', j * 6 + 3, none⟩ = some (.string c.word) := hcell2 3 (by omega)
        have q4 : wr.cell? ⟨g', j * 6 + 4, none⟩ = some (.bool c.fatal) := hcell2 4 (by omega)
        have q5 : wr.cell? ⟨g', j * 6 + 5, none⟩ = some (.int .i64 c.id) := hcell2 5 (by omega)
        clear hcell1 hcell2 hK1 hK2
        rcases hok.or_ with ⟨g1, g2, g3, g4⟩ | ⟨g1, g2, g3, g4⟩
        · have HAk : Hid (∀ W, Below wr.heap.size wr W → Calls Tryz.prog 21 #[.int .i64 d, .agg #[.int .i64 c.kind, .slice ka kn' kc, .string c.val, .string c.word, .bool c.fatal, .int .i64 c.id], .int .i64 0] W fun e w' => (∃ T, e = .returned (.tuple #[.string T, .int .i64 0])) ∧ Below W.heap.size W w') := fun W hW => ask_read HD3.out g1 g4 (HK.out W hW)
          have hk4 : ¬ c.kind = 4 := by rcases (askable_of g1).kind with h | h | h <;> rw [h] <;> decide
          obtain ⟨k, ss, val, wd, ft, id0⟩ := c
          simp only at HSm HK HCl p0 p1 p2 p3 p4 p5 q0 q1 q2 q3 q4 q5 HAk hk4 g2 g3 hkl
          subst g2 g3
          clear hok hlast g1 g4 hc hk8 hkl
          go_wp2
          go_region_law (first
            | (go_simp; go_at_call 20; refine (HSm.out _ ?hx).mono ?_; (case hx => repeat (first | with_reducible exact Below.refl _ _ | with_reducible refine Below.drew ?_)); rintro e w6 ⟨rfl, hb6⟩; have HB6 := hide' (below_undrew hb6); obtain ⟨y0, y1, y2, y3, y4, y5⟩ := HCl.out w6 HB6.out; clear hb6))
          all_goals go_wp2_with fail
          all_goals
            go_at_call 21
            refine (HAk.out _ HB6.out).mono ?_
            rintro e w7 ⟨⟨T, rfl⟩, hb7⟩
            have HB7 := hide' (HB6.out.trans (hb7.mono HB6.out.size))
            obtain ⟨u0, u1, u2, u3, u4, u5⟩ := HCl.out w7 HB7.out
            clear hb7
            go_wp2
            go_roundw
            case rel =>
              exact ⟨j + 1, by go_num, rfl, by omega, HJ.out.1.below HB7.out, HJ.out.2.1.below HB7.out, HJ.out.2.2.trans (HB7.out.mono HJ.out.2.2.size)⟩
            case measure => simp [intOf]; omega
        · have HAk : Hid (∀ W, Below wr.heap.size wr W → Calls Tryz.prog 21 #[.int .i64 d, .agg #[.int .i64 c.kind, .slice ka kn' kc, .string c.val, .string c.word, .bool c.fatal, .int .i64 c.id], .int .i64 0] W fun e w' => (∃ T, e = .returned (.tuple #[.string T, .int .i64 1])) ∧ Below W.heap.size W w') := fun W hW => ask_wrong g1 g2 g3 (HK.out W hW)
          have hw1 := notEmpty g4
          have hw2 : c.word.toList.isEmpty = false := by
            cases hl : c.word.toList with
            | nil => rw [hl] at hw1; cases hw1
            | cons => rfl
          have hln := hok.line
          obtain ⟨k, ss, val, wd, ft, id0⟩ := c
          simp only at HSm HK HCl p0 p1 p2 p3 p4 p5 q0 q1 q2 q3 q4 q5 HAk g1 g2 g3 g4 hkl hw1 hw2 hlast hln
          subst g1 g2 g3
          obtain rfl : kn' = 0 := hkl.symm
          clear hok hc hk8 hkl
          cases ft with
          | false =>
            clear hlast hln
            go_wp2
            go_region_law (first
              | (go_simp; go_at_call 20; refine (HSm.out _ ?hx).mono ?_; (case hx => repeat (first | with_reducible exact Below.refl _ _ | with_reducible refine Below.drew ?_)); rintro e w6 ⟨rfl, hb6⟩; have HB6 := hide' (below_undrew hb6); obtain ⟨y0, y1, y2, y3, y4, y5⟩ := HCl.out w6 HB6.out; clear hb6))
            all_goals go_wp2_with fail
            all_goals
              go_at_call 21
              refine (HAk.out _ HB6.out).mono ?_
              rintro e w7 ⟨⟨T, rfl⟩, hb7⟩
              have HB7 := hide' (HB6.out.trans (hb7.mono HB6.out.size))
              obtain ⟨u0, u1, u2, u3, u4, u5⟩ := HCl.out w7 HB7.out
              clear hb7
              go_wp2
              go_roundw
              case rel =>
                exact ⟨j + 1, by go_num, rfl, by omega, HJ.out.1.below HB7.out, HJ.out.2.1.below HB7.out, HJ.out.2.2.trans (HB7.out.mono HJ.out.2.2.size)⟩
              case measure => simp [intOf]; omega
          | true =>
            obtain ⟨l1, l2⟩ := hlast rfl
            have hr0 : rst = 0 := by rw [← HRS.out, l2]; rfl
            exact absurd hr0 (by omega)
      · have hlt' : ¬ (j : Int) < (cl : Int) := by omega
        go_wp2
        go_ret
        exact ⟨rfl, HJ.out.2.2⟩
end Go.Proofs.YtlonjggfnleolaaGreatDoor
