/-
  check: Word and finds, for every argument.
-/
import Derived.Test.YtlonjggfnleolaaGreatDoorRefAsk
namespace Go.Proofs.YtlonjggfnleolaaGreatDoor
open Go.RowKit
set_option linter.unusedVariables false

def allLet (s : ByteArray) : Bool := s.data.toList.all letB
def wordB (s : ByteArray) : Bool := withinB 1 s.size 8 && allLet s

set_option maxHeartbeats 400000 in
theorem each_letter (s : ByteArray) (w : World) (hs : s.size ≤ maxLen) :
    Calls Tryz.prog 78 #[.string s, .func (.func 80) #[] #[]] w fun e w' => e = .returned (.bool (allLet s)) ∧ w' = w := by
  unfold maxLen at hs
  go_enter Tryz.func78, Tryz.ntmps78
  go_wp2
  go_loop [8] (fun i => ∃ k : Nat, k ≤ s.size ∧ i = .int .i64 k ∧ (s.data.toList.take k).all letB = true) (fun i => s.size - (intOf i).toNat)
  case atStart => exact ⟨0, Nat.zero_le _, rfl, by simp⟩
  case round =>
    obtain ⟨k, hk, rfl, hall⟩ := hrel
    have HA : Hid ((s.data.toList.take k).all letB = true) := hall
    clear hall
    by_cases hlt : k < s.size
    · cases hb : letB s[k] with
      | true =>
        go_wp2_with (go_at_call 80; refine (letter_any _ _).mono ?_; rintro e w' ⟨rfl, rfl⟩)
        go_round
        case rel => exact ⟨k + 1, by omega, by go_num, by rw [take_snoc s k hlt]; simp [HA.out, hb]⟩
        case measure => simp [intOf]; omega
      | false =>
        go_wp2_with (go_at_call 80; refine (letter_any _ _).mono ?_; rintro e w' ⟨rfl, rfl⟩)
        go_ret
        exact ⟨ret_bool (all_at hlt hb).symm, rfl⟩
    · go_wp2
      go_ret
      exact ⟨ret_bool (by rw [allLet, ← HA.out, List.take_of_length_le (by simp; omega)]), rfl⟩

set_option maxHeartbeats 400000 in
theorem word_any (s : ByteArray) (w : World) (hs : s.size ≤ maxLen) :
    Calls Tryz.prog 157 #[.string s] w fun e w' => e = .returned (.bool (wordB s)) ∧ w' = w := by
  have hs' := hs
  unfold maxLen at hs
  cases h1 : withinB 1 s.size 8 with
  | true =>
    go_enter Tryz.func157, Tryz.ntmps157
    go_wp2_with (first | (go_at_call 77; refine (within_any _ _ _ _).mono ?_; rintro e w' ⟨rfl, rfl⟩) | (go_at_call 78; refine (each_letter _ _ hs').mono ?_; rintro e w' ⟨rfl, rfl⟩))
    go_ret
    exact ⟨ret_bool (by simp only [wordB, h1, Bool.true_and]), rfl⟩
  | false =>
    go_enter Tryz.func157, Tryz.ntmps157
    go_wp2_with (first | (go_at_call 77; refine (within_any _ _ _ _).mono ?_; rintro e w' ⟨rfl, rfl⟩) | (go_at_call 78; refine (each_letter _ _ hs').mono ?_; rintro e w' ⟨rfl, rfl⟩))
    go_ret
    exact ⟨ret_bool (by simp only [wordB, h1, Bool.false_and]), rfl⟩

/-- A list of truths that a call was handed. -/
structure BoolsIn (w : World) (a : Option Addr) (n c : Nat) (bs : List Bool) : Prop where
  len : bs.length = n
  cap : n ≤ c
  small : bs.length ≤ 140737488355328
  form : (∃ b o, a = some ⟨b, o, none⟩ ∧ b < w.heap.size ∧ ∀ (i : Nat) (s : Bool), bs[i]? = some s → w.cell? ⟨b, o + i, none⟩ = some (.bool s)) ∨ (bs = [] ∧ c = 0)
theorem BoolsIn.later {w w' : World} {a : Option Addr} {n c : Nat} {bs : List Bool} (h : BoolsIn w a n c bs) (hb : Below w.heap.size w w') : BoolsIn w' a n c bs := by
  obtain ⟨hl, hc, sm, hf⟩ := h
  refine ⟨hl, hc, sm, ?_⟩
  rcases hf with ⟨b, o, rfl, hlt, hcell⟩ | h
  · exact .inl ⟨b, o, rfl, Nat.lt_of_lt_of_le hlt hb.size, fun i s hs => (hb.cell (p := ⟨b, o + i, none⟩) hlt).trans (hcell i s hs)⟩
  · exact .inr h
theorem BoolsIn.at {w : World} {a : Option Addr} {n c : Nat} {bs : List Bool} (h : BoolsIn w a n c bs) : ∀ (i : Nat) (s : Bool), bs[i]? = some s → ∃ b o, a = some ⟨b, o, none⟩ ∧ b < w.heap.size ∧ w.cell? ⟨b, o + i, none⟩ = some (.bool s) := by
  rcases h.form with ⟨b, o, rfl, hlt, hcell⟩ | ⟨rfl, _⟩
  · exact fun i s hs => ⟨b, o, rfl, hlt, hcell i s hs⟩
  · intro i s hs; simp at hs
theorem StrsIn.at {w : World} {a : Option Addr} {n c : Nat} {bs : List ByteArray} (h : StrsIn w a n c bs) : ∀ (i : Nat) (s : ByteArray), bs[i]? = some s → ∃ b o, a = some ⟨b, o, none⟩ ∧ b < w.heap.size ∧ w.cell? ⟨b, o + i, none⟩ = some (.string s) := by
  rcases h.form with ⟨b, o, rfl, hlt, hcell⟩ | ⟨rfl, _⟩
  · exact fun i s hs => ⟨b, o, rfl, hlt, hcell i s hs⟩
  · intro i s hs; simp at hs

/-- An answer. -/
def ansV (k : Int) (f v : Value) (wd : ByteArray) : Value := .agg #[.int .i64 k, f, v, .string wd]
def findOk (p : Bool × ByteArray) : Bool := decide ((p.2.size : Int) ≤ 40) && (p.1 || p.2.data.toList.isEmpty)
def findsB (bs : List Bool) (vs : List ByteArray) (n : Int) : Bool := decide ((bs.length : Int) = n) && decide ((vs.length : Int) = n) && (bs.zip vs).all findOk

theorem findsB_bad {bs : List Bool} {vs : List ByteArray} {n : Int} {i : Nat} {f : Bool} {x : ByteArray} (h1 : bs[i]? = some f) (h2 : vs[i]? = some x) (h : findOk (f, x) = false) : findsB bs vs n = false := by
  unfold findsB
  rw [List.all_eq_false.2 ⟨(f, x), ?_, by simp [h]⟩]
  · simp
  · exact List.mem_of_getElem? (i := i) (by rw [List.getElem?_zip_eq_some]; exact ⟨h1, h2⟩)
theorem zip_take_step {bs : List Bool} {vs : List ByteArray} {i : Nat} {f : Bool} {x : ByteArray} (h1 : bs[i]? = some f) (h2 : vs[i]? = some x) (h : ((bs.zip vs).take i).all findOk = true) (hf : findOk (f, x) = true) : ((bs.zip vs).take (i + 1)).all findOk = true := by
  have : (bs.zip vs)[i]? = some (f, x) := by rw [List.getElem?_zip_eq_some]; exact ⟨h1, h2⟩
  rw [List.take_add_one, this, List.all_append, h]; simp [hf]

theorem empty_of_size {x : ByteArray} (h : x.size = 0) : x = ⟨#[]⟩ := by
  apply ba_ext; have : x.data.toList.length = 0 := by simpa using h
  rw [List.length_eq_zero_iff.1 this]

set_option maxHeartbeats 2000000 in
theorem finds_any (k : Int) (fa va : Option Addr) (fn fc vn vc : Nat) (bs : List Bool) (vs : List ByteArray) (wd : ByteArray) (n : Int) (w : World) (hf : BoolsIn w fa fn fc bs) (hv : StrsIn w va vn vc vs) :
    Calls Tryz.prog 156 #[ansV k (.slice fa fn fc) (.slice va vn vc) wd, .int .i64 n] w fun e w' => e = .returned (.bool (findsB bs vs n)) ∧ Below w.heap.size w w' := by
  unfold ansV
  have HB := hide' (show ∀ x, Below w.heap.size w (w.alloc x) from fun x => (Below.refl _ _).alloc (Nat.le_refl _) _)
  have hfl := hf.len
  have hvl := hv.len
  have hfs := hf.small
  have hvs := hv.small
  have hfc := hf.cap
  have hvc := hv.cap
  have HF := hide' (fun x => (hf.later (HB.out x)).at)
  have HV := hide' (fun x => (hv.later (HB.out x)).at)
  have HS := hide' hv.sizes
  have HBad := hide' (show ∀ (i : Nat) (f : Bool) (x : ByteArray), bs[i]? = some f → vs[i]? = some x → findOk (f, x) = false → findsB bs vs n = false from fun i f x a b c => findsB_bad a b c)
  have HGood := hide' (show (bs.length : Int) = n → (vs.length : Int) = n → ((bs.zip vs).take bs.length).all findOk = true → findsB bs vs n = true from fun a b h => by
    unfold findsB
    rw [List.take_of_length_le (by simp; omega)] at h
    simp [a, b, h])
  have HNo := hide' (show ¬ ((bs.length : Int) = n ∧ (vs.length : Int) = n) → findsB bs vs n = false from fun h => by
    unfold findsB
    by_cases a : (bs.length : Int) = n
    · by_cases b : (vs.length : Int) = n
      · exact absurd ⟨a, b⟩ h
      · simp [b]
    · simp [a])
  clear hf hv
  generalize hF : findsB bs vs n = F at *
  clear hF
  subst hfl hvl
  generalize hFL : bs.length = fl at *
  have HFL := hide' hFL
  clear hFL
  generalize hVL : vs.length = vl at *
  have HVL := hide' hVL
  clear hVL
  by_cases a : (fl : Int) = n
  · by_cases b : (vl : Int) = n
    · subst a
      have hvf : vl = fl := by omega
      subst hvf
      have HG := hide' (HGood.out rfl rfl)
      clear b HNo HGood
      go_enter Tryz.func156, Tryz.ntmps156
      go_wp2
      go_loop [22] (fun i => ∃ j : Nat, j ≤ vl ∧ i = .int .i64 j ∧ Hid (((bs.zip vs).take j).all findOk = true)) (fun i => vl - (intOf i).toNat)
      case atStart => exact ⟨0, Nat.zero_le _, rfl, (by show _ = _; simp)⟩
      case round =>
        obtain ⟨j, hj, rfl, hall⟩ := hrel
        by_cases hlt : j < vl
        · obtain ⟨f, hf⟩ : ∃ f, bs[j]? = some f := ⟨bs[j]'(by rw [HFL.out]; exact hlt), List.getElem?_eq_getElem _⟩
          obtain ⟨x, hx⟩ : ∃ x, vs[j]? = some x := ⟨vs[j]'(by rw [HVL.out]; exact hlt), List.getElem?_eq_getElem _⟩
          obtain ⟨fb, fo, rfl, hfb, hfcell⟩ := HF.out (.cells #[.int .i64 k, .slice fa vl fc, .slice va vl vc, .string wd] 91) j f hf
          obtain ⟨vb, vo, rfl, hvb, hvcell⟩ := HV.out (.cells #[.int .i64 k, .slice (some ⟨fb, fo, none⟩) vl fc, .slice va vl vc, .string wd] 91) j x hx
          have hm := HS.out x (List.mem_of_getElem? hx)
          have HM := hide' hm
          unfold maxLen at hm
          have HN : Hid (findOk (f, x) = true → ((bs.zip vs).take (j + 1)).all findOk = true) := fun h => zip_take_step hf hx hall.out h
          have HO : Hid (findOk (f, x) = false → F = false) := fun h => HBad.out j f x hf hx h
          clear hf hx HF HV HS HBad HG hall
          by_cases h40 : (x.size : Int) ≤ 40
          · cases f with
            | true =>
              have HH := hide' (HN.out (by simp [findOk, h40]))
              clear HN HO
              go_wp2_with (go_at_call 76; refine (value_any _ _ HM.out).mono ?_; rintro e w' ⟨rfl, rfl⟩)
              go_round
              case rel => exact ⟨j + 1, by omega, by go_num, HH⟩
              case measure => simp [intOf]; omega
            | false =>
              by_cases hxe : x = ⟨#[]⟩
              · subst hxe
                have HH := hide' (HN.out (by decide))
                clear HN HO
                go_wp2_with (go_at_call 76; refine (value_any _ _ HM.out).mono ?_; rintro e w' ⟨rfl, rfl⟩)
                go_round
                case rel => exact ⟨j + 1, by omega, by go_num, HH⟩
                case measure => simp [intOf]; omega
              · have HH := hide' (HO.out (by
                  have : x.data.toList ≠ [] := fun h => hxe (ba_ext h)
                  simp [findOk]
                  intro _
                  simpa using this))
                have hne : x.toList.isEmpty = false := by
                  cases h : x.toList.isEmpty
                  · rfl
                  · exact absurd (empty_of_size (emptyB h)) hxe
                clear HN HO
                go_wp2_with (go_at_call 76; refine (value_any _ _ HM.out).mono ?_; rintro e w' ⟨rfl, rfl⟩)
                go_ret
                exact ⟨ret_bool HH.out.symm, HB.out _⟩
          · have HH := hide' (HO.out (by simp [findOk]; omega))
            have h40' : decide ((x.size : Int) ≤ 40) = false := by simpa using h40
            clear HN HO
            go_wp2_with (go_at_call 76; refine (value_any _ _ HM.out).mono ?_; rintro e w' ⟨rfl, rfl⟩)
            go_ret
            exact ⟨ret_bool HH.out.symm, HB.out _⟩
        · have hj2 : j = vl := by omega
          subst hj2
          have HH := hide' (HG.out hall.out)
          go_wp2
          go_ret
          exact ⟨ret_bool HH.out.symm, HB.out _⟩
    · have b' : ((vl : Int) != n) = true := by simpa using b
      have HH := hide' (HNo.out (fun h => b h.2))
      subst a
      clear HNo HGood HBad b
      go_enter Tryz.func156, Tryz.ntmps156
      go_wp2
      go_ret
      exact ⟨ret_bool HH.out.symm, HB.out _⟩
  · have a' : ((fl : Int) != n) = true := by simpa using a
    have HH := hide' (HNo.out (fun h => a h.1))
    clear HNo HGood HBad a
    go_enter Tryz.func156, Tryz.ntmps156
    go_wp2
    go_ret
    exact ⟨ret_bool HH.out.symm, HB.out _⟩

end Go.Proofs.YtlonjggfnleolaaGreatDoor
