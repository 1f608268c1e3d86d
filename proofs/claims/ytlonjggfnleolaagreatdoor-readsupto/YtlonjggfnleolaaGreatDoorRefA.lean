/-
  The reference's reader: end, wrong, count, number.
-/
import Derived.Test.YtlonjggfnleolaaGreatDoorKind
import Derived.Test.YtlonjggfnleolaaGreatDoorEdge
import Derived.WalkKit
namespace Go.Proofs.YtlonjggfnleolaaGreatDoor
open Go.RowKit
set_option linter.unusedVariables false

theorem getD_str {s : ByteArray} {k : Nat} (h : k < s.size) : s.data.toList.getD k 0 = s[k] := by
  rw [List.getD, List.getElem?_eq_getElem (by simpa using h)]; rfl
theorem byAt_str {s : ByteArray} {k : Nat} (h : k < s.size) : byAt s.data.toList k = s[k].toNat := by
  show (s.data.toList.getD k 0).toNat = _
  rw [getD_str h]
theorem u8_ne {b c : UInt8} (h : ¬ b = c) : ((b.toNat : Int) == (c.toNat : Int)) = false := by
  rw [beq_eq_false_iff_ne]
  intro e
  apply h
  apply UInt8.toNat_inj.1
  omega

def wrongV (word : ByteArray) (ft : Bool) : Value := .agg #[.int .i64 4, .slice none 0 0, .string ⟨#[]⟩, .string word, .bool ft, .int .i64 0]
set_option maxHeartbeats 1000000 in
theorem refwrong_any (word : ByteArray) (ft : Bool) (w : World) :
    Calls Tryz.prog 182 #[.string word, .bool ft] w fun e w' => e = .returned (wrongV word ft) ∧ Below w.heap.size w w' := by
  unfold wrongV
  go_enter Tryz.func182, Tryz.ntmps182
  go_wp2
  refine bodyPost_ret (v := .agg #[.int .i64 4, .slice none 0 0, .string ⟨#[]⟩, .string word, .bool ft, .int .i64 0]) (by simp [results, Tryz.results182, go_sem]) rfl ⟨rfl, ?_⟩
  repeat (first | with_reducible exact Below.refl _ _ | with_reducible refine Below.drew ?_ | with_reducible refine Below.alloc ?_ (by simp; try omega) _ | with_reducible refine Below.setCell ?_ (by simp; try omega) _)

theorem ib_at {s : ByteArray} {k : Nat} (h : k < s.size) (h10 : s[k] = 10) (hn : ¬ 0 ≤ Go.Lib.indexByte (s.data.toList.take k) 10) : Go.Lib.indexByte s.data.toList 10 = (k : Int) := by
  have hk : k < s.data.toList.length := by simpa using h
  have e : s.data.toList = s.data.toList.take k ++ 10 :: s.data.toList.drop (k + 1) := by
    have h1 : s.data.toList.drop k = 10 :: s.data.toList.drop (k + 1) := by
      rw [List.drop_eq_getElem_cons hk]
      congr 1
    rw [← h1, List.take_append_drop]
  have hl : (s.data.toList.take k).length = k := by rw [List.length_take]; omega
  rw [e, ib_neg_app _ _ _ hn, hl]
  have e0 : Go.Lib.indexByte (10 :: s.data.toList.drop (k + 1)) 10 = 0 := by rw [ib_cons]; simp
  rw [e0]
  simp
theorem ib_no {s : ByteArray} {k : Nat} (h : k < s.size) (h10 : ¬ s[k] = 10) (hn : ¬ 0 ≤ Go.Lib.indexByte (s.data.toList.take k) 10) : ¬ 0 ≤ Go.Lib.indexByte (s.data.toList.take (k + 1)) 10 := by
  rw [take_snoc s k h, ib_neg_app _ _ _ hn]
  have e0 : Go.Lib.indexByte [s[k]] 10 = -1 := by rw [ib_cons, ib_nil]; simp [h10]
  rw [e0]
  simp

set_option maxHeartbeats 2000000 in
theorem refend_any (s : ByteArray) (w : World) (hs : s.size ≤ maxLen) :
    Calls Tryz.prog 181 #[.string s] w fun e w' => e = .returned (.int .i64 (Go.Lib.indexByte s.data.toList 10)) ∧ w' = w := by
  unfold maxLen at hs
  go_enter Tryz.func181, Tryz.ntmps181
  go_wp2
  go_loop [3] (fun i => ∃ k : Nat, k ≤ s.size ∧ i = .int .i64 k ∧ Hid (¬ 0 ≤ Go.Lib.indexByte (s.data.toList.take k) 10)) (fun i => s.size - (intOf i).toNat)
  case atStart => exact ⟨0, Nat.zero_le _, rfl, (by show ¬ 0 ≤ _; rw [List.take_zero, ib_nil]; decide)⟩
  case round =>
    obtain ⟨k, hk, rfl, hno⟩ := hrel
    by_cases hlt : k < s.size
    · by_cases h10 : s[k] = 10
      · have HR := hide' (ib_at hlt h10 hno.out)
        go_wp2
        go_ret
        exact ⟨ret_int HR.out.symm, rfl⟩
      · have HN := hide' (ib_no hlt h10 hno.out)
        have hb := u8_ne h10
        have hb' : ((s[k].toNat : Int) == 10) = false := hb
        go_wp2
        go_round
        case rel => exact ⟨k + 1, by omega, by go_num, HN⟩
        case measure => simp [intOf]; omega
    · have hk2 : k = s.size := by omega
      subst hk2
      have HR : Hid (Go.Lib.indexByte s.data.toList 10 = -1) := by
        have h := hno.out
        rw [List.take_of_length_le (by simp)] at h
        have := Go.Lib.indexByte_ge s.data.toList 10
        show _ = _
        omega
      go_wp2
      go_ret
      exact ⟨ret_int HR.out.symm, rfl⟩

/-- count: a number, or -1. -/
def cntI (r : Option Nat) : Int := match r with | none => -1 | some n => n
theorem one48 {s : ByteArray} (h1 : s.size = 1) (h : 0 < s.size) (h0 : s[0] = 48) : s = ⟨#[48]⟩ := by
  obtain ⟨d⟩ := s
  have : d.size = 1 := h1
  have e : d = #[48] := by
    apply Array.ext
    · simpa using this
    · intro i hi hj
      have : i = 0 := by omega
      subst this
      exact h0
  rw [e]
set_option maxRecDepth 20000 in
set_option maxHeartbeats 2000000 in
theorem refcount_any (s : ByteArray) (w : World) (hs : s.size ≤ maxLen) : Calls Tryz.prog 184 #[.string s] w fun e w' => e = .returned (.int .i64 (cntI (countS s))) ∧ w' = w := by
  unfold maxLen at hs
  have HS : Hid (countS s = if s.size < 1 ∨ 3 < s.size ∨ (1 < s.size ∧ s.data.toList.getD 0 0 = 48) then none else if s.data.toList.all digB then some (digsTo s.data.toList) else none) := rfl
  generalize countS s = R at *
  by_cases h1 : s.size < 1
  · have hR : R = none := by rw [HS.out]; simp [h1]
    subst hR
    have h0 : s = ⟨#[]⟩ := by
      obtain ⟨d⟩ := s
      have : d.size = 0 := by have h1 : d.size < 1 := h1; omega
      rw [Array.eq_empty_of_size_eq_zero this]
    subst h0
    clear h1
    go_enter Tryz.func184, Tryz.ntmps184
    go_wp2
    go_ret
    exact ⟨rfl, rfl⟩
  have hne : (s.toList == []) = false := by
    have := eqB (s := s) [] (by intro e; rw [e] at h1; exact h1 (by decide))
    exact this
  by_cases h3 : 3 < s.size
  · have hR : R = none := by rw [HS.out]; simp [h3]
    subst hR
    have h3' : (3 : Int) < s.size := by omega
    go_enter Tryz.func184, Tryz.ntmps184
    go_wp2
    go_ret
    exact ⟨rfl, rfl⟩
  have hz : 0 < s.size := by omega
  have h0 : s.data.toList.getD 0 0 = s[0] := getD_str hz
  have h3' : ¬ (3 : Int) < s.size := by omega
  by_cases h4 : 1 < s.size ∧ s[0] = 48
  · have hR : R = none := by rw [HS.out, if_pos]; exact .inr (.inr ⟨h4.1, h0.trans h4.2⟩)
    subst hR
    obtain ⟨h4a, h4b⟩ := h4
    have hn1 := eqB (s := s) [48] (by intro e; rw [e] at h4a; exact absurd h4a (by decide))
    go_enter Tryz.func184, Tryz.ntmps184
    go_wp2
    go_ret
    exact ⟨rfl, rfl⟩
  have HR : Hid (R = if s.data.toList.all digB then some (digsTo s.data.toList) else none) := by
    show _ = _
    rw [HS.out, if_neg]
    rw [h0]
    rintro (h | h | h)
    · exact h1 h
    · exact h3 h
    · exact h4 h
  clear HS
  have HL : Hid (∀ l : List UInt8, l.all digB = true → digsTo l < 10 ^ l.length) := digsTo_lt
  by_cases h5 : s[0] = 48
  case' pos =>
    have h6 : s = ⟨#[48]⟩ := one48 (by have : ¬ 1 < s.size := fun hh => h4 ⟨hh, h5⟩; omega) hz h5
    have h7 : (s.toList == [48]) = true := by rw [h6, ByteArray.toList_eq]; rfl
    clear h6
  case' neg =>
    have h7 : ((s[0].toNat : Int) == 48) = false := u8_ne h5
  all_goals
    go_enter Tryz.func184, Tryz.ntmps184
    go_wp2
    go_loop [3, 4] (fun m i => ∃ k : Nat, k ≤ s.size ∧ i = .int .i64 k ∧ m = .int .i64 (digsTo (s.data.toList.take k)) ∧ Hid ((s.data.toList.take k).all digB = true)) (fun _ i => s.size - (intOf i).toNat)
    case atStart => exact ⟨0, Nat.zero_le _, rfl, rfl, by show _ = _; simp⟩
    case round =>
      obtain ⟨k, hk, rfl, rfl, HA⟩ := hrel
      have hb2 : digsTo (s.data.toList.take k) < 1000 := Nat.lt_of_lt_of_le (HL.out _ HA.out) (by
        have : (s.data.toList.take k).length ≤ 3 := by simp; omega
        exact Nat.pow_le_pow_right (n := 10) (by decide) this)
      by_cases hlt : k < s.size
      · cases hb : digB s[k] with
        | true =>
          have hd := hb
          simp only [digB, Bool.and_eq_true, decide_eq_true_eq] at hd
          obtain ⟨hd1, hd2⟩ := hd
          have HT : Hid (digsTo (s.data.toList.take (k + 1)) = digsTo (s.data.toList.take k) * 10 + (s[k].toNat - 48)) := by show _ = _; rw [take_snoc s k hlt, digsTo_snoc]
          have HA2 : Hid ((s.data.toList.take (k + 1)).all digB = true) := by show _ = _; rw [take_snoc s k hlt]; simp [HA.out, hb]
          generalize digsTo (s.data.toList.take k) = D at *
          clear hb
          go_wp2
          go_round
          case rel => exact ⟨k + 1, by omega, by go_num, by rw [HT.out]; go_num, HA2⟩
          case measure => simp [intOf]; omega
        | false =>
          have hR : R = none := by rw [HR.out, all_at hlt hb]; rfl
          subst hR
          have hd : ¬ (48 ≤ (s[k].toNat : Int) ∧ (s[k].toNat : Int) ≤ 57) := by
            intro h
            simp [digB, h.1, h.2] at hb
          clear hb
          by_cases hd1 : (s[k].toNat : Int) < 48
          · go_wp2
            go_ret
            exact ⟨rfl, rfl⟩
          · have hd2 : (57 : Int) < s[k].toNat := by omega
            go_wp2
            go_ret
            exact ⟨rfl, rfl⟩
      · have hk2 : k = s.size := by omega
        subst hk2
        have e1 : s.data.toList.take s.size = s.data.toList := List.take_of_length_le (by simp)
        have HR2 : Hid (R = some (digsTo (s.data.toList.take s.size))) := by show _ = _; have hA := HA.out; rw [e1] at hA ⊢; rw [HR.out, if_pos hA]
        clear HR
        generalize digsTo (s.data.toList.take s.size) = D at *
        go_wp2
        go_ret
        exact ⟨by rw [HR2.out]; rfl, rfl⟩

/-- number: what it is and the place behind it; else -1: not whole, -2: none. -/
def numR (r : Nat × WS) : Int × Int := if r.2.wrong then (0, -2) else if r.2.short then (0, -1) else (r.1, r.2.pos)
def badN (lo hi : Nat) (b : UInt8) (n : Nat) (first : Bool) : Prop := digB b = false ∨ hi < n * 10 + (b.toNat - 48) ∨ (first = true ∧ b.toNat - 48 < lo) ∨ (first = false ∧ n = 0)
theorem countF_at {s : ByteArray} {lo hi q n : Nat} {first : Bool} (h : q < s.size) :
    (first = false → s[q] = 10 → countF s.data.toList lo hi (s.size - q) q n first = (n, ⟨q + 1, false, false⟩)) ∧
    (¬ (first = false ∧ s[q] = 10) → badN lo hi s[q] n first → countF s.data.toList lo hi (s.size - q) q n first = (0, ⟨q, true, false⟩)) ∧
    (¬ (first = false ∧ s[q] = 10) → ¬ badN lo hi s[q] n first → countF s.data.toList lo hi (s.size - q) q n first = countF s.data.toList lo hi (s.size - (q + 1)) (q + 1) (n * 10 + (s[q].toNat - 48)) false) := by
  obtain ⟨f, hf⟩ : ∃ f, s.size - q = f + 1 := ⟨s.size - q - 1, by omega⟩
  have hf2 : s.size - (q + 1) = f := by omega
  rw [hf, hf2]
  have e1 := getD_str h
  have e2 := byAt_str h
  refine ⟨fun h1 h2 => ?_, fun h1 h2 => ?_, fun h1 h2 => ?_⟩
  · unfold countF
    rw [e1, if_pos ⟨h1, h2⟩]
  · unfold countF
    unfold badN at h2
    rw [e1, e2, if_neg h1, if_pos h2]
  · conv => lhs; unfold countF
    unfold badN at h2
    rw [e1, e2, if_neg h1, if_neg h2]

set_option maxRecDepth 20000 in
set_option maxHeartbeats 4000000 in
theorem refnumber_any (s : ByteArray) (p lo hi : Nat) (w : World) (hs : s.size ≤ maxLen) (hp : p ≤ s.size) (hlo : lo ≤ 1) (hhi : hi ≤ 40) :
    Calls Tryz.prog 185 #[.string s, .int .i64 (p : Int), .int .i64 (lo : Int), .int .i64 (hi : Int)] w fun e w' => e = .returned (.tuple #[.int .i64 (numR (countF s.data.toList lo hi (s.size - p) p 0 true)).1, .int .i64 (numR (countF s.data.toList lo hi (s.size - p) p 0 true)).2]) ∧ w' = w := by
  unfold maxLen at hs
  have HR0 : Hid (countF s.data.toList lo hi (s.size - p) p 0 true = countF s.data.toList lo hi (s.size - p) p 0 true) := (show _ = _ from rfl)
  generalize hRR : countF s.data.toList lo hi (s.size - p) p 0 true = R at *
  have HR : Hid (countF s.data.toList lo hi (s.size - p) p 0 true = R) := hRR
  clear HR0 hRR
  go_enter Tryz.func185, Tryz.ntmps185
  go_wp2
  go_loop [1, 10, 11] (fun a n d => ∃ (q m k : Nat), a = .int .i64 q ∧ n = .int .i64 m ∧ d = .int .i64 k ∧ q ≤ s.size ∧ m ≤ 40 ∧ k ≤ q ∧ Hid (k = 0 → m = 0) ∧ Hid (countF s.data.toList lo hi (s.size - q) q m (decide (k = 0)) = R)) (fun a _ _ => s.size - (intOf a).toNat)
  case atStart => exact ⟨p, 0, 0, rfl, rfl, rfl, hp, by omega, by omega, fun _ => rfl, HR⟩
  case round =>
    obtain ⟨q, m, k, rfl, rfl, rfl, hq, hm, hkq, HK, HC⟩ := hrel
    by_cases hlt : q < s.size
    · obtain ⟨F1, F2, F3⟩ := countF_at (lo := lo) (hi := hi) (n := m) (first := decide (k = 0)) hlt
      have HF := hide' (And.intro F1 (And.intro F2 F3))
      clear F1 F2 F3
      have hb256 : s[q].toNat < 256 := UInt8.toNat_lt _
      by_cases h10 : s[q] = 10
      · by_cases hk0 : k = 0
        · -- no digit
          have hR : R = (0, ⟨q, true, false⟩) := by
            rw [← HC.out]
            exact HF.out.2.1 (by rintro ⟨h, _⟩; simp [hk0] at h) (.inl (by rw [h10]; decide))
          subst hR
          subst hk0
          clear HF HC HK HR
          go_wp2
          go_ret2
          exact ⟨rfl, rfl⟩
        · have hR : R = (m, ⟨q + 1, false, false⟩) := by
            rw [← HC.out]
            exact HF.out.1 (by simp [hk0]) h10
          subst hR
          have hk1 : (0 : Int) < k := by omega
          clear HF HC HK HR
          go_wp2
          go_ret2
          exact ⟨by simp [numR], rfl⟩
      · have hb10 : ((s[q].toNat : Int) == 10) = false := u8_ne h10
        have hn10 : ¬ (decide (k = 0) = false ∧ s[q] = 10) := fun h => h10 h.2
        cases hd : digB s[q] with
        | false =>
          have hR : R = (0, ⟨q, true, false⟩) := by
            rw [← HC.out]
            exact HF.out.2.1 hn10 (.inl hd)
          subst hR
          have hd' : ¬ (48 ≤ (s[q].toNat : Int) ∧ (s[q].toNat : Int) ≤ 57) := by
            intro h
            simp [digB, h.1, h.2] at hd
          clear HF HC HK HR hd hn10
          by_cases hd1 : (s[q].toNat : Int) < 48
          · go_wp2
            all_goals (go_ret2; exact ⟨rfl, rfl⟩)
          · have hd2 : (57 : Int) < s[q].toNat := by omega
            go_wp2
            all_goals (go_ret2; exact ⟨rfl, rfl⟩)
        | true =>
          have hdd := hd
          simp only [digB, Bool.and_eq_true, decide_eq_true_eq] at hdd
          obtain ⟨hd1, hd2⟩ := hdd
          have g1 : ¬ (s[q].toNat : Int) < 48 := by omega
          have g2 : ¬ (57 : Int) < s[q].toNat := by omega
          have wx : IntKind.i64.wrap (((s[q].toNat : Int) - 48)) = (s[q].toNat : Int) - 48 := wrap_small _ (by omega) (by omega)
          by_cases hk0 : k = 0
          · have hm0 : m = 0 := HK.out hk0
            subst hm0
            subst hk0
            by_cases hhi2 : hi < s[q].toNat - 48
            · have hR : R = (0, ⟨q, true, false⟩) := by
                rw [← HC.out]
                exact HF.out.2.1 hn10 (.inr (.inl (by omega)))
              subst hR
              have i1 : (hi : Int) < (s[q].toNat : Int) - 48 := by omega
              clear HF HC HK HR hd hn10
              go_wp2
              all_goals (go_ret2; exact ⟨rfl, rfl⟩)
            · have i1 : ¬ (hi : Int) < (s[q].toNat : Int) - 48 := by omega
              by_cases hlo2 : s[q].toNat - 48 < lo
              · have hR : R = (0, ⟨q, true, false⟩) := by
                  rw [← HC.out]
                  exact HF.out.2.1 hn10 (.inr (.inr (.inl ⟨rfl, hlo2⟩)))
                subst hR
                have i2 : (s[q].toNat : Int) - 48 < (lo : Int) := by omega
                clear HF HC HK HR hd hn10
                go_wp2
                all_goals (go_ret2; exact ⟨rfl, rfl⟩)
              · have i2 : ¬ (s[q].toNat : Int) - 48 < (lo : Int) := by omega
                have HN : Hid (countF s.data.toList lo hi (s.size - (q + 1)) (q + 1) (s[q].toNat - 48) (decide (1 = 0)) = R) := by
                  show _ = _
                  rw [← HC.out, HF.out.2.2 hn10 (by
                    rintro (h | h | h | h)
                    · rw [hd] at h; cases h
                    · omega
                    · omega
                    · cases h.1)]
                  simp
                clear HF HC HK hd hn10
                go_wp2
                all_goals go_round
                case rel => exact ⟨q + 1, s[q].toNat - 48, 1, by go_num, by go_num, by go_num, by omega, by omega, by omega, fun h => by omega, HN⟩
                case measure => simp [intOf]; omega
          · have hk1 : (0 : Int) < k := by omega
            have hkd : decide (k = 0) = false := by simp [hk0]
            by_cases hm0 : m = 0
            · have hR : R = (0, ⟨q, true, false⟩) := by
                rw [← HC.out]
                exact HF.out.2.1 hn10 (.inr (.inr (.inr ⟨hkd, hm0⟩)))
              subst hR
              subst hm0
              clear HF HC HK HR hd hn10 hkd
              go_wp2
              all_goals (go_ret2; exact ⟨rfl, rfl⟩)
            · have hm1 : ((m : Int) == 0) = false := by rw [beq_eq_false_iff_ne]; omega
              by_cases hhi2 : hi < m * 10 + (s[q].toNat - 48)
              · have hR : R = (0, ⟨q, true, false⟩) := by
                  rw [← HC.out]
                  exact HF.out.2.1 hn10 (.inr (.inl hhi2))
                subst hR
                have i1 : (hi : Int) < 10 * (m : Int) + ((s[q].toNat : Int) - 48) := by omega
                clear HF HC HK HR hd hn10 hkd
                go_wp2
                all_goals (go_ret2; exact ⟨rfl, rfl⟩)
              · have i1 : ¬ (hi : Int) < 10 * (m : Int) + ((s[q].toNat : Int) - 48) := by omega
                have i2 : ¬ 10 * (m : Int) + ((s[q].toNat : Int) - 48) < (lo : Int) := by omega
                have HN : Hid (countF s.data.toList lo hi (s.size - (q + 1)) (q + 1) (m * 10 + (s[q].toNat - 48)) (decide (k + 1 = 0)) = R) := by
                  show _ = _
                  rw [← HC.out, HF.out.2.2 hn10 (by
                    rintro (h | h | h | h)
                    · rw [hd] at h; cases h
                    · omega
                    · rw [hkd] at h; cases h.1
                    · omega)]
                  simp
                clear HF HC HK hd hn10 hkd
                go_wp2
                all_goals go_round
                case rel => exact ⟨q + 1, m * 10 + (s[q].toNat - 48), k + 1, by go_num, by go_num, by go_num, by omega, by omega, by omega, fun h => by omega, HN⟩
                case measure => simp [intOf]; omega
    · have hq2 : q = s.size := by omega
      subst hq2
      have hR : R = (0, ⟨s.size, false, true⟩) := by rw [← HC.out, Nat.sub_self]; rfl
      subst hR
      clear HC HK HR
      go_wp2
      go_ret2
      exact ⟨rfl, rfl⟩
end Go.Proofs.YtlonjggfnleolaaGreatDoor
