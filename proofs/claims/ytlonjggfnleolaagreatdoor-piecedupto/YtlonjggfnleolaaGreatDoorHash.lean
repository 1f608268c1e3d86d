/-
  What the reference Hash and decimal answer: the same as ring.Number and strconv.Itoa below 100.
-/
import Derived.Test.YtlonjggfnleolaaGreatDoorRing
import Derived.Deep.QuietTactic
import Derived.BigQuiet
import Derived.Laws.BitsAllLaws
namespace Go.Proofs.YtlonjggfnleolaaGreatDoor
open Go.RowKit
set_option linter.unusedVariables false

theorem i64_xor_nat (a b : Nat) (ha : a < 4294967296) (hb : b < 4294967296) : bits .xor .i64 (a : Int) (b : Int) = ((a ^^^ b : Nat) : Int) := by
  have hx : a ^^^ b < 2 ^ 32 := Nat.xor_lt_two_pow (by omega) (by omega)
  show IntKind.i64.wrap ((BitVec.ofInt 64 (a : Int) ^^^ BitVec.ofInt 64 (b : Int)).toNat : Int) = _
  rw [BitVec.toNat_xor, ofInt_u64 a (by omega), ofInt_u64 b (by omega)]
  simp [IntKind.wrap, IntKind.bits, IntKind.signed]
  omega

theorem hashTo_bd (l : List UInt8) : 0 ≤ hashTo l ∧ hashTo l < 4294967296 := by
  unfold hashTo
  have : ∀ (l : List UInt8) (h : Int), 0 ≤ h ∧ h < 4294967296 → 0 ≤ l.foldl hstep h ∧ l.foldl hstep h < 4294967296 := by
    intro l
    induction l with
    | nil => exact fun h hh => hh
    | cons b l ih => intro h _; exact ih _ (by unfold hstep; omega)
  exact this l _ (by omega)

theorem xor_same (h : Int) (b : UInt8) (h1 : 0 ≤ h) (h2 : h < 4294967296) : ∃ X : Int, 0 ≤ X ∧ X < 4294967296 ∧ bits .xor .i64 h (b.toNat : Int) = X ∧ hstep h b = X * 16777619 % 4294967296 := by
  obtain ⟨n, rfl⟩ := Int.eq_ofNat_of_zero_le h1
  have hb : b.toNat < 256 := b.toNat_lt
  have e : (b.toNat : Int) % 4294967296 = (b.toNat : Int) := by omega
  have hx : n ^^^ b.toNat < 2 ^ 32 := Nat.xor_lt_two_pow (by omega) (by omega)
  refine ⟨((n ^^^ b.toNat : Nat) : Int), by omega, by omega, i64_xor_nat n b.toNat (by omega) (by omega), ?_⟩
  unfold hstep
  rw [e, u32_xor_nat n b.toNat (by omega) (by omega)]

theorem ref_step (h : Int) (b : UInt8) (h1 : 0 ≤ h) (h2 : h < 4294967296) : (wrap64 (bits .xor .i64 h (wrap64 (b.toNat : Int)) * 16777619)).tmod 4294967296 = hstep h b := by
  obtain ⟨X, x1, x2, hx, hy⟩ := xor_same h b h1 h2
  have hb : b.toNat < 256 := b.toNat_lt
  have e1 : wrap64 (b.toNat : Int) = (b.toNat : Int) := by unfold wrap64; omega
  have e2 : wrap64 (X * 16777619) = X * 16777619 := by unfold wrap64; omega
  rw [e1, hx, e2, hy, Int.tmod_eq_emod_of_nonneg (by omega)]

set_option maxHeartbeats 400000 in
theorem hash_any (s : ByteArray) (w : World) (hs : s.size ≤ maxLen) :
    Calls Tryz.prog 164 #[.string s] w fun e w' => e = .returned (.int .i64 (num s.data.toList)) ∧ w' = w := by
  unfold maxLen at hs
  go_enter Tryz.func164, Tryz.ntmps164
  go_wp2
  go_loop [3, 4] (fun h i => ∃ k : Nat, k ≤ s.size ∧ i = .int .i64 k ∧ h = .int .i64 (hashTo (s.data.toList.take k))) (fun _ i => s.size - (intOf i).toNat)
  case atStart => exact ⟨0, Nat.zero_le _, rfl, rfl⟩
  case round =>
    obtain ⟨k, hk, rfl, rfl⟩ := hrel
    obtain ⟨b1, b2⟩ := hashTo_bd (s.data.toList.take k)
    by_cases hlt : k < s.size
    · have HY : Hid ((wrap64 (bits .xor .i64 (hashTo (s.data.toList.take k)) (wrap64 (s[k].toNat : Int)) * 16777619)).tmod 4294967296 = hashTo (s.data.toList.take (k + 1))) := by
        show _ = _
        rw [ref_step _ _ b1 b2, take_snoc s k hlt]; simp [hashTo]
      generalize hh : hashTo (s.data.toList.take k) = h at *
      clear hh
      go_wp2
      go_round
      case rel => exact ⟨k + 1, by omega, by go_num, by rw [HY.out]⟩
      case measure => simp [intOf]; omega
    · have HN : Hid (num s.data.toList = hashTo (s.data.toList.take k) * 16777619 % 4294967296) := by
        show _ = _
        rw [List.take_of_length_le (by simp; omega)]; rfl
      generalize hashTo (s.data.toList.take k) = h at *
      go_wp2
      go_ret
      exact ⟨ret_int HN.out.symm, rfl⟩

def digs10 : ByteArray := ⟨#[48, 49, 50, 51, 52, 53, 54, 55, 56, 57]⟩
theorem digs10_at : ∀ n : Nat, n < 10 → digs10.extract n (n + 1) = dec100 n := by decide +kernel
theorem dec_two : ∀ n : Nat, n < 100 → ¬ n < 10 → dec100 (n / 10) ++ digs10.extract (n % 10) (n % 10 + 1) = dec100 n := by decide +kernel

set_option maxHeartbeats 400000 in
theorem decimal1 (n : Nat) (w : World) (hn : n < 10) :
    Calls Tryz.prog 142 #[.int .i64 n] w fun e w' => e = .returned (.string (dec100 n)) ∧ w' = w := by
  go_enter Tryz.func142, Tryz.ntmps142
  go_wp2
  go_ret
  exact ⟨ret_str (digs10_at n hn), rfl⟩

theorem decimal1' (m : Int) (n : Nat) (w : World) (hm : m = n) (hn : n < 10) :
    Calls Tryz.prog 142 #[.int .i64 m] w fun e w' => e = .returned (.string (dec100 n)) ∧ w' = w := by
  subst hm; exact decimal1 n w hn

set_option maxHeartbeats 400000 in
theorem decimal_any (n : Nat) (w : World) (hn : n < 100) :
    Calls Tryz.prog 142 #[.int .i64 n] w fun e w' => e = .returned (.string (dec100 n)) ∧ ∃ q, w' = w.drewN q := by
  by_cases h : n < 10
  · exact (decimal1 n w h).mono fun e w' ⟨he, hw⟩ => ⟨he, 0, by rw [hw]; rfl⟩
  · have HD := dec_two n hn h
    have hq : n / 10 < 10 := by omega
    have hr : n % 10 < 10 := by omega
    have hc := dec100_size (n / 10)
    have hNl : ¬ (n : Int) < 10 := by omega
    have HH : Hid (dec100 (n / 10) ++ digs10.extract (n % 10) (n % 10 + 1) = dec100 n) := HD
    clear HD
    go_enter Tryz.func142, Tryz.ntmps142
    go_wp2
    go_quiet ((go_at_call 142; exact Calls.quiet_of_same (decimal1' _ (n / 10) _ (by omega) hq)))
    go_wp2
    go_ret

    exact ⟨ret_str HH.out, _, rfl⟩
end Go.Proofs.YtlonjggfnleolaaGreatDoor
