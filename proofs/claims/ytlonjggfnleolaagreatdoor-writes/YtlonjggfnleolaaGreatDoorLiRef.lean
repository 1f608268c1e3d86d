/-
  The reference: lines, of an answer with values.
-/
import Derived.Test.YtlonjggfnleolaaGreatDoorPlTell
namespace Go.Proofs.YtlonjggfnleolaaGreatDoor
open Go.RowKit
set_option linter.unusedVariables false

/-- What lines tell of one key. -/
def valB (p : Bool × ByteArray × ByteArray) : ByteArray := bif p.1 then ⟨#[118, 97, 108, 117, 101, 32]⟩ ++ p.2.1 ++ ⟨#[32]⟩ ++ sizedB p.2.2 else ⟨#[]⟩
def liFold (ts : List (Bool × ByteArray × ByteArray)) : ByteArray := ts.foldl (fun s p => s ++ valB p) ⟨#[]⟩
theorem valB_size {p : Bool × ByteArray × ByteArray} (hk : p.2.1.size ≤ 8) (hv : p.2.2.size ≤ 40) : (valB p).size ≤ 59 := by
  have := sizedB_size hv
  have e1 : (ByteArray.mk #[118, 97, 108, 117, 101, 32]).size = 6 := rfl
  have e2 : (ByteArray.mk #[32]).size = 1 := rfl
  unfold valB
  cases p.1
  · exact Nat.zero_le _
  · show (_ ++ _ ++ _ ++ _ : ByteArray).size ≤ _
    rw [ByteArray.size_append, ByteArray.size_append, ByteArray.size_append]
    omega
theorem liFoldA_size (a : ByteArray) (ts : List (Bool × ByteArray × ByteArray)) (h : ∀ p ∈ ts, p.2.1.size ≤ 8 ∧ p.2.2.size ≤ 40) : (ts.foldl (fun s p => s ++ valB p) a).size ≤ a.size + 59 * ts.length := by
  induction ts generalizing a with
  | nil => simp
  | cons x t ih =>
    have h1 := ih (a ++ valB x) (fun s hs => h s (List.mem_cons_of_mem _ hs))
    have h2 := h x (List.mem_cons_self ..)
    have h3 := valB_size h2.1 h2.2
    rw [ByteArray.size_append] at h1
    rw [List.foldl_cons, List.length_cons]
    omega
theorem liFold_step {ts : List (Bool × ByteArray × ByteArray)} {j : Nat} {p : Bool × ByteArray × ByteArray} (h : ts[j]? = some p) : liFold (ts.take (j + 1)) = liFold (ts.take j) ++ valB p := by
  rw [List.take_add_one, h]; simp [liFold, List.foldl_append]

set_option maxRecDepth 20000 in
set_option maxHeartbeats 2000000 in
theorem refLines_found (a fa va : Option Addr) (n c fc vc : Nat) (ss : List ByteArray) (bs : List Bool) (vs : List ByteArray) (val cw : ByteArray) (ft : Bool) (cid : Int) (wd : ByteArray) (w : World) (hs : StrsIn w a n c ss) (hf : BoolsIn w fa n fc bs) (hv : StrsIn w va n vc vs) (hn : n ≤ 4) (hk8 : ∀ s ∈ ss, s.size ≤ 8) (hv40 : ∀ s ∈ vs, s.size ≤ 40) :
    Calls Tryz.prog 145 #[cmdV6 1 (.slice a n c) val cw ft cid, ansV 1 (.slice fa n fc) (.slice va n vc) wd] w fun e w' => e = .returned (.string (liFold (bs.zip (ss.zip vs)) ++ ⟨#[101, 110, 100, 10]⟩)) ∧ Below w.heap.size w w' := by
  have HB2 := hide' (show ∀ x y, Below w.heap.size w ((w.alloc x).alloc y) from fun x y => ((Below.refl _ _).alloc (Nat.le_refl _) _).alloc (by simp) _)
  have hc := hs.cap
  have hfc := hf.cap
  have hvc := hv.cap
  have HSx := hide' (fun x y => (hs.later (HB2.out x y)).at)
  have HFx := hide' (fun x y => (hf.later (HB2.out x y)).at)
  have HVx := hide' (fun x y => (hv.later (HB2.out x y)).at)
  have HSL := hide' hs.len
  have HFL := hide' hf.len
  have HVL := hide' hv.len
  have HK8 := hide' hk8
  have HV40 := hide' hv40
  have HQ : Hid (∀ (x : ByteArray) (W : World), x.size < 100 → Calls Tryz.prog 142 #[.int .i64 x.size] W fun e w' => e = .returned (.string (dec100 x.size)) ∧ ∃ q, w' = W.drewN q) := fun x W h => decimal_any x.size W h
  have hts : ∀ j : Nat, (liFold ((bs.zip (ss.zip vs)).take j)).size ≤ 236 := fun j => by
    have h1 := liFoldA_size ⟨#[]⟩ ((bs.zip (ss.zip vs)).take j) (fun p hp => by
      have hp := List.mem_of_mem_take hp
      have h2 := (List.of_mem_zip hp).2
      exact ⟨hk8 _ (List.of_mem_zip h2).1, hv40 _ (List.of_mem_zip h2).2⟩)
    have h2 : ((bs.zip (ss.zip vs)).take j).length ≤ 4 := by simp [hs.len, hf.len, hv.len]; omega
    have e0 : (ByteArray.mk #[]).size = 0 := rfl
    unfold liFold
    omega
  have HTS := hide' hts
  clear hs hf hv hk8 hv40 hts
  have HZ : Hid (∀ (j : Nat) f k v, bs[j]? = some f → ss[j]? = some k → vs[j]? = some v → (bs.zip (ss.zip vs))[j]? = some (f, k, v)) := fun j f k v a b c => by
    rw [List.getElem?_zip_eq_some]; exact ⟨a, by rw [List.getElem?_zip_eq_some]; exact ⟨b, c⟩⟩
  have HTL : Hid ((bs.zip (ss.zip vs)).take n = bs.zip (ss.zip vs)) := List.take_of_length_le (by simp; have := HFL.out; omega)
  generalize bs.zip (ss.zip vs) = ts at *
  unfold cmdV6 ansV at *
  go_enter Tryz.func145, Tryz.ntmps145
  go_wp2
  go_loopw [5, 6] (fun s i wr => ∃ j q : Nat, j ≤ n ∧ i = .int .i64 j ∧ s = .string (liFold (ts.take j)) ∧ wr = ((w.alloc (.cells #[.int .i64 1, .slice a n c, .string val, .string cw, .bool ft, .int .i64 cid] 36)).alloc (.cells #[.int .i64 1, .slice fa n fc, .slice va n vc, .string wd] 91)).drewN q) (fun _ i _ => n - (intOf i).toNat)
  case atStart => exact ⟨0, 0, Nat.zero_le _, rfl, rfl, rfl⟩
  case round =>
    obtain ⟨j, q, hj, rfl, rfl, rfl⟩ := hrel
    have hzj := HTS.out j
    by_cases hlt : j < n
    · obtain ⟨k, hk⟩ : ∃ x, ss[j]? = some x := ⟨ss[j]'(by rw [HSL.out]; exact hlt), List.getElem?_eq_getElem _⟩
      obtain ⟨f, hf⟩ : ∃ x, bs[j]? = some x := ⟨bs[j]'(by rw [HFL.out]; exact hlt), List.getElem?_eq_getElem _⟩
      obtain ⟨x, hx⟩ : ∃ x, vs[j]? = some x := ⟨vs[j]'(by rw [HVL.out]; exact hlt), List.getElem?_eq_getElem _⟩
      have HX := hide' (liFold_step (HZ.out j f k x hf hk hx))
      have hm := HK8.out k (List.mem_of_getElem? hk)
      have hx40 := HV40.out x (List.mem_of_getElem? hx)
      obtain ⟨kb, ko, rfl, hkb, hkc⟩ := HSx.out (.cells #[.int .i64 1, .slice a n c, .string val, .string cw, .bool ft, .int .i64 cid] 36) (.cells #[.int .i64 1, .slice fa n fc, .slice va n vc, .string wd] 91) j k hk
      obtain ⟨fb, fo, rfl, hfb, hfcc⟩ := HFx.out (.cells #[.int .i64 1, .slice (some ⟨kb, ko, none⟩) n c, .string val, .string cw, .bool ft, .int .i64 cid] 36) (.cells #[.int .i64 1, .slice fa n fc, .slice va n vc, .string wd] 91) j f hf
      obtain ⟨vb, vo, rfl, hvb, hvcc⟩ := HVx.out (.cells #[.int .i64 1, .slice (some ⟨kb, ko, none⟩) n c, .string val, .string cw, .bool ft, .int .i64 cid] 36) (.cells #[.int .i64 1, .slice (some ⟨fb, fo, none⟩) n fc, .slice va n vc, .string wd] 91) j x hx
      clear hk hf hx HSx HFx HVx HZ
      have dz := dec100_size x.size
      generalize liFold (ts.take j) = S at *
      cases f with
      | true =>
        have HY := hide' (show S ++ ⟨#[118, 97, 108, 117, 101, 32]⟩ ++ k ++ ⟨#[32]⟩ ++ dec100 x.size ++ ⟨#[10]⟩ ++ x ++ ⟨#[10]⟩ = liFold (ts.take (j + 1)) by rw [HX.out]; simp [valB, sizedB, ByteArray.append_assoc])
        clear HX
        have g1 : ¬ 9223372036854775807 < S.size + 6 := by omega
        have g2 : ¬ 9223372036854775807 < S.size + 6 + k.size := by omega
        have g3 : ¬ 9223372036854775807 < S.size + 6 + k.size + 1 := by omega
        have g4 : ¬ 9223372036854775807 < S.size + 6 + k.size + 1 + (dec100 x.size).size := by omega
        have g5 : ¬ 9223372036854775807 < S.size + 6 + k.size + 1 + (dec100 x.size).size + 1 := by omega
        have g6 : ¬ 9223372036854775807 < S.size + 6 + k.size + 1 + (dec100 x.size).size + 1 + x.size := by omega
        have g7 : ¬ 9223372036854775807 < S.size + 6 + k.size + 1 + (dec100 x.size).size + 1 + x.size + 1 := by omega
        go_wp2
        go_quiet ((go_at_call 142; refine (HQ.out x _ (by omega)).mono ?_; rintro e w9 ⟨rfl, m9, rfl⟩; refine ⟨rfl, ?_⟩; simp only [World.drewN_drewN, Nat.add_assoc]; exact ⟨_, rfl⟩))
        go_wp2
        go_round
        case rel => exact ⟨j + 1, _, by omega, by go_num, by rw [HY.out], rfl⟩
        case measure => simp [intOf]; omega
      | false =>
        have HY := hide' (show S = liFold (ts.take (j + 1)) by rw [HX.out]; apply ba_ext; simp [valB])
        clear HX
        go_wp2
        go_round
        case rel => exact ⟨j + 1, _, by omega, by go_num, by rw [HY.out], rfl⟩
        case measure => simp [intOf]; omega
    · have hj2 : j = n := by omega
      subst hj2
      go_wp2
      go_ret
      exact ⟨ret_str (by rw [HTL.out]), below_drewN (HB2.out _ _) _⟩
end Go.Proofs.YtlonjggfnleolaaGreatDoor
