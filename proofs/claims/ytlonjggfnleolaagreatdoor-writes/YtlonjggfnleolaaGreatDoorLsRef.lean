/-
  The reference: lists, of an answer with values.
-/
import Derived.Test.YtlonjggfnleolaaGreatDoorLiRef
namespace Go.Proofs.YtlonjggfnleolaaGreatDoor
open Go.RowKit
set_option linter.unusedVariables false

/-- What lists tell of one key. -/
def tvB (p : Bool × ByteArray) : ByteArray := bif p.1 then textB p.2 else ⟨#[36, 45, 49, 10]⟩
def lsFold (ts : List (Bool × ByteArray)) : ByteArray := ts.foldl (fun s p => s ++ tvB p) ⟨#[]⟩
def lsVals (n : Nat) (ts : List (Bool × ByteArray)) : ByteArray := if n = 1 then lsFold ts else ⟨#[42]⟩ ++ dec100 n ++ ⟨#[10]⟩ ++ lsFold ts
theorem tvB_size {p : Bool × ByteArray} (hv : p.2.size ≤ 40) : (tvB p).size ≤ 45 := by
  have := textB_size hv
  unfold tvB
  cases p.1
  · show (ByteArray.mk #[36, 45, 49, 10]).size ≤ 45; decide
  · exact this
theorem lsFoldA_size (a : ByteArray) (ts : List (Bool × ByteArray)) (h : ∀ p ∈ ts, p.2.size ≤ 40) : (ts.foldl (fun s p => s ++ tvB p) a).size ≤ a.size + 45 * ts.length := by
  induction ts generalizing a with
  | nil => simp
  | cons x t ih =>
    have h1 := ih (a ++ tvB x) (fun s hs => h s (List.mem_cons_of_mem _ hs))
    have h3 := tvB_size (h x (List.mem_cons_self ..))
    rw [ByteArray.size_append] at h1
    rw [List.foldl_cons, List.length_cons]
    omega
theorem lsFold_step {ts : List (Bool × ByteArray)} {j : Nat} {p : Bool × ByteArray} (h : ts[j]? = some p) : lsFold (ts.take (j + 1)) = lsFold (ts.take j) ++ tvB p := by
  rw [List.take_add_one, h]; simp [lsFold, List.foldl_append]

set_option maxRecDepth 20000 in
set_option maxHeartbeats 2000000 in
theorem refLists_found (fa va : Option Addr) (n fc vc : Nat) (bs : List Bool) (vs : List ByteArray) (wd : ByteArray) (w : World) (hf : BoolsIn w fa n fc bs) (hv : StrsIn w va n vc vs) (hn : n ≤ 4) (hv40 : ∀ s ∈ vs, s.size ≤ 40) :
    Calls Tryz.prog 147 #[ansV 1 (.slice fa n fc) (.slice va n vc) wd] w fun e w' => e = .returned (.string (lsVals n (bs.zip vs))) ∧ Below w.heap.size w w' := by
  have HB := hide' (show ∀ x, Below w.heap.size w (w.alloc x) from fun x => (Below.refl _ _).alloc (Nat.le_refl _) _)
  have hfc := hf.cap
  have hvc := hv.cap
  have HFx := hide' (fun x => (hf.later (HB.out x)).at)
  have HVx := hide' (fun x => (hv.later (HB.out x)).at)
  have HFL := hide' hf.len
  have HVL := hide' hv.len
  have HV40 := hide' hv40
  have HT : Hid (∀ (x : ByteArray) (W : World), x.size < 100 → Calls Tryz.prog 143 #[.string x] W fun e w' => e = .returned (.string (textB x)) ∧ ∃ q, w' = W.drewN q) := fun x W hx => refText_any x W hx
  have HQ : Hid (∀ W : World, Calls Tryz.prog 142 #[.int .i64 n] W fun e w' => e = .returned (.string (dec100 n)) ∧ ∃ q, w' = W.drewN q) := fun W => decimal_any n W (by omega)
  have hts : ∀ j : Nat, (lsFold ((bs.zip vs).take j)).size ≤ 180 := fun j => by
    have h1 := lsFoldA_size ⟨#[]⟩ ((bs.zip vs).take j) (fun p hp => hv40 _ (List.of_mem_zip (List.mem_of_mem_take hp)).2)
    have h2 : ((bs.zip vs).take j).length ≤ 4 := by simp [hf.len, hv.len]; omega
    have e0 : (ByteArray.mk #[]).size = 0 := rfl
    unfold lsFold
    omega
  have HTS := hide' hts
  clear hf hv hv40 hts
  have HZ : Hid (∀ (j : Nat) f v, bs[j]? = some f → vs[j]? = some v → (bs.zip vs)[j]? = some (f, v)) := fun j f v a c => by
    rw [List.getElem?_zip_eq_some]; exact ⟨a, c⟩
  have HTL : Hid ((bs.zip vs).take n = bs.zip vs) := List.take_of_length_le (by simp; have := HFL.out; omega)
  generalize bs.zip vs = ts at *
  unfold ansV at *
  go_enter Tryz.func147, Tryz.ntmps147
  go_wp2
  go_loopw [3, 4] (fun s i wr => ∃ j q : Nat, j ≤ n ∧ i = .int .i64 j ∧ s = .string (lsFold (ts.take j)) ∧ wr = (w.alloc (.cells #[.int .i64 1, .slice fa n fc, .slice va n vc, .string wd] 91)).drewN q) (fun _ i _ => n - (intOf i).toNat)
  case atStart => exact ⟨0, 0, Nat.zero_le _, rfl, rfl, rfl⟩
  case round =>
    obtain ⟨j, q, hj, rfl, rfl, rfl⟩ := hrel
    have hzj := HTS.out j
    by_cases hlt : j < n
    · obtain ⟨f, hf⟩ : ∃ x, bs[j]? = some x := ⟨bs[j]'(by rw [HFL.out]; exact hlt), List.getElem?_eq_getElem _⟩
      obtain ⟨x, hx⟩ : ∃ x, vs[j]? = some x := ⟨vs[j]'(by rw [HVL.out]; exact hlt), List.getElem?_eq_getElem _⟩
      have HX := hide' (lsFold_step (HZ.out j f x hf hx))
      have hx40 := HV40.out x (List.mem_of_getElem? hx)
      obtain ⟨fb, fo, rfl, hfb, hfcc⟩ := HFx.out (.cells #[.int .i64 1, .slice fa n fc, .slice va n vc, .string wd] 91) j f hf
      obtain ⟨vb, vo, rfl, hvb, hvcc⟩ := HVx.out (.cells #[.int .i64 1, .slice (some ⟨fb, fo, none⟩) n fc, .slice va n vc, .string wd] 91) j x hx
      clear hf hx HFx HVx HZ
      have tx := textB_size (s := x) (by omega)
      generalize lsFold (ts.take j) = S at *
      cases f with
      | true =>
        have HY := hide' (show S ++ textB x = lsFold (ts.take (j + 1)) by rw [HX.out]; rfl)
        clear HX
        go_wp2_with fail
        go_at_call 143
        refine (HT.out x _ (by omega)).mono ?_
        rintro e w4 ⟨rfl, q4, rfl⟩
        go_wp2
        go_round
        case rel => exact ⟨j + 1, _, by omega, by go_num, by rw [HY.out], rfl⟩
        case measure => simp [intOf]; omega
      | false =>
        have HY := hide' (show S ++ ⟨#[36, 45, 49, 10]⟩ = lsFold (ts.take (j + 1)) by rw [HX.out]; rfl)
        clear HX
        go_wp2
        go_round
        case rel => exact ⟨j + 1, _, by omega, by go_num, by rw [HY.out], rfl⟩
        case measure => simp [intOf]; omega
    · have hj2 : j = n := by omega
      subst hj2
      by_cases h1 : j = 1
      · subst h1
        have HR := hide' (show lsFold (ts.take 1) = lsVals 1 ts by unfold lsVals; rw [if_pos rfl, HTL.out])
        go_wp2
        go_ret
        exact ⟨ret_str HR.out, below_drewN (HB.out _) _⟩
      · have h1' : ((j : Int) == 1) = false := by simp; omega
        have HR := hide' (show ⟨#[42]⟩ ++ dec100 j ++ ⟨#[10]⟩ ++ lsFold (ts.take j) = lsVals j ts by unfold lsVals; rw [if_neg h1, HTL.out])
        have dz := dec100_size j
        go_wp2_with fail
        go_at_call 142
        refine (HQ.out _).mono ?_
        rintro e w4 ⟨rfl, q4, rfl⟩
        go_wp2
        go_ret
        exact ⟨ret_str HR.out, below_drewN (HB.out _) _⟩
end Go.Proofs.YtlonjggfnleolaaGreatDoor
