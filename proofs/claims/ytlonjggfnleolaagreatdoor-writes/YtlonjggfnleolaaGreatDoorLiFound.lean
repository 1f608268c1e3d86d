/-
  lines: Tell of an answer with values.
-/
import Derived.Test.YtlonjggfnleolaaGreatDoorLsRef
namespace Go.Proofs.YtlonjggfnleolaaGreatDoor
open Go.RowKit
set_option linter.unusedVariables false

theorem byteCells_append (l m : List UInt8) : Lib.byteCells (l ++ m) = Lib.byteCells l ++ Lib.byteCells m := by simp [Lib.byteCells]

set_option maxRecDepth 20000 in
set_option maxHeartbeats 4000000 in
theorem tellFound_any (a fa va : Option Addr) (n c fc vc : Nat) (ss : List ByteArray) (bs : List Bool) (vs : List ByteArray) (wd : ByteArray) (w : World) (hs : StrsIn w a n c ss) (hf : BoolsIn w fa n fc bs) (hv : StrsIn w va n vc vs) (hn : n ≤ 4) (hk8 : ∀ s ∈ ss, s.size ≤ 8) (hv40 : ∀ s ∈ vs, s.size ≤ 40) :
    Calls Tryz.prog 219 #[.slice a n c, ansV 1 (.slice fa n fc) (.slice va n vc) wd] w fun e w' => e = .returned (.string (liFold (bs.zip (ss.zip vs)) ++ ⟨#[101, 110, 100, 10]⟩)) ∧ Below w.heap.size w w' := by
  have HB1 := hide' (show ∀ x, Below w.heap.size w (w.alloc x) from fun x => (Below.refl _ _).alloc (Nat.le_refl _) _)
  have hc := hs.cap
  have hfc := hf.cap
  have hvc := hv.cap
  have HSx := hide' (fun W (h : Below w.heap.size w W) => (hs.later h).at)
  have HFx := hide' (fun W (h : Below w.heap.size w W) => (hf.later h).at)
  have HVx := hide' (fun W (h : Below w.heap.size w W) => (hv.later h).at)
  have HSL := hide' hs.len
  have HFL := hide' hf.len
  have HVL := hide' hv.len
  have HK8 := hide' hk8
  have HV40 := hide' hv40
  have hts : ∀ j : Nat, (liFold ((bs.zip (ss.zip vs)).take j)).size ≤ 236 := fun j => by
    have h1 := liFoldA_size ⟨#[]⟩ ((bs.zip (ss.zip vs)).take j) (fun p hp => by
      have hp := List.mem_of_mem_take hp
      have h2 := (List.of_mem_zip hp).2
      exact ⟨hk8 _ (List.of_mem_zip h2).1, hv40 _ (List.of_mem_zip h2).2⟩)
    have h2 : ((bs.zip (ss.zip vs)).take j).length ≤ 4 := by simp [hs.len, hf.len, hv.len]; omega
    have e0 : (ByteArray.mk #[]).size = 0 := rfl
    unfold liFold
    omega
  have HTS := hide' hts
  clear hs hf hv hk8 hv40 hts
  have HZ : Hid (∀ (j : Nat) f k v, bs[j]? = some f → ss[j]? = some k → vs[j]? = some v → (bs.zip (ss.zip vs))[j]? = some (f, k, v)) := fun j f k v a b c => by
    rw [List.getElem?_zip_eq_some]; exact ⟨a, by rw [List.getElem?_zip_eq_some]; exact ⟨b, c⟩⟩
  have HTL : Hid ((bs.zip (ss.zip vs)).take n = bs.zip (ss.zip vs)) := List.take_of_length_le (by simp; have := HFL.out; omega)
  generalize bs.zip (ss.zip vs) = ts at *
  unfold ansV at *
  have HI : Hid (∀ W : World, Lib.IsBuilder 123 5 W.heap.size W.heap.size [] (W.alloc (Obj.cells #[Value.pointer none, Value.slice none 0 0] 123))) := fun W => .inl ⟨Nat.le_refl _, .slice none 0 0, blkNew W _, World.ownsRow_nil _ _ _ _, by simp [Value.ownBlock]⟩
  go_enter Tryz.func219, Tryz.ntmps219
  go_wp2
  have H0 : Hid (Lib.IsBuilder 123 5 (w.heap.size + 1) (w.heap.size + 1) (Lib.byteCells (liFold (ts.take 0)).data.toList) ((w.alloc (.cells #[.int .i64 1, .slice fa n fc, .slice va n vc, .string wd] 91)).alloc (Obj.cells #[Value.pointer none, Value.slice none 0 0] 123)) ∧ Below (w.heap.size + 1) (w.alloc (.cells #[.int .i64 1, .slice fa n fc, .slice va n vc, .string wd] 91)) ((w.alloc (.cells #[.int .i64 1, .slice fa n fc, .slice va n vc, .string wd] 91)).alloc (Obj.cells #[Value.pointer none, Value.slice none 0 0] 123))) := by
    have h1 := HI.out (w.alloc (.cells #[.int .i64 1, .slice fa n fc, .slice va n vc, .string wd] 91))
    rw [World.size_alloc] at h1
    exact ⟨h1, (Below.refl _ _).alloc (by simp) _⟩
  go_loopw [10] (fun i wr => ∃ j : Nat, j ≤ n ∧ i = .int .i64 j ∧ Hid (Lib.IsBuilder 123 5 (w.heap.size + 1) (w.heap.size + 1) (Lib.byteCells (liFold (ts.take j)).data.toList) wr ∧ Below (w.heap.size + 1) (w.alloc (.cells #[.int .i64 1, .slice fa n fc, .slice va n vc, .string wd] 91)) wr)) (fun i _ => n - (intOf i).toNat)
  case atStart => exact ⟨0, Nat.zero_le _, rfl, H0⟩
  case round =>
    obtain ⟨j, hj, rfl, HJ⟩ := hrel
    have HBW : Hid (Below w.heap.size w wr) := (HB1.out _).trans (HJ.out.2.mono (by omega))
    have hsz : w.heap.size + 1 ≤ wr.heap.size := by have := HJ.out.2.size; simpa using this
    have hsz' : w.heap.size < wr.heap.size := by omega
    by_cases hlt : j < n
    · obtain ⟨k, hk⟩ : ∃ x, ss[j]? = some x := ⟨ss[j]'(by rw [HSL.out]; exact hlt), List.getElem?_eq_getElem _⟩
      obtain ⟨f, hf⟩ : ∃ x, bs[j]? = some x := ⟨bs[j]'(by rw [HFL.out]; exact hlt), List.getElem?_eq_getElem _⟩
      obtain ⟨x, hx⟩ : ∃ x, vs[j]? = some x := ⟨vs[j]'(by rw [HVL.out]; exact hlt), List.getElem?_eq_getElem _⟩
      have HX := hide' (liFold_step (HZ.out j f k x hf hk hx))
      have hm := HK8.out k (List.mem_of_getElem? hk)
      have hx40 := HV40.out x (List.mem_of_getElem? hx)
      obtain ⟨kb, ko, rfl, hkb, hkc⟩ := HSx.out wr HBW.out j k hk
      obtain ⟨fb, fo, rfl, hfb, hfcc⟩ := HFx.out wr HBW.out j f hf
      obtain ⟨vb, vo, rfl, hvb, hvcc⟩ := HVx.out wr HBW.out j x hx
      have q1 : wr.cell? ⟨w.heap.size, 1, none⟩ = some (.slice (some ⟨fb, fo, none⟩) n fc) := by
        rw [HJ.out.2.cell (p := ⟨w.heap.size, 1, none⟩) (by simp)]; go_simp
      have q2 : wr.cell? ⟨w.heap.size, 2, none⟩ = some (.slice (some ⟨vb, vo, none⟩) n vc) := by
        rw [HJ.out.2.cell (p := ⟨w.heap.size, 2, none⟩) (by simp)]; go_simp
      clear hk hf hx HSx HFx HVx HZ
      have hzs := sizedB_size hx40
      have hln := HTS.out j
      have hl5 : (liFold (ts.take j)).data.toList.length ≤ 236 := by rw [len_size]; exact hln
      cases f with
      | true =>
        have hvz : (ByteArray.mk #[118, 97, 108, 117, 101, 32] ++ k ++ ByteArray.mk #[32] ++ sizedB x).size ≤ 59 := valB_size (p := (true, k, x)) hm hx40
        have HY : Hid (Lib.byteCells (liFold (ts.take j)).data.toList ++ Lib.strCells (ByteArray.mk #[118, 97, 108, 117, 101, 32] ++ k ++ ByteArray.mk #[32] ++ sizedB x) = Lib.byteCells (liFold (ts.take (j + 1))).data.toList) := by
          show _ = _
          rw [HX.out, Lib.strCells_eq, ← byteCells_append]
          congr 1
        clear HX
        have g1 : ¬ 9223372036854775807 < 6 + k.size := by omega
        have g2 : ¬ 9223372036854775807 < 6 + k.size + 1 := by omega
        have g3 : ¬ 9223372036854775807 < 6 + k.size + 1 + (sizedB x).size := by omega
        go_wp2_with fail
        go_at_call 215
        refine (sized_any' x _ (by omega)).mono ?_
        rintro e w3 ⟨rfl, hw3⟩
        subst hw3
        go_wp2_with fail
        go_at_call 128
        generalize (ByteArray.mk #[118, 97, 108, 117, 101, 32] ++ k ++ ByteArray.mk #[32] ++ sizedB x) = V at *
        refine (Tryz.writeString (w.heap.size + 1) (w.heap.size + 1) _ V _ HJ.out.1 ?hl1 ?hl2).mono ?_
        case hl1 => rw [Lib.byteCells_length]; omega
        case hl2 => exact hsz
        rintro e w4 ⟨rfl, hBA, hb4⟩
        rw [HY.out] at hBA
        have HN4 : Hid (Lib.IsBuilder 123 5 (w.heap.size + 1) (w.heap.size + 1) (Lib.byteCells (liFold (ts.take (j + 1))).data.toList) w4 ∧ Below (w.heap.size + 1) (w.alloc (.cells #[.int .i64 1, .slice (some ⟨fb, fo, none⟩) n fc, .slice (some ⟨vb, vo, none⟩) n vc, .string wd] 91)) w4) := ⟨.inr hBA, HJ.out.2.trans hb4⟩
        clear hBA hb4
        go_wp2
        go_roundw
        case rel => exact ⟨j + 1, by omega, by go_num, HN4⟩
        case measure => simp [intOf]; omega
      | false =>
        have HN4 : Hid (Lib.IsBuilder 123 5 (w.heap.size + 1) (w.heap.size + 1) (Lib.byteCells (liFold (ts.take (j + 1))).data.toList) wr ∧ Below (w.heap.size + 1) (w.alloc (.cells #[.int .i64 1, .slice (some ⟨fb, fo, none⟩) n fc, .slice (some ⟨vb, vo, none⟩) n vc, .string wd] 91)) wr) := by
          have e : liFold (ts.take (j + 1)) = liFold (ts.take j) := by rw [HX.out]; apply ba_ext; simp [valB]
          rw [e]; exact HJ.out
        clear HX
        go_wp2
        go_roundw
        case rel => exact ⟨j + 1, by omega, by go_num, HN4⟩
        case measure => simp [intOf]; omega
    · have hj2 : j = n := by omega
      subst hj2
      have hln := HTS.out j
      have HR := hide' (show ByteArray.mk (liFold (ts.take j)).data.toList.toArray ++ ⟨#[101, 110, 100, 10]⟩ = liFold ts ++ ⟨#[101, 110, 100, 10]⟩ by rw [HTL.out])
      have hz6 : (ByteArray.mk (liFold (ts.take j)).data.toList.toArray).size ≤ 236 := by simpa using hln
      go_wp2_with fail
      go_at_call 57
      refine (Tryz.Builder_String_any (w.heap.size + 1) (w.heap.size + 1) _ _ HJ.out.1 hsz).mono ?_
      rintro e w5 ⟨rfl, hb5⟩
      have HE : Hid (Below w.heap.size w w5) := HBW.out.trans (hb5.mono (by omega))
      clear hb5
      generalize ByteArray.mk (liFold (ts.take j)).data.toList.toArray = S at *
      go_wp2
      go_ret
      exact ⟨ret_str HR.out, HE.out⟩
end Go.Proofs.YtlonjggfnleolaaGreatDoor
