/-
  lists: Tell of an answer with values.
-/
import Derived.Test.YtlonjggfnleolaaGreatDoorLiFound
namespace Go.Proofs.YtlonjggfnleolaaGreatDoor
open Go.RowKit
set_option linter.unusedVariables false
theorem tvB_true (x : ByteArray) : tvB (true, x) = ⟨#[36]⟩ ++ sizedB x := by
  show textB x = _
  rfl

set_option maxRecDepth 20000 in
set_option maxHeartbeats 4000000 in
theorem tellTexts_one (fa va : Option Addr) (n fc vc : Nat) (bs : List Bool) (vs : List ByteArray) (wd : ByteArray) (w : World) (hf : BoolsIn w fa n fc bs) (hv : StrsIn w va n vc vs) (hn : n ≤ 4) (h1 : n = 1) (hv40 : ∀ s ∈ vs, s.size ≤ 40) :
    Calls Tryz.prog 257 #[ansV 1 (.slice fa n fc) (.slice va n vc) wd] w fun e w' => e = .returned (.string (lsVals n (bs.zip vs))) ∧ Below w.heap.size w w' := by
  have HB1 := hide' (show ∀ x, Below w.heap.size w (w.alloc x) from fun x => (Below.refl _ _).alloc (Nat.le_refl _) _)
  have hfc := hf.cap
  have hvc := hv.cap
  have HFx := hide' (fun W (h : Below w.heap.size w W) => (hf.later h).at)
  have HVx := hide' (fun W (h : Below w.heap.size w W) => (hv.later h).at)
  have HFL := hide' hf.len
  have HVL := hide' hv.len
  have HV40 := hide' hv40
  have hts : ∀ j : Nat, (lsFold ((bs.zip vs).take j)).size ≤ 180 := fun j => by
    have h1 := lsFoldA_size ⟨#[]⟩ ((bs.zip vs).take j) (fun p hp => hv40 _ (List.of_mem_zip (List.mem_of_mem_take hp)).2)
    have h2 : ((bs.zip vs).take j).length ≤ 4 := by simp [hf.len, hv.len]; omega
    have e0 : (ByteArray.mk #[]).size = 0 := rfl
    unfold lsFold
    omega
  have HTS := hide' hts
  clear hf hv hv40 hts
  have HZ : Hid (∀ (j : Nat) f v, bs[j]? = some f → vs[j]? = some v → (bs.zip vs)[j]? = some (f, v)) := fun j f v a c => by
    rw [List.getElem?_zip_eq_some]; exact ⟨a, c⟩
  have HTL : Hid ((bs.zip vs).take n = bs.zip vs) := List.take_of_length_le (by simp; have := HFL.out; omega)
  generalize bs.zip vs = ts at *
  unfold ansV at *
  have HI : Hid (∀ W : World, Lib.IsBuilder 123 5 W.heap.size W.heap.size [] (W.alloc (Obj.cells #[Value.pointer none, Value.slice none 0 0] 123))) := fun W => .inl ⟨Nat.le_refl _, .slice none 0 0, blkNew W _, World.ownsRow_nil _ _ _ _, by simp [Value.ownBlock]⟩
  have HI1 : Hid (Lib.IsBuilder 123 5 (w.heap.size + 1) (w.heap.size + 1) [] ((w.alloc (.cells #[.int .i64 1, .slice fa n fc, .slice va n vc, .string wd] 91)).alloc (Obj.cells #[Value.pointer none, Value.slice none 0 0] 123)) ∧ Below (w.heap.size + 1) (w.alloc (.cells #[.int .i64 1, .slice fa n fc, .slice va n vc, .string wd] 91)) ((w.alloc (.cells #[.int .i64 1, .slice fa n fc, .slice va n vc, .string wd] 91)).alloc (Obj.cells #[Value.pointer none, Value.slice none 0 0] 123))) := by
    have h1 := HI.out (w.alloc (.cells #[.int .i64 1, .slice fa n fc, .slice va n vc, .string wd] 91))
    rw [World.size_alloc] at h1
    exact ⟨h1, (Below.refl _ _).alloc (by simp) _⟩
  clear HI
  subst h1
  go_enter Tryz.func257, Tryz.ntmps257
  go_wp2
  have H0 : Hid (Lib.IsBuilder 123 5 (w.heap.size + 1) (w.heap.size + 1) (Lib.byteCells ([] ++ (lsFold (ts.take 0)).data.toList)) ((w.alloc (.cells #[.int .i64 1, .slice fa 1 fc, .slice va 1 vc, .string wd] 91)).alloc (Obj.cells #[Value.pointer none, Value.slice none 0 0] 123)) ∧ Below (w.heap.size + 1) (w.alloc (.cells #[.int .i64 1, .slice fa 1 fc, .slice va 1 vc, .string wd] 91)) ((w.alloc (.cells #[.int .i64 1, .slice fa 1 fc, .slice va 1 vc, .string wd] 91)).alloc (Obj.cells #[Value.pointer none, Value.slice none 0 0] 123))) := HI1.out
  go_loopw [20] (fun i wr => ∃ j : Nat, j ≤ 1 ∧ i = .int .i64 j ∧ Hid (Lib.IsBuilder 123 5 (w.heap.size + 1) (w.heap.size + 1) (Lib.byteCells ([] ++ (lsFold (ts.take j)).data.toList)) wr ∧ Below (w.heap.size + 1) (w.alloc (.cells #[.int .i64 1, .slice fa 1 fc, .slice va 1 vc, .string wd] 91)) wr)) (fun i _ => 1 - (intOf i).toNat)
  case atStart => exact ⟨0, Nat.zero_le _, rfl, H0⟩
  case round =>
    obtain ⟨j, hj, rfl, HJ⟩ := hrel
    have HBW : Hid (Below w.heap.size w wr) := (HB1.out _).trans (HJ.out.2.mono (by omega))
    have hsz : w.heap.size + 1 ≤ wr.heap.size := by have := HJ.out.2.size; simpa using this
    have hsz' : w.heap.size < wr.heap.size := by omega
    by_cases hlt : j < 1
    · obtain ⟨f, hf⟩ : ∃ x, bs[j]? = some x := ⟨bs[j]'(by rw [HFL.out]; exact hlt), List.getElem?_eq_getElem _⟩
      obtain ⟨x, hx⟩ : ∃ x, vs[j]? = some x := ⟨vs[j]'(by rw [HVL.out]; exact hlt), List.getElem?_eq_getElem _⟩
      have HX := hide' (lsFold_step (HZ.out j f x hf hx))
      have hx40 := HV40.out x (List.mem_of_getElem? hx)
      obtain ⟨fb, fo, rfl, hfb, hfcc⟩ := HFx.out wr HBW.out j f hf
      obtain ⟨vb, vo, rfl, hvb, hvcc⟩ := HVx.out wr HBW.out j x hx
      have q1 : wr.cell? ⟨w.heap.size, 1, none⟩ = some (.slice (some ⟨fb, fo, none⟩) 1 fc) := by
        rw [HJ.out.2.cell (p := ⟨w.heap.size, 1, none⟩) (by simp)]; go_simp
      have q2 : wr.cell? ⟨w.heap.size, 2, none⟩ = some (.slice (some ⟨vb, vo, none⟩) 1 vc) := by
        rw [HJ.out.2.cell (p := ⟨w.heap.size, 2, none⟩) (by simp)]; go_simp
      clear hf hx HFx HVx HZ
      have hzs := sizedB_size hx40
      have hln := HTS.out j
      have hl5 : (lsFold (ts.take j)).data.toList.length ≤ 180 := by rw [len_size]; exact hln
      cases f with
      | true =>
        have hvz : (ByteArray.mk #[36] ++ sizedB x).size ≤ 45 := by rw [ByteArray.size_append]; have e : (ByteArray.mk #[36]).size = 1 := rfl; omega
        have HY : Hid (Lib.byteCells ([] ++ (lsFold (ts.take j)).data.toList) ++ Lib.strCells (ByteArray.mk #[36] ++ sizedB x) = Lib.byteCells ([] ++ (lsFold (ts.take (j + 1))).data.toList)) := by
          show _ = _
          rw [HX.out, Lib.strCells_eq, ← byteCells_append, List.append_assoc]
          congr 2
        clear HX
        go_wp2_with fail
        go_at_call 215
        refine (sized_any' x _ (by omega)).mono ?_
        rintro e w3 ⟨rfl, hw3⟩
        subst hw3
        go_wp2_with fail
        go_at_call 128
        generalize (ByteArray.mk #[36] ++ sizedB x) = V at *
        refine (Tryz.writeString (w.heap.size + 1) (w.heap.size + 1) _ V _ HJ.out.1 ?hl1 ?hl2).mono ?_
        case hl1 => rw [Lib.byteCells_length, List.length_append]; simp only [List.length_nil]; omega
        case hl2 => exact hsz
        rintro e w4 ⟨rfl, hBA, hb4⟩
        rw [HY.out] at hBA
        have HN4 : Hid (Lib.IsBuilder 123 5 (w.heap.size + 1) (w.heap.size + 1) (Lib.byteCells ([] ++ (lsFold (ts.take (j + 1))).data.toList)) w4 ∧ Below (w.heap.size + 1) (w.alloc (.cells #[.int .i64 1, .slice (some ⟨fb, fo, none⟩) 1 fc, .slice (some ⟨vb, vo, none⟩) 1 vc, .string wd] 91)) w4) := ⟨.inr hBA, HJ.out.2.trans hb4⟩
        clear hBA hb4
        go_wp2
        go_roundw
        case rel => exact ⟨j + 1, by omega, by go_num, HN4⟩
        case measure => simp [intOf]; omega
      | false =>
        have HY : Hid (Lib.byteCells ([] ++ (lsFold (ts.take j)).data.toList) ++ Lib.strCells (ByteArray.mk #[36, 45, 49, 10]) = Lib.byteCells ([] ++ (lsFold (ts.take (j + 1))).data.toList)) := by
          show _ = _
          rw [HX.out, Lib.strCells_eq, ← byteCells_append, List.append_assoc]
          congr 2
        clear HX
        go_wp2_with fail
        go_at_call 128
        refine (Tryz.writeString (w.heap.size + 1) (w.heap.size + 1) _ (ByteArray.mk #[36, 45, 49, 10]) _ HJ.out.1 ?hl1 ?hl2).mono ?_
        case hl1 => rw [Lib.byteCells_length, List.length_append]; simp only [List.length_nil]; have e : (ByteArray.mk #[36, 45, 49, 10]).size = 4 := rfl; omega
        case hl2 => exact hsz
        rintro e w4 ⟨rfl, hBA, hb4⟩
        rw [HY.out] at hBA
        have HN4 : Hid (Lib.IsBuilder 123 5 (w.heap.size + 1) (w.heap.size + 1) (Lib.byteCells ([] ++ (lsFold (ts.take (j + 1))).data.toList)) w4 ∧ Below (w.heap.size + 1) (w.alloc (.cells #[.int .i64 1, .slice (some ⟨fb, fo, none⟩) 1 fc, .slice (some ⟨vb, vo, none⟩) 1 vc, .string wd] 91)) w4) := ⟨.inr hBA, HJ.out.2.trans hb4⟩
        clear hBA hb4
        go_wp2
        go_roundw
        case rel => exact ⟨j + 1, by omega, by go_num, HN4⟩
        case measure => simp [intOf]; omega
    · have hj2 : j = 1 := by omega
      subst hj2
      have HR := hide' (show ByteArray.mk ([] ++ (lsFold (ts.take 1)).data.toList).toArray = lsVals 1 ts by rw [HTL.out]; simp [lsVals])
      go_wp2_with fail
      go_at_call 57
      refine (Tryz.Builder_String_any (w.heap.size + 1) (w.heap.size + 1) _ _ HJ.out.1 hsz).mono ?_
      rintro e w5 ⟨rfl, hb5⟩
      have HE : Hid (Below w.heap.size w w5) := HBW.out.trans (hb5.mono (by omega))
      clear hb5
      rw [HR.out]
      go_wp2
      go_ret
      exact ⟨ret_str rfl, HE.out⟩

set_option maxRecDepth 20000 in
set_option maxHeartbeats 4000000 in
theorem tellTexts_more (fa va : Option Addr) (n fc vc : Nat) (bs : List Bool) (vs : List ByteArray) (wd : ByteArray) (w : World) (hf : BoolsIn w fa n fc bs) (hv : StrsIn w va n vc vs) (hn : n ≤ 4) (h1 : 2 ≤ n) (hv40 : ∀ s ∈ vs, s.size ≤ 40) :
    Calls Tryz.prog 257 #[ansV 1 (.slice fa n fc) (.slice va n vc) wd] w fun e w' => e = .returned (.string (lsVals n (bs.zip vs))) ∧ Below w.heap.size w w' := by
  have HB1 := hide' (show ∀ x, Below w.heap.size w (w.alloc x) from fun x => (Below.refl _ _).alloc (Nat.le_refl _) _)
  have hfc := hf.cap
  have hvc := hv.cap
  have HFx := hide' (fun W (h : Below w.heap.size w W) => (hf.later h).at)
  have HVx := hide' (fun W (h : Below w.heap.size w W) => (hv.later h).at)
  have HFL := hide' hf.len
  have HVL := hide' hv.len
  have HV40 := hide' hv40
  have hts : ∀ j : Nat, (lsFold ((bs.zip vs).take j)).size ≤ 180 := fun j => by
    have h1 := lsFoldA_size ⟨#[]⟩ ((bs.zip vs).take j) (fun p hp => hv40 _ (List.of_mem_zip (List.mem_of_mem_take hp)).2)
    have h2 : ((bs.zip vs).take j).length ≤ 4 := by simp [hf.len, hv.len]; omega
    have e0 : (ByteArray.mk #[]).size = 0 := rfl
    unfold lsFold
    omega
  have HTS := hide' hts
  clear hf hv hv40 hts
  have HZ : Hid (∀ (j : Nat) f v, bs[j]? = some f → vs[j]? = some v → (bs.zip vs)[j]? = some (f, v)) := fun j f v a c => by
    rw [List.getElem?_zip_eq_some]; exact ⟨a, c⟩
  have HTL : Hid ((bs.zip vs).take n = bs.zip vs) := List.take_of_length_le (by simp; have := HFL.out; omega)
  generalize bs.zip vs = ts at *
  unfold ansV at *
  have HI : Hid (∀ W : World, Lib.IsBuilder 123 5 W.heap.size W.heap.size [] (W.alloc (Obj.cells #[Value.pointer none, Value.slice none 0 0] 123))) := fun W => .inl ⟨Nat.le_refl _, .slice none 0 0, blkNew W _, World.ownsRow_nil _ _ _ _, by simp [Value.ownBlock]⟩
  have HI1 : Hid (Lib.IsBuilder 123 5 (w.heap.size + 1) (w.heap.size + 1) [] ((w.alloc (.cells #[.int .i64 1, .slice fa n fc, .slice va n vc, .string wd] 91)).alloc (Obj.cells #[Value.pointer none, Value.slice none 0 0] 123)) ∧ Below (w.heap.size + 1) (w.alloc (.cells #[.int .i64 1, .slice fa n fc, .slice va n vc, .string wd] 91)) ((w.alloc (.cells #[.int .i64 1, .slice fa n fc, .slice va n vc, .string wd] 91)).alloc (Obj.cells #[Value.pointer none, Value.slice none 0 0] 123))) := by
    have h1 := HI.out (w.alloc (.cells #[.int .i64 1, .slice fa n fc, .slice va n vc, .string wd] 91))
    rw [World.size_alloc] at h1
    exact ⟨h1, (Below.refl _ _).alloc (by simp) _⟩
  clear HI
  have h1' : ((n : Int) > 1) := by omega
  have hst := starL_len n
  have dL := dec100_size n
  go_enter Tryz.func257, Tryz.ntmps257
  go_wp2_with fail
  go_at_call 122
  refine (itoa_any n _ (by omega)).mono ?_
  rintro e w1 ⟨rfl, hw1⟩
  subst hw1
  generalize hl0 : (ByteArray.mk #[42] ++ dec100 n ++ ByteArray.mk #[10]) = l0 at *
  go_wp2_with fail
  go_at_call 128
  refine (Tryz.writeString (w.heap.size + 1) (w.heap.size + 1) [] l0 _ HI1.out.1 (by simp; omega) (by simp)).mono ?_
  rintro e w2 ⟨rfl, hBA, hb2⟩
  have H0 : Hid (Lib.IsBuilder 123 5 (w.heap.size + 1) (w.heap.size + 1) (Lib.byteCells (l0.data.toList ++ (lsFold (ts.take 0)).data.toList)) w2 ∧ Below (w.heap.size + 1) (w.alloc (.cells #[.int .i64 1, .slice fa n fc, .slice va n vc, .string wd] 91)) w2) := ⟨.inr (by simpa [Lib.strCells_eq, lsFold] using hBA), HI1.out.2.trans hb2⟩
  clear hBA hb2
  have qz : w2.cell? ⟨w.heap.size, 1, none⟩ = some (.slice fa n fc) := by
    rw [H0.out.2.cell (p := ⟨w.heap.size, 1, none⟩) (by simp)]; go_simp
  have hs2 : w.heap.size < w2.heap.size := by have := H0.out.2.size; simp at this; omega
  have hl4 : l0.data.toList.length ≤ 4 := by rw [len_size]; omega
  go_wp2
  go_loopw [20] (fun i wr => ∃ j : Nat, j ≤ n ∧ i = .int .i64 j ∧ Hid (Lib.IsBuilder 123 5 (w.heap.size + 1) (w.heap.size + 1) (Lib.byteCells (l0.data.toList ++ (lsFold (ts.take j)).data.toList)) wr ∧ Below (w.heap.size + 1) (w.alloc (.cells #[.int .i64 1, .slice fa n fc, .slice va n vc, .string wd] 91)) wr)) (fun i _ => n - (intOf i).toNat)
  case atStart => exact ⟨0, Nat.zero_le _, rfl, H0⟩
  case round =>
    obtain ⟨j, hj, rfl, HJ⟩ := hrel
    have HBW : Hid (Below w.heap.size w wr) := (HB1.out _).trans (HJ.out.2.mono (by omega))
    have hsz : w.heap.size + 1 ≤ wr.heap.size := by have := HJ.out.2.size; simpa using this
    have hsz' : w.heap.size < wr.heap.size := by omega
    by_cases hlt : j < n
    · obtain ⟨f, hf⟩ : ∃ x, bs[j]? = some x := ⟨bs[j]'(by rw [HFL.out]; exact hlt), List.getElem?_eq_getElem _⟩
      obtain ⟨x, hx⟩ : ∃ x, vs[j]? = some x := ⟨vs[j]'(by rw [HVL.out]; exact hlt), List.getElem?_eq_getElem _⟩
      have HX := hide' (lsFold_step (HZ.out j f x hf hx))
      have hx40 := HV40.out x (List.mem_of_getElem? hx)
      obtain ⟨fb, fo, rfl, hfb, hfcc⟩ := HFx.out wr HBW.out j f hf
      obtain ⟨vb, vo, rfl, hvb, hvcc⟩ := HVx.out wr HBW.out j x hx
      have q1 : wr.cell? ⟨w.heap.size, 1, none⟩ = some (.slice (some ⟨fb, fo, none⟩) n fc) := by
        rw [HJ.out.2.cell (p := ⟨w.heap.size, 1, none⟩) (by simp)]; go_simp
      have q2 : wr.cell? ⟨w.heap.size, 2, none⟩ = some (.slice (some ⟨vb, vo, none⟩) n vc) := by
        rw [HJ.out.2.cell (p := ⟨w.heap.size, 2, none⟩) (by simp)]; go_simp
      clear hf hx HFx HVx HZ
      have hzs := sizedB_size hx40
      have hln := HTS.out j
      have hl5 : (lsFold (ts.take j)).data.toList.length ≤ 180 := by rw [len_size]; exact hln
      cases f with
      | true =>
        have hvz : (ByteArray.mk #[36] ++ sizedB x).size ≤ 45 := by rw [ByteArray.size_append]; have e : (ByteArray.mk #[36]).size = 1 := rfl; omega
        have HY : Hid (Lib.byteCells (l0.data.toList ++ (lsFold (ts.take j)).data.toList) ++ Lib.strCells (ByteArray.mk #[36] ++ sizedB x) = Lib.byteCells (l0.data.toList ++ (lsFold (ts.take (j + 1))).data.toList)) := by
          show _ = _
          rw [HX.out, Lib.strCells_eq, ← byteCells_append, List.append_assoc]
          congr 2
        clear HX
        go_wp2_with fail
        go_at_call 215
        refine (sized_any' x _ (by omega)).mono ?_
        rintro e w3 ⟨rfl, hw3⟩
        subst hw3
        go_wp2_with fail
        go_at_call 128
        generalize (ByteArray.mk #[36] ++ sizedB x) = V at *
        refine (Tryz.writeString (w.heap.size + 1) (w.heap.size + 1) _ V _ HJ.out.1 ?hl1 ?hl2).mono ?_
        case hl1 => rw [Lib.byteCells_length, List.length_append];  omega
        case hl2 => exact hsz
        rintro e w4 ⟨rfl, hBA, hb4⟩
        rw [HY.out] at hBA
        have HN4 : Hid (Lib.IsBuilder 123 5 (w.heap.size + 1) (w.heap.size + 1) (Lib.byteCells (l0.data.toList ++ (lsFold (ts.take (j + 1))).data.toList)) w4 ∧ Below (w.heap.size + 1) (w.alloc (.cells #[.int .i64 1, .slice (some ⟨fb, fo, none⟩) n fc, .slice (some ⟨vb, vo, none⟩) n vc, .string wd] 91)) w4) := ⟨.inr hBA, HJ.out.2.trans hb4⟩
        clear hBA hb4
        go_wp2
        go_roundw
        case rel => exact ⟨j + 1, by omega, by go_num, HN4⟩
        case measure => simp [intOf]; omega
      | false =>
        have HY : Hid (Lib.byteCells (l0.data.toList ++ (lsFold (ts.take j)).data.toList) ++ Lib.strCells (ByteArray.mk #[36, 45, 49, 10]) = Lib.byteCells (l0.data.toList ++ (lsFold (ts.take (j + 1))).data.toList)) := by
          show _ = _
          rw [HX.out, Lib.strCells_eq, ← byteCells_append, List.append_assoc]
          congr 2
        clear HX
        go_wp2_with fail
        go_at_call 128
        refine (Tryz.writeString (w.heap.size + 1) (w.heap.size + 1) _ (ByteArray.mk #[36, 45, 49, 10]) _ HJ.out.1 ?hl1 ?hl2).mono ?_
        case hl1 => rw [Lib.byteCells_length, List.length_append];  have e : (ByteArray.mk #[36, 45, 49, 10]).size = 4 := rfl; omega
        case hl2 => exact hsz
        rintro e w4 ⟨rfl, hBA, hb4⟩
        rw [HY.out] at hBA
        have HN4 : Hid (Lib.IsBuilder 123 5 (w.heap.size + 1) (w.heap.size + 1) (Lib.byteCells (l0.data.toList ++ (lsFold (ts.take (j + 1))).data.toList)) w4 ∧ Below (w.heap.size + 1) (w.alloc (.cells #[.int .i64 1, .slice (some ⟨fb, fo, none⟩) n fc, .slice (some ⟨vb, vo, none⟩) n vc, .string wd] 91)) w4) := ⟨.inr hBA, HJ.out.2.trans hb4⟩
        clear hBA hb4
        go_wp2
        go_roundw
        case rel => exact ⟨j + 1, by omega, by go_num, HN4⟩
        case measure => simp [intOf]; omega
    · have hj2 : j = n := by omega
      subst hj2
      have HR := hide' (show ByteArray.mk (l0.data.toList ++ (lsFold (ts.take j)).data.toList).toArray = lsVals j ts by rw [HTL.out]; rw [← hl0]; unfold lsVals; rw [if_neg (by omega)]; apply ba_ext; simp [List.append_assoc])
      go_wp2_with fail
      go_at_call 57
      refine (Tryz.Builder_String_any (w.heap.size + 1) (w.heap.size + 1) _ _ HJ.out.1 hsz).mono ?_
      rintro e w5 ⟨rfl, hb5⟩
      have HE : Hid (Below w.heap.size w w5) := HBW.out.trans (hb5.mono (by omega))
      clear hb5
      rw [HR.out]
      go_wp2
      go_ret
      exact ⟨ret_str rfl, HE.out⟩
end Go.Proofs.YtlonjggfnleolaaGreatDoor
