/-
  What the reference owner answers: the same as ring.Owner.
-/
import Derived.Test.YtlonjggfnleolaaGreatDoorLines
import Derived.Test.YtlonjggfnleolaaGreatDoorDecode
import Derived.Test.YtlonjggfnleolaaGreatDoorRefC
import Derived.Test.YtlonjggfnleolaaGreatDoorRefL
import Derived.Test.YtlonjggfnleolaaGreatDoorRefH
import Derived.Test.YtlonjggfnleolaaGreatDoorRefM
import Derived.Test.YtlonjggfnleolaaGreatDoorJuR
import Derived.Test.YtlonjggfnleolaaGreatDoorJuS
import Derived.Test.YtlonjggfnleolaaGreatDoorJuQa
import Derived.Test.YtlonjggfnleolaaGreatDoorJuA
import Derived.Test.YtlonjggfnleolaaGreatDoorFrRight
import Derived.Deep.AppendSrc
import Derived.Test.YtlonjggfnleolaaGreatDoorRefTell

namespace Go.Proofs.YtlonjggfnleolaaGreatDoor
open Go.RowKit
set_option linter.unusedVariables false

/-- The reference's four variables beside the program's two. -/
def RInv (h : Int) (x : Nat × Int) (b a l v : Int) : Prop :=
  0 ≤ l ∧ -1 ≤ b ∧ (0 ≤ b → (x.1 : Int) = b ∧ x.2 = a - h ∧ h ≤ a ∧ a < 4294967296) ∧ (b < 0 → (x.1 : Int) = l ∧ x.2 = v - h + 4294967296 ∧ 0 ≤ v ∧ v < h)
def RSt (h : Int) (first : Prop) (x : Nat × Int) (b a l v : Int) : Prop :=
  (first ∧ b = -1 ∧ l = -1 ∧ x = (0, awayN h 0 0)) ∨ (¬ first ∧ RInv h x b a l v)

theorem away_cases (h : Int) (s p : Nat) (h1 : 0 ≤ h) (h2 : h < 4294967296) :
    (h ≤ num (pt s p).data.toList ∧ awayN h s p = num (pt s p).data.toList - h) ∨ (num (pt s p).data.toList < h ∧ awayN h s p = num (pt s p).data.toList - h + 4294967296) := by
  have := num_bd (pt s p).data.toList
  unfold awayN
  omega

/-- One point more: the two go on side by side. -/
theorem rstep {h : Int} {x : Nat × Int} {b a l v : Int} (s p : Nat) (first : Prop) (h1 : 0 ≤ h) (h2 : h < 4294967296) (hf : first → s = 0 ∧ p = 0) (R : RSt h first x b a l v) (b' a' l' v' : Int)
    (hb : (h ≤ num (pt s p).data.toList ∧ (b < 0 ∨ num (pt s p).data.toList < a) ∧ b' = s ∧ a' = num (pt s p).data.toList) ∨ (¬ (h ≤ num (pt s p).data.toList ∧ (b < 0 ∨ num (pt s p).data.toList < a)) ∧ b' = b ∧ a' = a))
    (hl : ((l < 0 ∨ num (pt s p).data.toList < v) ∧ l' = s ∧ v' = num (pt s p).data.toList) ∨ (¬ (l < 0 ∨ num (pt s p).data.toList < v) ∧ l' = l ∧ v' = v)) :
    RInv h (stepO h s p x) b' a' l' v' := by
  have hn := num_bd (pt s p).data.toList
  have ha := away_cases h s p h1 h2
  rcases R with ⟨f, rfl, rfl, rfl⟩ | ⟨f, r1, r2, r3, r4⟩
  · obtain ⟨rfl, rfl⟩ := hf f
    have hs : stepO h 0 0 (0, awayN h 0 0) = (0, awayN h 0 0) := by unfold stepO; rw [if_neg (by simp)]
    rw [hs]
    unfold RInv
    simp only
    generalize num (pt 0 0).data.toList = n at *
    generalize awayN h 0 0 = d at *
    refine ⟨?_, ?_, ?_, ?_⟩ <;> omega
  · unfold RInv stepO
    generalize num (pt s p).data.toList = n at *
    generalize awayN h s p = d at *
    split
    · simp only
      refine ⟨?_, ?_, ?_, ?_⟩ <;> omega
    · refine ⟨?_, ?_, ?_, ?_⟩ <;> omega

theorem RSt.out {h : Int} {x : Nat × Int} {b a l v : Int} {first : Prop} (R : RSt h first x b a l v) (hf : ¬ first) : RInv h x b a l v := by
  rcases R with ⟨f, _⟩ | ⟨_, r⟩
  · exact absurd f hf
  · exact r

set_option maxRecDepth 20000 in
set_option maxHeartbeats 4000000 in
theorem refowner_any (S P : Nat) (key : ByteArray) (w : World) (hS : 1 ≤ S) (hS4 : S ≤ 4) (hP : 1 ≤ P) (hP2 : P ≤ 16) (hk : key.size ≤ maxLen) :
    Calls Tryz.prog 138 #[.int .i64 S, .int .i64 P, .string key] w fun e w' => e = .returned (.int .i64 (ownerN S P key)) ∧ ∃ q, w' = w.drewN q := by
  have hb := num_bd key.data.toList
  obtain ⟨hb1, hb2⟩ := hb
  have HO : Hid (ownerN S P key = (outerO (num key.data.toList) P S).1) := by show _ = _; rfl
  go_enter Tryz.func138, Tryz.ntmps138
  go_wp2_with fail
  go_at_call 164
  refine (hash_any key _ hk).mono ?_
  rintro e w' ⟨rfl, rfl⟩
  generalize num key.data.toList = fr at *
  go_wp2
  go_loopw [8, 9, 10, 11, 12] (fun sb sa sl sv i wr => ∃ k : Nat, k ≤ S ∧ i = .int .i64 k ∧ (∃ q, wr = w'.drewN q) ∧ ∃ b a l v : Int, sb = .int .i64 b ∧ sa = .int .i64 a ∧ sl = .int .i64 l ∧ sv = .int .i64 v ∧ RSt fr (k = 0) (outerO fr P k) b a l v) (fun _ _ _ _ i _ => S - (intOf i).toNat)
  case atStart => exact ⟨0, Nat.zero_le _, rfl, ⟨0, rfl⟩, -1, 0, -1, 0, rfl, rfl, rfl, rfl, .inl ⟨rfl, rfl, rfl, rfl⟩⟩
  case round =>
    obtain ⟨k, hk1, rfl, ⟨q, rfl⟩, b, a, l, v, rfl, rfl, rfl, rfl, HR⟩ := hrel
    by_cases hlt : k < S
    · generalize hx : outerO fr P k = x at *
      have HX : Hid (outerO fr P k = x) := hx
      clear hx
      have HR' : Hid (RSt fr (k = 0 ∧ (0 : Nat) = 0) (innerO fr k x 0) b a l v) := by
        show RSt fr (k = 0 ∧ (0 : Nat) = 0) x b a l v
        simpa using HR
      clear HR
      go_wp2
      go_loopw [8, 9, 10, 11, 13] (fun sb sa sl sv i wr => ∃ j : Nat, j ≤ P ∧ i = .int .i64 j ∧ (∃ q, wr = w'.drewN q) ∧ ∃ b a l v : Int, sb = .int .i64 b ∧ sa = .int .i64 a ∧ sl = .int .i64 l ∧ sv = .int .i64 v ∧ Hid (RSt fr (k = 0 ∧ j = 0) (innerO fr k x j) b a l v)) (fun _ _ _ _ i _ => P - (intOf i).toNat)
      case atStart => exact ⟨0, Nat.zero_le _, rfl, ⟨_, rfl⟩, b, a, l, v, rfl, rfl, rfl, rfl, (by have h0 := HR'.out; show RSt _ _ _ _ _ _ _; simpa using h0)⟩
      case round =>
        obtain ⟨j, hj1, rfl, ⟨q2, rfl⟩, b, a, l, v, rfl, rfl, rfl, rfl, HR2⟩ := hrel
        by_cases hjt : j < P
        · have hz := pt_size k j
          have hz2 : (pt k j).size ≤ maxLen := by unfold maxLen; omega
          have d1 := dec100_size k
          have d2 := dec100_size j
          have hn := num_bd (pt k j).data.toList
          obtain ⟨hn1, hn2⟩ := hn
          have HS := fun b' a' l' v' hb hl => rstep k j (k = 0 ∧ j = 0) hb1 hb2 (fun f => f) HR2.out b' a' l' v' hb hl
          have HS2 : Hid (∀ b' a' l' v' : Int, ((fr ≤ num (pt k j).data.toList ∧ (b < 0 ∨ num (pt k j).data.toList < a) ∧ b' = k ∧ a' = num (pt k j).data.toList) ∨ (¬ (fr ≤ num (pt k j).data.toList ∧ (b < 0 ∨ num (pt k j).data.toList < a)) ∧ b' = b ∧ a' = a)) → (((l < 0 ∨ num (pt k j).data.toList < v) ∧ l' = k ∧ v' = num (pt k j).data.toList) ∨ (¬ (l < 0 ∨ num (pt k j).data.toList < v) ∧ l' = l ∧ v' = v)) → RInv fr (innerO fr k x (j + 1)) b' a' l' v') := HS
          clear HS HR2
          go_wp2_with fail
          go_at_call 142
          refine (decimal_any k _ (by omega)).mono ?_
          rintro e w1 ⟨rfl, q3, rfl⟩
          go_wp2_with fail
          go_at_call 142
          refine (decimal_any j _ (by omega)).mono ?_
          rintro e w1 ⟨rfl, q4, rfl⟩
          go_wp2_with fail
          go_at_call 164
          refine (hash_any (pt k j) _ hz2).mono ?_
          rintro e w1 ⟨rfl, hw1⟩
          subst hw1
          generalize num (pt k j).data.toList = n at *
          go_wp2
          all_goals go_roundw
          all_goals first
            | (refine ⟨j + 1, by omega, by go_num, ⟨_, rfl⟩, _, _, _, _, rfl, rfl, rfl, rfl, ?_⟩; exact Or.inr ⟨by omega, HS2.out _ _ _ _ (by omega) (by omega)⟩)
            | (simp [intOf]; omega)
        · have hj2 : j = P := by omega
          subst hj2
          have hR3 := HR2.out.out (by omega)
          have HR3 : Hid (RInv fr (outerO fr j (k + 1)) b a l v) := by
            show RInv _ _ _ _ _ _
            simp only [outerO, HX.out]
            exact hR3
          clear hR3 HR2
          go_wp2
          go_roundw
          case rel => exact ⟨k + 1, by omega, by go_num, ⟨_, rfl⟩, b, a, l, v, rfl, rfl, rfl, rfl, Or.inr ⟨by omega, HR3.out⟩⟩
          case measure => simp [intOf]; omega
    · have hk2 : k = S := by omega
      subst hk2
      obtain ⟨r1, r2, r3, r4⟩ := HR.out (by omega)
      have HH : Hid ((ownerN k P key : Int) = if b < 0 then l else b) := by
        show _ = _
        rw [HO.out]
        split
        · exact (r4 (by omega)).1
        · exact (r3 (by omega)).1
      clear r1 r2 r3 r4 HR
      by_cases hbn : b < 0
      · go_wp2
        go_ret
        exact ⟨ret_int (by rw [HH.out, if_pos hbn]), _, rfl⟩
      · have hbn' : ¬ b < 0 := hbn
        go_wp2
        go_ret
        exact ⟨ret_int (by rw [HH.out, if_neg (by omega)]), _, rfl⟩
end Go.Proofs.YtlonjggfnleolaaGreatDoor


/-
  What a reader tells is a command that may be, or something wrong; behind something fatal nothing is told.
-/

namespace Go.Proofs.YtlonjggfnleolaaGreatDoor
open Go.RowKit
set_option linter.unusedVariables false

/-- A command as a reader tells it. -/
structure OkC (d : Int) (c : Cmd) : Prop where
  or_ : (cmdB c.kind c.keys c.val = true ∧ c.word = noB ∧ c.fatal = false ∧ (d = 2 → c.keys.length = 1)) ∨ (c.kind = 4 ∧ c.keys = [] ∧ c.val = noB ∧ 1 ≤ c.word.size)
  line : c.fatal = true → d ≠ 1
theorem okC_wrong {d : Int} {word : ByteArray} {ft : Bool} (h : 1 ≤ word.size) (hl : ft = true → d ≠ 1) : OkC d (wrongC word ft) := ⟨.inr ⟨rfl, rfl, rfl, h⟩, hl⟩
theorem bytesOf_size (bs : List UInt8) (i k : Nat) : (bytesOf bs i k).size ≤ k := by
  unfold bytesOf
  show (List.take k (List.drop i bs)).toArray.size ≤ k
  simp
  omega
theorem bytesOf_none (bs : List UInt8) (i : Nat) : bytesOf bs i 0 = noB := by simp [bytesOf, noB]
theorem emptyNo : noB.toList.isEmpty = true := by decide +kernel
theorem cmdB_setA {s val : ByteArray} (hs : keyB s = true) (hv : val.size ≤ 40) : cmdB 2 [s] val = true := by
  have : (val.size : Int) ≤ 40 := by omega
  simp [cmdB, keysB, withinB, hs, this]
theorem fr_ok {bs : List UInt8} {t : StepR} (h : frR bs = some t) : OkC 2 t.c := by
  unfold frR at h
  split at h
  · cases h
  · split at h
    · cases h; exact okC_wrong (by decide) (fun _ => by decide)
    · rename_i hh
      split at h
      · cases h
      · split at h
        · cases h; exact okC_wrong (by decide) (fun _ => by decide)
        · rename_i hk
          cases h
          have hk' : keyB (bytesOf bs 7 (byAt bs 2)) = true := by simpa using hk
          have hf : frHead bs = true := by simpa using hh
          simp only [frHead, Bool.and_eq_true, Bool.or_eq_true, decide_eq_true_eq] at hf
          obtain ⟨⟨⟨⟨⟨_, h1⟩, h3⟩, _⟩, _⟩, hv⟩ := hf
          refine ⟨.inl ⟨?_, rfl, rfl, fun _ => rfl⟩, fun h => (by cases h)⟩
          show cmdB (byAt bs 1 : Int) [bytesOf bs 7 (byAt bs 2)] (bytesOf bs (7 + byAt bs 2) (numAt bs 3)) = true
          have hs := bytesOf_size bs (7 + byAt bs 2) (numAt bs 3)
          by_cases h2 : byAt bs 1 = 2
          · rw [h2]
            have : numAt bs 3 ≤ 40 := by rcases hv with h | h <;> omega
            exact cmdB_setA hk' (by omega)
          · have h0 : numAt bs 3 = 0 := by rcases hv with h | h <;> omega
            rw [h0, bytesOf_none]
            rcases (show byAt bs 1 = 1 ∨ byAt bs 1 = 3 by omega) with h | h
            · rw [h]
              simp [cmdB, keysB, withinB, hk', emptyNo]
            · rw [h]
              simp [cmdB, keysB, withinB, hk', emptyNo]
theorem set_ok {bs : List UInt8} {frm : Nat} {key : ByteArray} {size : Nat} {t : StepR} (hk : keyB key = true) (h : setR bs frm key size = some t) : OkC 1 t.c := by
  unfold setR at h
  split at h
  · cases h; exact okC_wrong (by decide) (fun h => by cases h)
  · rename_i h40
    split at h
    · cases h
    · split at h
      · cases h; exact okC_wrong (by decide) (fun h => by cases h)
      · cases h
        have hs := bytesOf_size bs frm size
        exact ⟨.inl ⟨cmdB_setA (val := bytesOf bs frm size) hk (by omega), rfl, rfl, fun h => (by cases h)⟩, fun h => (by cases h)⟩
theorem ln_ok {bs : List UInt8} {t : StepR} (h : lnR bs = some t) : OkC 1 t.c := by
  unfold lnR at h
  split at h
  · unfold lineR at h
    split at h
    · rename_i size hsz
      refine set_ok ?_ h
      unfold setSizeR at hsz
      split at hsz
      · rename_i hc; exact hc.2.2
      · cases hsz
    · split at h
      · cases h; exact okC_wrong (by decide) (fun h => by cases h)
      · rename_i hc
        cases h
        rw [not_or] at hc
        exact ⟨.inl ⟨by simpa using hc.2, rfl, rfl, fun h => (by cases h)⟩, fun h => (by cases h)⟩
  · split at h
    · cases h; exact okC_wrong (by decide) (fun h => by cases h)
    · cases h
theorem texts_ok {d : Int} (hd : d ≠ 1) (hd2 : d ≠ 2) (ts : List ByteArray) (used : Nat) : OkC d (textsR ts used).c := by
  unfold textsR
  simp only
  generalize (if kindB (ts.getD 0 noB) = 2 then (if (ts.drop 1).length = 2 then (ts.drop 1).take 1 else []) else ts.drop 1) = keys
  generalize (if kindB (ts.getD 0 noB) = 2 ∧ (ts.drop 1).length = 2 then (ts.drop 1).getD 1 noB else noB) = val
  generalize kindB (ts.getD 0 noB) = k
  cases hc : cmdB k keys val with
  | true => rw [if_pos rfl]; exact ⟨.inl ⟨hc, rfl, rfl, fun h => absurd h hd2⟩, fun h => (by cases h)⟩
  | false => rw [if_neg (by decide)]; exact okC_wrong (by decide) (fun _ => hd)
theorem ls_ok {d : Int} (hd : d ≠ 1) (hd2 : d ≠ 2) {bs : List UInt8} {t : StepR} (h : lsR bs = some t) : OkC d t.c := by
  unfold lsR at h
  simp only at h
  split at h
  · cases h; exact okC_wrong (by decide) (fun _ => hd)
  · split at h
    · cases h
    · cases h
      exact texts_ok hd hd2 _ _
theorem read_ok {d : Int} {bs : List UInt8} {t : StepR} (h : readR d bs = some t) : OkC d t.c := by
  unfold readR at h
  split at h
  · rename_i h1; subst h1; exact ln_ok h
  · split at h
    · rename_i h2; subst h2; exact fr_ok h
    · rename_i h1 h2; exact ls_ok h1 h2 h
end Go.Proofs.YtlonjggfnleolaaGreatDoor


/-
  The reference's reader: Push, Next, Feed.
-/

namespace Go.Proofs.YtlonjggfnleolaaGreatDoor
open Go.RowKit
set_option linter.unusedVariables false

/-- A reader of the reference in memory. -/
def refO (d : Int) (s : St) : Obj := .cells #[.int .i64 d, .string (mkB s.held), .bool s.pass, .bool s.closed] 195 (0, 0)
structure RefAt (w : World) (Y : Nat) (d : Int) (s : St) : Prop where
  at_ : w.heap[Y]? = some (refO d s)
  ok : s.ok
theorem refCells {w : World} {Y : Nat} {d : Int} {s : St} (h : w.heap[Y]? = some (refO d s)) :
    w.cell? ⟨Y, 0, none⟩ = some (.int .i64 d) ∧ w.cell? ⟨Y, 1, none⟩ = some (.string (mkB s.held)) ∧ w.cell? ⟨Y, 2, none⟩ = some (.bool s.pass) ∧ w.cell? ⟨Y, 3, none⟩ = some (.bool s.closed) ∧ (∀ j, w.frozen? ⟨Y, j, none⟩ = false) :=
  ⟨blkCell h 0, blkCell h 1, blkCell h 2, blkCell h 3, blkFree h⟩
theorem mkB_app (l : List UInt8) (p : ByteArray) : mkB l ++ p = mkB (l ++ p.data.toList) := by
  apply ByteArray.ext
  rw [ByteArray.data_append]
  simp [mkB]
theorem mkB_nil : mkB [] = ⟨#[]⟩ := rfl
theorem mkB_size (l : List UInt8) : (mkB l).size = l.length := by show l.toArray.size = _; simp
theorem extract_drop (s : ByteArray) (f : Nat) : s.extract f s.size = mkB (s.data.toList.drop f) := by
  rw [extract_mkB, List.take_of_length_le (by simp)]

theorem refO_set {w : World} {Y : Nat} {d : Int} {s : St} (h : w.heap[Y]? = some (refO d s)) (l : List UInt8) : (w.setCell ⟨Y, 1, none⟩ (.string (mkB l))).heap[Y]? = some (refO d ⟨l, s.pass, s.closed⟩) := (blkSet (i := 1) h _).trans rfl
theorem refO_pass {w : World} {Y : Nat} {d : Int} {s : St} (h : w.heap[Y]? = some (refO d s)) (p : Bool) : (w.setCell ⟨Y, 2, none⟩ (.bool p)).heap[Y]? = some (refO d ⟨s.held, p, s.closed⟩) := (blkSet (i := 2) h _).trans rfl

set_option maxRecDepth 20000 in
set_option maxHeartbeats 2000000 in
/-- Push, where nothing is passed over. -/
theorem refpush_plain (Y : Nat) (d : Int) (s : St) (piece : ByteArray) (w : World) (hY : w.heap[Y]? = some (refO d s)) (hps : s.pass = false) (hp : s.held.length + piece.size ≤ 1000000000000) :
    Calls Tryz.prog 148 #[.pointer (some ⟨Y, 0, none⟩), .string piece] w fun e w' => e = .returned (.tuple #[]) ∧ w'.heap[Y]? = some (refO d (takeS s piece.data.toList)) ∧ Turn Y w w' := by
  obtain ⟨held, ps, cl⟩ := s
  simp only at hps
  subst hps
  obtain ⟨c0, c1, c2, c3, cf⟩ := refCells hY
  have hlt := blkLt hY
  simp only at c0 c1 c2 c3 hp
  have HY := hide' hY
  have hms := mkB_size held
  clear hY
  cases cl with
  | true =>
    have HT : Hid (takeS ⟨held, false, true⟩ piece.data.toList = ⟨held, false, true⟩) := (show _ = _ from rfl)
    generalize mkB held = H at *
    go_enter Tryz.func148, Tryz.ntmps148
    go_wp2
    go_loop [4] (fun i => i = .int .i64 0) (fun _ => 0)
    case atStart => rfl
    case round =>
      subst hrel
      go_wp2
      go_end0
      exact ⟨rfl, by rw [HT.out]; exact HY.out, Turn.refl _ _⟩
  | false =>
    have HT : Hid (takeS ⟨held, false, false⟩ piece.data.toList = ⟨held ++ piece.data.toList, false, false⟩) := (show _ = _ from rfl)
    have hX : piece.extract 0 piece.size = piece := by rw [extract_drop]; simp [mkB]
    have HM := hide' (mkB_app held piece)
    have HX := hide' hX
    have HB : Hid (∀ v : List UInt8, Turn Y w (w.setCell ⟨Y, 1, none⟩ (.string (mkB v))) ∧ (w.setCell ⟨Y, 1, none⟩ (.string (mkB v))).heap[Y]? = some (refO d ⟨v, false, false⟩)) := fun v => ⟨(Turn.refl Y w).setCell 1 _, refO_set HY.out v⟩
    have hsz2 : ¬ 9223372036854775807 < (mkB held).size + (piece.extract 0 piece.size).size := by rw [hX]; omega
    have hsz3 : ¬ 9223372036854775807 < (mkB held).size + piece.size := by omega
    clear hX hms
    go_enter Tryz.func148, Tryz.ntmps148
    go_wp2
    go_loop [4] (fun i => i = .int .i64 0) (fun _ => 0)
    case atStart => rfl
    case round =>
      subst hrel
      go_wp2_with fail
      go_big_region
      all_goals go_wp2
      all_goals go_end0
      refine ⟨rfl, ?_, ((Turn.refl Y w).setCell 1 _).drew⟩
      rw [HT.out, HM.out]
      exact (HB.out _).2

/-- The place behind the first line end, or the end. -/
theorem passL_none {l : List UInt8} (h : ¬ 0 ≤ Go.Lib.indexByte l 10) : passL l = ([], true) := by unfold passL; rw [if_neg h]
theorem passL_at {s : ByteArray} {k : Nat} (h : k < s.size) (h10 : s[k] = 10) (hn : ¬ 0 ≤ Go.Lib.indexByte (s.data.toList.take k) 10) : passL s.data.toList = (s.data.toList.drop (k + 1), false) := by
  have e := ib_at h h10 hn
  unfold passL
  rw [e, if_pos (by omega)]
  simp
set_option maxRecDepth 20000 in
set_option maxHeartbeats 2000000 in
/-- Push, where bytes are passed over. -/
theorem refpush_pass (Y : Nat) (d : Int) (piece : ByteArray) (w : World) (hY : w.heap[Y]? = some (refO d ⟨[], true, false⟩)) (hp : piece.size ≤ 1000000000000) :
    Calls Tryz.prog 148 #[.pointer (some ⟨Y, 0, none⟩), .string piece] w fun e w' => e = .returned (.tuple #[]) ∧ w'.heap[Y]? = some (refO d (takeS ⟨[], true, false⟩ piece.data.toList)) ∧ Turn Y w w' := by
  have HT : Hid (takeS ⟨[], true, false⟩ piece.data.toList = ⟨(passL piece.data.toList).1, (passL piece.data.toList).2, false⟩) := (show _ = _ from rfl)
  generalize takeS ⟨[], true, false⟩ piece.data.toList = TT at *
  have HY := hide' hY
  have hlt := blkLt hY
  clear hY
  go_enter Tryz.func148, Tryz.ntmps148
  go_wp2
  go_loopw [4] (fun i wr => ∃ (k : Nat) (sk : Bool), i = .int .i64 (k : Int) ∧ k ≤ piece.size ∧ Hid (wr.heap[Y]? = some (refO d ⟨[], sk, false⟩) ∧ Turn Y w wr) ∧ Hid ((sk = true ∧ ¬ 0 ≤ Go.Lib.indexByte (piece.data.toList.take k) 10) ∨ (sk = false ∧ passL piece.data.toList = (piece.data.toList.drop k, false)))) (fun i _ => piece.size - (intOf i).toNat)
  case atStart => exact ⟨0, true, rfl, Nat.zero_le _, ⟨HY.out, Turn.refl _ _⟩, .inl ⟨rfl, by rw [List.take_zero, ib_nil]; decide⟩⟩
  case round =>
    obtain ⟨k, sk, rfl, hk, HW, HS⟩ := hrel
    obtain ⟨c0, c1, c2, c3, cf⟩ := refCells HW.out.1
    simp only at c0 c1 c2 c3
    have hlw := blkLt HW.out.1
    cases sk with
    | true =>
      have hno : ¬ 0 ≤ Go.Lib.indexByte (piece.data.toList.take k) 10 := by
        rcases HS.out with ⟨_, h⟩ | ⟨h, _⟩
        · exact h
        · cases h
      have HNo := hide' hno
      clear hno HS
      by_cases hlt2 : k < piece.size
      · by_cases h10 : piece[k] = 10
        · have hb10 : ((piece[k].toNat : Int) != 10) = false := by rw [h10]; rfl
          have HP := hide' (passL_at hlt2 h10 HNo.out)
          go_wp2
          go_roundw
          case rel => exact ⟨k + 1, false, by go_num, by omega, ⟨refO_pass HW.out.1 false, HW.out.2.setCell 2 _⟩, .inr ⟨rfl, HP.out⟩⟩
          case measure => simp [intOf]; omega
        · have hb10 : ((piece[k].toNat : Int) == 10) = false := u8_ne h10
          have hb10' : ((piece[k].toNat : Int) != 10) = true := by simp only [bne, hb10, Bool.not_false]
          have HN2 := hide' (ib_no hlt2 h10 HNo.out)
          go_wp2
          go_roundw
          case rel => exact ⟨k + 1, true, by go_num, by omega, ⟨refO_pass HW.out.1 true, HW.out.2.setCell 2 _⟩, .inl ⟨rfl, HN2.out⟩⟩
          case measure => simp [intOf]; omega
      · have hk2 : k = piece.size := by omega
        subst hk2
        have HP : Hid (passL piece.data.toList = ([], true)) := by
          show _ = _
          have h := HNo.out
          rw [List.take_of_length_le (by simp)] at h
          exact passL_none h
        have hX : piece.extract piece.size piece.size = ⟨#[]⟩ := by rw [extract_drop, List.drop_eq_nil_of_le (by simp)]; rfl
        have HX := hide' hX
        have hmB : mkB [] = ⟨#[]⟩ := rfl
        rw [hmB] at c1
        have hsz1 : ¬ 9223372036854775807 < (⟨#[]⟩ : ByteArray).size + (piece.extract piece.size piece.size).size := by rw [hX]; decide
        clear hmB
        go_wp2_with fail
        go_big_region
        all_goals go_wp2
        all_goals go_end0
        refine ⟨rfl, ?_, (HW.out.2.setCell 1 _).drew⟩
        rw [HT.out, HP.out]
        exact refO_set HW.out.1 []
    | false =>
      have hpl : passL piece.data.toList = (piece.data.toList.drop k, false) := by
        rcases HS.out with ⟨h, _⟩ | ⟨_, h⟩
        · cases h
        · exact h
      have HP := hide' hpl
      clear hpl HS
      have hmB : mkB [] = ⟨#[]⟩ := rfl
      rw [hmB] at c1
      have hX := extract_drop piece k
      have HX := hide' hX
      have hi : (k : Int) ≤ (piece.size : Int) := by omega
      have hsz1 : ¬ 9223372036854775807 < (⟨#[]⟩ : ByteArray).size + (piece.extract k piece.size).size := by rw [ByteArray.size_extract]; show ¬ _ < 0 + _; omega
      clear hmB hX
      go_wp2_with fail
      go_big_region
      all_goals go_wp2
      all_goals go_end0
      have e1 : (⟨#[]⟩ : ByteArray) ++ piece.extract k piece.size = mkB (piece.data.toList.drop k) := by
        rw [HX.out]
        have := mkB_app [] (mkB (piece.data.toList.drop k))
        rw [mkB_nil] at this
        rw [this]
        simp [mkB]
      refine ⟨rfl, ?_, (HW.out.2.setCell 1 _).drew⟩
      rw [HT.out, HP.out, e1]
      exact refO_set HW.out.1 _

theorem refpush_any (Y : Nat) (d : Int) (s : St) (piece : ByteArray) (w : World) (R : RefAt w Y d s) (hp : s.held.length + piece.size ≤ 1000000000000) :
    Calls Tryz.prog 148 #[.pointer (some ⟨Y, 0, none⟩), .string piece] w fun e w' => e = .returned (.tuple #[]) ∧ RefAt w' Y d (takeS s piece.data.toList) ∧ Turn Y w w' := by
  obtain ⟨hY, hok⟩ := R
  have hok2 := takeS_ok piece.data.toList hok
  cases hps : s.pass with
  | false => exact (refpush_plain Y d s piece w hY hps hp).mono fun e w' ⟨h1, h2, h3⟩ => ⟨h1, ⟨h2, hok2⟩, h3⟩
  | true =>
    have hh := hok.pass hps
    have hc : s.closed = false := by
      cases hcc : s.closed with
      | false => rfl
      | true => have := (hok.closed hcc).2; rw [hps] at this; cases this
    obtain ⟨held, ps, cl⟩ := s
    simp only at hh hc hps
    subst hh
    subst hc
    subst hps
    exact (refpush_pass Y d piece w hY (by simp at hp; exact hp)).mono fun e w' ⟨h1, h2, h3⟩ => ⟨h1, ⟨h2, hok2⟩, h3⟩
end Go.Proofs.YtlonjggfnleolaaGreatDoor


/-
  The reference's reader: whole, Next.
-/

namespace Go.Proofs.YtlonjggfnleolaaGreatDoor
open Go.RowKit
set_option linter.unusedVariables false

theorem RefOut.none_eq {w w' : World} {e : Ending} (h : RefOut w w' none e) : e = .returned (.tuple #[zCmdV, .int .i64 0]) := h
set_option maxRecDepth 20000 in
set_option maxHeartbeats 4000000 in
theorem refwhole_of (N : Nat) (Y : Nat) (d : Int) (s : ByteArray) (RES : Option StepR) (w : World) (hY : w.cell? ⟨Y, 0, none⟩ = some (.int .i64 d)) (hYl : Y < w.heap.size) (hd : (d = 1 ∧ N = 171) ∨ (d = 2 ∧ N = 172) ∨ (d = 3 ∧ N = 173))
    (hC : ∀ W : World, Calls Tryz.prog N #[.string s] W fun r w' => RefOut W w' RES r ∧ Below W.heap.size W w') :
    Calls Tryz.prog 165 #[.pointer (some ⟨Y, 0, none⟩), .string s] w fun r w' => RefOut w w' RES r ∧ Below w.heap.size w w' := by
  have HC := hide' hC
  clear hC
  have HZ : Hid (∀ (W : World), Below (w.heap.size + 1) (w.alloc (.cells #[.int .i64 0, .slice none 0 0, .string ⟨#[]⟩, .string ⟨#[]⟩, .bool false, .int .i64 0] 36)) W → CCells W w.heap.size 0 (.slice none 0 0) ⟨#[]⟩ ∧ w.heap.size < W.heap.size ∧ Below w.heap.size w W ∧ W.heap[w.heap.size]? = some zCmdO) := fun W h => ⟨(zres h).1, (zres h).2.1, (zres h).2.2, (h.block _ (by omega)).trans (blkNew w _)⟩
  rcases hd with ⟨rfl, rfl⟩ | ⟨rfl, rfl⟩ | ⟨rfl, rfl⟩
  all_goals
    go_enter Tryz.func165, Tryz.ntmps165
    go_wp2_with fail
    first | go_at_call 171 | go_at_call 172 | go_at_call 173
    refine (HC.out _).mono ?_
    rintro r w2 ⟨hO, hb2⟩
    obtain ⟨⟨⟨r0, r1, r2, r3, r4, r5⟩, rf⟩, hz, hB, hR⟩ := HZ.out w2 (by simpa using hb2)
    have HB := hide' (And.intro hB hR)
    clear hb2 hB hR
    cases RES with
    | none =>
      have hr := RefOut.none_eq hO
      subst hr
      clear hO HC HZ
      unfold zCmdV
      go_wp2
      refine bodyPost_ret (v := .tuple #[zCmdV, .int .i64 0]) (by simp [results, Tryz.results165, go_sem, zCmdV, r0, r1, r2, r3, r4, r5]) rfl ⟨rfl, set6 HB.out.1 (Nat.le_refl _) _ _ _ _ _ _⟩
    | some t =>
      obtain ⟨kv, hr, hK⟩ := hO
      subst hr
      obtain ⟨ka, kc, hkv⟩ := hK.form
      subst hkv
      have HK : Hid (KeysR w2 w.heap.size (.slice ka t.c.keys.length kc) t.c.keys) := hK.other (by simp) (fun _ _ _ _ => rfl)
      clear hK HC HZ
      generalize hhow : (if t.skip = true then (2 : Int) else 1) = how at *
      have HW := hide' hhow
      clear hhow
      unfold cmdVR
      go_wp2
      refine bodyPost_ret (v := .tuple #[cmdVR t.c (.slice ka t.c.keys.length kc), .int .i64 how]) (by simp [results, Tryz.results165, go_sem, cmdVR, r0, r1, r2, r3, r4, r5]) rfl ⟨⟨_, by rw [HW.out], HK.out.other (Nat.le_refl _) (fun b Z hZ _ => set6_other (fun e => by rw [e, HB.out.2] at hZ; cases hZ) _ _ _ _ _ _)⟩, set6 HB.out.1 (Nat.le_refl _) _ _ _ _ _ _⟩
/-- whole: what the reference tells, where one byte less tells nothing. -/
theorem refwhole_any (Y : Nat) (d : Int) (s : ByteArray) (pre : List UInt8) (b : UInt8) (w : World) (hd : d = 1 ∨ d = 2 ∨ d = 3) (hY : w.cell? ⟨Y, 0, none⟩ = some (.int .i64 d)) (hYl : Y < w.heap.size) (hs : s.size ≤ 1000000000000) (hb : s.data.toList = pre ++ [b]) (h0 : readR d pre = none) :
    Calls Tryz.prog 165 #[.pointer (some ⟨Y, 0, none⟩), .string s] w fun r w' => RefOut w w' (readR d s.data.toList) r ∧ Below w.heap.size w w' := by
  unfold readR at h0 ⊢
  rcases hd with rfl | rfl | rfl
  · rw [if_pos rfl] at h0 ⊢
    exact refwhole_of 171 Y 1 s _ w hY hYl (.inl ⟨rfl, rfl⟩) (fun W => refline_any s pre b W hs hb h0)
  · rw [if_neg (by decide), if_pos rfl] at h0 ⊢
    exact refwhole_of 172 Y 2 s _ w hY hYl (.inr (.inl ⟨rfl, rfl⟩)) (fun W => refframe_any s pre b W hs hb h0)
  · rw [if_neg (by decide), if_neg (by decide)] at h0 ⊢
    exact refwhole_of 173 Y 3 s _ w hY hYl (.inr (.inr ⟨rfl, rfl⟩)) (fun W => reflist_any s W hs (by rw [← len_size', hb]; simp))

/-- What Next of the reference tells. -/
def NextOut (w w' : World) (Y : Nat) (d : Int) (s : St) (e : Ending) : Prop :=
  match readR d s.held with
  | none => e = .returned (.tuple #[zCmdV, .bool false]) ∧ RefAt w' Y d s
  | some t => ∃ kv, e = .returned (.tuple #[cmdVR t.c kv, .bool true]) ∧ KeysR w' w.heap.size kv t.c.keys ∧ RefAt w' Y d (afterS s t)
theorem edge_okS {d : Int} {s : St} {n : Nat} {t : StepR} (hn : n < s.held.length) (h0 : readR d (s.held.take n) = none) (h : readR d (s.held.take (n + 1)) = some t) : (⟨[], t.skip, t.c.fatal⟩ : St).ok := by
  have e1 : s.held.take (n + 1) = s.held.take n ++ [s.held[n]] := by rw [List.take_add_one, List.getElem?_eq_getElem hn]; rfl
  rw [e1] at h
  have he := readR_edge h0 h
  refine ⟨fun _ => rfl, fun hc => ⟨rfl, ?_⟩⟩
  rcases he with ⟨_, hk⟩ | ⟨hf, _⟩ | ⟨hf, _⟩
  · exact hk
  · simp only at hc; rw [hf] at hc; cases hc
  · simp only at hc; rw [hf] at hc; cases hc
theorem mkB_take (l : List UInt8) (k : Nat) : (mkB l).extract 0 k = mkB (l.take k) := by rw [extract_mkB]; simp [mkB]
theorem mkB_drop (l : List UInt8) (k : Nat) : (mkB l).extract k (mkB l).size = mkB (l.drop k) := by rw [extract_drop]; simp [mkB]
theorem mkB_list (l : List UInt8) : (mkB l).data.toList = l := by simp [mkB]
end Go.Proofs.YtlonjggfnleolaaGreatDoor


/-
  The reference's reader: Next.
-/

namespace Go.Proofs.YtlonjggfnleolaaGreatDoor
open Go.RowKit
set_option linter.unusedVariables false

def cmdO (c : Cmd) (kv : Value) : Obj := .cells #[.int .i64 c.kind, kv, .string c.val, .string c.word, .bool c.fatal, .int .i64 c.id] 36 (0, 0)
theorem next_push {w w2 w5 : World} {Y : Nat} {d : Int} {H : ByteArray} {p : Bool} {c : Cmd} {kv : Value} (sk : Bool) (h1 : w2.heap[Y]? = some (.cells #[.int .i64 d, .string H, .bool p, .bool false] 195 (0, 0))) (h2 : w2.heap[w.heap.size]? = some zCmdO) (h3 : Below w.heap.size w w2) (h4 : KeysR w2 w.heap.size kv c.keys) (hYn : ¬ Y = w.heap.size)
    (hT : Turn Y ((((w2.setCell ⟨Y, 1, none⟩ (.string ⟨#[]⟩)).setCell ⟨Y, 3, none⟩ (.bool c.fatal)).setCell ⟨Y, 2, none⟩ (.bool sk)).alloc (.cells #[.int .i64 c.kind, kv, .string c.val, .string c.word, .bool c.fatal, .int .i64 c.id] 36)) w5) :
    w5.heap[w2.heap.size]? = some (cmdO c kv) ∧ w5.heap[w.heap.size]? = some zCmdO ∧ KeysR w5 w.heap.size kv c.keys ∧ Turn Y w w5 := by
  have hl1 := blkLt h1
  have hl2 := blkLt h2
  have hYn' : w.heap.size ≠ Y := fun e => hYn e.symm
  have hsz : ((((w2.setCell ⟨Y, 1, none⟩ (.string ⟨#[]⟩)).setCell ⟨Y, 3, none⟩ (.bool c.fatal)).setCell ⟨Y, 2, none⟩ (.bool sk)).heap.size) = w2.heap.size := by simp
  have hT0 : Turn Y w ((((w2.setCell ⟨Y, 1, none⟩ (.string ⟨#[]⟩)).setCell ⟨Y, 3, none⟩ (.bool c.fatal)).setCell ⟨Y, 2, none⟩ (.bool sk)).alloc (.cells #[.int .i64 c.kind, kv, .string c.val, .string c.word, .bool c.fatal, .int .i64 c.id] 36)) := ((((Turn.of_below h3).setCell 1 _).setCell 3 _).setCell 2 _).alloc _
  have o1 : ∀ (b : Nat) (o : Obj), w2.heap[b]? = some o → b ≠ Y → ((((w2.setCell ⟨Y, 1, none⟩ (.string ⟨#[]⟩)).setCell ⟨Y, 3, none⟩ (.bool c.fatal)).setCell ⟨Y, 2, none⟩ (.bool sk)).alloc (.cells #[.int .i64 c.kind, kv, .string c.val, .string c.word, .bool c.fatal, .int .i64 c.id] 36)).heap[b]? = some o := fun b o h hb => hs_alloc (hs_set (hs_set (hs_set h hb) hb) hb) _
  have o2 : ((((w2.setCell ⟨Y, 1, none⟩ (.string ⟨#[]⟩)).setCell ⟨Y, 3, none⟩ (.bool c.fatal)).setCell ⟨Y, 2, none⟩ (.bool sk)).alloc (.cells #[.int .i64 c.kind, kv, .string c.val, .string c.word, .bool c.fatal, .int .i64 c.id] 36)).heap[w2.heap.size]? = some (cmdO c kv) := hs_new hsz.symm
  have hsa : ((((w2.setCell ⟨Y, 1, none⟩ (.string ⟨#[]⟩)).setCell ⟨Y, 3, none⟩ (.bool c.fatal)).setCell ⟨Y, 2, none⟩ (.bool sk)).alloc (.cells #[.int .i64 c.kind, kv, .string c.val, .string c.word, .bool c.fatal, .int .i64 c.id] 36)).heap.size = w2.heap.size + 1 := by rw [World.size_alloc, hsz]
  generalize ((((w2.setCell ⟨Y, 1, none⟩ (.string ⟨#[]⟩)).setCell ⟨Y, 3, none⟩ (.bool c.fatal)).setCell ⟨Y, 2, none⟩ (.bool sk)).alloc (.cells #[.int .i64 c.kind, kv, .string c.val, .string c.word, .bool c.fatal, .int .i64 c.id] 36)) = W3 at *
  refine ⟨(hT.block _ (by omega) (by omega)).trans o2, (hT.block _ (by omega) hYn').trans (o1 _ _ h2 hYn'), h4.other (Nat.le_refl _) (fun b Z hZ _ => ?_), hT0.trans hT⟩
  have hbY : b ≠ Y := fun e => by rw [e, h1] at hZ; cases hZ
  have hbl := blkLt hZ
  exact ((hT.block b (by omega) hbY).trans (o1 b _ hZ hbY)).trans hZ.symm
theorem next_end {w w5 : World} {Y : Nat} {d : Int} {s : St} {ks : List ByteArray} {kv : Value} (h1 : RefAt w5 Y d s) (h2 : KeysR w5 w.heap.size kv ks) (h3 : Turn Y w w5) (h4 : w5.heap[w.heap.size]? = some zCmdO) (hYn : ¬ Y = w.heap.size) (a b c e f g : Value) :
    KeysR ((((((w5.setCell ⟨w.heap.size, 0, none⟩ a).setCell ⟨w.heap.size, 1, none⟩ b).setCell ⟨w.heap.size, 2, none⟩ c).setCell ⟨w.heap.size, 3, none⟩ e).setCell ⟨w.heap.size, 4, none⟩ f).setCell ⟨w.heap.size, 5, none⟩ g) w.heap.size kv ks ∧ RefAt ((((((w5.setCell ⟨w.heap.size, 0, none⟩ a).setCell ⟨w.heap.size, 1, none⟩ b).setCell ⟨w.heap.size, 2, none⟩ c).setCell ⟨w.heap.size, 3, none⟩ e).setCell ⟨w.heap.size, 4, none⟩ f).setCell ⟨w.heap.size, 5, none⟩ g) Y d s ∧ Turn Y w ((((((w5.setCell ⟨w.heap.size, 0, none⟩ a).setCell ⟨w.heap.size, 1, none⟩ b).setCell ⟨w.heap.size, 2, none⟩ c).setCell ⟨w.heap.size, 3, none⟩ e).setCell ⟨w.heap.size, 4, none⟩ f).setCell ⟨w.heap.size, 5, none⟩ g) := by
  refine ⟨h2.other (Nat.le_refl _) (fun b Z hZ _ => set6_other (fun e => by rw [e, h4] at hZ; cases hZ) _ _ _ _ _ _), ⟨(set6_other hYn _ _ _ _ _ _).trans h1.at_, h1.ok⟩, ?_⟩
  have hB : Below w.heap.size w5 ((((((w5.setCell ⟨w.heap.size, 0, none⟩ a).setCell ⟨w.heap.size, 1, none⟩ b).setCell ⟨w.heap.size, 2, none⟩ c).setCell ⟨w.heap.size, 3, none⟩ e).setCell ⟨w.heap.size, 4, none⟩ f).setCell ⟨w.heap.size, 5, none⟩ g) :=
    ((((((Below.refl _ _).setCell (p := ⟨w.heap.size, 0, none⟩) (Nat.le_refl _) _).setCell (p := ⟨w.heap.size, 1, none⟩) (Nat.le_refl _) _).setCell (p := ⟨w.heap.size, 2, none⟩) (Nat.le_refl _) _).setCell (p := ⟨w.heap.size, 3, none⟩) (Nat.le_refl _) _).setCell (p := ⟨w.heap.size, 4, none⟩) (Nat.le_refl _) _).setCell (p := ⟨w.heap.size, 5, none⟩) (Nat.le_refl _) _
  exact ⟨hB.os.trans h3.os, hB.tape.trans h3.tape, hB.output.trans h3.output, Nat.le_trans h3.size hB.size, fun k hk hn => (hB.block k hk).trans (h3.block k hk hn)⟩

set_option maxRecDepth 20000 in
set_option maxHeartbeats 8000000 in
theorem refnext_any (Y : Nat) (d : Int) (s : St) (w : World) (hd : d = 1 ∨ d = 2 ∨ d = 3) (R : RefAt w Y d s) (hs : s.held.length ≤ 1000000000000) :
    Calls Tryz.prog 149 #[.pointer (some ⟨Y, 0, none⟩)] w fun e w' => NextOut w w' Y d s e ∧ Turn Y w w' := by
  have hok := R.ok
  have hY := R.at_
  obtain ⟨c0, c1, c2, c3, cf⟩ := refCells hY
  have hlt := blkLt hY
  have HR := hide' R
  have hYn : ¬ Y = w.heap.size := by omega
  clear R
  cases hcl : s.closed with
  | true =>
    have hh := (hok.closed hcl).1
    have HN : Hid (∀ w' e, e = Ending.returned (.tuple #[zCmdV, .bool false]) → RefAt w' Y d s → NextOut w w' Y d s e) := fun w' e h1 h2 => by unfold NextOut; rw [hh, readR_nil]; exact ⟨h1, h2⟩
    rw [hcl] at c3
    clear hcl hh hY hok
    go_enter Tryz.func149, Tryz.ntmps149
    go_wp2
    refine bodyPost_ret (v := .tuple #[zCmdV, .bool false]) (by simp [results, Tryz.results149, go_sem, zCmdV]) rfl ⟨HN.out _ _ rfl ⟨?_, HR.out.ok⟩, ?_⟩
    · repeat (first | with_reducible exact HR.out.at_ | with_reducible refine hs_set ?_ (by simp; try omega) | with_reducible refine hs_drew ?_ | with_reducible refine hs_alloc ?_ _)
    · refine .of_below ?_
      repeat (first | with_reducible exact Below.refl _ _ | with_reducible refine Below.drew ?_ | with_reducible refine Below.alloc ?_ (by simp; try omega) _ | with_reducible refine Below.setCell ?_ (by simp; try omega) _)
  | false =>
    rw [hcl] at c3
    have hms := mkB_size s.held
    have HOK := hide' hok
    have HCl := hide' hcl
    clear hcl hok hY
    generalize hL : s.held.length = L at *
    have HLn := hide' hL
    have HH := hide' (show ∀ k, (mkB s.held).extract 0 k = mkB (s.held.take k) from fun k => mkB_take _ _)
    have HD := hide' (show ∀ k, (mkB s.held).extract k (mkB s.held).size = mkB (s.held.drop k) from fun k => mkB_drop _ _)
    have HY0 : Hid (w.heap[Y]? = some (.cells #[.int .i64 d, .string (mkB s.held), .bool s.pass, .bool false] 195 (0, 0))) := by have := HR.out.at_; unfold refO at this; rw [HCl.out] at this; exact this
    generalize mkB s.held = H at *
    have HHL := hide' hms
    clear hL
    go_enter Tryz.func149, Tryz.ntmps149
    go_wp2
    go_loopw [4] (fun n wr => ∃ k : Nat, n = .int .i64 ((k : Int) + 1) ∧ k ≤ L ∧ Hid (readR d (s.held.take k) = none) ∧ Hid (wr.heap[Y]? = some (.cells #[.int .i64 d, .string H, .bool s.pass, .bool false] 195 (0, 0)) ∧ wr.heap[w.heap.size]? = some zCmdO ∧ Below w.heap.size w wr)) (fun n _ => L + 1 - (intOf n).toNat)
    case atStart =>
      refine ⟨0, rfl, Nat.zero_le _, ?_, ?_⟩
      · show _ = _; rw [List.take_zero, readR_nil]
      · exact ⟨hs_alloc HY0.out _, blkNew w _, (Below.refl _ _).alloc (Nat.le_refl _) _⟩
    case round =>
      clear c0 c1 c2 c3 cf
      obtain ⟨k, rfl, hk, HN, HW⟩ := hrel
      have c0 := blkCell HW.out.1 0
      have c1 := blkCell HW.out.1 1
      have c2 := blkCell HW.out.1 2
      have c3 := blkCell HW.out.1 3
      have cf := blkFree HW.out.1
      simp at c0 c1 c2 c3
      obtain ⟨⟨r0, r1, r2, r3, r4, r5⟩, rf⟩ := ccells_of HW.out.2.1
      have hYl := blkLt HW.out.1
      have hRl := blkLt HW.out.2.1
      by_cases hkl : k < L
      · have hkh : k < s.held.length := by rw [HLn.out]; exact hkl
        have i1 : (k : Int) + 1 ≤ (H.size : Int) := by omega
        have i2 : (0 : Int) ≤ (k : Int) + 1 := by omega
        have i3 : (k : Int) + 1 ≤ (L : Int) := by omega
        have htk : s.held.take (k + 1) = s.held.take k ++ [s.held[k]] := by rw [List.take_add_one, List.getElem?_eq_getElem hkh]; rfl
        have HWh : Hid (∀ W : World, W.cell? ⟨Y, 0, none⟩ = some (.int .i64 d) → Y < W.heap.size → Calls Tryz.prog 165 #[.pointer (some ⟨Y, 0, none⟩), .string (H.extract 0 (k + 1))] W fun r w' => RefOut W w' (readR d (s.held.take (k + 1))) r ∧ Below W.heap.size W w') := fun W h1 h2 => by
          rw [HH.out]
          have := refwhole_any Y d (mkB (s.held.take (k + 1))) (s.held.take k) s.held[k] W hd h1 h2 (by rw [mkB_size, List.length_take]; omega) (by rw [mkB_list, htk]) HN.out
          rw [mkB_list] at this
          exact this
        clear htk
        cases hr : readR d (s.held.take (k + 1)) with
        | none =>
          rw [hr] at HWh
          have HN2 := hide' hr
          clear hr
          go_wp2_with fail
          go_at_call 165
          refine (HWh.out _ (by first | exact c0 | (rw [Below.cell_alloc' (by omega)]; exact c0)) (by first | exact hYl | (simp; omega))).mono ?_
          rintro r w2 ⟨hO, hb2⟩
          have hre := RefOut.none_eq hO
          subst hre
          have HW2 : Hid (w2.heap[Y]? = some (.cells #[.int .i64 d, .string H, .bool s.pass, .bool false] 195 (0, 0)) ∧ w2.heap[w.heap.size]? = some zCmdO ∧ Below w.heap.size w w2) := ⟨(hb2.block _ hYl).trans HW.out.1, (hb2.block _ hRl).trans HW.out.2.1, HW.out.2.2.trans (hb2.mono HW.out.2.2.size)⟩
          clear hO hb2
          unfold zCmdV
          go_wp2
          go_roundw
          case rel => exact ⟨k + 1, by go_num, by omega, HN2, hs_alloc HW2.out.1 _, hs_alloc HW2.out.2.1 _, HW2.out.2.2.alloc HW2.out.2.2.size _⟩
          case measure => simp [intOf]; omega
        | some t =>
          rw [hr] at HWh
          obtain ⟨hra, hae⟩ := after_edge HOK.out hkh HN.out hr
          have hsok := edge_okS hkh HN.out hr
          have HNx : Hid (∀ w' e, (∃ kv, e = Ending.returned (.tuple #[cmdVR t.c kv, .bool true]) ∧ KeysR w' w.heap.size kv t.c.keys ∧ RefAt w' Y d (edgeS t (s.held.drop (k + 1)))) → NextOut w w' Y d s e) := fun w' e h => by unfold NextOut; rw [hra]; simp only; rw [hae]; exact h
          have HPu : Hid (∀ W : World, W.heap[Y]? = some (refO d ⟨[], t.skip, t.c.fatal⟩) → Calls Tryz.prog 148 #[.pointer (some ⟨Y, 0, none⟩), .string (H.extract (k + 1) L)] W fun e w' => e = .returned (.tuple #[]) ∧ RefAt w' Y d (edgeS t (s.held.drop (k + 1))) ∧ Turn Y W w') := fun W h => by
            rw [← HHL.out, HD.out]
            have hlL := HLn.out
            have := refpush_any Y d ⟨[], t.skip, t.c.fatal⟩ (mkB (s.held.drop (k + 1))) W ⟨h, hsok⟩ (by rw [mkB_size, List.length_drop]; simp; omega)
            rw [mkB_list] at this
            exact this
          clear hr hra hae hsok
          go_wp2_with fail
          go_at_call 165
          refine (HWh.out _ (by first | exact c0 | (rw [Below.cell_alloc' (by omega)]; exact c0)) (by first | exact hYl | (simp; omega))).mono ?_
          rintro r w2 ⟨⟨kv, hre, hK⟩, hb2⟩
          subst hre
          obtain ⟨ka, kc, hkv⟩ := hK.form
          subst hkv
          have hK2 : KeysR w2 w.heap.size (.slice ka t.c.keys.length kc) t.c.keys := hK.other HW.out.2.2.size (fun _ _ _ _ => rfl)
          have hY2 := (hb2.block _ hYl).trans HW.out.1
          have hR2 := (hb2.block _ hRl).trans HW.out.2.1
          have HW2 : Hid (w2.heap[Y]? = some (.cells #[.int .i64 d, .string H, .bool s.pass, .bool false] 195 (0, 0)) ∧ w2.heap[w.heap.size]? = some zCmdO ∧ Below w.heap.size w w2 ∧ KeysR w2 w.heap.size (.slice ka t.c.keys.length kc) t.c.keys) := ⟨hY2, hR2, HW.out.2.2.trans (hb2.mono HW.out.2.2.size), hK2⟩
          clear c0 c1 c2 c3 cf r0 r1 r2 r3 r4 r5 rf
          have c0 := blkCell hY2 0
          have c1 := blkCell hY2 1
          have c2 := blkCell hY2 2
          have c3 := blkCell hY2 3
          have cf := blkFree hY2
          simp at c0 c1 c2 c3
          have hYl2 := blkLt hY2
          have hRl2 := blkLt hR2
          clear hK hb2 hK2 hY2 hR2 HWh HW HN
          unfold cmdVR
          have HPw : Hid (∀ (sk : Bool), t.skip = sk → ∀ o, ((((w2.setCell ⟨Y, 1, none⟩ (.string ⟨#[]⟩)).setCell ⟨Y, 3, none⟩ (.bool t.c.fatal)).setCell ⟨Y, 2, none⟩ (.bool sk)).alloc o).heap[Y]? = some (refO d ⟨[], t.skip, t.c.fatal⟩)) := fun sk hsk o => by
            rw [hsk]
            exact (hs_alloc (blkSet (i := 2) (blkSet (i := 3) (blkSet (i := 1) HW2.out.1 _) _) _) o).trans rfl
          have hY3 : ¬ Y = w2.heap.size := by omega
          cases hsk : t.skip with
          | true =>
            have HSk := hide' hsk
            clear hsk
            dsimp only
            rw [if_pos rfl]
            go_wp2_with fail
            go_at_call 148
            refine (HPu.out _ (HPw.out true HSk.out _)).mono ?_
            rintro e w5 ⟨rfl, hRA, hT⟩
            obtain ⟨hC5, hR5, hK5, hTu⟩ := next_push true HW2.out.1 HW2.out.2.1 HW2.out.2.2.1 HW2.out.2.2.2 hYn hT
            have HF := hide' (And.intro hRA (And.intro hK5 (And.intro hTu hR5)))
            have q0 := blkCell hC5 0
            have q1 := blkCell hC5 1
            have q2 := blkCell hC5 2
            have q3 := blkCell hC5 3
            have q4 := blkCell hC5 4
            have q5 := blkCell hC5 5
            simp at q0 q1 q2 q3 q4 q5
            obtain ⟨⟨r0, r1, r2, r3, r4, r5⟩, rf⟩ := ccells_of hR5
            have hRl5 := blkLt hR5
            have hCl5 := blkLt hC5
            have hnC : ¬ w.heap.size = w2.heap.size := by omega
            clear hRA hT hC5 hR5 hK5 hTu c0 c1 c2 c3 cf
            go_wp2
            refine bodyPost_ret (v := .tuple #[cmdVR t.c (.slice ka t.c.keys.length kc), .bool true]) (by simp [results, Tryz.results149, go_sem, cmdVR, r0, r1, r2, r3, r4, r5]) rfl ⟨HNx.out _ _ ⟨_, rfl, (next_end HF.out.1 HF.out.2.1 HF.out.2.2.1 HF.out.2.2.2 hYn _ _ _ _ _ _).1, (next_end HF.out.1 HF.out.2.1 HF.out.2.2.1 HF.out.2.2.2 hYn _ _ _ _ _ _).2.1⟩, (next_end HF.out.1 HF.out.2.1 HF.out.2.2.1 HF.out.2.2.2 hYn _ _ _ _ _ _).2.2⟩
          | false =>
            have HSk := hide' hsk
            clear hsk
            dsimp only
            rw [if_neg (by simp)]
            go_wp2_with fail
            go_at_call 148
            refine (HPu.out _ (HPw.out false HSk.out _)).mono ?_
            rintro e w5 ⟨rfl, hRA, hT⟩
            obtain ⟨hC5, hR5, hK5, hTu⟩ := next_push false HW2.out.1 HW2.out.2.1 HW2.out.2.2.1 HW2.out.2.2.2 hYn hT
            have HF := hide' (And.intro hRA (And.intro hK5 (And.intro hTu hR5)))
            have q0 := blkCell hC5 0
            have q1 := blkCell hC5 1
            have q2 := blkCell hC5 2
            have q3 := blkCell hC5 3
            have q4 := blkCell hC5 4
            have q5 := blkCell hC5 5
            simp at q0 q1 q2 q3 q4 q5
            obtain ⟨⟨r0, r1, r2, r3, r4, r5⟩, rf⟩ := ccells_of hR5
            have hRl5 := blkLt hR5
            have hCl5 := blkLt hC5
            have hnC : ¬ w.heap.size = w2.heap.size := by omega
            clear hRA hT hC5 hR5 hK5 hTu c0 c1 c2 c3 cf
            go_wp2
            refine bodyPost_ret (v := .tuple #[cmdVR t.c (.slice ka t.c.keys.length kc), .bool true]) (by simp [results, Tryz.results149, go_sem, cmdVR, r0, r1, r2, r3, r4, r5]) rfl ⟨HNx.out _ _ ⟨_, rfl, (next_end HF.out.1 HF.out.2.1 HF.out.2.2.1 HF.out.2.2.2 hYn _ _ _ _ _ _).1, (next_end HF.out.1 HF.out.2.1 HF.out.2.2.1 HF.out.2.2.2 hYn _ _ _ _ _ _).2.1⟩, (next_end HF.out.1 HF.out.2.1 HF.out.2.2.1 HF.out.2.2.2 hYn _ _ _ _ _ _).2.2⟩
      · have hkk : k = L := by omega
        subst hkk
        have hnr : readR d s.held = none := by
          have := HN.out
          rw [List.take_of_length_le (by rw [HLn.out]; exact Nat.le_refl _)] at this
          exact this
        have HNx : Hid (∀ w' e, e = Ending.returned (.tuple #[zCmdV, .bool false]) → RefAt w' Y d s → NextOut w w' Y d s e) := fun w' e h1 h2 => by unfold NextOut; rw [hnr]; exact ⟨h1, h2⟩
        clear hnr
        go_wp2
        refine bodyPost_ret (v := .tuple #[zCmdV, .bool false]) (by simp [results, Tryz.results149, go_sem, zCmdV, r0, r1, r2, r3, r4, r5]) rfl ⟨HNx.out _ _ rfl ⟨?_, HR.out.ok⟩, ?_⟩
        · refine (set6_other hYn _ _ _ _ _ _).trans (HW.out.1.trans ?_)
          rw [← HY0.out]
          exact HR.out.at_
        · exact .of_below (set6 HW.out.2.2 (Nat.le_refl _) _ _ _ _ _ _)
end Go.Proofs.YtlonjggfnleolaaGreatDoor


/-
  client.tell in any dialect; what is read may wait; Junction.send of a question.
-/

namespace Go.Proofs.YtlonjggfnleolaaGreatDoor
open Go.RowKit Go.Shelf Go.Conc
set_option linter.unusedVariables false

def tellC (s : CliS) : CliS := { s with waits := (tellL s.d s.waits s.told).1, told := (tellL s.d s.waits s.told).2 }
theorem clientTell (win : Nat) (v : CliI) (s : CliS) (w : World) (h : CliOk w win v s) (hl : s.told.length + 1000 * s.waits.length ≤ 100000000000) (hwn : s.waits.length ≤ 1000) :
    Calls Tryz.prog 89 #[.pointer (some ⟨v.C, 0, none⟩)] w fun e w' => e = .returned (.tuple #[]) ∧ ∃ v', CliOk w' win v' (tellC s) ∧ v'.C = v.C ∧ v'.R = v.R ∧ v'.ch = v.ch ∧ v'.t = v.t ∧ v'.hb = v.hb ∧ Chg v.foot w w' ∧ Later w v.foot v'.foot := by
  rcases h.di with ⟨h1, h2⟩ | ⟨h1, h2⟩ | ⟨h1, h2⟩
  · exact clientTell1 win v s w h h2 h1 hl hwn
  · exact clientTell2 win v s w h h2 h1 hl hwn
  · exact clientTell3 win v s w h h2 h1 hl hwn

/-- How many wait that are right. -/
def rightN (l : List Cmd) : Nat := (l.filter (fun c => !c.keys.isEmpty)).length
theorem wrongB_size {d : Int} {c : Cmd} (h : CmdOk c) (hk : c.keys = []) : (wrongB d c).data.toList.length ≤ 1000 := by
  have h5 := (h.wrong hk).2
  rw [Array.length_toList]
  show (wrongB d c).size ≤ 1000
  unfold wrongB
  split
  · unfold liTellB
    rw [if_neg (by decide), if_neg (by decide), if_neg (by decide), ByteArray.size_append, ByteArray.size_append]
    show 5 + c.word.size + 1 ≤ 1000
    omega
  · split
    · unfold headB; rw [strOfNums_size]; decide
    · unfold lsTellB
      rw [if_neg (by decide), if_neg (by decide), if_neg (by decide), ByteArray.size_append, ByteArray.size_append]
      show 1 + c.word.size + 1 ≤ 1000
      omega
theorem tellL_bd (d : Int) : ∀ (l : List Cmd) (told : List UInt8), (∀ c ∈ l, CmdOk c) → (tellL d l told).2.length + 1000 * (tellL d l told).1.length ≤ told.length + 1000 * l.length ∧ (tellL d l told).1.length ≤ l.length ∧ rightN (tellL d l told).1 = rightN l := by
  intro l
  induction l with
  | nil => intro told _; exact ⟨Nat.le_refl _, Nat.le_refl _, rfl⟩
  | cons c cs ih =>
    intro told hok
    unfold tellL
    by_cases hk : c.keys = []
    · rw [if_pos hk]
      obtain ⟨h1, h2, h3⟩ := ih (told ++ (wrongB d c).data.toList) (fun x hx => hok x (by simp [hx]))
      have h4 := wrongB_size (d := d) (hok c (by simp)) hk
      refine ⟨?_, ?_, ?_⟩
      · rw [List.length_append] at h1
        rw [List.length_cons]
        omega
      · rw [List.length_cons]; omega
      · rw [h3]; unfold rightN; rw [List.filter_cons_of_neg (by simp [hk])]
    · rw [if_neg hk]
      exact ⟨Nat.le_refl _, Nat.le_refl _, rfl⟩

theorem cmdB_in {k : Int} {ks : List ByteArray} {val : ByteArray} (h : cmdB k ks val = true) : (k = 1 ∨ k = 2 ∨ k = 3) ∧ 1 ≤ ks.length ∧ ks.length ≤ 4 ∧ (∀ x ∈ ks, x.size ≤ 8) ∧ val.size ≤ 40 := by
  have hkeys : ∀ (m : Int), m ≤ 4 → keysB ks m = true → 1 ≤ ks.length ∧ ks.length ≤ 4 ∧ ∀ x ∈ ks, x.size ≤ 8 := fun m hm hk => by
    unfold keysB withinB at hk
    simp only [Bool.and_eq_true, decide_eq_true_eq, List.all_eq_true] at hk
    refine ⟨by omega, by omega, fun x hx => ?_⟩
    have := hk.2 x hx
    unfold keyB withinB at this
    simp only [Bool.and_eq_true, decide_eq_true_eq] at this
    omega
  have hem : val.toList.isEmpty = true → val.size ≤ 40 := fun he => by
    rw [emptyB' he]; decide
  unfold cmdB at h
  split at h
  · simp only [Bool.and_eq_true] at h
    obtain ⟨a, b, c⟩ := hkeys 4 (by omega) h.1
    exact ⟨.inl ‹_›, a, b, c, hem h.2⟩
  · split at h
    · simp only [Bool.and_eq_true, decide_eq_true_eq] at h
      obtain ⟨a, b, c⟩ := hkeys 1 (by omega) h.1
      exact ⟨.inr (.inl ‹_›), a, b, c, by omega⟩
    · split at h
      · simp only [Bool.and_eq_true] at h
        obtain ⟨a, b, c⟩ := hkeys 1 (by omega) h.1
        exact ⟨.inr (.inr ‹_›), a, b, c, hem h.2⟩
      · cases h
theorem texts_word (ts : List ByteArray) (used : Nat) : (textsR ts used).c.word.size ≤ 8 ∧ 0 ≤ (textsR ts used).c.id ∧ (textsR ts used).c.id ≤ 65535 := by
  unfold textsR
  simp only
  generalize (if kindB (ts.getD 0 noB) = 2 then (if (ts.drop 1).length = 2 then (ts.drop 1).take 1 else []) else ts.drop 1) = keys
  generalize (if kindB (ts.getD 0 noB) = 2 ∧ (ts.drop 1).length = 2 then (ts.drop 1).getD 1 noB else noB) = val
  generalize kindB (ts.getD 0 noB) = k
  cases hc : cmdB k keys val with
  | true => rw [if_pos rfl]; exact ⟨(by show noB.size ≤ 8; decide), Int.le_refl _, (by show (0 : Int) ≤ 65535; omega)⟩
  | false => rw [if_neg (by decide)]; exact ⟨(by show dataB.size ≤ 8; decide), Int.le_refl _, (by show (0 : Int) ≤ 65535; omega)⟩
/-- words and IDs of what is read -/
theorem read_word {d : Int} {bs : List UInt8} {t : StepR} (h : readR d bs = some t) : t.c.word.size ≤ 8 ∧ 0 ≤ t.c.id ∧ t.c.id ≤ 65535 := by
  have w0 : ∀ (b : ByteArray) (f : Bool), b.size ≤ 8 → (wrongC b f).word.size ≤ 8 ∧ 0 ≤ (wrongC b f).id ∧ (wrongC b f).id ≤ 65535 := fun b f hb => ⟨hb, Int.le_refl _, (by show (0 : Int) ≤ 65535; omega)⟩
  have n0 : noB.size ≤ 8 := by decide
  unfold readR at h
  split at h
  · unfold lnR at h
    split at h
    · unfold lineR at h
      split at h
      · unfold setR at h
        split at h
        · cases h; exact w0 _ _ (by decide)
        · split at h
          · cases h
          · split at h
            · cases h; exact w0 _ _ (by decide)
            · cases h; exact ⟨n0, Int.le_refl _, (by show (0 : Int) ≤ 65535; omega)⟩
      · split at h
        · cases h; exact w0 _ _ (by decide)
        · cases h; exact ⟨n0, Int.le_refl _, (by show (0 : Int) ≤ 65535; omega)⟩
    · split at h
      · cases h; exact w0 _ _ (by decide)
      · cases h
  · split at h
    · unfold frR at h
      split at h
      · cases h
      · split at h
        · cases h; exact w0 _ _ (by decide)
        · split at h
          · cases h
          · split at h
            · cases h; exact w0 _ _ (by decide)
            · cases h
              have h1 := byAt_lt bs 5
              have h2 := byAt_lt bs (5 + 1)
              refine ⟨n0, ?_, ?_⟩
              · show (0 : Int) ≤ ((numAt bs 5 : Nat) : Int); omega
              · show ((numAt bs 5 : Nat) : Int) ≤ 65535
                have : numAt bs 5 ≤ 65535 := by unfold numAt; omega
                omega
    · unfold lsR at h
      simp only at h
      split at h
      · cases h; exact w0 _ _ (by decide)
      · split at h
        · cases h
        · cases h
          exact texts_word _ _
theorem read_cmdOk {d : Int} {bs : List UInt8} {t : StepR} (h : readR d bs = some t) : CmdOk t.c := by
  obtain ⟨hw, hi0, hi1⟩ := read_word h
  rcases (read_ok h).or_ with ⟨h1, _⟩ | ⟨h1, h2, h3, _⟩
  · obtain ⟨k, a, b, c, e⟩ := cmdB_in h1
    exact ⟨b, c, e, hi0, hi1, fun hk => by rw [hk] at a; simp at a, fun _ => k⟩
  · refine ⟨by rw [h2]; simp, by rw [h2]; simp, by rw [h3]; decide, hi0, hi1, fun _ => ⟨h1, hw⟩, fun hk => absurd h2 hk⟩

set_option maxHeartbeats 1000000 in
set_option maxRecDepth 100000 in
theorem jsend_nil (X C q : Nat) (kv : Value) (ka : Option Addr) (kc : Nat) (k : Int) (val wd : ByteArray) (ft : Bool) (cid n : Int) (fa re : Bool) (yv vv : Value) (w : World) (hq : w.heap[q]? = some (quO k (.slice ka 0 kc) val wd ft cid n fa re yv vv)) :
    Calls Tryz.prog 91 #[.pointer (some ⟨X, 0, none⟩), .pointer (some ⟨C, 0, none⟩), .pointer (some ⟨q, 0, none⟩)] w fun e w' => e = .returned (.tuple #[]) ∧ w' = w := by
  have q1 : w.cell? ⟨q, 1, none⟩ = some (.slice ka 0 kc) := blkCell hq 1
  have hql := blkLt hq
  clear hq
  go_enter Tryz.func91, Tryz.ntmps91
  go_wp2_with fail
  go_loopw [15] (fun i wr => i = .int .i64 0 ∧ wr = w) (fun _ _ => 0)
  case atStart => exact ⟨rfl, rfl⟩
  case round =>
    obtain ⟨rfl, rfl⟩ := hrel
    go_wp2
    go_end0
    exact ⟨rfl, rfl⟩
end Go.Proofs.YtlonjggfnleolaaGreatDoor


/-
  One client of a junction and its servers.
-/

namespace Go.Proofs.YtlonjggfnleolaaGreatDoor
open Go.RowKit Go.Shelf Go.Conc
set_option linter.unusedVariables false

structure RunAt (W : World) (X sv pt win g sc : Nat) (cv : Value) (v : CliI) (s : CliS) (vs : List SvI) (ss : List SrvS) : Prop where
  blk : W.heap[X]? = some (juO sv pt win cv (.slice (some ⟨g, 0, none⟩) sv sc))
  gb : ∃ Zg, W.heap[g]? = some (.cells Zg 137 (0, 0)) ∧ ∀ (j : Nat) (u : SvI), vs[j]? = some u → Zg[j]? = some (.pointer (some ⟨u.S, 0, none⟩))
  len : vs.length = sv
  s1 : 1 ≤ sv
  s4 : sv ≤ 4
  sc_ : sv ≤ sc
  pt_ : pt ≤ 16
  cli : CliOk W win v s
  srv : SvsAt W vs ss
  ap : ∀ b ∈ v.foot, b ∉ feetV vs
theorem RunAt.nX {W : World} {X sv pt win g sc : Nat} {cv : Value} {v : CliI} {s : CliS} {vs : List SvI} {ss : List SrvS} (h : RunAt W X sv pt win g sc cv v s vs ss) : X ∉ v.foot ∧ g ∉ v.foot ∧ X ∉ feetV vs ∧ g ∉ feetV vs := by
  obtain ⟨Zg, h1, h2⟩ := h.gb
  exact ⟨h.cli.apart h.blk (by decide), h.cli.apart h1 (by decide), h.srv.apart h.blk (by decide) (by decide), h.srv.apart h1 (by decide) (by decide)⟩
/-- The client turned. -/
theorem RunAt.cliTo {W W' : World} {X sv pt win g sc : Nat} {cv : Value} {v v' : CliI} {s s' : CliS} {vs : List SvI} {ss : List SrvS} (h : RunAt W X sv pt win g sc cv v s vs ss) (k : Chg v.foot W W') (hl : Later W v.foot v'.foot) (hc : CliOk W' win v' s') : RunAt W' X sv pt win g sc cv v' s' vs ss := by
  obtain ⟨n1, n2, _, _⟩ := h.nX
  obtain ⟨Zg, h1, h2⟩ := h.gb
  refine ⟨k.keep h.blk n1, ⟨Zg, k.keep h1 n2, h2⟩, h.len, h.s1, h.s4, h.sc_, h.pt_, hc, h.srv.keep (fun b hb => k.block b (h.srv.old b hb) (fun hm => h.ap b hm hb)), fun b hb hm => ?_⟩
  rcases hl b hb with h3 | h3
  · exact h.ap b h3 hm
  · have := h.srv.old b hm; omega
/-- The servers turned. -/
theorem RunAt.srvTo {W W' : World} {X sv pt win g sc : Nat} {cv : Value} {v : CliI} {s : CliS} {vs vs' : List SvI} {ss ss' : List SrvS} (h : RunAt W X sv pt win g sc cv v s vs ss) (k : Chg (feetV vs) W W') (hl : Later W (feetV vs) (feetV vs')) (hc : SvsAt W' vs' ss') (hS : ∀ (j : Nat) (u' : SvI), vs'[j]? = some u' → ∃ u, vs[j]? = some u ∧ u'.S = u.S) (hn : vs'.length = sv) : RunAt W' X sv pt win g sc cv v s vs' ss' := by
  obtain ⟨_, _, n1, n2⟩ := h.nX
  obtain ⟨Zg, h1, h2⟩ := h.gb
  refine ⟨k.keep h.blk n1, ⟨Zg, k.keep h1 n2, fun j u' hu => ?_⟩, hn, h.s1, h.s4, h.sc_, h.pt_, h.cli.keep (fun b hb => k.block b (h.cli.old b hb) (h.ap b hb)) (fun b T Z f hZ hT => k.block b (blkLt hZ) (h.srv.apart hZ (by rcases hT with e | e <;> (subst e; decide)) (by rcases hT with e | e <;> (subst e; decide)))), hc, fun b hb hm => ?_⟩
  · obtain ⟨u, hu1, hu2⟩ := hS j u' hu
    rw [hu2]
    exact h2 j u hu1
  · rcases hl b hm with h3 | h3
    · exact h.ap b hb h3
    · have := h.cli.old b hb; omega

/-- Junction.send -/
theorem jsend_any {W : World} {X sv pt win g sc : Nat} {cv : Value} {v : CliI} {s : CliS} {vs : List SvI} {ss : List SrvS} (h : RunAt W X sv pt win g sc cv v s vs ss) (q : Nat) (c : Cmd) (hq : QuOk W q c) (hc : CmdOk c) (hbd : c.keys ≠ [] → ∀ s ∈ ss, s.next + c.keys.length < 65000 ∧ s.sent.length + 1000 * c.keys.length ≤ 100000000000) :
    Calls Tryz.prog 91 #[.pointer (some ⟨X, 0, none⟩), .pointer (some ⟨v.C, 0, none⟩), .pointer (some ⟨q, 0, none⟩)] W fun e w' => e = .returned (.tuple #[]) ∧ ∃ vs', RunAt w' X sv pt win g sc cv v s vs' (sendsS sv pt c.kind c.val ss c.keys) ∧ Chg (feetV vs) W w' ∧ Later W (feetV vs) (feetV vs') := by
  obtain ⟨lo, ka, kn, kc, yv, vv, h1, h2⟩ := hq
  by_cases hk : c.keys = []
  · have h0 : kn = 0 := by
      rcases h1 with ⟨e, _⟩ | ⟨b, c', e, _⟩
      · cases e; rfl
      · cases e; rw [hk]; rfl
    subst h0
    refine (jsend_nil X v.C q (.slice ka 0 kc) ka kc _ _ _ _ _ _ _ _ _ _ W h2).mono ?_
    rintro e w' ⟨rfl, rfl⟩
    refine ⟨rfl, vs, ?_, Chg.refl _ _, Later.refl _ _⟩
    rw [hk]
    exact h
  · rcases h1 with ⟨_, e⟩ | ⟨b, c', e, _, Z, hZ, hzs, hcap, hz⟩
    · exact absurd e hk
    · cases e
      obtain ⟨Zg, g1, g2⟩ := h.gb
      refine (jsend_some X v.C q b kc sv pt g sc win cv c.kind c.val c.word c.fatal c.id _ false false yv vv c.keys Z Zg vs ss W h.blk g1 g2 h.len h.s1 h.s4 h.sc_ h.pt_ h2 hZ hz hcap (by have := hc.k4; omega) (hc.right hk) hc.k8 hc.v40 h.srv (hbd hk)).mono ?_
      rintro e w' ⟨rfl, vs', a1, a2, a3, a4, a5⟩
      exact ⟨rfl, vs', h.srvTo a4 a5 a1 a2 a3, a4, a5⟩

/-- What is read comes to wait. -/
theorem CliOk.next {W W' : World} {win : Nat} {v : CliI} {s : CliS} (h : CliOk W win v s) (x : StepR) (hx : readR s.d s.st.held = some x) (q g' c' : Nat) (buf' : Array Value) (s' r' : Nat) (tm : Bool) (hb' : Option Nat)
    (h1 : W'.heap[v.C]? = some (clO v.R v.ch (.slice (some ⟨g', 0, none⟩) (s.waits.length + 1) c') v.bp v.bv)) (h2 : W'.ownsRow 0 175 1 (.slice (some ⟨g', 0, none⟩) (s.waits.length + 1) c') (s.waits.length + 1) (v.qs.map ptrV ++ [.pointer (some ⟨q, 0, none⟩)])) (h3 : v.wv.ownBlock = some g' ∨ W.heap.size ≤ g') (h4 : buf'.size = s.waits.length + 1) (h5 : W'.heap[v.ch]? = some (.chan win buf' false s' r' tm)) (h6 : RdrAt W' v.R hb' v.t (afterS s.st x)) (h7 : Fresh W v.hb hb') (h8 : NewQ W.heap.size W' q x.c) (h9 : Chg (v.C :: v.ch :: v.R :: (v.hb.toList ++ v.wv.ownBlock.toList)) W W') :
    CliOk W' win ⟨v.C, v.R, v.ch, v.t, hb', .slice (some ⟨g', 0, none⟩) (s.waits.length + 1) c', v.bp, v.bv, v.qs ++ [q]⟩ ⟨s.d, afterS s.st x, s.waits ++ [x.c], s.told⟩ ∧ QuOk W' q x.c ∧ Chg v.foot W W' ∧ Later W v.foot (CliI.foot ⟨v.C, v.R, v.ch, v.t, hb', .slice (some ⟨g', 0, none⟩) (s.waits.length + 1) c', v.bp, v.bv, v.qs ++ [q]⟩) := by
  have hsub : ∀ b ∈ v.C :: v.ch :: v.R :: (v.hb.toList ++ v.wv.ownBlock.toList), b ∈ v.foot := fun b hb => by
    unfold CliI.foot
    simp at hb ⊢
    rcases hb with e | e | e | e | e <;> simp [e]
  have kq : ∀ (b T : Nat) (Z : Array Value) (f : Nat × Nat), W.heap[b]? = some (.cells Z T f) → (T = 216 ∨ T = 9) → W'.heap[b]? = W.heap[b]? := fun b T Z f hZ hT => h9.block b (blkLt hZ) (fun hm => h.apart hZ (by rcases hT with e | e <;> (subst e; decide)) (hsub b hm))
  have hQ : QuOk W' q x.c := by
    obtain ⟨ka, kn, kc, yb, vb, _, _, a1, a2, _⟩ := h8.at_
    exact ⟨_, ka, kn, kc, _, _, a1, a2⟩
  obtain ⟨n1, n2, n3, n4, n5⟩ := h.nC
  obtain ⟨m1, m2, m3, m4⟩ := h.nCh
  refine ⟨⟨h1, h6, h.di, ⟨buf', s', r', tm, h5, by simp [h4]⟩, ?_, by simp [h.ql], fun i q' c2 hq' hc' => ?_, h.bpv, h.bld.other (fun b hb => h9.block b (h.old b (by simp [CliI.foot, hb])) (fun hm => ?_)), fun b hb hb2 => ?_, fun c2 hc2 => ?_⟩, hQ, h9.more hsub, fun b hb => ?_⟩
  · simp only [List.length_append, List.length_singleton, List.map_append, List.map_cons, List.map_nil]
    exact h2
  · by_cases hi : i < s.waits.length
    · rw [List.getElem?_append_left (by rw [h.ql]; exact hi)] at hq'
      rw [List.getElem?_append_left hi] at hc'
      exact (h.qu i q' c2 hq' hc').other kq
    · have hi2 : i = s.waits.length := by
        have := (List.getElem?_eq_some_iff.1 hc').1
        simp at this
        omega
      subst hi2
      rw [List.getElem?_append_right (by rw [h.ql]; exact Nat.le_refl _), h.ql] at hq'
      rw [List.getElem?_append_right (Nat.le_refl _)] at hc'
      simp at hq' hc'
      subst hq' hc'
      exact hQ
  · obtain ⟨o1, o2, o3, o4⟩ := h.nB hb
    simp at hm
    rcases hm with e | e | e | e | e
    · exact n5 (by rw [hb, e])
    · exact o1 e
    · exact o2 e
    · exact o3 e
    · exact o4 e
  · simp only at hb hb2
    have hlt := h.old b (by simp [CliI.foot, hb])
    rcases h7 with e | e | ⟨k, e, hk⟩
    · exact h.ab b hb (by rw [← e]; exact hb2)
    · rw [e] at hb2; cases hb2
    · rw [e] at hb2; cases hb2; omega
  · rcases List.mem_append.1 hc2 with h' | h'
    · exact h.ok c2 h'
    · simp at h'; rw [h']; exact read_cmdOk hx
  · unfold CliI.foot at hb ⊢
    simp at hb ⊢
    rcases hb with e | e | e | e | e | e
    · simp [e]
    · simp [e]
    · simp [e]
    · rcases h7 with e2 | e2 | ⟨k, e2, hk⟩
      · rw [e2] at e; simp [e]
      · rw [e2] at e; cases e
      · rw [e2] at e; cases e; exact .inr hk
    · have e' : g' = b := by simpa [Value.ownBlock] using e
      rcases h3 with e2 | e2
      · rw [e'] at e2; simp [e2]
      · exact .inr (by omega)
    · simp [e]
end Go.Proofs.YtlonjggfnleolaaGreatDoor


/-
  A client reads on: plainly, and how far it grows; client.next under all of it.
-/

namespace Go.Proofs.YtlonjggfnleolaaGreatDoor
open Go.RowKit Go.Shelf Go.Conc
set_option linter.unusedVariables false

/-- A command was read. -/
def gotC (s : CliS) (x : StepR) : CliS := ⟨s.d, afterS s.st x, s.waits ++ [x.c], s.told⟩
def serveF (sv pt win : Nat) : Nat → CliS → List SrvS → CliS × List SrvS
  | 0, s, ss => (s, ss)
  | f + 1, s, ss => if s.waits.length < win then
      match readR s.d s.st.held with
      | none => (s, ss)
      | some x => serveF sv pt win f (tellC (gotC s x)) (sendsS sv pt x.c.kind x.c.val ss x.c.keys)
    else (s, ss)
/-- What a client and the servers are when no more is read. -/
def serveS (sv pt win : Nat) (s : CliS) (ss : List SrvS) : CliS × List SrvS := serveF sv pt win s.st.held.length s ss
theorem serveF_more (sv pt win : Nat) : ∀ (f : Nat) (s : CliS) (ss : List SrvS) (g : Nat), s.st.held.length ≤ f → f ≤ g → serveF sv pt win g s ss = serveF sv pt win f s ss := by
  intro f
  induction f with
  | zero =>
    intro s ss g h _
    have h0 : s.st.held = [] := List.length_eq_zero_iff.1 (by omega)
    cases g with
    | zero => rfl
    | succ g =>
      unfold serveF
      rw [h0, readR_nil]
      simp
  | succ f ih =>
    intro s ss g h hg
    obtain ⟨g, rfl⟩ : ∃ k, g = k + 1 := ⟨g - 1, by omega⟩
    unfold serveF
    split
    · cases hr : readR s.d s.st.held with
      | none => rfl
      | some x =>
        have hl := afterS_len hr
        simp only
        exact ih _ _ g (by show (afterS s.st x).held.length ≤ f; omega) (by omega)
    · rfl
theorem serveS_full {sv pt win : Nat} {s : CliS} {ss : List SrvS} (h : ¬ s.waits.length < win) : serveS sv pt win s ss = (s, ss) := by
  unfold serveS
  cases s.st.held.length with
  | zero => rfl
  | succ f => unfold serveF; rw [if_neg h]
theorem serveS_none {sv pt win : Nat} {s : CliS} {ss : List SrvS} (h : readR s.d s.st.held = none) : serveS sv pt win s ss = (s, ss) := by
  unfold serveS
  cases s.st.held.length with
  | zero => rfl
  | succ f => unfold serveF; rw [h]; simp
theorem serveS_some {sv pt win : Nat} {s : CliS} {ss : List SrvS} {x : StepR} (hw : s.waits.length < win) (h : readR s.d s.st.held = some x) : serveS sv pt win s ss = serveS sv pt win (tellC (gotC s x)) (sendsS sv pt x.c.kind x.c.val ss x.c.keys) := by
  have hl := afterS_len h
  obtain ⟨f, hf⟩ : ∃ f, s.st.held.length = f + 1 := ⟨s.st.held.length - 1, by omega⟩
  unfold serveS
  rw [hf]
  conv => lhs; unfold serveF; rw [if_pos hw, h]
  simp only
  exact serveF_more sv pt win _ _ _ f (Nat.le_refl _) (by show (afterS s.st x).held.length ≤ f; omega)

/-- How far a client and the servers have grown. -/
structure Bd (win N T : Nat) (s : CliS) (ss : List SrvS) : Prop where
  told : s.told.length + 1000 * (s.waits.length + s.st.held.length) ≤ T
  wl : s.waits.length ≤ win
  srv : ∀ u ∈ ss, u.sent.length ≤ 1000 * u.next ∧ u.next + 4 * (win - rightN s.waits) ≤ N
theorem rightN_le (l : List Cmd) : rightN l ≤ l.length := List.length_filter_le _ _
theorem Bd.tell {win N T : Nat} {s : CliS} {ss : List SrvS} (h : Bd win N T s ss) (hok : ∀ c ∈ s.waits, CmdOk c) : Bd win N T (tellC s) ss := by
  obtain ⟨h1, h2, h3⟩ := tellL_bd s.d s.waits s.told hok
  have ht := h.told
  have hw := h.wl
  refine ⟨?_, ?_, fun u hu => ?_⟩
  · show (tellL s.d s.waits s.told).2.length + 1000 * ((tellL s.d s.waits s.told).1.length + s.st.held.length) ≤ T
    omega
  · show (tellL s.d s.waits s.told).1.length ≤ win
    omega
  · show _ ∧ u.next + 4 * (win - rightN (tellL s.d s.waits s.told).1) ≤ N
    rw [h3]
    exact h.srv u hu
theorem sendS_bd2 (sv pt : Nat) (k : Int) (val key : ByteArray) (hk : key.size ≤ 8) (hv : val.size ≤ 40) (ss : List SrvS) (M : Nat) (h : ∀ u ∈ ss, u.sent.length ≤ 1000 * u.next ∧ u.next ≤ M) : ∀ u ∈ sendS sv pt k val ss key, u.sent.length ≤ 1000 * u.next ∧ u.next ≤ M + 1 := by
  intro u hu
  unfold sendS at hu
  split at hu
  · have := h u hu; omega
  · rename_i s hs
    rcases List.mem_or_eq_of_mem_set hu with h1 | h1
    · have := h u h1; omega
    · subst h1
      have h2 := h s (List.mem_of_getElem? hs)
      have := sentB_size k key val s.next hk hv
      simp only [List.length_append]
      omega
theorem sendsS_bd2 (sv pt : Nat) (k : Int) (val : ByteArray) (hv : val.size ≤ 40) : ∀ (ks : List ByteArray) (ss : List SrvS) (M : Nat), (∀ key ∈ ks, key.size ≤ 8) → (∀ u ∈ ss, u.sent.length ≤ 1000 * u.next ∧ u.next ≤ M) → ∀ u ∈ sendsS sv pt k val ss ks, u.sent.length ≤ 1000 * u.next ∧ u.next ≤ M + ks.length := by
  intro ks
  induction ks with
  | nil => intro ss M _ h u hu; exact h u hu
  | cons key ks ih =>
    intro ss M hks h u hu
    have := ih (sendS sv pt k val ss key) (M + 1) (fun x hx => hks x (by simp [hx])) (sendS_bd2 sv pt k val key (hks key (by simp)) hv ss M h) u hu
    rw [List.length_cons]
    omega
theorem rightN_snoc (l : List Cmd) (c : Cmd) : rightN (l ++ [c]) = rightN l + (if c.keys = [] then 0 else 1) := by
  unfold rightN
  rw [List.filter_append, List.length_append]
  by_cases h : c.keys = []
  · rw [if_pos h]; simp [h]
  · rw [if_neg h]; simp [h]
theorem Bd.got {win N T : Nat} {s : CliS} {ss : List SrvS} (h : Bd win N T s ss) (hN : N < 65000) (hw : s.waits.length < win) {x : StepR} (hx : readR s.d s.st.held = some x) (sv pt : Nat) :
    (x.c.keys ≠ [] → ∀ u ∈ ss, u.next + x.c.keys.length < 65000 ∧ u.sent.length + 1000 * x.c.keys.length ≤ 100000000000) ∧ Bd win N T (gotC s x) (sendsS sv pt x.c.kind x.c.val ss x.c.keys) := by
  have hc := read_cmdOk hx
  have hl := afterS_len hx
  have hr := rightN_le s.waits
  have ht := h.told
  have h4 := hc.k4
  refine ⟨fun hk u hu => ?_, ?_, ?_, fun u hu => ?_⟩
  · have h1 := h.srv u hu
    omega
  · show s.told.length + 1000 * ((s.waits ++ [x.c]).length + (afterS s.st x).held.length) ≤ T
    rw [List.length_append, List.length_singleton]
    omega
  · show (s.waits ++ [x.c]).length ≤ win
    rw [List.length_append, List.length_singleton]
    omega
  · show _ ∧ u.next + 4 * (win - rightN (s.waits ++ [x.c])) ≤ N
    rw [rightN_snoc]
    by_cases hk : x.c.keys = []
    · rw [if_pos hk, Nat.add_zero]
      rw [hk] at hu
      exact h.srv u hu
    · rw [if_neg hk]
      have hM : ∀ u ∈ ss, u.sent.length ≤ 1000 * u.next ∧ u.next ≤ N - 4 * (win - rightN s.waits) := fun u hu => by
        have h1 := h.srv u hu
        exact ⟨h1.1, by omega⟩
      have h2 := sendsS_bd2 sv pt x.c.kind x.c.val hc.v40 x.c.keys ss _ hc.k8 hM u hu
      refine ⟨h2.1, ?_⟩
      cases ss with
      | nil =>
        exfalso
        have : (sendsS sv pt x.c.kind x.c.val [] x.c.keys).length = 0 := by rw [sendsS_len]; rfl
        rw [List.length_eq_zero_iff.1 this] at hu
        cases hu
      | cons u0 us =>
        have h5 := h.srv u0 (by simp)
        omega
end Go.Proofs.YtlonjggfnleolaaGreatDoor


/-
  client.next, and Junction.readOn.
-/

namespace Go.Proofs.YtlonjggfnleolaaGreatDoor
open Go.RowKit Go.Shelf Go.Conc
set_option linter.unusedVariables false

/-- Only how often something went through the channel has turned. -/
theorem CliOk.chan' {W W' : World} {win : Nat} {v : CliI} {s : CliS} (h : CliOk W win v s) (k : Chg [v.ch] W W') (buf' : Array Value) (a b : Nat) (tm : Bool) (hb : buf'.size = s.waits.length) (hc : W'.heap[v.ch]? = some (.chan win buf' false a b tm)) : CliOk W' win v s := by
  obtain ⟨n1, n2, n3, n4, n5⟩ := h.nC
  obtain ⟨m1, m2, m3, m4⟩ := h.nCh
  have kb : ∀ b ∈ v.foot, b ≠ v.ch → W'.heap[b]? = W.heap[b]? := fun b hb hn => k.block b (h.old b hb) (by simpa using hn)
  obtain ⟨buf0, a0, b0, tm0, c1, _⟩ := h.chan
  exact ⟨(kb _ (by simp [CliI.foot]) n1).trans h.blk, h.rd.other (kb _ (by simp [CliI.foot]) (fun e => m1 e.symm)) (fun b hb => kb b (by simp [CliI.foot, hb]) (fun e => m2 (by rw [hb, e]))), h.di, ⟨buf', a, b, tm, hc, hb⟩, ownsRow_other h.row (fun g hg => kb g (by simp [CliI.foot, hg]) (fun e => m3 (by rw [hg, e]))), h.ql, fun i q c hq hc' => (h.qu i q c hq hc').other (fun b T Z f hZ hT => k.block b (blkLt hZ) (by simp; intro e; rw [e, c1] at hZ; cases hZ)), h.bpv, h.bld.other (fun g hg => kb g (by simp [CliI.foot, hg]) (fun e => m4 (by rw [hg, e]))), h.ab, h.ok⟩

/-- What next tells. -/
def CNextOut (W w' : World) (X sv pt win g sc : Nat) (cv : Value) (v : CliI) (s : CliS) (vs : List SvI) (ss : List SrvS) (e : Ending) : Prop :=
  (serveS sv pt win s ss = (s, ss) ∧ e = .returned (.tuple #[.pointer none, .bool false]) ∧ RunAt w' X sv pt win g sc cv v s vs ss ∧ Chg v.foot W w') ∨
  ∃ (x : StepR) (q : Nat) (v' : CliI), readR s.d s.st.held = some x ∧ s.waits.length < win ∧ e = .returned (.tuple #[.pointer (some ⟨q, 0, none⟩), .bool true]) ∧ RunAt w' X sv pt win g sc cv v' (gotC s x) vs ss ∧ QuOk w' q x.c ∧ v'.C = v.C ∧ v'.R = v.R ∧ Chg v.foot W w' ∧ Later W v.foot v'.foot

theorem next_run {W : World} {X sv pt win g sc : Nat} {cv : Value} {v : CliI} {s : CliS} {vs : List SvI} {ss : List SrvS} (h : RunAt W X sv pt win g sc cv v s vs ss) (hh : s.st.held.length ≤ 140737488355328) (hw : s.waits.length ≤ 1000000) :
    Calls Tryz.prog 90 #[.pointer (some ⟨v.C, 0, none⟩)] W fun e w' => CNextOut W w' X sv pt win g sc cv v s vs ss e := by
  obtain ⟨buf, a, b, tm, c1, c2⟩ := h.cli.chan
  by_cases hlt : s.waits.length < win
  · cases hr : readR s.d s.st.held with
    | none =>
      refine (next_none v.C v.R v.ch win a b v.t s.d v.hb s.st buf tm v.wv v.bp v.bv W h.cli.blk c1 (by omega) h.cli.di h.cli.rd hh hr).mono ?_
      rintro e w' ⟨rfl, k, buf', s', r', h1, h2⟩
      have k' : Chg v.foot W w' := k.more (fun x hx => by simp at hx; rw [hx]; simp [CliI.foot])
      exact .inl ⟨serveS_none hr, rfl, h.cliTo k' (Later.refl _ _) (h.cli.chan' k buf' s' r' tm (by omega) h2), k'⟩
    | some x =>
      have hc := read_cmdOk hr
      refine (next_some v.C v.R v.ch win a b v.t s.waits.length s.d v.hb s.st x (v.qs.map ptrV) buf tm v.wv v.bp v.bv W h.cli.blk c1 (by omega) h.cli.di h.cli.rd hh hr h.cli.row hw (by have := hc.k4; omega)).mono ?_
      rintro e w' ⟨q, g', c', buf', s', r', hb', rfl, h1, h2, h3, h4, h5, h6, h7, h8, h9⟩
      obtain ⟨a1, a2, a3, a4⟩ := h.cli.next x hr q g' c' buf' s' r' tm hb' h1 h2 h3 (by omega) h5 h6 h7 h8 h9
      exact .inr ⟨x, q, _, hr, hlt, rfl, h.cliTo a3 a4 a1, a2, rfl, rfl, a3, a4⟩
  · refine (next_full v.C v.R v.ch win a b buf tm v.wv v.bp v.bv W h.cli.blk c1 (by omega)).mono ?_
    rintro e w' ⟨rfl, rfl⟩
    exact .inl ⟨serveS_full hlt, rfl, h, Chg.refl _ _⟩
theorem tell_run {W : World} {X sv pt win g sc : Nat} {cv : Value} {v : CliI} {s : CliS} {vs : List SvI} {ss : List SrvS} (h : RunAt W X sv pt win g sc cv v s vs ss) (hl : s.told.length + 1000 * s.waits.length ≤ 100000000000) (hwn : s.waits.length ≤ 1000) :
    Calls Tryz.prog 89 #[.pointer (some ⟨v.C, 0, none⟩)] W fun e w' => e = .returned (.tuple #[]) ∧ ∃ v', RunAt w' X sv pt win g sc cv v' (tellC s) vs ss ∧ v'.C = v.C ∧ v'.R = v.R ∧ Chg v.foot W w' ∧ Later W v.foot v'.foot := by
  refine (clientTell win v s W h.cli hl hwn).mono ?_
  rintro e w' ⟨rfl, v', h1, h2, h3, _, _, _, h4, h5⟩
  exact ⟨rfl, v', h.cliTo h4 h5 h1, h2, h3, h4, h5⟩

/-- All that may turn. -/
def allF (v : CliI) (vs : List SvI) : List Nat := v.foot ++ feetV vs
theorem Later.app {w w' : World} {M A A' B B' : List Nat} (h : Later w M (A ++ B)) (hs : w.heap.size ≤ w'.heap.size) (ha : Later w' A A') (hb : Later w' B B') : Later w M (A' ++ B') := fun b hm => by
  rcases List.mem_append.1 hm with h1 | h1
  · rcases ha b h1 with h2 | h2
    · exact h b (List.mem_append.2 (.inl h2))
    · exact .inr (by omega)
  · rcases hb b h1 with h2 | h2
    · exact h b (List.mem_append.2 (.inr h2))
    · exact .inr (by omega)
theorem Later.left {w : World} {M A B : List Nat} (h : Later w M (A ++ B)) : Later w M A := fun b hb => h b (List.mem_append.2 (.inl hb))
theorem Later.right {w : World} {M A B : List Nat} (h : Later w M (A ++ B)) : Later w M B := fun b hb => h b (List.mem_append.2 (.inr hb))

/-- Where the loop of readOn stands. -/
def OnAt (W : World) (X sv pt win g sc : Nat) (cv : Value) (C R N T : Nat) (M : List Nat) (w0 : World) (tgt : CliS × List SrvS) (qv bv : Value) : Prop :=
  ∃ (v : CliI) (s : CliS) (vs : List SvI) (ss : List SrvS), v.C = C ∧ v.R = R ∧ RunAt W X sv pt win g sc cv v s vs ss ∧ Chg M w0 W ∧ Later w0 M (allF v vs) ∧
    ((qv = .pointer none ∧ bv = .bool false ∧ Bd win N T s ss ∧ (s, ss) = tgt) ∨
     ∃ (q : Nat) (c : Cmd), qv = .pointer (some ⟨q, 0, none⟩) ∧ bv = .bool true ∧ QuOk W q c ∧ CmdOk c ∧ (c.keys ≠ [] → ∀ u ∈ ss, u.next + c.keys.length < 65000 ∧ u.sent.length + 1000 * c.keys.length ≤ 100000000000) ∧ Bd win N T s (sendsS sv pt c.kind c.val ss c.keys) ∧ serveS sv pt win (tellC s) (sendsS sv pt c.kind c.val ss c.keys) = tgt)
def onM (bv : Value) (w : World) (R : Nat) : Nat := match bv with | .bool true => heldLen w R + 1 | _ => 0
/-- What next leaves is such a place. -/
theorem onAt_next {W w' w0 : World} {X sv pt win g sc : Nat} {cv : Value} {v : CliI} {s : CliS} {vs : List SvI} {ss : List SrvS} {C R N T : Nat} {M : List Nat} {e : Ending} (hN : N < 65000) (hC : v.C = C) (hR : v.R = R) (hb : Bd win N T s ss) (hk : Chg M w0 W) (hl : Later w0 M (allF v vs)) (h : CNextOut W w' X sv pt win g sc cv v s vs ss e) :
    ∃ qv bv, e = .returned (.tuple #[qv, bv]) ∧ OnAt w' X sv pt win g sc cv C R N T M w0 (serveS sv pt win s ss) qv bv ∧ onM bv w' R < s.st.held.length + 1 := by
  have hs := hk.size
  rcases h with ⟨h1, rfl, h2, h3⟩ | ⟨x, q, v', hr, hlt, rfl, h2, h3, h4, h5, h6, h7⟩
  · exact ⟨_, _, rfl, ⟨v, s, vs, ss, hC, hR, h2, hk.trans h3 hl.left, hl, .inl ⟨rfl, rfl, hb, h1.symm⟩⟩, Nat.succ_pos _⟩
  · obtain ⟨b1, b2⟩ := hb.got hN hlt hr sv pt
    refine ⟨_, _, rfl, ⟨v', gotC s x, vs, ss, h4.trans hC, h5.trans hR, h2, hk.trans h6 hl.left, hl.app hs h7 (Later.refl _ _), .inr ⟨q, x.c, rfl, rfl, h3, read_cmdOk hr, b1, b2, (serveS_some hlt hr).symm⟩⟩, ?_⟩
    show heldLen w' R + 1 < _
    have h8 := h2.cli.rd.len
    rw [h5, hR] at h8
    rw [h8]
    have := afterS_len hr
    show (afterS s.st x).held.length + 1 < _
    omega

set_option maxHeartbeats 1000000 in
set_option maxRecDepth 100000 in
theorem readOn_run {w : World} {X sv pt win g sc : Nat} {cv : Value} {v : CliI} {s : CliS} {vs : List SvI} {ss : List SrvS} (h : RunAt w X sv pt win g sc cv v s vs ss) {N T : Nat} (hN : N < 65000) (hT : T ≤ 100000000000) (hwin : win ≤ 1000) (hb : Bd win N T s ss) :
    Calls Tryz.prog 59 #[.pointer (some ⟨X, 0, none⟩), .pointer (some ⟨v.C, 0, none⟩)] w fun e w' => e = .returned (.tuple #[]) ∧ ∃ v' vs', RunAt w' X sv pt win g sc cv v' (serveS sv pt win (tellC s) ss).1 vs' (serveS sv pt win (tellC s) ss).2 ∧ v'.C = v.C ∧ Bd win N T (serveS sv pt win (tellC s) ss).1 (serveS sv pt win (tellC s) ss).2 ∧ Chg (allF v vs) w w' ∧ Later w (allF v vs) (allF v' vs') := by
  obtain ⟨C, hC⟩ : ∃ C, v.C = C := ⟨_, rfl⟩
  obtain ⟨R, hR⟩ : ∃ R, v.R = R := ⟨_, rfl⟩
  have hbt := hb.told
  have hbw := hb.wl
  have HT0 := hide' (tell_run h (by omega) (by omega))
  rw [hC] at HT0 ⊢
  have HA := hide' (And.intro hb (And.intro h.cli.ok (And.intro hC hR)))
  generalize hM : allF v vs = M at *
  have HM := hide' hM
  have HTell : Hid (∀ (w1 : World) (v1 : CliI) (s1 : CliS) (vs1 : List SvI) (ss1 : List SrvS), RunAt w1 X sv pt win g sc cv v1 s1 vs1 ss1 → v1.C = C → Bd win N T s1 ss1 → Calls Tryz.prog 89 #[.pointer (some ⟨C, 0, none⟩)] w1 fun e w' => e = .returned (.tuple #[]) ∧ ∃ v', RunAt w' X sv pt win g sc cv v' (tellC s1) vs1 ss1 ∧ v'.C = C ∧ v'.R = v1.R ∧ Chg v1.foot w1 w' ∧ Later w1 v1.foot v'.foot) := fun w1 v1 s1 vs1 ss1 h1 hc1 hb1 => by
    have a1 := hb1.told
    have a2 := hb1.wl
    have := tell_run h1 (by omega) (by omega)
    rw [hc1] at this
    exact this
  have HNext : Hid (∀ (w1 : World) (v1 : CliI) (s1 : CliS) (vs1 : List SvI) (ss1 : List SrvS), RunAt w1 X sv pt win g sc cv v1 s1 vs1 ss1 → v1.C = C → v1.R = R → Bd win N T s1 ss1 → Chg M w w1 → Later w M (allF v1 vs1) → Calls Tryz.prog 90 #[.pointer (some ⟨C, 0, none⟩)] w1 fun e w' => ∃ qv bv, e = .returned (.tuple #[qv, bv]) ∧ OnAt w' X sv pt win g sc cv C R N T M w (serveS sv pt win s1 ss1) qv bv ∧ onM bv w' R < s1.st.held.length + 1) := fun w1 v1 s1 vs1 ss1 h1 hc1 hr1 hb1 hk1 hl1 => by
    have a1 := hb1.told
    have a2 := hb1.wl
    have := next_run h1 (by omega) (by omega)
    rw [hc1] at this
    refine this.mono ?_
    intro e w' ho
    exact onAt_next hN hc1 hr1 hb1 hk1 hl1 ho
  clear h hb hbt hbw hM hC hR
  go_enter Tryz.func59, Tryz.ntmps59
  go_wp2_with fail
  go_at_call 89
  refine HT0.out.mono ?_
  rintro e w1 ⟨rfl, v1, h1, hc1, hr1, k1, l1⟩
  have HN1 := hide' (HNext.out w1 v1 (tellC s) vs ss h1 hc1 (hr1.trans HA.out.2.2.2) (HA.out.1.tell HA.out.2.1) (k1.more (fun b hb => by rw [← HM.out]; exact List.mem_append.2 (.inl hb))) (by rw [← HM.out]; exact (Later.refl _ _).app (Nat.le_refl _) l1 (Later.refl _ _)))
  clear h1 hc1 hr1 k1 l1
  go_wp2_with fail
  go_at_call 90
  refine HN1.out.mono ?_
  rintro e w2 ⟨qv, bv, rfl, hon, hm⟩
  have HON := hide' hon
  clear hon hm HN1 HT0
  go_wp2_with fail
  go_loopw [4, 5] (fun qv bv wr => Hid (OnAt wr X sv pt win g sc cv C R N T M w (serveS sv pt win (tellC s) ss) qv bv)) (fun _ bv wr => onM bv wr R)
  case atStart => exact HON
  case round =>
    obtain ⟨v2, s2, vs2, ss2, hc2, hr2, hrun, hk, hl, ho⟩ := hrel.out
    rcases ho with ⟨rfl, rfl, hb2, ht⟩ | ⟨q, c, rfl, rfl, hq, hcm, hbs, hb2, ht⟩
    · have HF := hide' (show ∃ v' vs', RunAt wr X sv pt win g sc cv v' (serveS sv pt win (tellC s) ss).1 vs' (serveS sv pt win (tellC s) ss).2 ∧ v'.C = C ∧ Bd win N T (serveS sv pt win (tellC s) ss).1 (serveS sv pt win (tellC s) ss).2 ∧ Chg M w wr ∧ Later w M (allF v' vs') from by
        rw [← ht]
        exact ⟨v2, vs2, hrun, hc2, hb2, hk, hl⟩)
      clear hrun hk hl hb2 ht hrel hc2 hr2 HTell HNext HON HM HA
      go_wp2
      go_end0
      exact ⟨rfl, HF.out⟩
    · have HS := jsend_any hrun q c hq hcm hbs
      rw [hc2] at HS
      have HS := hide' HS
      have hmm : onM (.bool true) wr R = s2.st.held.length + 1 := by
        show heldLen wr R + 1 = _
        rw [← hr2, hrun.cli.rd.len]
      have HMM := hide' hmm
      have H2 := hide' (And.intro hb2 (And.intro ht (And.intro hk (And.intro hl (And.intro hc2 (And.intro hr2 hrun.cli.ok))))))
      clear hrun hk hl hb2 ht hrel hc2 hr2 hmm hq hcm hbs HON
      go_wp2_with fail
      go_at_call 91
      refine HS.out.mono ?_
      rintro e w3 ⟨rfl, vs3, h3, k3, l3⟩
      have HT3 := hide' (HTell.out w3 v2 s2 vs3 _ h3 H2.out.2.2.2.2.1 H2.out.1)
      have H3 := hide' (And.intro k3 l3)
      clear h3 k3 l3
      go_wp2_with fail
      go_at_call 89
      refine HT3.out.mono ?_
      rintro e w4 ⟨rfl, v4, h4, hc4, hr4, k4, l4⟩
      have hk3 := H2.out.2.2.1.trans H3.out.1 H2.out.2.2.2.1.right
      have hl3 := H2.out.2.2.2.1.app H2.out.2.2.1.size (Later.refl _ _) H3.out.2
      have hk4 := hk3.trans k4 hl3.left
      have hl4 := hl3.app hk3.size l4 (Later.refl _ _)
      have HN4 := hide' (HNext.out w4 v4 (tellC s2) vs3 _ h4 hc4 (hr4.trans H2.out.2.2.2.2.2.1) (H2.out.1.tell H2.out.2.2.2.2.2.2) hk4 hl4)
      clear h4 hc4 hr4 k4 l4 hk3 hl3 hk4 hl4
      go_wp2_with fail
      go_at_call 90
      refine HN4.out.mono ?_
      rintro e w5 ⟨qv5, bv5, rfl, hon, hm⟩
      rw [H2.out.2.1] at hon
      have HM5 := hide' (show onM bv5 w5 R < onM (.bool true) wr R by rw [HMM.out]; exact hm)
      have HON5 := hide' hon
      clear hon hm
      go_wp2_with fail
      go_roundw
      case rel => exact HON5
      case measure => exact HM5.out
end Go.Proofs.YtlonjggfnleolaaGreatDoor


/-
  A junction: its clients and its servers; Say.
-/

namespace Go.Proofs.YtlonjggfnleolaaGreatDoor
open Go.RowKit Go.Shelf Go.Conc
set_option linter.unusedVariables false

structure JunAt (W : World) (X sv pt win g sc : Nat) (cv : Value) (cis : List CliI) (cs : List CliS) (vs : List SvI) (ss : List SrvS) : Prop where
  blk : W.heap[X]? = some (juO sv pt win cv (.slice (some ⟨g, 0, none⟩) sv sc))
  gb : ∃ Zg, W.heap[g]? = some (.cells Zg 137 (0, 0)) ∧ ∀ (j : Nat) (u : SvI), vs[j]? = some u → Zg[j]? = some (.pointer (some ⟨u.S, 0, none⟩))
  len : vs.length = sv
  s1 : 1 ≤ sv
  s4 : sv ≤ 4
  sc_ : sv ≤ sc
  pt_ : pt ≤ 16
  row : W.ownsRow 0 116 1 cv cis.length (cis.map (fun v => ptrV v.C))
  cl : cis.length = cs.length
  cli : ∀ (i : Nat) (v : CliI) (s : CliS), cis[i]? = some v → cs[i]? = some s → CliOk W win v s
  cap : ∀ (i j : Nat) (v u : CliI), i ≠ j → cis[i]? = some v → cis[j]? = some u → ∀ b ∈ v.foot, b ∉ u.foot
  srv : SvsAt W vs ss
  ap : ∀ (i : Nat) (v : CliI), cis[i]? = some v → ∀ b ∈ v.foot, b ∉ feetV vs
def footJ (X : Nat) (cv : Value) (cis : List CliI) (vs : List SvI) : List Nat := X :: (cv.ownBlock.toList ++ ((cis.map CliI.foot).flatten ++ feetV vs))
theorem mem_cis {cis : List CliI} {b : Nat} : b ∈ (cis.map CliI.foot).flatten ↔ ∃ (i : Nat) (v : CliI), cis[i]? = some v ∧ b ∈ v.foot := by
  rw [List.mem_flatten]
  constructor
  · rintro ⟨l, hl, hb⟩
    obtain ⟨v, hv, rfl⟩ := List.mem_map.1 hl
    obtain ⟨j, hj, e⟩ := List.mem_iff_getElem.1 hv
    exact ⟨j, v, by rw [List.getElem?_eq_getElem hj, e], hb⟩
  · rintro ⟨j, v, hv, hb⟩
    exact ⟨v.foot, List.mem_map.2 ⟨v, List.mem_of_getElem? hv, rfl⟩, hb⟩
theorem JunAt.get {W : World} {X sv pt win g sc : Nat} {cv : Value} {cis : List CliI} {cs : List CliS} {vs : List SvI} {ss : List SrvS} (h : JunAt W X sv pt win g sc cv cis cs vs ss) {i : Nat} {v : CliI} (hv : cis[i]? = some v) : ∃ s, cs[i]? = some s ∧ CliOk W win v s := by
  have hi : i < cs.length := by rw [← h.cl]; exact (List.getElem?_eq_some_iff.1 hv).1
  exact ⟨_, List.getElem?_eq_getElem hi, h.cli i v _ hv (List.getElem?_eq_getElem hi)⟩
theorem JunAt.run {W : World} {X sv pt win g sc : Nat} {cv : Value} {cis : List CliI} {cs : List CliS} {vs : List SvI} {ss : List SrvS} (h : JunAt W X sv pt win g sc cv cis cs vs ss) {i : Nat} {v : CliI} {s : CliS} (hv : cis[i]? = some v) (hs : cs[i]? = some s) : RunAt W X sv pt win g sc cv v s vs ss :=
  ⟨h.blk, h.gb, h.len, h.s1, h.s4, h.sc_, h.pt_, h.cli i v s hv hs, h.srv, h.ap i v hv⟩
/-- One client ran. -/
theorem JunAt.ran {W W' : World} {X sv pt win g sc : Nat} {cv : Value} {cis : List CliI} {cs : List CliS} {vs vs' : List SvI} {ss ss' : List SrvS} (h : JunAt W X sv pt win g sc cv cis cs vs ss) {i : Nat} {v v' : CliI} {s' : CliS} (hv : cis[i]? = some v) (hr : RunAt W' X sv pt win g sc cv v' s' vs' ss') (hC : v'.C = v.C) (k : Chg (allF v vs) W W') (hl : Later W (allF v vs) (allF v' vs')) :
    JunAt W' X sv pt win g sc cv (cis.set i v') (cs.set i s') vs' ss' ∧ Chg (footJ X cv cis vs) W W' ∧ Later W (footJ X cv cis vs) (footJ X cv (cis.set i v') vs') := by
  have hil := (List.getElem?_eq_some_iff.1 hv).1
  have hil2 : i < cs.length := by rw [← h.cl]; exact hil
  obtain ⟨s0, hs0, hok0⟩ := h.get hv
  have hmap : (cis.set i v').map (fun v => ptrV v.C) = cis.map (fun v => ptrV v.C) := by
    apply List.ext_getElem?
    intro j
    rw [List.getElem?_map, List.getElem?_map, List.getElem?_set]
    split
    · rename_i e
      subst e
      rw [hv]
      simp [hC]
    · rfl
  have old : ∀ (j : Nat) (u : CliI), cis[j]? = some u → ∀ b ∈ u.foot, b < W.heap.size := fun j u hu b hb => by
    obtain ⟨s, hs, hok⟩ := h.get hu
    exact hok.old b hb
  -- other clients are as they were
  have kc : ∀ (j : Nat) (u : CliI), j ≠ i → cis[j]? = some u → ∀ b ∈ u.foot, b ∉ allF v vs := fun j u hj hu b hb hm => by
    rcases List.mem_append.1 hm with e | e
    · exact h.cap j i u v hj hu hv b hb e
    · exact h.ap j u hu b hb e
  have nrow : ∀ gg, cv.ownBlock = some gg → gg ∉ allF v vs := fun gg hg hm => by
    obtain ⟨cur, hc⟩ := ownsRow_blk h.row hg
    rcases List.mem_append.1 hm with e | e
    · exact hok0.apart hc (by decide) e
    · exact h.srv.apart hc (by decide) (by decide) e
  have hsub : ∀ b ∈ allF v vs, b ∈ footJ X cv cis vs := fun b hb => by
    unfold footJ
    rcases List.mem_append.1 hb with e | e
    · exact List.mem_cons_of_mem _ (List.mem_append.2 (.inr (List.mem_append.2 (.inl (mem_cis.2 ⟨i, v, hv, e⟩)))))
    · exact List.mem_cons_of_mem _ (List.mem_append.2 (.inr (List.mem_append.2 (.inr e))))
  refine ⟨⟨hr.blk, hr.gb, hr.len, h.s1, h.s4, h.sc_, h.pt_, ?_, by simp [h.cl], fun j u s hu hs => ?_, fun a j u1 u2 hij h1 h2 b hb1 hb2 => ?_, hr.srv, fun j u hu b hb hm => ?_⟩, k.more hsub, fun b hb => ?_⟩
  · rw [hmap, List.length_set]
    exact ownsRow_other h.row (fun gg hg => by
      obtain ⟨cur, hc⟩ := ownsRow_blk h.row hg
      exact k.block gg (blkLt hc) (nrow gg hg))
  · by_cases hji : i = j
    · subst hji
      rw [List.getElem?_set_self hil] at hu
      rw [List.getElem?_set_self hil2] at hs
      cases hu; cases hs
      exact hr.cli
    · rw [List.getElem?_set_ne hji] at hu hs
      have hok := h.cli j u s hu hs
      refine hok.keep (fun b hb => k.block b (hok.old b hb) (kc j u (fun e => hji e.symm) hu b hb)) (fun b T Z f hZ hT => k.block b (blkLt hZ) (fun hm => ?_))
      rcases List.mem_append.1 hm with e | e
      · exact hok0.apart hZ (by rcases hT with e | e <;> (subst e; decide)) e
      · exact h.srv.apart hZ (by rcases hT with e | e <;> (subst e; decide)) (by rcases hT with e | e <;> (subst e; decide)) e
  · rw [List.getElem?_set] at h1 h2
    split at h1
    · rename_i e1
      subst e1
      split at h2
      · rename_i e2; exact hij e2
      · simp at h1
        subst h1
        rcases hl b (List.mem_append.2 (.inl hb1)) with h3 | h3
        · exact kc j u2 (fun e => hij e.symm) h2 b hb2 h3
        · have := old j u2 h2 b hb2; omega
    · split at h2
      · rename_i e2
        subst e2
        simp at h2
        subst h2
        rcases hl b (List.mem_append.2 (.inl hb2)) with h3 | h3
        · exact kc a u1 hij h1 b hb1 h3
        · have := old a u1 h1 b hb1; omega
      · exact h.cap a j u1 u2 hij h1 h2 b hb1 hb2
  · rw [List.getElem?_set] at hu
    split at hu
    · simp at hu
      subst hu
      exact hr.ap b hb hm
    · rename_i e
      rcases hl b (List.mem_append.2 (.inr hm)) with h3 | h3
      · exact kc j u (fun e2 => e e2.symm) hu b hb h3
      · have := old j u hu b hb; omega
  · unfold footJ at hb
    rcases List.mem_cons.1 hb with e | hb
    · exact .inl (by rw [e]; simp [footJ])
    rcases List.mem_append.1 hb with hb | hb
    · exact .inl (by unfold footJ; exact List.mem_cons_of_mem _ (List.mem_append.2 (.inl hb)))
    have fromAll : b ∈ allF v' vs' → b ∈ footJ X cv cis vs ∨ W.heap.size ≤ b := fun hm => by
      rcases hl b hm with h3 | h3
      · exact .inl (hsub b h3)
      · exact .inr h3
    rcases List.mem_append.1 hb with hb | hb
    · obtain ⟨j, u, hu, hbu⟩ := mem_cis.1 hb
      rw [List.getElem?_set] at hu
      split at hu
      · simp at hu
        subst hu
        exact fromAll (List.mem_append.2 (.inl hbu))
      · exact .inl (by unfold footJ; exact List.mem_cons_of_mem _ (List.mem_append.2 (.inr (List.mem_append.2 (.inl (mem_cis.2 ⟨j, u, hu, hbu⟩))))))
    · exact fromAll (List.mem_append.2 (.inr hb))

set_option maxHeartbeats 1000000 in
set_option maxRecDepth 100000 in
theorem at_no (F : Nat) (hF : F = 56 ∨ F = 60) (a : Option Addr) (n c : Nat) (k : Int) (w : World) (hn : n ≤ 1000000) (h : k < 0 ∨ (n : Int) ≤ k) :
    Calls Tryz.prog F #[.slice a n c, .int .i64 k] w fun e w' => e = .returned (.tuple #[.pointer none, .int .i64 1]) ∧ w' = w := by
  rcases hF with rfl | rfl
  · rcases h with h | h
    · go_enter Tryz.func56, Tryz.ntmps56
      go_wp2
      go_ret2
      exact ⟨rfl, rfl⟩
    · have h0 : ¬ k < 0 := by omega
      go_enter Tryz.func56, Tryz.ntmps56
      go_wp2
      go_ret2
      exact ⟨rfl, rfl⟩
  · rcases h with h | h
    · go_enter Tryz.func60, Tryz.ntmps60
      go_wp2
      go_ret2
      exact ⟨rfl, rfl⟩
    · have h0 : ¬ k < 0 := by omega
      go_enter Tryz.func60, Tryz.ntmps60
      go_wp2
      go_ret2
      exact ⟨rfl, rfl⟩
set_option maxHeartbeats 1000000 in
set_option maxRecDepth 100000 in
theorem at_yes (F : Nat) (hF : F = 56 ∨ F = 60) (g n c k b : Nat) (w : World) (hn : n ≤ 1000000) (h : k < n) (hc : w.cell? ⟨g, k, none⟩ = some (.pointer (some ⟨b, 0, none⟩))) (hl : g < w.heap.size) :
    Calls Tryz.prog F #[.slice (some ⟨g, 0, none⟩) n c, .int .i64 (k : Int)] w fun e w' => e = .returned (.tuple #[.pointer (some ⟨b, 0, none⟩), .int .i64 0]) ∧ w' = w := by
  have h0 : ¬ (k : Int) < 0 := by omega
  have h1 : ¬ (n : Int) ≤ (k : Int) := by omega
  have h2 : (k : Int) < (n : Int) := by omega
  rcases hF with rfl | rfl
  · go_enter Tryz.func56, Tryz.ntmps56
    go_wp2
    go_ret2
    exact ⟨rfl, rfl⟩
  · go_enter Tryz.func60, Tryz.ntmps60
    go_wp2
    go_ret2
    exact ⟨rfl, rfl⟩
end Go.Proofs.YtlonjggfnleolaaGreatDoor


/-
  Say, Told, Sent of a junction.
-/

namespace Go.Proofs.YtlonjggfnleolaaGreatDoor
open Go.RowKit Go.Shelf Go.Conc
set_option linter.unusedVariables false

def tookC (s : CliS) (piece : List UInt8) : CliS := { s with st := takeS s.st piece }
/-- A client's reader was fed. -/
theorem CliOk.took {W W' : World} {win : Nat} {v : CliI} {s : CliS} (h : CliOk W win v s) (st' : St) (hT : RdrTo W W' v.R v.hb v.t st') : ∃ hb', CliOk W' win { v with hb := hb' } { s with st := st' } ∧ Chg v.foot W W' ∧ Later W v.foot (CliI.foot { v with hb := hb' }) := by
  obtain ⟨⟨hb', hR, hF⟩, hTn⟩ := hT
  obtain ⟨n1, n2, n3, n4, n5⟩ := h.nC
  obtain ⟨m1, m2, m3, m4⟩ := h.nCh
  have k : Chg v.foot W W' := ⟨hTn.os, hTn.tape, hTn.output, hTn.size, fun b hb hn => hTn.block b hb (fun e => hn (by rw [e]; simp [CliI.foot])) (fun e => hn (by simp [CliI.foot, ← e]))⟩
  have kb : ∀ b ∈ v.foot, b ≠ v.R → v.hb ≠ some b → W'.heap[b]? = W.heap[b]? := fun b hb h1 h2 => hTn.block b (h.old b hb) h1 (fun e => h2 (by rw [e]))
  obtain ⟨buf, a, b, tm, c1, c2⟩ := h.chan
  refine ⟨hb', ⟨(kb _ (by simp [CliI.foot]) n2 n3).trans h.blk, hR, h.di, ⟨buf, a, b, tm, (kb _ (by simp [CliI.foot]) m1 m2).trans c1, c2⟩, ownsRow_other h.row (fun g hg => kb g (by simp [CliI.foot, hg]) (h.nW hg).2.1 (h.nW hg).2.2.1), h.ql, fun i q c hq hc => (h.qu i q c hq hc).other (fun b T Z f hZ hT => k.block b (blkLt hZ) (h.apart hZ (by rcases hT with e | e <;> (subst e; decide)))), h.bpv, h.bld.other (fun g hg => kb g (by simp [CliI.foot, hg]) (h.nB hg).2.1 (h.nB hg).2.2.1), fun b hb hb2 => ?_, h.ok⟩, k, fun b hb => ?_⟩
  · simp only at hb hb2
    have hlt := h.old b (by simp [CliI.foot, hb])
    rcases hF with e | e | ⟨j, e, hj⟩
    · exact h.ab b hb (by rw [← e]; exact hb2)
    · rw [e] at hb2; cases hb2
    · rw [e] at hb2; cases hb2; omega
  · unfold CliI.foot at hb ⊢
    simp at hb ⊢
    rcases hb with e | e | e | e | e | e
    · simp [e]
    · simp [e]
    · simp [e]
    · rcases hF with e2 | e2 | ⟨j, e2, hj⟩
      · rw [e2] at e; simp [e]
      · rw [e2] at e; cases e
      · rw [e2] at e; cases e; exact .inr hj
    · simp [e]
    · simp [e]
theorem JunAt.cvLen {W : World} {X sv pt win g sc : Nat} {cv : Value} {cis : List CliI} {cs : List CliS} {vs : List SvI} {ss : List SrvS} (h : JunAt W X sv pt win g sc cv cis cs vs ss) : ∃ a c, cv = .slice a cis.length c := by
  rcases h.row.2 with ⟨e, h0⟩ | ⟨g', cap, cur, e, _⟩
  · exact ⟨_, _, by rw [e, h0]⟩
  · exact ⟨_, _, e⟩
theorem JunAt.cvAt {W : World} {X sv pt win g sc : Nat} {cv : Value} {cis : List CliI} {cs : List CliS} {vs : List SvI} {ss : List SrvS} (h : JunAt W X sv pt win g sc cv cis cs vs ss) {i : Nat} {v : CliI} (hv : cis[i]? = some v) : ∃ gg c, cv = .slice (some ⟨gg, 0, none⟩) cis.length c ∧ gg < W.heap.size ∧ W.cell? ⟨gg, i, none⟩ = some (.pointer (some ⟨v.C, 0, none⟩)) := by
  have hi := (List.getElem?_eq_some_iff.1 hv).1
  rcases h.row.2 with ⟨e, h0⟩ | ⟨g', cap, cur, e, _, h1, h2, _, _, h5⟩
  · omega
  · refine ⟨g', cap, e, blkLt h1, ?_⟩
    rw [blkCell h1 i]
    have h6 : (cur.toList.take (cis.length * 1))[i]? = (cis.map (fun v => ptrV v.C))[i]? := by rw [h5]
    rw [List.getElem?_take_of_lt (by omega), List.getElem?_map, hv] at h6
    simpa [ptrV] using h6

set_option maxHeartbeats 1000000 in
set_option maxRecDepth 100000 in
theorem say_no {w : World} {X sv pt win g sc : Nat} {cv : Value} {cis : List CliI} {cs : List CliS} {vs : List SvI} {ss : List SrvS} (h : JunAt w X sv pt win g sc cv cis cs vs ss) (hn : cis.length ≤ 1000000) (k : Int) (piece : ByteArray) (hk : k < 0 ∨ (cis.length : Int) ≤ k) :
    Calls Tryz.prog 28 #[.pointer (some ⟨X, 0, none⟩), .int .i64 k, .string piece] w fun e w' => e = .returned (.int .i64 1) ∧ w' = w := by
  obtain ⟨a, c, rfl⟩ := h.cvLen
  have c3 := (juCells h.blk).2.2.2.1
  have hlt := blkLt h.blk
  have HN := hide' (at_no 56 (.inl rfl) a cis.length c k w hn hk)
  clear h hk
  go_enter Tryz.func28, Tryz.ntmps28
  go_wp2_with fail
  go_at_call 56
  refine HN.out.mono ?_
  rintro e w1 ⟨rfl, hw1⟩
  subst hw1
  go_wp2
  go_ret
  exact ⟨rfl, rfl⟩

def saidS (sv pt win : Nat) (s : CliS) (ss : List SrvS) (piece : List UInt8) : CliS × List SrvS := serveS sv pt win (tellC (tookC s piece)) ss
set_option maxHeartbeats 1000000 in
set_option maxRecDepth 100000 in
theorem say_yes {w : World} {X sv pt win g sc : Nat} {cv : Value} {cis : List CliI} {cs : List CliS} {vs : List SvI} {ss : List SrvS} (h : JunAt w X sv pt win g sc cv cis cs vs ss) (hn : cis.length ≤ 1000000) {i : Nat} {v : CliI} {s : CliS} (hv : cis[i]? = some v) (hs : cs[i]? = some s) (piece : ByteArray) {N T : Nat} (hN : N < 65000) (hT : T ≤ 100000000000) (hwin : win ≤ 1000) (hb : Bd win N T (tookC s piece.data.toList) ss) (h2 : 2 * s.st.held.length + piece.size ≤ 140737488355328) :
    Calls Tryz.prog 28 #[.pointer (some ⟨X, 0, none⟩), .int .i64 (i : Int), .string piece] w fun e w' => e = .returned (.int .i64 0) ∧ ∃ v' vs', JunAt w' X sv pt win g sc cv (cis.set i v') (cs.set i (saidS sv pt win s ss piece.data.toList).1) vs' (saidS sv pt win s ss piece.data.toList).2 ∧ Bd win N T (saidS sv pt win s ss piece.data.toList).1 (saidS sv pt win s ss piece.data.toList).2 ∧ Chg (footJ X cv cis vs) w w' ∧ Later w (footJ X cv cis vs) (footJ X cv (cis.set i v') vs') := by
  obtain ⟨gg, c, rfl, hgl, hgc⟩ := h.cvAt hv
  have hi := (List.getElem?_eq_some_iff.1 hv).1
  have hrun := h.run hv hs
  have c3 := (juCells h.blk).2.2.2.1
  have hlt := blkLt h.blk
  have d0 := (clCells hrun.cli.blk).1
  have hltC := blkLt hrun.cli.blk
  have HN := hide' (at_yes 56 (.inl rfl) gg cis.length c i v.C w hn hi hgc hgl)
  have HTk := hide' (take_any v.R v.t v.hb s.st piece w hrun.cli.rd h2)
  have HRun : Hid (∀ w', RdrTo w w' v.R v.hb v.t (takeS s.st piece.data.toList) → Calls Tryz.prog 59 #[.pointer (some ⟨X, 0, none⟩), .pointer (some ⟨v.C, 0, none⟩)] w' fun e w2 => e = .returned (.tuple #[]) ∧ ∃ v' vs', JunAt w2 X sv pt win g sc (.slice (some ⟨gg, 0, none⟩) cis.length c) (cis.set i v') (cs.set i (saidS sv pt win s ss piece.data.toList).1) vs' (saidS sv pt win s ss piece.data.toList).2 ∧ Bd win N T (saidS sv pt win s ss piece.data.toList).1 (saidS sv pt win s ss piece.data.toList).2 ∧ Chg (footJ X (.slice (some ⟨gg, 0, none⟩) cis.length c) cis vs) w w2 ∧ Later w (footJ X (.slice (some ⟨gg, 0, none⟩) cis.length c) cis vs) (footJ X (.slice (some ⟨gg, 0, none⟩) cis.length c) (cis.set i v') vs')) := fun w' hT' => by
    obtain ⟨hb', a1, a2, a3⟩ := hrun.cli.took _ hT'
    have hrun' := hrun.cliTo a2 a3 a1
    refine (readOn_run hrun' hN hT hwin hb).mono ?_
    rintro e w2 ⟨rfl, v', vs', b1, b2, b3, b4, b5⟩
    have k : Chg (allF v vs) w w2 := (a2.more (fun b hb => List.mem_append.2 (.inl hb))).trans b4 ((Later.refl _ _).app (Nat.le_refl _) a3 (Later.refl _ _))
    have l : Later w (allF v vs) (allF v' vs') := ((Later.refl w (allF v vs)).app (Nat.le_refl _) a3 (Later.refl _ _)).trans b5 a2.size
    obtain ⟨r1, r2, r3⟩ := h.ran hv b1 b2 k l
    exact ⟨rfl, v', vs', r1, b3, r2, r3⟩
  clear h hrun hb hgc hgl
  go_enter Tryz.func28, Tryz.ntmps28
  go_wp2_with fail
  go_at_call 56
  refine HN.out.mono ?_
  rintro e w1 ⟨rfl, hw1⟩
  subst hw1
  go_wp2_with fail
  go_at_call 58
  refine HTk.out.mono ?_
  rintro e w2 ⟨rfl, hto⟩
  have HR2 := hide' (HRun.out w2 hto)
  clear hto
  go_wp2_with fail
  go_at_call 59
  refine HR2.out.mono ?_
  rintro e w3 ⟨rfl, hfin⟩
  have HF := hide' hfin
  clear hfin
  go_wp2
  go_ret
  exact ⟨rfl, HF.out⟩
end Go.Proofs.YtlonjggfnleolaaGreatDoor


/-
  A list of pointers that may begin within its block (it was cut at its head): append.
-/

namespace Go.Proofs.YtlonjggfnleolaaGreatDoor
open Go.RowKit Go.Shelf
set_option linter.unusedVariables false

def OffRow (w : World) (e : TypeId) (v : Value) (xs : List Value) : Prop :=
  (v = .slice none 0 0 ∧ xs = []) ∨ ∃ (g off cap : Nat) (cur : Array Value), v = .slice (some ⟨g, off, none⟩) xs.length cap ∧ w.heap[g]? = some (.cells cur e (0, 0)) ∧ xs.length ≤ cap ∧ off + cap ≤ cur.size ∧ ∀ (i : Nat) (x : Value), xs[i]? = some x → cur[off + i]? = some x
theorem OffRow.other {w w' : World} {e : TypeId} {v : Value} {xs : List Value} (h : OffRow w e v xs) (k : ∀ g, v.ownBlock = some g → w'.heap[g]? = w.heap[g]?) : OffRow w' e v xs := by
  rcases h with h | ⟨g, off, cap, cur, rfl, h1, h2⟩
  · exact .inl h
  · exact .inr ⟨g, off, cap, cur, rfl, (k g rfl).trans h1, h2⟩
theorem OffRow.blk {w : World} {e : TypeId} {v : Value} {xs : List Value} (h : OffRow w e v xs) {g : Nat} (hg : v.ownBlock = some g) : ∃ cur, w.heap[g]? = some (.cells cur e (0, 0)) := by
  rcases h with ⟨rfl, _⟩ | ⟨g', off, cap, cur, rfl, h1, _⟩
  · cases hg
  · cases hg; exact ⟨cur, h1⟩
theorem OffRow.len {w : World} {e : TypeId} {v : Value} {xs : List Value} (h : OffRow w e v xs) : ∃ a c, v = .slice a xs.length c := by
  rcases h with ⟨rfl, h0⟩ | ⟨g', off, cap, cur, rfl, _⟩
  · exact ⟨none, 0, by rw [h0]; rfl⟩
  · exact ⟨_, _, rfl⟩
/-- The list without its first. -/
theorem OffRow.tail {w : World} {e : TypeId} {x : Value} {xs : List Value} {a : Addr} {c : Nat} (h : OffRow w e (.slice (some a) (xs.length + 1) c) (x :: xs)) : OffRow w e (.slice (some ⟨a.block, a.off + 1, none⟩) xs.length (c - 1)) xs := by
  rcases h with ⟨h, _⟩ | ⟨g, off, cap, cur, h, h1, h2, h3, h4⟩
  · cases h
  · cases h
    simp only [List.length_cons] at h2
    refine .inr ⟨g, off + 1, c - 1, cur, rfl, h1, by omega, by omega, fun i y hy => ?_⟩
    have := h4 (i + 1) y (by simpa using hy)
    rw [show off + 1 + i = off + (i + 1) by omega]
    exact this
theorem run_append_off {P : Program} (w : World) (t ty e : TypeId) (i : TypeInfo) (z : Value) (ht : P.underlying t = some (.slice e)) (hi : P.info? e = some i) (hz : i.zero = some z) (hz1 : z.cells.size = 1) (hs : i.size = 1) (hb : i.bytes = 8)
    (v : Value) (xs : List Value) (hrow : OffRow w e v xs) (ad : Addr) (c : Nat) (u : Value) (hu : w.cell? ad = some u) (hu1 : u.oneCell' = true) (hn : xs.length ≤ 1000000) :
    ∃ v' w', (Builtin.append_ #[t, t] ty #[v, .slice (some ad) 1 c]).run P w = .ok v' w' ∧ OffRow w' e v' (xs ++ [u]) ∧ Chg v.ownBlock.toList w w' ∧ (v'.ownBlock = v.ownBlock ∨ v'.ownBlock = some w.heap.size) := by
  have hsrc : Src P i.size t (.slice (some ad) 1 c) 1 [u] w := Src.ofSlice w ht ad 1 c [u] (by rw [hs]; rfl) (fun j y hy => by
    cases j with
    | zero =>
      simp at hy
      subst hy
      rw [show ad.add 0 = ad from by unfold Addr.add; simp]
      exact hu
    | succ j => simp at hy) (fun y hy => by simp at hy; rw [hy]; exact hu1)
  have grow : ∀ (base : Option Addr) (sCap : Nat), v = .slice base xs.length sCap → sCap < xs.length + 1 → (∀ (j : Nat) (y : Value), xs[j]? = some y → ∃ a, base = some a ∧ w.cell? (a.add j) = some y) → ∃ v' w', (Builtin.append_ #[t, t] ty #[v, .slice (some ad) 1 c]).run P w = .ok v' w' ∧ OffRow w' e v' (xs ++ [u]) ∧ Chg v.ownBlock.toList w w' ∧ (v'.ownBlock = v.ownBlock ∨ v'.ownBlock = some w.heap.size) := fun base sCap hv hg hold => by
    have hfirst : (Builtin.firstCells i.size xs.length (.slice base xs.length sCap)).run P w.drew = .ok xs.toArray w.drew := by
      cases base with
      | none =>
        have h0 : xs = [] := by
          cases xs with
          | nil => rfl
          | cons y ys => obtain ⟨a, ha, _⟩ := hold 0 y rfl; cases ha
        subst h0
        exact run_firstCells_none w.drew i.size 0 0 sCap
      | some a =>
        exact run_firstCells_some w.drew i.size xs.length a xs.length sCap xs (by rw [hs, Nat.mul_one]) (fun j y hy => by
          obtain ⟨a', ha, hc⟩ := hold j y hy
          cases ha
          simpa using hc)
    have hcap := nextslicecap_le (need := xs.length + 1) (old := sCap) hg
    have hr := run_append_grow_src (P := P) w t t ty e i z ht hi hz base xs.length sCap xs hfirst (.slice (some ad) 1 c) 1 [u] hsrc hg (by omega) (by rw [hb]; omega)
    rw [← hv] at hr
    have hge := grownCap_ge w (xs.length + 1) sCap e
    refine ⟨_, _, hr, .inr ⟨w.heap.size, 0, grownCap w (xs.length + 1) sCap e, _, by simp, hs_new rfl, by simpa using hge, ?_, fun j y hy => ?_⟩, ?_, .inr rfl⟩
    · simp [Builtin.zeroCells, hz1]
      omega
    · rw [Nat.zero_add]
      have hj := (List.getElem?_eq_some_iff.1 hy).1
      rw [Array.getElem?_append_left (by simpa using hj)]
      simpa using hy
    · exact Chg.of_below ((Below.refl _ w).drew.alloc (Nat.le_refl _) _)
  rcases hrow with ⟨rfl, rfl⟩ | ⟨g, off, cap, cur, rfl, h1, h2, h3, h4⟩
  · exact grow none 0 rfl (by simp) (fun j y hy => by simp at hy)
  · by_cases hroom : xs.length + 1 ≤ cap
    · have hcell : ∀ j, w.cell? ⟨g, j, none⟩ = cur[j]? := fun j => blkCell h1 j
      have hr := run_append_room_src (P := P) w t t ty e i ht hi g off xs.length cap (.slice (some ad) 1 c) 1 [u] hsrc hroom (fun j hj => by
        simp at hj
        subst hj
        rw [hcell, hs, Array.getElem?_eq_getElem (by omega)]
        rfl) (fun j hj => blkFree h1 _)
      refine ⟨_, _, hr, .inr ⟨g, off, cap, cur.set! (off + xs.length) u, by simp, ?_, by simpa using hroom, by simpa using h3, fun j y hy => ?_⟩, ?_, .inl rfl⟩
      · rw [hs, Nat.mul_one]
        exact blkSet h1 u
      · by_cases hj : j < xs.length
        · rw [List.getElem?_append_left hj] at hy
          have := h4 j y hy
          rw [Array.set!_eq_setIfInBounds, Array.getElem?_setIfInBounds_ne (by omega)]
          exact this
        · have hj2 := (List.getElem?_eq_some_iff.1 hy).1
          simp at hj2
          have hj3 : j = xs.length := by omega
          subst hj3
          rw [List.getElem?_append_right (Nat.le_refl _)] at hy
          simp at hy
          subst hy
          rw [Array.set!_eq_setIfInBounds, Array.getElem?_setIfInBounds_self]
          simp
          omega
      · rw [hs, Nat.mul_one]
        exact (Chg.refl _ w).set (.inl (by simp [Value.ownBlock])) u
    · exact grow (some ⟨g, off, none⟩) cap rfl (by omega) (fun j y hy => ⟨_, rfl, by
        rw [show (⟨g, off, none⟩ : Addr).add j = ⟨g, off + j, none⟩ from by unfold Addr.add; simp]
        rw [blkCell h1]
        exact h4 j y hy⟩)
theorem wp_append_off {P : Program} (w : World) {o : Oper} {a : Act} {K : Act → World → Prop} {Q : Exit → Act → World → Prop} (s x : Operand) (t : TypeId)
    (ho : o.op = .call { callee := .builtin .append, args := #[s, x], argTypes := #[t, t] })
    (e : TypeId) (i : TypeInfo) (z : Value) (ht : P.underlying t = some (.slice e)) (hi : P.info? e = some i) (hz : i.zero = some z) (hz1 : z.cells.size = 1) (hs1 : i.size = 1) (hb : i.bytes = 8)
    (v : Value) (xs : List Value) (hs : a.eval s = v) (hrow : OffRow w e v xs) (ad : Addr) (c : Nat) (u : Value) (hx : a.eval x = .slice (some ad) 1 c) (hu : w.cell? ad = some u) (hu1 : u.oneCell' = true) (hn : xs.length ≤ 1000000)
    (h : ∀ va vc w', OffRow w' e (.slice va (xs.length + 1) vc) (xs ++ [u]) → Chg v.ownBlock.toList w w' → ((Value.slice va (xs.length + 1) vc).ownBlock = v.ownBlock ∨ (Value.slice va (xs.length + 1) vc).ownBlock = some w.heap.size) → K (a.put o.dst (.slice va (xs.length + 1) vc)) w') : Oper.wp P o a w K Q := by
  obtain ⟨v', w', hr, h2, h3, h4⟩ := run_append_off (P := P) w t o.type e i z ht hi hz hz1 hs1 hb v xs hrow ad c u hu hu1 hn
  obtain ⟨va, vc, hv⟩ := h2.len
  rw [List.length_append, List.length_singleton] at hv
  subst hv
  unfold Oper.wp execOp
  simp only [ho, resolve, invoke, builtin, Sem.run_bind, Sem.run_pure, Result.andThen_ok, List.map_toArray, List.map_cons, List.map_nil, hs, hx, hr]
  exact h va vc w' h2 h3 h4
theorem wpList_append_off {P : Program} (w : World) {ops : Array Oper} {rest : List Oper} {o : Oper} {a : Act} {Q : Exit → Act → World → Prop} (hgd : o.guard = none) (s x : Operand) (t : TypeId)
    (ho : o.op = .call { callee := .builtin .append, args := #[s, x], argTypes := #[t, t] })
    (e : TypeId) (i : TypeInfo) (z : Value) (ht : P.underlying t = some (.slice e)) (hi : P.info? e = some i) (hz : i.zero = some z) (hz1 : z.cells.size = 1) (hs1 : i.size = 1) (hb : i.bytes = 8)
    (v : Value) (xs : List Value) (hs : a.eval s = v) (hrow : OffRow w e v xs) (ad : Addr) (c : Nat) (u : Value) (hx : a.eval x = .slice (some ad) 1 c) (hu : w.cell? ad = some u) (hu1 : u.oneCell' = true) (hn : xs.length ≤ 1000000)
    (h : ∀ va vc w', OffRow w' e (.slice va (xs.length + 1) vc) (xs ++ [u]) → Chg v.ownBlock.toList w w' → ((Value.slice va (xs.length + 1) vc).ownBlock = v.ownBlock ∨ (Value.slice va (xs.length + 1) vc).ownBlock = some w.heap.size) → wpList P ops Q rest (a.put o.dst (.slice va (xs.length + 1) vc)) w') : wpList P ops Q (o :: rest) a w :=
  wpList_plain hgd fun _ hK => wp_append_off w s x t ho e i z ht hi hz hz1 hs1 hb v xs hs hrow ad c u hx hu hu1 hn fun va vc w' h2 h3 h4 => hK _ _ (h va vc w' h2 h3 h4)
end Go.Proofs.YtlonjggfnleolaaGreatDoor


/-
  The reference's junction, while nothing comes from servers; what was told and sent.
-/

namespace Go.Proofs.YtlonjggfnleolaaGreatDoor
open Go.RowKit Go.Shelf
set_option linter.unusedVariables false

def rjO (sv pt win : Int) (cv rv : Value) : Obj := .cells #[.int .i64 sv, .int .i64 pt, .int .i64 win, cv, rv] 240 (0, 0)
def rcO (d : Int) (Y : Nat) (wv : Value) (told : List UInt8) : Obj := .cells #[.int .i64 d, .pointer (some ⟨Y, 0, none⟩), wv, .string (mkB told)] 247 (0, 0)
def rsO (up : Bool) (next : Int) (inn : ByteArray) (sent : List UInt8) : Obj := .cells #[.bool up, .int .i64 next, .string inn, .string (mkB sent)] 243 (0, 0)
def rwO (c : Cmd) (kv pv : Value) : Obj := .cells #[.int .i64 c.kind, kv, .string c.val, .string c.word, .bool c.fatal, .int .i64 c.id, pv] 266 (0, 0)
def rpO (o id st : Int) (kd : Int) (val : ByteArray) : Obj := .cells #[.int .i64 o, .int .i64 id, .int .i64 st, .int .i64 kd, .string val] 253 (0, 0)
/-- A part: its block, its server, its ID. -/
structure RPart where
  B : Nat
  o : Nat
  id : Nat
/-- Something that waits: its block, its keys, its parts. -/
structure RWaitI where
  B : Nat
  kv : Value
  pv : Value
  ps : List RPart
structure RCliI where
  K : Nat
  Y : Nat
  wv : Value
  ws : List RWaitI
/-- A part that waits. -/
structure RPartOk (W : World) (ss : List SrvS) (p : RPart) : Prop where
  blk : ∃ kd val, W.heap[p.B]? = some (rpO p.o p.id 0 kd val)
  lt : ∃ s, ss[p.o]? = some s ∧ p.id < s.next
structure RWaitOk (W : World) (ss : List SrvS) (c : Cmd) (v : RWaitI) : Prop where
  blk : W.heap[v.B]? = some (rwO c v.kv v.pv)
  row : W.ownsRow 0 249 1 v.pv v.ps.length (v.ps.map (fun p => ptrV p.B))
  len : v.ps.length = c.keys.length
  ok : ∀ p ∈ v.ps, RPartOk W ss p
  kn : c.keys = [] → ∃ ka kc, v.kv = .slice ka 0 kc ∧ ((∃ b o, ka = some ⟨b, o, none⟩ ∧ b < v.B) ∨ kc = 0)
structure RCliOk (W : World) (ss : List SrvS) (v : RCliI) (s : CliS) : Prop where
  blk : W.heap[v.K]? = some (rcO s.d v.Y v.wv s.told)
  rd : RefAt W v.Y s.d s.st
  row : OffRow W 263 v.wv (v.ws.map (fun u => ptrV u.B))
  len : v.ws.length = s.waits.length
  ok : ∀ (i : Nat) (u : RWaitI) (c : Cmd), v.ws[i]? = some u → s.waits[i]? = some c → RWaitOk W ss c u ∧ OkC s.d c
structure RJunAt (W : World) (X sv pt win : Nat) (cv rv : Value) (cis : List RCliI) (cs : List CliS) (vs : List Nat) (ss : List SrvS) : Prop where
  blk : W.heap[X]? = some (rjO sv pt win cv rv)
  crow : W.ownsRow 0 244 1 cv cis.length (cis.map (fun v => ptrV v.K))
  srow : W.ownsRow 0 241 1 rv vs.length (vs.map ptrV)
  len : vs.length = sv
  sl : ss.length = sv
  s1 : 1 ≤ sv
  s4 : sv ≤ 4
  pt_ : pt ≤ 16
  cl : cis.length = cs.length
  cli : ∀ (i : Nat) (v : RCliI) (s : CliS), cis[i]? = some v → cs[i]? = some s → RCliOk W ss v s
  srv : ∀ (j : Nat) (S : Nat) (s : SrvS), vs[j]? = some S → ss[j]? = some s → ∃ inn, W.heap[S]? = some (rsO true s.next inn s.sent)
theorem row_form {w : World} {e : TypeId} {n : Nat} {v : Value} {xs : List Value} (h : w.ownsRow 0 e 1 v n xs) : ∃ a c, v = .slice a n c := by
  rcases h.2 with ⟨e, h0⟩ | ⟨g', cap, cur, e, _⟩
  · exact ⟨_, _, by rw [e, h0]⟩
  · exact ⟨_, _, e⟩
theorem row_at {w : World} {e : TypeId} {n : Nat} {v : Value} {xs : List Value} (h : w.ownsRow 0 e 1 v n xs) (hl : xs.length = n) {i : Nat} {x : Value} (hx : xs[i]? = some x) : ∃ g c, v = .slice (some ⟨g, 0, none⟩) n c ∧ g < w.heap.size ∧ w.cell? ⟨g, i, none⟩ = some x := by
  have hi := (List.getElem?_eq_some_iff.1 hx).1
  rcases h.2 with ⟨e, h0⟩ | ⟨g', cap, cur, e, _, h1, h2, _, _, h5⟩
  · omega
  · refine ⟨g', cap, e, blkLt h1, ?_⟩
    rw [blkCell h1 i]
    have h6 : (cur.toList.take (n * 1))[i]? = xs[i]? := by rw [h5]
    rw [List.getElem?_take_of_lt (by omega), hx] at h6
    simpa using h6

set_option maxHeartbeats 1000000 in
set_option maxRecDepth 100000 in
theorem rtold_no {w : World} {X sv pt win : Nat} {cv rv : Value} {cis : List RCliI} {cs : List CliS} {vs : List Nat} {ss : List SrvS} (h : RJunAt w X sv pt win cv rv cis cs vs ss) (hn : cis.length ≤ 1000000) (k : Int) (hk : k < 0 ∨ (cis.length : Int) ≤ k) :
    Calls Tryz.prog 113 #[.pointer (some ⟨X, 0, none⟩), .int .i64 k] w fun e w' => e = .returned (.tuple #[.string ⟨#[]⟩, .int .i64 1]) ∧ w' = w := by
  obtain ⟨a, c, rfl⟩ := row_form h.crow
  have hb := h.blk
  unfold rjO at hb
  have c3 := blkCell hb 3
  simp at c3
  have hlt := blkLt hb
  clear h hb
  by_cases h0 : k < 0
  · go_enter Tryz.func113, Tryz.ntmps113
    go_wp2
    go_ret2
    exact ⟨rfl, rfl⟩
  · have h1 : (cis.length : Int) ≤ k := by omega
    go_enter Tryz.func113, Tryz.ntmps113
    go_wp2
    go_ret2
    exact ⟨rfl, rfl⟩
set_option maxHeartbeats 1000000 in
set_option maxRecDepth 100000 in
theorem rtold_yes {w : World} {X sv pt win : Nat} {cv rv : Value} {cis : List RCliI} {cs : List CliS} {vs : List Nat} {ss : List SrvS} (h : RJunAt w X sv pt win cv rv cis cs vs ss) (hn : cis.length ≤ 1000000) {i : Nat} {v : RCliI} {s : CliS} (hv : cis[i]? = some v) (hs : cs[i]? = some s) :
    Calls Tryz.prog 113 #[.pointer (some ⟨X, 0, none⟩), .int .i64 (i : Int)] w fun e w' => e = .returned (.tuple #[.string (mkB s.told), .int .i64 0]) ∧ w' = w := by
  have hi := (List.getElem?_eq_some_iff.1 hv).1
  obtain ⟨g, c, rfl, hgl, hg⟩ := row_at h.crow (by simp) (i := i) (x := ptrV v.K) (by rw [List.getElem?_map, hv]; rfl)
  unfold ptrV at hg
  have hb := h.blk
  unfold rjO at hb
  have c3 := blkCell hb 3
  simp at c3
  have hlt := blkLt hb
  have hK := (h.cli i v s hv hs).blk
  unfold rcO at hK
  have k3 := blkCell hK 3
  simp at k3
  have hKl := blkLt hK
  have h0 : ¬ (i : Int) < 0 := by omega
  have h1 : ¬ (cis.length : Int) ≤ (i : Int) := by omega
  have h2 : (i : Int) < (cis.length : Int) := by omega
  clear h hb hK
  go_enter Tryz.func113, Tryz.ntmps113
  go_wp2
  go_ret2
  exact ⟨rfl, rfl⟩
set_option maxHeartbeats 1000000 in
set_option maxRecDepth 100000 in
theorem rsent_no {w : World} {X sv pt win : Nat} {cv rv : Value} {cis : List RCliI} {cs : List CliS} {vs : List Nat} {ss : List SrvS} (h : RJunAt w X sv pt win cv rv cis cs vs ss) (k : Int) (hk : k < 0 ∨ (sv : Int) ≤ k) :
    Calls Tryz.prog 114 #[.pointer (some ⟨X, 0, none⟩), .int .i64 k] w fun e w' => e = .returned (.tuple #[.string ⟨#[]⟩, .int .i64 1]) ∧ w' = w := by
  obtain ⟨a, c, rfl⟩ := row_form h.srow
  have hb := h.blk
  unfold rjO at hb
  have c4 := blkCell hb 4
  simp at c4
  rw [h.len] at c4
  have hlt := blkLt hb
  have h4 := h.s4
  clear h hb
  by_cases h0 : k < 0
  · go_enter Tryz.func114, Tryz.ntmps114
    go_wp2
    go_ret2
    exact ⟨rfl, rfl⟩
  · have h1 : (sv : Int) ≤ k := by omega
    go_enter Tryz.func114, Tryz.ntmps114
    go_wp2
    go_ret2
    exact ⟨rfl, rfl⟩
set_option maxHeartbeats 1000000 in
set_option maxRecDepth 100000 in
theorem rsent_yes {w : World} {X sv pt win : Nat} {cv rv : Value} {cis : List RCliI} {cs : List CliS} {vs : List Nat} {ss : List SrvS} (h : RJunAt w X sv pt win cv rv cis cs vs ss) {i : Nat} {S : Nat} {s : SrvS} (hv : vs[i]? = some S) (hs : ss[i]? = some s) :
    Calls Tryz.prog 114 #[.pointer (some ⟨X, 0, none⟩), .int .i64 (i : Int)] w fun e w' => e = .returned (.tuple #[.string (mkB s.sent), .int .i64 0]) ∧ w' = w := by
  have hi := (List.getElem?_eq_some_iff.1 hv).1
  obtain ⟨g, c, rfl, hgl, hg⟩ := row_at h.srow (by simp) (i := i) (x := ptrV S) (by rw [List.getElem?_map, hv]; rfl)
  unfold ptrV at hg
  have hb := h.blk
  unfold rjO at hb
  have c4 := blkCell hb 4
  simp at c4
  have hlt := blkLt hb
  obtain ⟨inn, hK⟩ := h.srv i S s hv hs
  unfold rsO at hK
  have k3 := blkCell hK 3
  simp at k3
  have hKl := blkLt hK
  have h4 := h.s4
  have hll := h.len
  have h0 : ¬ (i : Int) < 0 := by omega
  have h1 : ¬ (vs.length : Int) ≤ (i : Int) := by omega
  have h2 : (i : Int) < (vs.length : Int) := by omega
  have h5 : vs.length ≤ 4 := by omega
  clear h hb hK hll
  go_enter Tryz.func114, Tryz.ntmps114
  go_wp2
  go_ret2
  exact ⟨rfl, rfl⟩
end Go.Proofs.YtlonjggfnleolaaGreatDoor


/-
  The reference's junction is kept where the blocks of its types are.
-/

namespace Go.Proofs.YtlonjggfnleolaaGreatDoor
open Go.RowKit Go.Shelf
set_option linter.unusedVariables false

/-- Blocks of these types are kept. -/
def KeepT (Ts : List Nat) (W W' : World) : Prop := ∀ (b T : Nat) (Z : Array Value) (f : Nat × Nat), W.heap[b]? = some (.cells Z T f) → T ∈ Ts → W'.heap[b]? = W.heap[b]?
theorem KeepT.sub {Ts Us : List Nat} {W W' : World} (h : KeepT Ts W W') (hs : ∀ t ∈ Us, t ∈ Ts) : KeepT Us W W' := fun b T Z f hZ hT => h b T Z f hZ (hs T hT)
theorem KeepT.trans {Ts : List Nat} {A B C : World} (h : KeepT Ts A B) (k : KeepT Ts B C) : KeepT Ts A C := fun b T Z f hZ hT => by
  have h1 := h b T Z f hZ hT
  exact (k b T Z f (h1.trans hZ) hT).trans h1
theorem KeepT.below {Ts : List Nat} {W W' : World} (h : Below W.heap.size W W') : KeepT Ts W W' := fun b T Z f hZ _ => h.block b (blkLt hZ)
theorem KeepT.chg {Ts M : List Nat} {W W' : World} (h : Chg M W W') (hM : ∀ (b T : Nat) (Z : Array Value) (f : Nat × Nat), b ∈ M → W.heap[b]? = some (.cells Z T f) → T ∉ Ts) : KeepT Ts W W' := fun b T Z f hZ hT => h.block b (blkLt hZ) (fun hm => hM b T Z f hm hZ hT)
theorem KeepT.row {Ts : List Nat} {W W' : World} (h : KeepT Ts W W') {e : Nat} (he : e ∈ Ts) {n : Nat} {v : Value} {xs : List Value} (hr : W.ownsRow 0 e 1 v n xs) : W'.ownsRow 0 e 1 v n xs := ownsRow_other hr (fun g hg => by obtain ⟨cur, hc⟩ := ownsRow_blk hr hg; exact h g e _ _ hc he)
theorem KeepT.off {Ts : List Nat} {W W' : World} (h : KeepT Ts W W') {e : Nat} (he : e ∈ Ts) {v : Value} {xs : List Value} (hr : OffRow W e v xs) : OffRow W' e v xs := hr.other (fun g hg => by obtain ⟨cur, hc⟩ := hr.blk hg; exact h g e _ _ hc he)
theorem RPartOk.keepT {W W' : World} {ss : List SrvS} {p : RPart} (h : RPartOk W ss p) (k : KeepT [253] W W') : RPartOk W' ss p := by
  obtain ⟨kd, val, hb⟩ := h.blk
  unfold rpO at hb
  exact ⟨⟨kd, val, (k _ _ _ _ hb (by simp)).trans hb⟩, h.lt⟩
theorem RWaitOk.keepT {W W' : World} {ss : List SrvS} {c : Cmd} {v : RWaitI} (h : RWaitOk W ss c v) (k : KeepT [266, 249, 253] W W') : RWaitOk W' ss c v := by
  have hb := h.blk
  unfold rwO at hb
  exact ⟨(k _ _ _ _ hb (by simp)).trans hb, k.row (by simp) h.row, h.len, fun p hp => (h.ok p hp).keepT (k.sub (by simp)), h.kn⟩
theorem RCliOk.keepT {W W' : World} {ss : List SrvS} {v : RCliI} {s : CliS} (h : RCliOk W ss v s) (k : KeepT [247, 195, 263, 266, 249, 253] W W') : RCliOk W' ss v s := by
  have hb := h.blk
  unfold rcO at hb
  have hr := h.rd.at_
  unfold refO at hr
  exact ⟨(k _ _ _ _ hb (by simp)).trans hb, ⟨(k _ _ _ _ hr (by simp)).trans hr, h.rd.ok⟩, k.off (by simp) h.row, h.len, fun i u c hu hc => ⟨(h.ok i u c hu hc).1.keepT (k.sub (by simp)), (h.ok i u c hu hc).2⟩⟩
theorem RJunAt.keepT {W W' : World} {X sv pt win : Nat} {cv rv : Value} {cis : List RCliI} {cs : List CliS} {vs : List Nat} {ss : List SrvS} (h : RJunAt W X sv pt win cv rv cis cs vs ss) (k : KeepT [240, 244, 241, 243, 247, 195, 263, 266, 249, 253] W W') : RJunAt W' X sv pt win cv rv cis cs vs ss := by
  have hb := h.blk
  unfold rjO at hb
  refine ⟨(k _ _ _ _ hb (by simp)).trans hb, k.row (by simp) h.crow, k.row (by simp) h.srow, h.len, h.sl, h.s1, h.s4, h.pt_, h.cl, fun i v s hv hs => (h.cli i v s hv hs).keepT (k.sub (by simp)), fun j S s hS hs => ?_⟩
  obtain ⟨inn, h1⟩ := h.srv j S s hS hs
  have h2 := h1
  unfold rsO at h2
  exact ⟨inn, (k _ _ _ _ h2 (by simp)).trans h1⟩
/-- More is known of the servers: nothing turned. -/
theorem RPartOk.grow {W : World} {ss ss' : List SrvS} {p : RPart} (h : RPartOk W ss p) (hg : ∀ (o : Nat) (s : SrvS), ss[o]? = some s → ∃ s', ss'[o]? = some s' ∧ s.next ≤ s'.next) : RPartOk W ss' p := by
  obtain ⟨s, h1, h2⟩ := h.lt
  obtain ⟨s', h3, h4⟩ := hg _ s h1
  exact ⟨h.blk, s', h3, by omega⟩
theorem RCliOk.grow {W : World} {ss ss' : List SrvS} {v : RCliI} {s : CliS} (h : RCliOk W ss v s) (hg : ∀ (o : Nat) (s : SrvS), ss[o]? = some s → ∃ s', ss'[o]? = some s' ∧ s.next ≤ s'.next) : RCliOk W ss' v s :=
  ⟨h.blk, h.rd, h.row, h.len, fun i u c hu hc => ⟨⟨(h.ok i u c hu hc).1.blk, (h.ok i u c hu hc).1.row, (h.ok i u c hu hc).1.len, fun p hp => ((h.ok i u c hu hc).1.ok p hp).grow hg, (h.ok i u c hu hc).1.kn⟩, (h.ok i u c hu hc).2⟩⟩
end Go.Proofs.YtlonjggfnleolaaGreatDoor


/-
  The reference's Say: plain mathematics; what a junction of the reference turns.
-/

namespace Go.Proofs.YtlonjggfnleolaaGreatDoor
open Go.RowKit Go.Shelf
set_option linter.unusedVariables false

theorem texts_let (ts : List ByteArray) (used : Nat) : wordB (textsR ts used).c.word = true ∨ (textsR ts used).c.word = noB := by
  unfold textsR
  simp only
  generalize (if kindB (ts.getD 0 noB) = 2 then (if (ts.drop 1).length = 2 then (ts.drop 1).take 1 else []) else ts.drop 1) = keys
  generalize (if kindB (ts.getD 0 noB) = 2 ∧ (ts.drop 1).length = 2 then (ts.drop 1).getD 1 noB else noB) = val
  generalize kindB (ts.getD 0 noB) = k
  cases hc : cmdB k keys val with
  | true => rw [if_pos rfl]; exact .inr rfl
  | false => rw [if_neg (by decide)]; exact .inl (by show wordB dataB = true; decide)
/-- words of what is read -/
theorem read_let {d : Int} {bs : List UInt8} {t : StepR} (h : readR d bs = some t) : wordB t.c.word = true ∨ t.c.word = noB := by
  have w0 : ∀ (b : ByteArray) (f : Bool), wordB b = true → wordB (wrongC b f).word = true ∨ (wrongC b f).word = noB := fun b f hb => .inl hb
  unfold readR at h
  split at h
  · unfold lnR at h
    split at h
    · unfold lineR at h
      split at h
      · unfold setR at h
        split at h
        · cases h; exact w0 _ _ (by decide)
        · split at h
          · cases h
          · split at h
            · cases h; exact w0 _ _ (by decide)
            · cases h; exact .inr rfl
      · split at h
        · cases h; exact w0 _ _ (by decide)
        · cases h; exact .inr rfl
    · split at h
      · cases h; exact w0 _ _ (by decide)
      · cases h
  · split at h
    · unfold frR at h
      split at h
      · cases h
      · split at h
        · cases h; exact w0 _ _ (by decide)
        · split at h
          · cases h
          · split at h
            · cases h; exact w0 _ _ (by decide)
            · cases h; exact .inr rfl
    · unfold lsR at h
      simp only at h
      split at h
      · cases h; exact w0 _ _ (by decide)
      · split at h
        · cases h
        · cases h
          exact texts_let _ _
/-- A command that may wait. -/
structure WOk (d : Int) (c : Cmd) : Prop where
  cm : CmdOk c
  ok : OkC d c
  wd : c.keys = [] → wordB c.word = true
theorem read_wOk {d : Int} {bs : List UInt8} {t : StepR} (h : readR d bs = some t) : WOk d t.c :=
  ⟨read_cmdOk h, read_ok h, fun hk => by
    rcases read_let h with h1 | h1
    · exact h1
    · rcases (read_ok h).or_ with ⟨h2, _⟩ | ⟨_, _, _, h2⟩
      · have := (cmdB_in h2).2.1
        rw [hk] at this
        simp at this
      · rw [h1] at h2
        exact absurd h2 (by decide)⟩
def WaitsOk (s : CliS) : Prop := ∀ c ∈ s.waits, WOk s.d c
/-- The first was told. -/
def told1 (s : CliS) (c : Cmd) (cs : List Cmd) : CliS := ⟨s.d, s.st, cs, s.told ++ (wrongB s.d c).data.toList⟩
theorem tellC_step {s : CliS} {c : Cmd} {cs : List Cmd} (h : s.waits = c :: cs) (hk : c.keys = []) : tellC (told1 s c cs) = tellC s := by
  unfold tellC told1
  rw [h]
  simp [tellL, hk]
theorem tellC_nil {s : CliS} (h : s.waits = []) : tellC s = s := by
  obtain ⟨d, st, ws, told⟩ := s
  simp only at h
  subst h
  rfl
theorem tellC_stop {s : CliS} {c : Cmd} {cs : List Cmd} (h : s.waits = c :: cs) (hk : c.keys ≠ []) : tellC s = s := by
  obtain ⟨d, st, ws, told⟩ := s
  simp only at h
  subst h
  simp [tellC, tellL, hk]
theorem tellC_waits {s : CliS} (h : WaitsOk s) : WaitsOk (tellC s) := by
  have aux : ∀ (l : List Cmd) (told : List UInt8) (c : Cmd), c ∈ (tellL s.d l told).1 → c ∈ l := by
    intro l
    induction l with
    | nil => intro told c hc; exact hc
    | cons a l ih =>
      intro told c hc
      unfold tellL at hc
      split at hc
      · exact List.mem_cons_of_mem _ (ih _ c hc)
      · exact hc
  exact fun c hc => h c (aux _ _ c hc)
theorem gotC_waits {s : CliS} {x : StepR} (h : WaitsOk s) (hx : readR s.d s.st.held = some x) : WaitsOk (gotC s x) := by
  intro c hc
  rcases List.mem_append.1 hc with h1 | h1
  · exact h c h1
  · simp at h1
    rw [h1]
    exact read_wOk hx
theorem serveF_waits (sv pt win : Nat) : ∀ (f : Nat) (s : CliS) (ss : List SrvS), WaitsOk s → WaitsOk (serveF sv pt win f s ss).1 := by
  intro f
  induction f with
  | zero => intro s ss h; exact h
  | succ f ih =>
    intro s ss h
    unfold serveF
    split
    · split
      · exact h
      · rename_i x hx
        exact ih _ _ (tellC_waits (gotC_waits h hx))
    · exact h
theorem saidS_waits {sv pt win : Nat} {s : CliS} {ss : List SrvS} {piece : List UInt8} (h : WaitsOk s) : WaitsOk (saidS sv pt win s ss piece).1 := by
  unfold saidS serveS
  exact serveF_waits _ _ _ _ _ _ (tellC_waits (s := tookC s piece) h)
theorem tell1_bd {win N T : Nat} {s : CliS} {ss : List SrvS} {c : Cmd} {cs : List Cmd} (h : Bd win N T s ss) (hw : WaitsOk s) (he : s.waits = c :: cs) (hk : c.keys = []) : Bd win N T (told1 s c cs) ss := by
  have h1 := wrongB_size (d := s.d) (hw c (by rw [he]; simp)).cm hk
  have ht := h.told
  have hl := h.wl
  rw [he, List.length_cons] at ht hl
  refine ⟨?_, ?_, fun u hu => ?_⟩
  · show (s.told ++ (wrongB s.d c).data.toList).length + 1000 * (cs.length + s.st.held.length) ≤ T
    rw [List.length_append]
    omega
  · show cs.length ≤ win
    omega
  · have := h.srv u hu
    show _ ∧ u.next + 4 * (win - rightN cs) ≤ N
    rw [he] at this
    have e : rightN (c :: cs) = rightN cs := by unfold rightN; rw [List.filter_cons_of_neg (by simp [hk])]
    rw [e] at this
    exact this
theorem told1_waits {s : CliS} {c : Cmd} {cs : List Cmd} (h : WaitsOk s) (he : s.waits = c :: cs) : WaitsOk (told1 s c cs) := fun x hx => h x (by rw [he]; exact List.mem_cons_of_mem _ hx)
theorem cmdB_one {k : Int} {ks : List ByteArray} {val key : ByteArray} (h : cmdB k ks val = true) (hk : key ∈ ks) : cmdB k [key] val = true := by
  have aux : ∀ m : Int, 1 ≤ m → keysB ks m = true → keysB [key] m = true := fun m hm h1 => by
    unfold keysB at h1 ⊢
    rw [Bool.and_eq_true, List.all_eq_true] at h1
    rw [Bool.and_eq_true]
    refine ⟨?_, by simpa using h1.2 key hk⟩
    unfold withinB
    simp
    omega
  unfold cmdB at h ⊢
  split at h
  · rename_i e
    rw [if_pos e]
    rw [Bool.and_eq_true] at h ⊢
    exact ⟨aux 4 (by omega) h.1, h.2⟩
  · rename_i e
    rw [if_neg e]
    split at h
    · rename_i e2
      rw [if_pos e2]
      rw [Bool.and_eq_true] at h ⊢
      exact ⟨aux 1 (by omega) h.1, h.2⟩
    · rename_i e2
      rw [if_neg e2]
      split at h
      · rename_i e3
        rw [if_pos e3]
        rw [Bool.and_eq_true] at h ⊢
        exact ⟨aux 1 (by omega) h.1, h.2⟩
      · cases h

/-! What is turned -/
def RCliI.foot (v : RCliI) : List Nat := v.K :: v.Y :: v.wv.ownBlock.toList
def footR (X : Nat) (cv : Value) (cis : List RCliI) (vs : List Nat) : List Nat := X :: (cv.ownBlock.toList ++ ((cis.map RCliI.foot).flatten ++ vs))
theorem mem_rcis {cis : List RCliI} {b : Nat} : b ∈ (cis.map RCliI.foot).flatten ↔ ∃ (i : Nat) (v : RCliI), cis[i]? = some v ∧ b ∈ v.foot := by
  rw [List.mem_flatten]
  constructor
  · rintro ⟨l, hl, hb⟩
    obtain ⟨v, hv, rfl⟩ := List.mem_map.1 hl
    obtain ⟨j, hj, e⟩ := List.mem_iff_getElem.1 hv
    exact ⟨j, v, by rw [List.getElem?_eq_getElem hj, e], hb⟩
  · rintro ⟨j, v, hv, hb⟩
    exact ⟨v.foot, List.mem_map.2 ⟨v, List.mem_of_getElem? hv, rfl⟩, hb⟩
theorem mem_footR {X : Nat} {cv : Value} {cis : List RCliI} {vs : List Nat} {b : Nat} : b ∈ footR X cv cis vs ↔ b = X ∨ cv.ownBlock = some b ∨ (∃ (i : Nat) (v : RCliI), cis[i]? = some v ∧ b ∈ v.foot) ∨ b ∈ vs := by
  unfold footR
  rw [List.mem_cons, List.mem_append, List.mem_append, mem_rcis]
  constructor
  · rintro (h | h | h | h)
    · exact .inl h
    · exact .inr (.inl (mem_own h))
    · exact .inr (.inr (.inl h))
    · exact .inr (.inr (.inr h))
  · rintro (h | h | h | h)
    · exact .inl h
    · exact .inr (.inl (by rw [h]; simp))
    · exact .inr (.inr (.inl h))
    · exact .inr (.inr (.inr h))
/-- Clients and servers lie apart. -/
structure RApart (cis : List RCliI) (vs : List Nat) : Prop where
  cap : ∀ (i j : Nat) (v u : RCliI), i ≠ j → cis[i]? = some v → cis[j]? = some u → ∀ b ∈ v.foot, b ∉ u.foot
  sap : vs.Nodup
/-- The type of each block of a client. -/
theorem RCliOk.types {W : World} {ss : List SrvS} {v : RCliI} {s : CliS} (h : RCliOk W ss v s) {b : Nat} (hb : b ∈ v.foot) : ∃ Z T, W.heap[b]? = some (.cells Z T (0, 0)) ∧ (T = 247 ∨ T = 195 ∨ T = 263) := by
  unfold RCliI.foot at hb
  rcases List.mem_cons.1 hb with e | hb
  · rw [e]; exact ⟨_, _, h.blk, .inl rfl⟩
  rcases List.mem_cons.1 hb with e | hb
  · rw [e]; exact ⟨_, _, h.rd.at_, .inr (.inl rfl)⟩
  · obtain ⟨cur, hc⟩ := h.row.blk (mem_own hb)
    exact ⟨_, _, hc, .inr (.inr rfl)⟩
theorem RJunAt.get {W : World} {X sv pt win : Nat} {cv rv : Value} {cis : List RCliI} {cs : List CliS} {vs : List Nat} {ss : List SrvS} (h : RJunAt W X sv pt win cv rv cis cs vs ss) {i : Nat} {v : RCliI} (hv : cis[i]? = some v) : ∃ s, cs[i]? = some s ∧ RCliOk W ss v s := by
  have hi : i < cs.length := by rw [← h.cl]; exact (List.getElem?_eq_some_iff.1 hv).1
  exact ⟨_, List.getElem?_eq_getElem hi, h.cli i v _ hv (List.getElem?_eq_getElem hi)⟩
theorem RJunAt.getS {W : World} {X sv pt win : Nat} {cv rv : Value} {cis : List RCliI} {cs : List CliS} {vs : List Nat} {ss : List SrvS} (h : RJunAt W X sv pt win cv rv cis cs vs ss) {b : Nat} (hb : b ∈ vs) : ∃ (s : SrvS) (inn : ByteArray), W.heap[b]? = some (rsO true s.next inn s.sent) := by
  obtain ⟨j, hj, e⟩ := List.mem_iff_getElem.1 hb
  have hj2 : j < ss.length := by rw [h.sl, ← h.len]; exact hj
  obtain ⟨inn, h1⟩ := h.srv j b _ (by rw [List.getElem?_eq_getElem hj, e]) (List.getElem?_eq_getElem hj2)
  exact ⟨_, inn, h1⟩
/-- The type of each block that a junction of the reference turns. -/
theorem RJunAt.types {W : World} {X sv pt win : Nat} {cv rv : Value} {cis : List RCliI} {cs : List CliS} {vs : List Nat} {ss : List SrvS} (h : RJunAt W X sv pt win cv rv cis cs vs ss) {b : Nat} (hb : b ∈ footR X cv cis vs) : ∃ Z T, W.heap[b]? = some (.cells Z T (0, 0)) ∧ (T = 240 ∨ T = 244 ∨ T = 247 ∨ T = 195 ∨ T = 263 ∨ T = 243) := by
  rcases mem_footR.1 hb with e | e | ⟨i, v, hv, e⟩ | e
  · rw [e]; exact ⟨_, _, h.blk, .inl rfl⟩
  · obtain ⟨cur, hc⟩ := ownsRow_blk h.crow e
    exact ⟨_, _, hc, .inr (.inl rfl)⟩
  · obtain ⟨s, hs, hok⟩ := h.get hv
    obtain ⟨Z, T, h1, h2⟩ := hok.types e
    rcases h2 with h2 | h2 | h2
    · exact ⟨Z, T, h1, .inr (.inr (.inl h2))⟩
    · exact ⟨Z, T, h1, .inr (.inr (.inr (.inl h2)))⟩
    · exact ⟨Z, T, h1, .inr (.inr (.inr (.inr (.inl h2))))⟩
  · obtain ⟨s, inn, h1⟩ := h.getS e
    exact ⟨_, _, h1, .inr (.inr (.inr (.inr (.inr rfl))))⟩
theorem RJunAt.old {W : World} {X sv pt win : Nat} {cv rv : Value} {cis : List RCliI} {cs : List CliS} {vs : List Nat} {ss : List SrvS} (h : RJunAt W X sv pt win cv rv cis cs vs ss) {b : Nat} (hb : b ∈ footR X cv cis vs) : b < W.heap.size := by
  obtain ⟨Z, T, h1, _⟩ := h.types hb
  exact blkLt h1
theorem RCliOk.keep {W W' : World} {ss : List SrvS} {v : RCliI} {s : CliS} (h : RCliOk W ss v s) (k : ∀ b ∈ v.foot, W'.heap[b]? = W.heap[b]?) (k2 : KeepT [266, 249, 253] W W') : RCliOk W' ss v s :=
  ⟨(k _ (by simp [RCliI.foot])).trans h.blk, ⟨(k _ (by simp [RCliI.foot])).trans h.rd.at_, h.rd.ok⟩, h.row.other (fun g hg => k g (by simp [RCliI.foot, hg])), h.len, fun i u c hu hc => ⟨(h.ok i u c hu hc).1.keepT k2, (h.ok i u c hu hc).2⟩⟩
/-- A junction of the reference is kept where its blocks are. -/
theorem RJunAt.keep {W W' : World} {X sv pt win : Nat} {cv rv : Value} {cis : List RCliI} {cs : List CliS} {vs : List Nat} {ss : List SrvS} (h : RJunAt W X sv pt win cv rv cis cs vs ss) (k : ∀ b ∈ footR X cv cis vs, W'.heap[b]? = W.heap[b]?) (k2 : KeepT [241, 266, 249, 253] W W') : RJunAt W' X sv pt win cv rv cis cs vs ss := by
  refine ⟨(k _ (mem_footR.2 (.inl rfl))).trans h.blk, ownsRow_other h.crow (fun g hg => k g (mem_footR.2 (.inr (.inl hg)))), k2.row (by simp) h.srow, h.len, h.sl, h.s1, h.s4, h.pt_, h.cl, fun i v s hv hs => (h.cli i v s hv hs).keep (fun b hb => k b (mem_footR.2 (.inr (.inr (.inl ⟨i, v, hv, hb⟩))))) (k2.sub (by simp)), fun j S s hS hs => ?_⟩
  obtain ⟨inn, h1⟩ := h.srv j S s hS hs
  exact ⟨inn, (k S (mem_footR.2 (.inr (.inr (.inr (List.mem_of_getElem? hS)))))).trans h1⟩
theorem RJunAt.below {W W' : World} {X sv pt win : Nat} {cv rv : Value} {cis : List RCliI} {cs : List CliS} {vs : List Nat} {ss : List SrvS} (h : RJunAt W X sv pt win cv rv cis cs vs ss) (hb : Below W.heap.size W W') : RJunAt W' X sv pt win cv rv cis cs vs ss := h.keepT (KeepT.below hb)
/-- One client was turned. -/
theorem RJunAt.cliTo {W W' : World} {X sv pt win : Nat} {cv rv : Value} {cis : List RCliI} {cs : List CliS} {vs : List Nat} {ss : List SrvS} (h : RJunAt W X sv pt win cv rv cis cs vs ss) (ha : RApart cis vs) {i : Nat} {v v' : RCliI} {s' : CliS} (hv : cis[i]? = some v) (k : Chg v.foot W W') (hn : RCliOk W' ss v' s') (hK : v'.K = v.K) (hl : Later W v.foot v'.foot) :
    RJunAt W' X sv pt win cv rv (cis.set i v') (cs.set i s') vs ss ∧ RApart (cis.set i v') vs ∧ Later W (footR X cv cis vs) (footR X cv (cis.set i v') vs) := by
  have hil := (List.getElem?_eq_some_iff.1 hv).1
  have hil2 : i < cs.length := by rw [← h.cl]; exact hil
  obtain ⟨s0, hs0, hok0⟩ := h.get hv
  have hmap : (cis.set i v').map (fun v => ptrV v.K) = cis.map (fun v => ptrV v.K) := by
    apply List.ext_getElem?
    intro j
    rw [List.getElem?_map, List.getElem?_map, List.getElem?_set]
    split
    · rename_i e
      subst e
      rw [hv]
      simp [hK]
    · rfl
  have kT : ∀ Ts : List Nat, 247 ∉ Ts → 195 ∉ Ts → 263 ∉ Ts → KeepT Ts W W' := fun Ts h1 h2 h3 => KeepT.chg k (fun b T Z f hm hZ hT => by
    obtain ⟨Z', T', h4, h5⟩ := hok0.types hm
    rw [h4] at hZ
    simp at hZ
    obtain ⟨_, rfl, _⟩ := hZ
    rcases h5 with rfl | rfl | rfl
    · exact h1 hT
    · exact h2 hT
    · exact h3 hT)
  have old : ∀ (j : Nat) (u : RCliI), cis[j]? = some u → ∀ b ∈ u.foot, b < W.heap.size := fun j u hu b hb => h.old (mem_footR.2 (.inr (.inr (.inl ⟨j, u, hu, hb⟩))))
  refine ⟨⟨?_, ?_, (kT [241] (by simp) (by simp) (by simp)).row (by simp) h.srow, h.len, h.sl, h.s1, h.s4, h.pt_, by simp [h.cl], fun j u s hu hs => ?_, fun j S s hS hs => ?_⟩, ⟨fun a j u1 u2 hij h1 h2 b hb1 hb2 => ?_, ha.sap⟩, fun b hb => ?_⟩
  · have hb := h.blk
    unfold rjO at hb
    exact ((kT [240] (by simp) (by simp) (by simp)) _ _ _ _ hb (by simp)).trans hb
  · rw [hmap, List.length_set]
    exact (kT [244] (by simp) (by simp) (by simp)).row (by simp) h.crow
  · by_cases hji : i = j
    · subst hji
      rw [List.getElem?_set_self hil] at hu
      rw [List.getElem?_set_self hil2] at hs
      cases hu; cases hs
      exact hn
    · rw [List.getElem?_set_ne hji] at hu hs
      exact (h.cli j u s hu hs).keep (fun b hb => k.block b (old j u hu b hb) (ha.cap j i u v (fun e => hji e.symm) hu hv b hb)) (kT _ (by simp) (by simp) (by simp))
  · obtain ⟨inn, h1⟩ := h.srv j S s hS hs
    have h2 := h1
    unfold rsO at h2
    exact ⟨inn, ((kT [243] (by simp) (by simp) (by simp)) _ _ _ _ h2 (by simp)).trans h1⟩
  · rw [List.getElem?_set] at h1 h2
    split at h1
    · rename_i e1
      subst e1
      split at h2
      · rename_i e2; exact hij e2
      · simp at h1
        obtain ⟨_, rfl⟩ := h1
        rcases hl b hb1 with h3 | h3
        · exact ha.cap i j v u2 hij hv h2 b h3 hb2
        · have := old j u2 h2 b hb2; omega
    · split at h2
      · rename_i e2
        subst e2
        simp at h2
        obtain ⟨_, rfl⟩ := h2
        rcases hl b hb2 with h3 | h3
        · exact ha.cap a i u1 v hij h1 hv b hb1 h3
        · have := old a u1 h1 b hb1; omega
      · exact ha.cap a j u1 u2 hij h1 h2 b hb1 hb2
  · rcases mem_footR.1 hb with e | e | ⟨j, u, hu, e⟩ | e
    · exact .inl (mem_footR.2 (.inl e))
    · exact .inl (mem_footR.2 (.inr (.inl e)))
    · rw [List.getElem?_set] at hu
      split at hu
      · simp at hu
        obtain ⟨_, rfl⟩ := hu
        rcases hl b e with h3 | h3
        · exact .inl (mem_footR.2 (.inr (.inr (.inl ⟨i, v, hv, h3⟩))))
        · exact .inr h3
      · exact .inl (mem_footR.2 (.inr (.inr (.inl ⟨j, u, hu, e⟩))))
    · exact .inl (mem_footR.2 (.inr (.inr (.inr e))))
/-- One server was turned. -/
theorem RJunAt.srvTo {W W' : World} {X sv pt win : Nat} {cv rv : Value} {cis : List RCliI} {cs : List CliS} {vs : List Nat} {ss : List SrvS} (h : RJunAt W X sv pt win cv rv cis cs vs ss) (ha : RApart cis vs) {o S : Nat} {s s' : SrvS} {inn : ByteArray} (hS : vs[o]? = some S) (hs : ss[o]? = some s) (k : Chg [S] W W') (hn : W'.heap[S]? = some (rsO true s'.next inn s'.sent)) (hg : s.next ≤ s'.next) :
    RJunAt W' X sv pt win cv rv cis cs vs (ss.set o s') := by
  obtain ⟨inn0, hS0⟩ := h.srv o S s hS hs
  have hol := (List.getElem?_eq_some_iff.1 hs).1
  have kT : ∀ Ts : List Nat, 243 ∉ Ts → KeepT Ts W W' := fun Ts h1 => KeepT.chg k (fun b T Z f hm hZ hT => by
    simp at hm
    unfold rsO at hS0
    rw [hm, hS0] at hZ
    simp at hZ
    obtain ⟨_, rfl, _⟩ := hZ
    exact h1 hT)
  have hgr : ∀ (j : Nat) (u : SrvS), ss[j]? = some u → ∃ u', (ss.set o s')[j]? = some u' ∧ u.next ≤ u'.next := fun j u hu => by
    by_cases hj : o = j
    · subst hj
      rw [hs] at hu
      cases hu
      exact ⟨s', by rw [List.getElem?_set_self hol], hg⟩
    · exact ⟨u, by rw [List.getElem?_set_ne hj]; exact hu, Nat.le_refl _⟩
  have hb := h.blk
  unfold rjO at hb
  refine ⟨((kT [240] (by simp)) _ _ _ _ hb (by simp)).trans hb, (kT [244] (by simp)).row (by simp) h.crow, (kT [241] (by simp)).row (by simp) h.srow, h.len, by rw [List.length_set]; exact h.sl, h.s1, h.s4, h.pt_, h.cl, fun i v s hv hs => ((h.cli i v s hv hs).keepT (kT _ (by simp))).grow hgr, fun j S1 s1 hS1 hs1 => ?_⟩
  by_cases hj : o = j
  · subst hj
    rw [hS] at hS1
    cases hS1
    rw [List.getElem?_set_self hol] at hs1
    cases hs1
    exact ⟨inn, hn⟩
  · rw [List.getElem?_set_ne hj] at hs1
    obtain ⟨inn1, h1⟩ := h.srv j S1 s1 hS1 hs1
    refine ⟨inn1, (k.block S1 (blkLt h1) (fun e => ?_)).trans h1⟩
    simp at e
    subst e
    exact hj ((List.getElem?_inj (List.getElem?_eq_some_iff.1 hS).1 ha.sap).1 (hS.trans hS1.symm))
end Go.Proofs.YtlonjggfnleolaaGreatDoor
