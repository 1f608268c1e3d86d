/-
  The reference: Ask, for every dialect and command.
-/
import Derived.Test.YtlonjggfnleolaaGreatDoorRefAsk0
namespace Go.Proofs.YtlonjggfnleolaaGreatDoor
open Go.RowKit
set_option linter.unusedVariables false
set_option linter.unusedSimpArgs false

theorem box_cell {w w2 : World} {v : Array Value} {t : Nat} (h : Below (w.alloc (.cells v t)).heap.size (w.alloc (.cells v t)) w2) (i : Nat) : w2.cell? ⟨w.heap.size, i, none⟩ = v[i]? :=
  (h.cell (p := ⟨w.heap.size, i, none⟩) (by simp)).trans (blkCell (blkNew w _) i)
theorem old_cell {w w2 : World} {x : Obj} (h : Below (w.alloc x).heap.size (w.alloc x) w2) {b : Nat} (o : Nat) (hb : b < w.heap.size) : w2.cell? ⟨b, o, none⟩ = w.cell? ⟨b, o, none⟩ :=
  (h.cell (p := ⟨b, o, none⟩) (by simp; omega)).trans (((Below.refl w.heap.size w).alloc (Nat.le_refl _) x).cell (p := ⟨b, o, none⟩) hb)

/-- The keys behind a word, a space ahead of each. -/
def spB (N : ByteArray) (ss : List ByteArray) : ByteArray := ss.foldl (fun s x => s ++ ⟨#[32]⟩ ++ x) N
theorem spB_size (N : ByteArray) (ss : List ByteArray) (h : ∀ s ∈ ss, s.size ≤ 8) : (spB N ss).size ≤ N.size + 9 * ss.length := by
  induction ss generalizing N with
  | nil => simp [spB]
  | cons a t ih =>
    have h1 := ih (N ++ ⟨#[32]⟩ ++ a) (fun s hs => h s (List.mem_cons_of_mem _ hs))
    have h2 := h a (List.mem_cons_self ..)
    have e : (ByteArray.mk #[32]).size = 1 := rfl
    rw [ByteArray.size_append, ByteArray.size_append] at h1
    show (spB (N ++ ⟨#[32]⟩ ++ a) t).size ≤ _
    rw [List.length_cons]
    omega
theorem spB_step (N : ByteArray) {ss : List ByteArray} {j : Nat} {x : ByteArray} (h : ss[j]? = some x) : spB N (ss.take (j + 1)) = spB N (ss.take j) ++ ⟨#[32]⟩ ++ x := by
  rw [List.take_add_one, h]; simp [spB, List.foldl_append]
theorem ret_said {s t : ByteArray} (h : s = t) : Ending.returned (.tuple #[.string s, .int .i64 0]) = .returned (.tuple #[.string t, .int .i64 0]) := by rw [h]
theorem ba_ext {a b : ByteArray} (h : a.data.toList = b.data.toList) : a = b := by
  cases a; cases b; simp at h; simp [h]
theorem spB_join (N : ByteArray) {ss : List ByteArray} (h1 : 1 ≤ ss.length) (h4 : ss.length ≤ 4) : spB N ss = N ++ ⟨#[32]⟩ ++ joinB ss := by
  apply ba_ext
  match ss, h1, h4 with
  | [a], _, _ => simp [spB, joinB, Lib.join]
  | [a, b], _, _ => simp [spB, joinB, Lib.join]
  | [a, b, c], _, _ => simp [spB, joinB, Lib.join]
  | [a, b, c, d], _, _ => simp [spB, joinB, Lib.join]

/-- Texts, one behind the other, behind a first one. -/
def txB (N : ByteArray) (ss : List ByteArray) : ByteArray := ss.foldl (fun s x => s ++ textB x) (textB N)
theorem textB_size {s : ByteArray} (h : s.size ≤ 40) : (textB s).size ≤ 45 := by
  have := sizedB_size h
  have e : (ByteArray.mk #[36]).size = 1 := rfl
  unfold textB
  rw [ByteArray.size_append]
  omega
theorem foldT_size (a : ByteArray) (ss : List ByteArray) (h : ∀ s ∈ ss, s.size ≤ 40) : (ss.foldl (fun s x => s ++ textB x) a).size ≤ a.size + 45 * ss.length := by
  induction ss generalizing a with
  | nil => simp
  | cons x t ih =>
    have h1 := ih (a ++ textB x) (fun s hs => h s (List.mem_cons_of_mem _ hs))
    have h2 := textB_size (h x (List.mem_cons_self ..))
    rw [ByteArray.size_append] at h1
    rw [List.foldl_cons, List.length_cons]
    omega
theorem txB_size (N : ByteArray) (ss : List ByteArray) (hN : N.size ≤ 40) (h : ∀ s ∈ ss, s.size ≤ 40) : (txB N ss).size ≤ 45 + 45 * ss.length := by
  have h1 := foldT_size (textB N) ss h
  have h2 := textB_size hN
  unfold txB
  omega
theorem txB_step (N : ByteArray) {ss : List ByteArray} {j : Nat} {x : ByteArray} (h : ss[j]? = some x) : txB N (ss.take (j + 1)) = txB N (ss.take j) ++ textB x := by
  rw [List.take_add_one, h]; simp [txB, List.foldl_append]
theorem foldT_list (a : ByteArray) (ss : List ByteArray) : (ss.foldl (fun s x => s ++ textB x) a).data.toList = a.data.toList ++ ss.flatMap textL := by
  induction ss generalizing a with
  | nil => simp
  | cons x t ih => rw [List.foldl_cons, ih]; simp [textL, textB]
theorem txB_list (N : ByteArray) (ss : List ByteArray) : (txB N ss).data.toList = (textB N).data.toList ++ ss.flatMap textL := foldT_list _ _

set_option maxRecDepth 20000 in
set_option maxHeartbeats 2000000 in
theorem refask1_1 (b o c : Nat) (ss : List ByteArray) (val wd : ByteArray) (ft : Bool) (cid id : Int) (w : World) (hs : StrsIn w (some ⟨b, o, none⟩) ss.length c ss) (hv : val.size ≤ maxLen) (hcb : cmdB 1 ss val = true) (hb : b < w.heap.size) (hcap : ss.length ≤ c)
    (hc : ∀ (i : Nat) (s : ByteArray), ss[i]? = some s → w.cell? ⟨b, o + i, none⟩ = some (.string s)) :
    Calls Tryz.prog 101 #[.int .i64 1, cmdV6 1 (.slice (some ⟨b, o, none⟩) ss.length c) val wd ft cid, .int .i64 id] w fun e w' => e = .returned (.tuple #[.string (askS 1 1 ss val id), .int .i64 0]) ∧ Below w.heap.size w w' := by
  have R := right_of hcb
  have hBa : ∀ x, Below w.heap.size w (w.alloc x) := fun x => (Below.refl _ _).alloc (Nat.le_refl _) _
  have HBa := hide' hBa
  clear hBa
  have HC : Hid (∀ x, Calls Tryz.prog 139 #[cmdV6 1 (.slice (some ⟨b, o, none⟩) ss.length c) val wd ft cid] (w.alloc x) fun e w' => e = .returned (.bool true) ∧ Below (w.alloc x).heap.size (w.alloc x) w') := fun x => by have := refcmd_any 1 (.slice (some ⟨b, o, none⟩) ss.length c) ss val wd ft cid _ (hs.later (HBa.out x)).strs hv; rwa [hcb] at this
  have HS : Hid (∀ W, Calls Tryz.prog 140 #[.int .i64 1, cmdV6 1 (.slice (some ⟨b, o, none⟩) ss.length c) val wd ft cid, .int .i64 id] W fun e w' => e = .returned (.bool true) ∧ Below W.heap.size W w') := fun W => by have := sayable_any 1 1 (some ⟨b, o, none⟩) ss.length c val wd ft cid id W; rwa [show sayB 1 1 ss.length id = true from rfl] at this
  have hv40 := R.val40
  have hl1 := R.len1
  have hl4 := R.len4
  have HK := hide' R.keys
  have HCE := hide' hc
  clear hs hv hcb hc
  have hz : b ≠ w.heap.size := by omega
  have HE : Hid (spB ⟨#[103, 101, 116]⟩ ss ++ ⟨#[10]⟩ = askS 1 1 ss val id) := by
    show _ = linesAskB 1 ss val
    unfold linesAskB
    rw [spB_join _ R.len1 R.len4, if_neg (by decide)]
    rfl
  have HZ : Hid (∀ j, (spB ⟨#[103, 101, 116]⟩ (ss.take j)).size ≤ 39) := fun j => by
    have h1 := spB_size ⟨#[103, 101, 116]⟩ (ss.take j) (fun x hx => HK.out x (List.mem_of_mem_take hx))
    have h2 : (ss.take j).length ≤ ss.length := List.length_take_le' _ _
    have e : (ByteArray.mk #[103, 101, 116]).size = 3 := rfl
    omega
  clear R
  generalize hL : ss.length = L at *
  have HL := hide' hL
  clear hL
  unfold cmdV6 at *
  go_enter Tryz.func101, Tryz.ntmps101
  go_wp2_with fail
  go_at_call 139
  refine (HC.out _).mono ?_
  rintro e w1 ⟨rfl, hb1⟩
  obtain ⟨hc1, hf1⟩ := bcell hb1
  have hz1 : w.heap.size < w1.heap.size := by have := hb1.size; simp at this; omega
  have H1 := hide' hb1
  clear hb1
  go_wp2_with fail
  go_at_call 140
  refine (HS.out _).mono ?_
  rintro e w2 ⟨rfl, hb2⟩
  have HW := H1.out.trans (hb2.mono H1.out.size)
  have HD : Hid (∀ (i : Nat) (s : ByteArray), ss[i]? = some s → w2.cell? ⟨b, o + i, none⟩ = some (.string s)) := fun i s h => (old_cell HW (o + i) hb).trans (HCE.out i s h)
  have k0 := box_cell HW 0
  have k1 := box_cell HW 1
  have k2 := box_cell HW 2
  rw [show ((#[.int .i64 1, .slice (some ⟨b, o, none⟩) L c, .string val, .string wd, .bool ft, .int .i64 cid] : Array Value)[0]?) = some (.int .i64 1) from rfl] at k0
  rw [show ((#[.int .i64 1, .slice (some ⟨b, o, none⟩) L c, .string val, .string wd, .bool ft, .int .i64 cid] : Array Value)[1]?) = some (.slice (some ⟨b, o, none⟩) L c) from rfl] at k1
  rw [show ((#[.int .i64 1, .slice (some ⟨b, o, none⟩) L c, .string val, .string wd, .bool ft, .int .i64 cid] : Array Value)[2]?) = some (.string val) from rfl] at k2
  have hz2 : w.heap.size < w2.heap.size := by have := hb2.size; omega
  have H2 := hide' ((HBa.out _).trans (HW.mono (by simp)))
  clear hb2 HW hc1 hf1 H1 HC HS HBa HCE
  have hb2 : b < w2.heap.size := by omega
  go_wp2
  go_loop [11, 12] (fun s i => ∃ j : Nat, j ≤ L ∧ i = .int .i64 j ∧ s = .string (spB ⟨#[103, 101, 116]⟩ (ss.take j))) (fun _ i => L - (intOf i).toNat)
  case atStart => exact ⟨0, Nat.zero_le _, rfl, rfl⟩
  case round =>
    obtain ⟨j, hj, rfl, rfl⟩ := hrel
    have hzj := HZ.out j
    by_cases hlt : j < L
    · obtain ⟨x, hx⟩ : ∃ x, ss[j]? = some x := ⟨ss[j]'(by rw [HL.out]; exact hlt), List.getElem?_eq_getElem _⟩
      have hcell := HD.out j x hx
      have hm := HK.out x (List.mem_of_getElem? hx)
      have HX := hide' (spB_step ⟨#[103, 101, 116]⟩ hx)
      clear hx
      go_wp2
      go_round
      case rel => exact ⟨j + 1, by omega, by go_num, by rw [HX.out]⟩
      case measure => simp [intOf]; omega
    · have hj2 : j = L := by omega
      subst hj2
      have eT := congrArg List.length (show ss.take j = ss.take j from rfl)
      have HT := hide' (show ss.take j = ss by rw [← HL.out]; exact List.take_length)
      go_wp2
      go_ret2
      exact ⟨ret_said (by rw [HT.out, HE.out]), H2.out.alloc (by omega) _⟩

set_option maxRecDepth 20000 in
set_option maxHeartbeats 2000000 in
theorem refask1_2 (b o c : Nat) (ss : List ByteArray) (val wd : ByteArray) (ft : Bool) (cid id : Int) (w : World) (hs : StrsIn w (some ⟨b, o, none⟩) ss.length c ss) (hv : val.size ≤ maxLen) (hcb : cmdB 2 ss val = true) (hb : b < w.heap.size) (hcap : ss.length ≤ c)
    (hc : ∀ (i : Nat) (s : ByteArray), ss[i]? = some s → w.cell? ⟨b, o + i, none⟩ = some (.string s)) :
    Calls Tryz.prog 101 #[.int .i64 1, cmdV6 2 (.slice (some ⟨b, o, none⟩) ss.length c) val wd ft cid, .int .i64 id] w fun e w' => e = .returned (.tuple #[.string (askS 1 2 ss val id), .int .i64 0]) ∧ Below w.heap.size w w' := by
  have R := right_of hcb
  have hBa : ∀ x, Below w.heap.size w (w.alloc x) := fun x => (Below.refl _ _).alloc (Nat.le_refl _) _
  have HBa := hide' hBa
  clear hBa
  have HC : Hid (∀ x, Calls Tryz.prog 139 #[cmdV6 2 (.slice (some ⟨b, o, none⟩) ss.length c) val wd ft cid] (w.alloc x) fun e w' => e = .returned (.bool true) ∧ Below (w.alloc x).heap.size (w.alloc x) w') := fun x => by have := refcmd_any 2 (.slice (some ⟨b, o, none⟩) ss.length c) ss val wd ft cid _ (hs.later (HBa.out x)).strs hv; rwa [hcb] at this
  have HS : Hid (∀ W, Calls Tryz.prog 140 #[.int .i64 1, cmdV6 2 (.slice (some ⟨b, o, none⟩) ss.length c) val wd ft cid, .int .i64 id] W fun e w' => e = .returned (.bool true) ∧ Below W.heap.size W w') := fun W => by have := sayable_any 1 2 (some ⟨b, o, none⟩) ss.length c val wd ft cid id W; rwa [show sayB 1 2 ss.length id = true from rfl] at this
  have hv40 := R.val40
  have hl1 := R.len1
  have hl4 := R.len4
  have HK := hide' R.keys
  have HCE := hide' hc
  clear hs hv hcb hc
  have hz : b ≠ w.heap.size := by omega
  have HE : Hid (spB ⟨#[115, 101, 116]⟩ ss ++ ⟨#[32]⟩ ++ dec100 val.size ++ ⟨#[10]⟩ ++ val ++ ⟨#[10]⟩ = askS 1 2 ss val id) := by
    show _ = linesAskB 2 ss val
    unfold linesAskB
    rw [spB_join _ R.len1 R.len4, if_pos rfl]
    show _ = ⟨#[115, 101, 116]⟩ ++ _ ++ _ ++ _ ++ sizedB val
    simp only [sizedB, ByteArray.append_assoc]
  have HZ : Hid (∀ j, (spB ⟨#[115, 101, 116]⟩ (ss.take j)).size ≤ 39) := fun j => by
    have h1 := spB_size ⟨#[115, 101, 116]⟩ (ss.take j) (fun x hx => HK.out x (List.mem_of_mem_take hx))
    have h2 : (ss.take j).length ≤ ss.length := List.length_take_le' _ _
    have e : (ByteArray.mk #[115, 101, 116]).size = 3 := rfl
    omega
  clear R
  generalize hL : ss.length = L at *
  have HL := hide' hL
  clear hL
  unfold cmdV6 at *
  go_enter Tryz.func101, Tryz.ntmps101
  go_wp2_with fail
  go_at_call 139
  refine (HC.out _).mono ?_
  rintro e w1 ⟨rfl, hb1⟩
  obtain ⟨hc1, hf1⟩ := bcell hb1
  have hz1 : w.heap.size < w1.heap.size := by have := hb1.size; simp at this; omega
  have H1 := hide' hb1
  clear hb1
  go_wp2_with fail
  go_at_call 140
  refine (HS.out _).mono ?_
  rintro e w2 ⟨rfl, hb2⟩
  have HW := H1.out.trans (hb2.mono H1.out.size)
  have HD : Hid (∀ (i : Nat) (s : ByteArray), ss[i]? = some s → w2.cell? ⟨b, o + i, none⟩ = some (.string s)) := fun i s h => (old_cell HW (o + i) hb).trans (HCE.out i s h)
  have k0 := box_cell HW 0
  have k1 := box_cell HW 1
  have k2 := box_cell HW 2
  rw [show ((#[.int .i64 2, .slice (some ⟨b, o, none⟩) L c, .string val, .string wd, .bool ft, .int .i64 cid] : Array Value)[0]?) = some (.int .i64 2) from rfl] at k0
  rw [show ((#[.int .i64 2, .slice (some ⟨b, o, none⟩) L c, .string val, .string wd, .bool ft, .int .i64 cid] : Array Value)[1]?) = some (.slice (some ⟨b, o, none⟩) L c) from rfl] at k1
  rw [show ((#[.int .i64 2, .slice (some ⟨b, o, none⟩) L c, .string val, .string wd, .bool ft, .int .i64 cid] : Array Value)[2]?) = some (.string val) from rfl] at k2
  have hz2 : w.heap.size < w2.heap.size := by have := hb2.size; omega
  have H2 := hide' ((HBa.out _).trans (HW.mono (by simp)))
  clear hb2 HW hc1 hf1 H1 HC HS HBa HCE
  have hb2 : b < w2.heap.size := by omega
  go_wp2
  go_loop [11, 12] (fun s i => ∃ j : Nat, j ≤ L ∧ i = .int .i64 j ∧ s = .string (spB ⟨#[115, 101, 116]⟩ (ss.take j))) (fun _ i => L - (intOf i).toNat)
  case atStart => exact ⟨0, Nat.zero_le _, rfl, rfl⟩
  case round =>
    obtain ⟨j, hj, rfl, rfl⟩ := hrel
    have hzj := HZ.out j
    by_cases hlt : j < L
    · obtain ⟨x, hx⟩ : ∃ x, ss[j]? = some x := ⟨ss[j]'(by rw [HL.out]; exact hlt), List.getElem?_eq_getElem _⟩
      have hcell := HD.out j x hx
      have hm := HK.out x (List.mem_of_getElem? hx)
      have HX := hide' (spB_step ⟨#[115, 101, 116]⟩ hx)
      clear hx
      go_wp2
      go_round
      case rel => exact ⟨j + 1, by omega, by go_num, by rw [HX.out]⟩
      case measure => simp [intOf]; omega
    · have hj2 : j = L := by omega
      subst hj2
      have eT := congrArg List.length (show ss.take j = ss.take j from rfl)
      have HT := hide' (show ss.take j = ss by rw [← HL.out]; exact List.take_length)
      have dz := dec100_size val.size
      have HQ : Hid (∀ W : World, Calls Tryz.prog 142 #[.int .i64 val.size] W fun e w' => e = .returned (.string (dec100 val.size)) ∧ ∃ q, w' = W.drewN q) := fun W => decimal_any val.size W (by omega)
      go_wp2
      go_quiet ((go_at_call 142; exact Calls.quiet_of (HQ.out _)))
      go_wp2
      go_ret2
      exact ⟨ret_said (by rw [HT.out, HE.out]), below_drewN (H2.out.alloc (by omega) _) _⟩

set_option maxRecDepth 20000 in
set_option maxHeartbeats 2000000 in
theorem refask1_3 (b o c : Nat) (ss : List ByteArray) (val wd : ByteArray) (ft : Bool) (cid id : Int) (w : World) (hs : StrsIn w (some ⟨b, o, none⟩) ss.length c ss) (hv : val.size ≤ maxLen) (hcb : cmdB 3 ss val = true) (hb : b < w.heap.size) (hcap : ss.length ≤ c)
    (hc : ∀ (i : Nat) (s : ByteArray), ss[i]? = some s → w.cell? ⟨b, o + i, none⟩ = some (.string s)) :
    Calls Tryz.prog 101 #[.int .i64 1, cmdV6 3 (.slice (some ⟨b, o, none⟩) ss.length c) val wd ft cid, .int .i64 id] w fun e w' => e = .returned (.tuple #[.string (askS 1 3 ss val id), .int .i64 0]) ∧ Below w.heap.size w w' := by
  have R := right_of hcb
  have hBa : ∀ x, Below w.heap.size w (w.alloc x) := fun x => (Below.refl _ _).alloc (Nat.le_refl _) _
  have HBa := hide' hBa
  clear hBa
  have HC : Hid (∀ x, Calls Tryz.prog 139 #[cmdV6 3 (.slice (some ⟨b, o, none⟩) ss.length c) val wd ft cid] (w.alloc x) fun e w' => e = .returned (.bool true) ∧ Below (w.alloc x).heap.size (w.alloc x) w') := fun x => by have := refcmd_any 3 (.slice (some ⟨b, o, none⟩) ss.length c) ss val wd ft cid _ (hs.later (HBa.out x)).strs hv; rwa [hcb] at this
  have HS : Hid (∀ W, Calls Tryz.prog 140 #[.int .i64 1, cmdV6 3 (.slice (some ⟨b, o, none⟩) ss.length c) val wd ft cid, .int .i64 id] W fun e w' => e = .returned (.bool true) ∧ Below W.heap.size W w') := fun W => by have := sayable_any 1 3 (some ⟨b, o, none⟩) ss.length c val wd ft cid id W; rwa [show sayB 1 3 ss.length id = true from rfl] at this
  have hv40 := R.val40
  have hl1 := R.len1
  have hl4 := R.len4
  have HK := hide' R.keys
  have HCE := hide' hc
  clear hs hv hcb hc
  have hz : b ≠ w.heap.size := by omega
  have HE : Hid (spB ⟨#[100, 101, 108]⟩ ss ++ ⟨#[10]⟩ = askS 1 3 ss val id) := by
    show _ = linesAskB 3 ss val
    unfold linesAskB
    rw [spB_join _ R.len1 R.len4, if_neg (by decide)]
    rfl
  have HZ : Hid (∀ j, (spB ⟨#[100, 101, 108]⟩ (ss.take j)).size ≤ 39) := fun j => by
    have h1 := spB_size ⟨#[100, 101, 108]⟩ (ss.take j) (fun x hx => HK.out x (List.mem_of_mem_take hx))
    have h2 : (ss.take j).length ≤ ss.length := List.length_take_le' _ _
    have e : (ByteArray.mk #[100, 101, 108]).size = 3 := rfl
    omega
  clear R
  generalize hL : ss.length = L at *
  have HL := hide' hL
  clear hL
  unfold cmdV6 at *
  go_enter Tryz.func101, Tryz.ntmps101
  go_wp2_with fail
  go_at_call 139
  refine (HC.out _).mono ?_
  rintro e w1 ⟨rfl, hb1⟩
  obtain ⟨hc1, hf1⟩ := bcell hb1
  have hz1 : w.heap.size < w1.heap.size := by have := hb1.size; simp at this; omega
  have H1 := hide' hb1
  clear hb1
  go_wp2_with fail
  go_at_call 140
  refine (HS.out _).mono ?_
  rintro e w2 ⟨rfl, hb2⟩
  have HW := H1.out.trans (hb2.mono H1.out.size)
  have HD : Hid (∀ (i : Nat) (s : ByteArray), ss[i]? = some s → w2.cell? ⟨b, o + i, none⟩ = some (.string s)) := fun i s h => (old_cell HW (o + i) hb).trans (HCE.out i s h)
  have k0 := box_cell HW 0
  have k1 := box_cell HW 1
  have k2 := box_cell HW 2
  rw [show ((#[.int .i64 3, .slice (some ⟨b, o, none⟩) L c, .string val, .string wd, .bool ft, .int .i64 cid] : Array Value)[0]?) = some (.int .i64 3) from rfl] at k0
  rw [show ((#[.int .i64 3, .slice (some ⟨b, o, none⟩) L c, .string val, .string wd, .bool ft, .int .i64 cid] : Array Value)[1]?) = some (.slice (some ⟨b, o, none⟩) L c) from rfl] at k1
  rw [show ((#[.int .i64 3, .slice (some ⟨b, o, none⟩) L c, .string val, .string wd, .bool ft, .int .i64 cid] : Array Value)[2]?) = some (.string val) from rfl] at k2
  have hz2 : w.heap.size < w2.heap.size := by have := hb2.size; omega
  have H2 := hide' ((HBa.out _).trans (HW.mono (by simp)))
  clear hb2 HW hc1 hf1 H1 HC HS HBa HCE
  have hb2 : b < w2.heap.size := by omega
  go_wp2
  go_loop [11, 12] (fun s i => ∃ j : Nat, j ≤ L ∧ i = .int .i64 j ∧ s = .string (spB ⟨#[100, 101, 108]⟩ (ss.take j))) (fun _ i => L - (intOf i).toNat)
  case atStart => exact ⟨0, Nat.zero_le _, rfl, rfl⟩
  case round =>
    obtain ⟨j, hj, rfl, rfl⟩ := hrel
    have hzj := HZ.out j
    by_cases hlt : j < L
    · obtain ⟨x, hx⟩ : ∃ x, ss[j]? = some x := ⟨ss[j]'(by rw [HL.out]; exact hlt), List.getElem?_eq_getElem _⟩
      have hcell := HD.out j x hx
      have hm := HK.out x (List.mem_of_getElem? hx)
      have HX := hide' (spB_step ⟨#[100, 101, 108]⟩ hx)
      clear hx
      go_wp2
      go_round
      case rel => exact ⟨j + 1, by omega, by go_num, by rw [HX.out]⟩
      case measure => simp [intOf]; omega
    · have hj2 : j = L := by omega
      subst hj2
      have eT := congrArg List.length (show ss.take j = ss.take j from rfl)
      have HT := hide' (show ss.take j = ss by rw [← HL.out]; exact List.take_length)
      go_wp2
      go_ret2
      exact ⟨ret_said (by rw [HT.out, HE.out]), H2.out.alloc (by omega) _⟩

set_option maxRecDepth 20000 in
set_option maxHeartbeats 2000000 in
theorem refask2_1 (b o c : Nat) (key : ByteArray) (val wd : ByteArray) (ft : Bool) (cid id : Int) (w : World) (hs : StrsIn w (some ⟨b, o, none⟩) 1 c [key]) (hv : val.size ≤ maxLen) (hcb : cmdB 1 [key] val = true) (hcan : frSayB 1 1 id = true) (hb : b < w.heap.size) (hcap : 1 ≤ c)
    (hc : w.cell? ⟨b, o, none⟩ = some (.string key)) :
    Calls Tryz.prog 101 #[.int .i64 2, cmdV6 1 (.slice (some ⟨b, o, none⟩) 1 c) val wd ft cid, .int .i64 id] w fun e w' => e = .returned (.tuple #[.string (askS 2 1 [key] val id), .int .i64 0]) ∧ Below w.heap.size w w' := by
  have R := right_of hcb
  have hBa : ∀ x, Below w.heap.size w (w.alloc x) := fun x => (Below.refl _ _).alloc (Nat.le_refl _) _
  have HBa := hide' hBa
  clear hBa
  have HC : Hid (∀ x, Calls Tryz.prog 139 #[cmdV6 1 (.slice (some ⟨b, o, none⟩) 1 c) val wd ft cid] (w.alloc x) fun e w' => e = .returned (.bool true) ∧ Below (w.alloc x).heap.size (w.alloc x) w') := fun x => by have := refcmd_any 1 (.slice (some ⟨b, o, none⟩) 1 c) [key] val wd ft cid _ (hs.later (HBa.out x)).strs hv; rwa [hcb] at this
  have HS : Hid (∀ W, Calls Tryz.prog 140 #[.int .i64 2, cmdV6 1 (.slice (some ⟨b, o, none⟩) 1 c) val wd ft cid, .int .i64 id] W fun e w' => e = .returned (.bool true) ∧ Below W.heap.size W w') := fun W => by have := sayable_2 1 (some ⟨b, o, none⟩) 1 c val wd ft cid id W; rwa [hcan] at this
  have hv40 := R.val40
  have hid : 0 ≤ id ∧ id ≤ 65535 := by
    unfold frSayB at hcan
    simp at hcan
    omega
  have hks := R.keys key (by simp)
  have HF : Hid (∀ W : World, Calls Tryz.prog 141 #[.int .i64 1, .int .i64 1, .int .i64 key.size, .int .i64 val.size, .int .i64 id] W fun e w' => e = .returned (.string (headB 1 1 key.size val.size id)) ∧ Below W.heap.size W w') := fun W => head_any 1 1 key.size val.size id W (by omega) (by omega) (by omega) (by omega) (by omega)
  have hsz : (headB 1 1 key.size val.size id).size = 7 := by unfold headB; rw [strOfNums_size]; rfl
  have g1 : ¬ 9223372036854775807 < 7 + key.size := by omega
  have g2 : ¬ 9223372036854775807 < 7 + key.size + val.size := by omega
  have HE : Hid (headB 1 1 key.size val.size id ++ key ++ val = askS 2 1 [key] val id) := by show _ = _; rfl
  clear R hs hv hcb hcan
  have hz : b ≠ w.heap.size := by omega
  unfold cmdV6 at *
  go_enter Tryz.func101, Tryz.ntmps101
  go_wp2_with fail
  go_at_call 139
  refine (HC.out _).mono ?_
  rintro e w1 ⟨rfl, hb1⟩
  obtain ⟨hc1, hf1⟩ := bcell hb1
  have hz1 : w.heap.size < w1.heap.size := by have := hb1.size; simp at this; omega
  have H1 := hide' hb1
  clear hb1
  go_wp2_with fail
  go_at_call 140
  refine (HS.out _).mono ?_
  rintro e w2 ⟨rfl, hb2⟩
  have HW := H1.out.trans (hb2.mono H1.out.size)
  have k3 := (old_cell HW o hb).trans hc
  have k0 := box_cell HW 0
  have k1 := box_cell HW 1
  have k2 := box_cell HW 2
  rw [show ((#[.int .i64 1, .slice (some ⟨b, o, none⟩) 1 c, .string val, .string wd, .bool ft, .int .i64 cid] : Array Value)[0]?) = some (.int .i64 1) from rfl] at k0
  rw [show ((#[.int .i64 1, .slice (some ⟨b, o, none⟩) 1 c, .string val, .string wd, .bool ft, .int .i64 cid] : Array Value)[1]?) = some (.slice (some ⟨b, o, none⟩) 1 c) from rfl] at k1
  rw [show ((#[.int .i64 1, .slice (some ⟨b, o, none⟩) 1 c, .string val, .string wd, .bool ft, .int .i64 cid] : Array Value)[2]?) = some (.string val) from rfl] at k2
  have hz2 : w.heap.size < w2.heap.size := by have := hb2.size; omega
  have H2 := hide' ((HBa.out _).trans (HW.mono (by simp)))
  clear hb2 HW hc1 hf1 H1 HC HS HBa hc
  have hb2 : b < w2.heap.size := by omega
  go_wp2
  go_region_held3 (fun w' => w'.cell? ⟨w.heap.size, 0, none⟩ = some (.int .i64 1) ∧ w'.cell? ⟨w.heap.size, 1, none⟩ = some (.slice (some ⟨b, o, none⟩) 1 c) ∧ w'.cell? ⟨w.heap.size, 2, none⟩ = some (.string val) ∧ w'.cell? ⟨b, o, none⟩ = some (.string key)) (go_keep)
    (first | (go_at_call 141; refine (HF.out _).mono ?_; rintro e w5 ⟨rfl, hB5⟩; have hS5 := (hB5.cell (p := ⟨w.heap.size, 0, none⟩) (by simp; omega)); have hS6 := (hB5.cell (p := ⟨w.heap.size, 1, none⟩) (by simp; omega)); have hS7 := (hB5.cell (p := ⟨w.heap.size, 2, none⟩) (by simp; omega)); have hS8 := (hB5.cell (p := ⟨b, o, none⟩) (by simp; omega)); have HB5 := hide3 hB5; clear hB5))
  all_goals
    go_wp2
    go_ret2
    exact ⟨ret_said HE.out, (below_drewN (H2.out.alloc (by omega) _) _).trans (HB5.out.mono (by simp; omega))⟩

set_option maxRecDepth 20000 in
set_option maxHeartbeats 2000000 in
theorem refask2_2 (b o c : Nat) (key : ByteArray) (val wd : ByteArray) (ft : Bool) (cid id : Int) (w : World) (hs : StrsIn w (some ⟨b, o, none⟩) 1 c [key]) (hv : val.size ≤ maxLen) (hcb : cmdB 2 [key] val = true) (hcan : frSayB 2 1 id = true) (hb : b < w.heap.size) (hcap : 1 ≤ c)
    (hc : w.cell? ⟨b, o, none⟩ = some (.string key)) :
    Calls Tryz.prog 101 #[.int .i64 2, cmdV6 2 (.slice (some ⟨b, o, none⟩) 1 c) val wd ft cid, .int .i64 id] w fun e w' => e = .returned (.tuple #[.string (askS 2 2 [key] val id), .int .i64 0]) ∧ Below w.heap.size w w' := by
  have R := right_of hcb
  have hBa : ∀ x, Below w.heap.size w (w.alloc x) := fun x => (Below.refl _ _).alloc (Nat.le_refl _) _
  have HBa := hide' hBa
  clear hBa
  have HC : Hid (∀ x, Calls Tryz.prog 139 #[cmdV6 2 (.slice (some ⟨b, o, none⟩) 1 c) val wd ft cid] (w.alloc x) fun e w' => e = .returned (.bool true) ∧ Below (w.alloc x).heap.size (w.alloc x) w') := fun x => by have := refcmd_any 2 (.slice (some ⟨b, o, none⟩) 1 c) [key] val wd ft cid _ (hs.later (HBa.out x)).strs hv; rwa [hcb] at this
  have HS : Hid (∀ W, Calls Tryz.prog 140 #[.int .i64 2, cmdV6 2 (.slice (some ⟨b, o, none⟩) 1 c) val wd ft cid, .int .i64 id] W fun e w' => e = .returned (.bool true) ∧ Below W.heap.size W w') := fun W => by have := sayable_2 2 (some ⟨b, o, none⟩) 1 c val wd ft cid id W; rwa [hcan] at this
  have hv40 := R.val40
  have hid : 0 ≤ id ∧ id ≤ 65535 := by
    unfold frSayB at hcan
    simp at hcan
    omega
  have hks := R.keys key (by simp)
  have HF : Hid (∀ W : World, Calls Tryz.prog 141 #[.int .i64 1, .int .i64 2, .int .i64 key.size, .int .i64 val.size, .int .i64 id] W fun e w' => e = .returned (.string (headB 1 2 key.size val.size id)) ∧ Below W.heap.size W w') := fun W => head_any 1 2 key.size val.size id W (by omega) (by omega) (by omega) (by omega) (by omega)
  have hsz : (headB 1 2 key.size val.size id).size = 7 := by unfold headB; rw [strOfNums_size]; rfl
  have g1 : ¬ 9223372036854775807 < 7 + key.size := by omega
  have g2 : ¬ 9223372036854775807 < 7 + key.size + val.size := by omega
  have HE : Hid (headB 1 2 key.size val.size id ++ key ++ val = askS 2 2 [key] val id) := by show _ = _; rfl
  clear R hs hv hcb hcan
  have hz : b ≠ w.heap.size := by omega
  unfold cmdV6 at *
  go_enter Tryz.func101, Tryz.ntmps101
  go_wp2_with fail
  go_at_call 139
  refine (HC.out _).mono ?_
  rintro e w1 ⟨rfl, hb1⟩
  obtain ⟨hc1, hf1⟩ := bcell hb1
  have hz1 : w.heap.size < w1.heap.size := by have := hb1.size; simp at this; omega
  have H1 := hide' hb1
  clear hb1
  go_wp2_with fail
  go_at_call 140
  refine (HS.out _).mono ?_
  rintro e w2 ⟨rfl, hb2⟩
  have HW := H1.out.trans (hb2.mono H1.out.size)
  have k3 := (old_cell HW o hb).trans hc
  have k0 := box_cell HW 0
  have k1 := box_cell HW 1
  have k2 := box_cell HW 2
  rw [show ((#[.int .i64 2, .slice (some ⟨b, o, none⟩) 1 c, .string val, .string wd, .bool ft, .int .i64 cid] : Array Value)[0]?) = some (.int .i64 2) from rfl] at k0
  rw [show ((#[.int .i64 2, .slice (some ⟨b, o, none⟩) 1 c, .string val, .string wd, .bool ft, .int .i64 cid] : Array Value)[1]?) = some (.slice (some ⟨b, o, none⟩) 1 c) from rfl] at k1
  rw [show ((#[.int .i64 2, .slice (some ⟨b, o, none⟩) 1 c, .string val, .string wd, .bool ft, .int .i64 cid] : Array Value)[2]?) = some (.string val) from rfl] at k2
  have hz2 : w.heap.size < w2.heap.size := by have := hb2.size; omega
  have H2 := hide' ((HBa.out _).trans (HW.mono (by simp)))
  clear hb2 HW hc1 hf1 H1 HC HS HBa hc
  have hb2 : b < w2.heap.size := by omega
  go_wp2
  go_region_held3 (fun w' => w'.cell? ⟨w.heap.size, 0, none⟩ = some (.int .i64 2) ∧ w'.cell? ⟨w.heap.size, 1, none⟩ = some (.slice (some ⟨b, o, none⟩) 1 c) ∧ w'.cell? ⟨w.heap.size, 2, none⟩ = some (.string val) ∧ w'.cell? ⟨b, o, none⟩ = some (.string key)) (go_keep)
    (first | (go_at_call 141; refine (HF.out _).mono ?_; rintro e w5 ⟨rfl, hB5⟩; have hS5 := (hB5.cell (p := ⟨w.heap.size, 0, none⟩) (by simp; omega)); have hS6 := (hB5.cell (p := ⟨w.heap.size, 1, none⟩) (by simp; omega)); have hS7 := (hB5.cell (p := ⟨w.heap.size, 2, none⟩) (by simp; omega)); have hS8 := (hB5.cell (p := ⟨b, o, none⟩) (by simp; omega)); have HB5 := hide3 hB5; clear hB5))
  all_goals
    go_wp2
    go_ret2
    exact ⟨ret_said HE.out, (below_drewN (H2.out.alloc (by omega) _) _).trans (HB5.out.mono (by simp; omega))⟩

set_option maxRecDepth 20000 in
set_option maxHeartbeats 2000000 in
theorem refask2_3 (b o c : Nat) (key : ByteArray) (val wd : ByteArray) (ft : Bool) (cid id : Int) (w : World) (hs : StrsIn w (some ⟨b, o, none⟩) 1 c [key]) (hv : val.size ≤ maxLen) (hcb : cmdB 3 [key] val = true) (hcan : frSayB 3 1 id = true) (hb : b < w.heap.size) (hcap : 1 ≤ c)
    (hc : w.cell? ⟨b, o, none⟩ = some (.string key)) :
    Calls Tryz.prog 101 #[.int .i64 2, cmdV6 3 (.slice (some ⟨b, o, none⟩) 1 c) val wd ft cid, .int .i64 id] w fun e w' => e = .returned (.tuple #[.string (askS 2 3 [key] val id), .int .i64 0]) ∧ Below w.heap.size w w' := by
  have R := right_of hcb
  have hBa : ∀ x, Below w.heap.size w (w.alloc x) := fun x => (Below.refl _ _).alloc (Nat.le_refl _) _
  have HBa := hide' hBa
  clear hBa
  have HC : Hid (∀ x, Calls Tryz.prog 139 #[cmdV6 3 (.slice (some ⟨b, o, none⟩) 1 c) val wd ft cid] (w.alloc x) fun e w' => e = .returned (.bool true) ∧ Below (w.alloc x).heap.size (w.alloc x) w') := fun x => by have := refcmd_any 3 (.slice (some ⟨b, o, none⟩) 1 c) [key] val wd ft cid _ (hs.later (HBa.out x)).strs hv; rwa [hcb] at this
  have HS : Hid (∀ W, Calls Tryz.prog 140 #[.int .i64 2, cmdV6 3 (.slice (some ⟨b, o, none⟩) 1 c) val wd ft cid, .int .i64 id] W fun e w' => e = .returned (.bool true) ∧ Below W.heap.size W w') := fun W => by have := sayable_2 3 (some ⟨b, o, none⟩) 1 c val wd ft cid id W; rwa [hcan] at this
  have hv40 := R.val40
  have hid : 0 ≤ id ∧ id ≤ 65535 := by
    unfold frSayB at hcan
    simp at hcan
    omega
  have hks := R.keys key (by simp)
  have HF : Hid (∀ W : World, Calls Tryz.prog 141 #[.int .i64 1, .int .i64 3, .int .i64 key.size, .int .i64 val.size, .int .i64 id] W fun e w' => e = .returned (.string (headB 1 3 key.size val.size id)) ∧ Below W.heap.size W w') := fun W => head_any 1 3 key.size val.size id W (by omega) (by omega) (by omega) (by omega) (by omega)
  have hsz : (headB 1 3 key.size val.size id).size = 7 := by unfold headB; rw [strOfNums_size]; rfl
  have g1 : ¬ 9223372036854775807 < 7 + key.size := by omega
  have g2 : ¬ 9223372036854775807 < 7 + key.size + val.size := by omega
  have HE : Hid (headB 1 3 key.size val.size id ++ key ++ val = askS 2 3 [key] val id) := by show _ = _; rfl
  clear R hs hv hcb hcan
  have hz : b ≠ w.heap.size := by omega
  unfold cmdV6 at *
  go_enter Tryz.func101, Tryz.ntmps101
  go_wp2_with fail
  go_at_call 139
  refine (HC.out _).mono ?_
  rintro e w1 ⟨rfl, hb1⟩
  obtain ⟨hc1, hf1⟩ := bcell hb1
  have hz1 : w.heap.size < w1.heap.size := by have := hb1.size; simp at this; omega
  have H1 := hide' hb1
  clear hb1
  go_wp2_with fail
  go_at_call 140
  refine (HS.out _).mono ?_
  rintro e w2 ⟨rfl, hb2⟩
  have HW := H1.out.trans (hb2.mono H1.out.size)
  have k3 := (old_cell HW o hb).trans hc
  have k0 := box_cell HW 0
  have k1 := box_cell HW 1
  have k2 := box_cell HW 2
  rw [show ((#[.int .i64 3, .slice (some ⟨b, o, none⟩) 1 c, .string val, .string wd, .bool ft, .int .i64 cid] : Array Value)[0]?) = some (.int .i64 3) from rfl] at k0
  rw [show ((#[.int .i64 3, .slice (some ⟨b, o, none⟩) 1 c, .string val, .string wd, .bool ft, .int .i64 cid] : Array Value)[1]?) = some (.slice (some ⟨b, o, none⟩) 1 c) from rfl] at k1
  rw [show ((#[.int .i64 3, .slice (some ⟨b, o, none⟩) 1 c, .string val, .string wd, .bool ft, .int .i64 cid] : Array Value)[2]?) = some (.string val) from rfl] at k2
  have hz2 : w.heap.size < w2.heap.size := by have := hb2.size; omega
  have H2 := hide' ((HBa.out _).trans (HW.mono (by simp)))
  clear hb2 HW hc1 hf1 H1 HC HS HBa hc
  have hb2 : b < w2.heap.size := by omega
  go_wp2
  go_region_held3 (fun w' => w'.cell? ⟨w.heap.size, 0, none⟩ = some (.int .i64 3) ∧ w'.cell? ⟨w.heap.size, 1, none⟩ = some (.slice (some ⟨b, o, none⟩) 1 c) ∧ w'.cell? ⟨w.heap.size, 2, none⟩ = some (.string val) ∧ w'.cell? ⟨b, o, none⟩ = some (.string key)) (go_keep)
    (first | (go_at_call 141; refine (HF.out _).mono ?_; rintro e w5 ⟨rfl, hB5⟩; have hS5 := (hB5.cell (p := ⟨w.heap.size, 0, none⟩) (by simp; omega)); have hS6 := (hB5.cell (p := ⟨w.heap.size, 1, none⟩) (by simp; omega)); have hS7 := (hB5.cell (p := ⟨w.heap.size, 2, none⟩) (by simp; omega)); have hS8 := (hB5.cell (p := ⟨b, o, none⟩) (by simp; omega)); have HB5 := hide3 hB5; clear hB5))
  all_goals
    go_wp2
    go_ret2
    exact ⟨ret_said HE.out, (below_drewN (H2.out.alloc (by omega) _) _).trans (HB5.out.mono (by simp; omega))⟩

set_option maxRecDepth 20000 in
set_option maxHeartbeats 2000000 in
theorem refask3_1 (b o c : Nat) (ss : List ByteArray) (val wd : ByteArray) (ft : Bool) (cid id : Int) (w : World) (hs : StrsIn w (some ⟨b, o, none⟩) ss.length c ss) (hv : val.size ≤ maxLen) (hcb : cmdB 1 ss val = true) (hb : b < w.heap.size) (hcap : ss.length ≤ c)
    (hc : ∀ (i : Nat) (s : ByteArray), ss[i]? = some s → w.cell? ⟨b, o + i, none⟩ = some (.string s)) :
    Calls Tryz.prog 101 #[.int .i64 3, cmdV6 1 (.slice (some ⟨b, o, none⟩) ss.length c) val wd ft cid, .int .i64 id] w fun e w' => e = .returned (.tuple #[.string (askS 3 1 ss val id), .int .i64 0]) ∧ Below w.heap.size w w' := by
  have R := right_of hcb
  have hBa : ∀ x, Below w.heap.size w (w.alloc x) := fun x => (Below.refl _ _).alloc (Nat.le_refl _) _
  have HBa := hide' hBa
  clear hBa
  have HC : Hid (∀ x, Calls Tryz.prog 139 #[cmdV6 1 (.slice (some ⟨b, o, none⟩) ss.length c) val wd ft cid] (w.alloc x) fun e w' => e = .returned (.bool true) ∧ Below (w.alloc x).heap.size (w.alloc x) w') := fun x => by have := refcmd_any 1 (.slice (some ⟨b, o, none⟩) ss.length c) ss val wd ft cid _ (hs.later (HBa.out x)).strs hv; rwa [hcb] at this
  have HS : Hid (∀ W, Calls Tryz.prog 140 #[.int .i64 3, cmdV6 1 (.slice (some ⟨b, o, none⟩) ss.length c) val wd ft cid, .int .i64 id] W fun e w' => e = .returned (.bool true) ∧ Below W.heap.size W w') := fun W => by have := sayable_any 3 1 (some ⟨b, o, none⟩) ss.length c val wd ft cid id W; rwa [show sayB 3 1 ss.length id = true from rfl] at this
  have hv40 := R.val40
  have hl1 := R.len1
  have hl4 := R.len4
  have HK := hide' R.keys
  have HCE := hide' hc
  clear hs hv hcb hc
  have hz : b ≠ w.heap.size := by omega
  have HE : Hid (⟨#[42]⟩ ++ dec100 (1 + ss.length) ++ ⟨#[10]⟩ ++ txB ⟨#[103, 101, 116]⟩ ss = askS 3 1 ss val id) := by
    show _ = _
    apply ba_ext
    rw [show askS 3 1 ss val id = ⟨(listsAskL (⟨#[103, 101, 116]⟩ :: ss ++ [])).toArray⟩ from rfl]
    simp [listsAskL, txB_list, textB, textL, Nat.add_comm, Nat.add_assoc, Nat.add_left_comm]
  have HZ : Hid (∀ j, (txB ⟨#[103, 101, 116]⟩ (ss.take j)).size ≤ 225) := fun j => by
    have h1 := txB_size ⟨#[103, 101, 116]⟩ (ss.take j) (by decide) (fun x hx => by have := HK.out x (List.mem_of_mem_take hx); omega)
    have h2 : (ss.take j).length ≤ ss.length := List.length_take_le' _ _
    omega
  have HT : Hid (∀ (x : ByteArray) (W : World), x.size < 100 → Calls Tryz.prog 143 #[.string x] W fun e w' => e = .returned (.string (textB x)) ∧ ∃ q, w' = W.drewN q) := fun x W hx => refText_any x W hx
  have tv := textB_size hv40
  have HQ : Hid (∀ (m : Int) (n : Nat) (W : World), m = n → n < 100 → Calls Tryz.prog 142 #[.int .i64 m] W fun e w' => e = .returned (.string (dec100 n)) ∧ ∃ q, w' = W.drewN q) := fun m n W e h => by subst e; exact decimal_any n W h
  clear R
  generalize hL : ss.length = L at *
  have HL := hide' hL
  clear hL
  unfold cmdV6 at *
  go_enter Tryz.func101, Tryz.ntmps101
  go_wp2_with fail
  go_at_call 139
  refine (HC.out _).mono ?_
  rintro e w1 ⟨rfl, hb1⟩
  obtain ⟨hc1, hf1⟩ := bcell hb1
  have hz1 : w.heap.size < w1.heap.size := by have := hb1.size; simp at this; omega
  have H1 := hide' hb1
  clear hb1
  go_wp2_with fail
  go_at_call 140
  refine (HS.out _).mono ?_
  rintro e w2 ⟨rfl, hb2⟩
  have HW := H1.out.trans (hb2.mono H1.out.size)
  have HD : Hid (∀ (i : Nat) (s : ByteArray), ss[i]? = some s → w2.cell? ⟨b, o + i, none⟩ = some (.string s)) := fun i s h => (old_cell HW (o + i) hb).trans (HCE.out i s h)
  have k0 := box_cell HW 0
  have k1 := box_cell HW 1
  have k2 := box_cell HW 2
  rw [show ((#[.int .i64 1, .slice (some ⟨b, o, none⟩) L c, .string val, .string wd, .bool ft, .int .i64 cid] : Array Value)[0]?) = some (.int .i64 1) from rfl] at k0
  rw [show ((#[.int .i64 1, .slice (some ⟨b, o, none⟩) L c, .string val, .string wd, .bool ft, .int .i64 cid] : Array Value)[1]?) = some (.slice (some ⟨b, o, none⟩) L c) from rfl] at k1
  rw [show ((#[.int .i64 1, .slice (some ⟨b, o, none⟩) L c, .string val, .string wd, .bool ft, .int .i64 cid] : Array Value)[2]?) = some (.string val) from rfl] at k2
  have hz2 : w.heap.size < w2.heap.size := by have := hb2.size; omega
  have H2 := hide' ((HBa.out _).trans (HW.mono (by simp)))
  clear hb2 HW hc1 hf1 H1 HC HS HBa HCE
  have hb2 : b < w2.heap.size := by omega
  have hzs : ¬ 100 ≤ 3 := by omega
  go_wp2_with fail
  go_at_call 143
  refine (HT.out _ _ (by decide)).mono ?_
  rintro e w3 ⟨rfl, q3, rfl⟩
  go_wp2_with fail
  go_loopw [14, 15] (fun s i wr => ∃ j q : Nat, j ≤ L ∧ i = .int .i64 j ∧ s = .string (txB ⟨#[103, 101, 116]⟩ (ss.take j)) ∧ wr = (w2.alloc (.cells #[.string ⟨#[]⟩, .string ⟨#[103, 101, 116]⟩, .string ⟨#[115, 101, 116]⟩, .string ⟨#[100, 101, 108]⟩] 9)).drewN q) (fun _ i _ => L - (intOf i).toNat)
  case atStart => exact ⟨0, q3, Nat.zero_le _, rfl, rfl, rfl⟩
  case round =>
    obtain ⟨j, q, hj, rfl, rfl, rfl⟩ := hrel
    have hzj := HZ.out j
    by_cases hlt : j < L
    · obtain ⟨x, hx⟩ : ∃ x, ss[j]? = some x := ⟨ss[j]'(by rw [HL.out]; exact hlt), List.getElem?_eq_getElem _⟩
      have hcell := HD.out j x hx
      have hm := HK.out x (List.mem_of_getElem? hx)
      have tx := textB_size (s := x) (by omega)
      have HX := hide' (txB_step ⟨#[103, 101, 116]⟩ hx)
      clear hx
      go_wp2_with fail
      go_at_call 143
      refine (HT.out x _ (by omega)).mono ?_
      rintro e w4 ⟨rfl, q4, rfl⟩
      go_wp2
      go_round
      case rel => exact ⟨j + 1, _, by omega, by go_num, by rw [HX.out], rfl⟩
      case measure => simp [intOf]; omega
    · have hj2 : j = L := by omega
      subst hj2
      have HTT := hide' (show ss.take j = ss by rw [← HL.out]; exact List.take_length)
      have dz := dec100_size (1 + j)
      go_wp2_with fail
      go_at_call 142
      refine (HQ.out _ (1 + j) _ (by omega) (by omega)).mono ?_
      rintro e w6 ⟨rfl, q6, rfl⟩
      go_wp2
      go_ret2
      exact ⟨ret_said (by rw [HTT.out, ← HE.out]), below_drewN (H2.out.alloc (by omega) _) _⟩

set_option maxRecDepth 20000 in
set_option maxHeartbeats 2000000 in
theorem refask3_2 (b o c : Nat) (ss : List ByteArray) (val wd : ByteArray) (ft : Bool) (cid id : Int) (w : World) (hs : StrsIn w (some ⟨b, o, none⟩) ss.length c ss) (hv : val.size ≤ maxLen) (hcb : cmdB 2 ss val = true) (hb : b < w.heap.size) (hcap : ss.length ≤ c)
    (hc : ∀ (i : Nat) (s : ByteArray), ss[i]? = some s → w.cell? ⟨b, o + i, none⟩ = some (.string s)) :
    Calls Tryz.prog 101 #[.int .i64 3, cmdV6 2 (.slice (some ⟨b, o, none⟩) ss.length c) val wd ft cid, .int .i64 id] w fun e w' => e = .returned (.tuple #[.string (askS 3 2 ss val id), .int .i64 0]) ∧ Below w.heap.size w w' := by
  have R := right_of hcb
  have hBa : ∀ x, Below w.heap.size w (w.alloc x) := fun x => (Below.refl _ _).alloc (Nat.le_refl _) _
  have HBa := hide' hBa
  clear hBa
  have HC : Hid (∀ x, Calls Tryz.prog 139 #[cmdV6 2 (.slice (some ⟨b, o, none⟩) ss.length c) val wd ft cid] (w.alloc x) fun e w' => e = .returned (.bool true) ∧ Below (w.alloc x).heap.size (w.alloc x) w') := fun x => by have := refcmd_any 2 (.slice (some ⟨b, o, none⟩) ss.length c) ss val wd ft cid _ (hs.later (HBa.out x)).strs hv; rwa [hcb] at this
  have HS : Hid (∀ W, Calls Tryz.prog 140 #[.int .i64 3, cmdV6 2 (.slice (some ⟨b, o, none⟩) ss.length c) val wd ft cid, .int .i64 id] W fun e w' => e = .returned (.bool true) ∧ Below W.heap.size W w') := fun W => by have := sayable_any 3 2 (some ⟨b, o, none⟩) ss.length c val wd ft cid id W; rwa [show sayB 3 2 ss.length id = true from rfl] at this
  have hv40 := R.val40
  have hl1 := R.len1
  have hl4 := R.len4
  have HK := hide' R.keys
  have HCE := hide' hc
  clear hs hv hcb hc
  have hz : b ≠ w.heap.size := by omega
  have HE : Hid (⟨#[42]⟩ ++ dec100 (1 + ss.length + 1) ++ ⟨#[10]⟩ ++ (txB ⟨#[115, 101, 116]⟩ ss ++ textB val) = askS 3 2 ss val id) := by
    show _ = _
    apply ba_ext
    rw [show askS 3 2 ss val id = ⟨(listsAskL (⟨#[115, 101, 116]⟩ :: ss ++ [val])).toArray⟩ from rfl]
    simp [listsAskL, txB_list, textB, textL, Nat.add_comm, Nat.add_assoc, Nat.add_left_comm]
  have HZ : Hid (∀ j, (txB ⟨#[115, 101, 116]⟩ (ss.take j)).size ≤ 225) := fun j => by
    have h1 := txB_size ⟨#[115, 101, 116]⟩ (ss.take j) (by decide) (fun x hx => by have := HK.out x (List.mem_of_mem_take hx); omega)
    have h2 : (ss.take j).length ≤ ss.length := List.length_take_le' _ _
    omega
  have HT : Hid (∀ (x : ByteArray) (W : World), x.size < 100 → Calls Tryz.prog 143 #[.string x] W fun e w' => e = .returned (.string (textB x)) ∧ ∃ q, w' = W.drewN q) := fun x W hx => refText_any x W hx
  have tv := textB_size hv40
  have HQ : Hid (∀ (m : Int) (n : Nat) (W : World), m = n → n < 100 → Calls Tryz.prog 142 #[.int .i64 m] W fun e w' => e = .returned (.string (dec100 n)) ∧ ∃ q, w' = W.drewN q) := fun m n W e h => by subst e; exact decimal_any n W h
  clear R
  generalize hL : ss.length = L at *
  have HL := hide' hL
  clear hL
  unfold cmdV6 at *
  go_enter Tryz.func101, Tryz.ntmps101
  go_wp2_with fail
  go_at_call 139
  refine (HC.out _).mono ?_
  rintro e w1 ⟨rfl, hb1⟩
  obtain ⟨hc1, hf1⟩ := bcell hb1
  have hz1 : w.heap.size < w1.heap.size := by have := hb1.size; simp at this; omega
  have H1 := hide' hb1
  clear hb1
  go_wp2_with fail
  go_at_call 140
  refine (HS.out _).mono ?_
  rintro e w2 ⟨rfl, hb2⟩
  have HW := H1.out.trans (hb2.mono H1.out.size)
  have HD : Hid (∀ (i : Nat) (s : ByteArray), ss[i]? = some s → w2.cell? ⟨b, o + i, none⟩ = some (.string s)) := fun i s h => (old_cell HW (o + i) hb).trans (HCE.out i s h)
  have k0 := box_cell HW 0
  have k1 := box_cell HW 1
  have k2 := box_cell HW 2
  rw [show ((#[.int .i64 2, .slice (some ⟨b, o, none⟩) L c, .string val, .string wd, .bool ft, .int .i64 cid] : Array Value)[0]?) = some (.int .i64 2) from rfl] at k0
  rw [show ((#[.int .i64 2, .slice (some ⟨b, o, none⟩) L c, .string val, .string wd, .bool ft, .int .i64 cid] : Array Value)[1]?) = some (.slice (some ⟨b, o, none⟩) L c) from rfl] at k1
  rw [show ((#[.int .i64 2, .slice (some ⟨b, o, none⟩) L c, .string val, .string wd, .bool ft, .int .i64 cid] : Array Value)[2]?) = some (.string val) from rfl] at k2
  have hz2 : w.heap.size < w2.heap.size := by have := hb2.size; omega
  have H2 := hide' ((HBa.out _).trans (HW.mono (by simp)))
  clear hb2 HW hc1 hf1 H1 HC HS HBa HCE
  have hb2 : b < w2.heap.size := by omega
  have hzs : ¬ 100 ≤ 3 := by omega
  go_wp2_with fail
  go_at_call 143
  refine (HT.out _ _ (by decide)).mono ?_
  rintro e w3 ⟨rfl, q3, rfl⟩
  go_wp2_with fail
  go_loopw [14, 15] (fun s i wr => ∃ j q : Nat, j ≤ L ∧ i = .int .i64 j ∧ s = .string (txB ⟨#[115, 101, 116]⟩ (ss.take j)) ∧ wr = (w2.alloc (.cells #[.string ⟨#[]⟩, .string ⟨#[103, 101, 116]⟩, .string ⟨#[115, 101, 116]⟩, .string ⟨#[100, 101, 108]⟩] 9)).drewN q) (fun _ i _ => L - (intOf i).toNat)
  case atStart => exact ⟨0, q3, Nat.zero_le _, rfl, rfl, rfl⟩
  case round =>
    obtain ⟨j, q, hj, rfl, rfl, rfl⟩ := hrel
    have hzj := HZ.out j
    by_cases hlt : j < L
    · obtain ⟨x, hx⟩ : ∃ x, ss[j]? = some x := ⟨ss[j]'(by rw [HL.out]; exact hlt), List.getElem?_eq_getElem _⟩
      have hcell := HD.out j x hx
      have hm := HK.out x (List.mem_of_getElem? hx)
      have tx := textB_size (s := x) (by omega)
      have HX := hide' (txB_step ⟨#[115, 101, 116]⟩ hx)
      clear hx
      go_wp2_with fail
      go_at_call 143
      refine (HT.out x _ (by omega)).mono ?_
      rintro e w4 ⟨rfl, q4, rfl⟩
      go_wp2
      go_round
      case rel => exact ⟨j + 1, _, by omega, by go_num, by rw [HX.out], rfl⟩
      case measure => simp [intOf]; omega
    · have hj2 : j = L := by omega
      subst hj2
      have HTT := hide' (show ss.take j = ss by rw [← HL.out]; exact List.take_length)
      go_wp2_with fail
      go_at_call 143
      refine (HT.out val _ (by omega)).mono ?_
      rintro e w5 ⟨rfl, q5, rfl⟩
      have dz := dec100_size (1 + j + 1)
      go_wp2_with fail
      go_at_call 142
      refine (HQ.out _ (1 + j + 1) _ (by omega) (by omega)).mono ?_
      rintro e w6 ⟨rfl, q6, rfl⟩
      go_wp2
      go_ret2
      exact ⟨ret_said (by rw [HTT.out, ← HE.out]), below_drewN (H2.out.alloc (by omega) _) _⟩

set_option maxRecDepth 20000 in
set_option maxHeartbeats 2000000 in
theorem refask3_3 (b o c : Nat) (ss : List ByteArray) (val wd : ByteArray) (ft : Bool) (cid id : Int) (w : World) (hs : StrsIn w (some ⟨b, o, none⟩) ss.length c ss) (hv : val.size ≤ maxLen) (hcb : cmdB 3 ss val = true) (hb : b < w.heap.size) (hcap : ss.length ≤ c)
    (hc : ∀ (i : Nat) (s : ByteArray), ss[i]? = some s → w.cell? ⟨b, o + i, none⟩ = some (.string s)) :
    Calls Tryz.prog 101 #[.int .i64 3, cmdV6 3 (.slice (some ⟨b, o, none⟩) ss.length c) val wd ft cid, .int .i64 id] w fun e w' => e = .returned (.tuple #[.string (askS 3 3 ss val id), .int .i64 0]) ∧ Below w.heap.size w w' := by
  have R := right_of hcb
  have hBa : ∀ x, Below w.heap.size w (w.alloc x) := fun x => (Below.refl _ _).alloc (Nat.le_refl _) _
  have HBa := hide' hBa
  clear hBa
  have HC : Hid (∀ x, Calls Tryz.prog 139 #[cmdV6 3 (.slice (some ⟨b, o, none⟩) ss.length c) val wd ft cid] (w.alloc x) fun e w' => e = .returned (.bool true) ∧ Below (w.alloc x).heap.size (w.alloc x) w') := fun x => by have := refcmd_any 3 (.slice (some ⟨b, o, none⟩) ss.length c) ss val wd ft cid _ (hs.later (HBa.out x)).strs hv; rwa [hcb] at this
  have HS : Hid (∀ W, Calls Tryz.prog 140 #[.int .i64 3, cmdV6 3 (.slice (some ⟨b, o, none⟩) ss.length c) val wd ft cid, .int .i64 id] W fun e w' => e = .returned (.bool true) ∧ Below W.heap.size W w') := fun W => by have := sayable_any 3 3 (some ⟨b, o, none⟩) ss.length c val wd ft cid id W; rwa [show sayB 3 3 ss.length id = true from rfl] at this
  have hv40 := R.val40
  have hl1 := R.len1
  have hl4 := R.len4
  have HK := hide' R.keys
  have HCE := hide' hc
  clear hs hv hcb hc
  have hz : b ≠ w.heap.size := by omega
  have HE : Hid (⟨#[42]⟩ ++ dec100 (1 + ss.length) ++ ⟨#[10]⟩ ++ txB ⟨#[100, 101, 108]⟩ ss = askS 3 3 ss val id) := by
    show _ = _
    apply ba_ext
    rw [show askS 3 3 ss val id = ⟨(listsAskL (⟨#[100, 101, 108]⟩ :: ss ++ [])).toArray⟩ from rfl]
    simp [listsAskL, txB_list, textB, textL, Nat.add_comm, Nat.add_assoc, Nat.add_left_comm]
  have HZ : Hid (∀ j, (txB ⟨#[100, 101, 108]⟩ (ss.take j)).size ≤ 225) := fun j => by
    have h1 := txB_size ⟨#[100, 101, 108]⟩ (ss.take j) (by decide) (fun x hx => by have := HK.out x (List.mem_of_mem_take hx); omega)
    have h2 : (ss.take j).length ≤ ss.length := List.length_take_le' _ _
    omega
  have HT : Hid (∀ (x : ByteArray) (W : World), x.size < 100 → Calls Tryz.prog 143 #[.string x] W fun e w' => e = .returned (.string (textB x)) ∧ ∃ q, w' = W.drewN q) := fun x W hx => refText_any x W hx
  have tv := textB_size hv40
  have HQ : Hid (∀ (m : Int) (n : Nat) (W : World), m = n → n < 100 → Calls Tryz.prog 142 #[.int .i64 m] W fun e w' => e = .returned (.string (dec100 n)) ∧ ∃ q, w' = W.drewN q) := fun m n W e h => by subst e; exact decimal_any n W h
  clear R
  generalize hL : ss.length = L at *
  have HL := hide' hL
  clear hL
  unfold cmdV6 at *
  go_enter Tryz.func101, Tryz.ntmps101
  go_wp2_with fail
  go_at_call 139
  refine (HC.out _).mono ?_
  rintro e w1 ⟨rfl, hb1⟩
  obtain ⟨hc1, hf1⟩ := bcell hb1
  have hz1 : w.heap.size < w1.heap.size := by have := hb1.size; simp at this; omega
  have H1 := hide' hb1
  clear hb1
  go_wp2_with fail
  go_at_call 140
  refine (HS.out _).mono ?_
  rintro e w2 ⟨rfl, hb2⟩
  have HW := H1.out.trans (hb2.mono H1.out.size)
  have HD : Hid (∀ (i : Nat) (s : ByteArray), ss[i]? = some s → w2.cell? ⟨b, o + i, none⟩ = some (.string s)) := fun i s h => (old_cell HW (o + i) hb).trans (HCE.out i s h)
  have k0 := box_cell HW 0
  have k1 := box_cell HW 1
  have k2 := box_cell HW 2
  rw [show ((#[.int .i64 3, .slice (some ⟨b, o, none⟩) L c, .string val, .string wd, .bool ft, .int .i64 cid] : Array Value)[0]?) = some (.int .i64 3) from rfl] at k0
  rw [show ((#[.int .i64 3, .slice (some ⟨b, o, none⟩) L c, .string val, .string wd, .bool ft, .int .i64 cid] : Array Value)[1]?) = some (.slice (some ⟨b, o, none⟩) L c) from rfl] at k1
  rw [show ((#[.int .i64 3, .slice (some ⟨b, o, none⟩) L c, .string val, .string wd, .bool ft, .int .i64 cid] : Array Value)[2]?) = some (.string val) from rfl] at k2
  have hz2 : w.heap.size < w2.heap.size := by have := hb2.size; omega
  have H2 := hide' ((HBa.out _).trans (HW.mono (by simp)))
  clear hb2 HW hc1 hf1 H1 HC HS HBa HCE
  have hb2 : b < w2.heap.size := by omega
  have hzs : ¬ 100 ≤ 3 := by omega
  go_wp2_with fail
  go_at_call 143
  refine (HT.out _ _ (by decide)).mono ?_
  rintro e w3 ⟨rfl, q3, rfl⟩
  go_wp2_with fail
  go_loopw [14, 15] (fun s i wr => ∃ j q : Nat, j ≤ L ∧ i = .int .i64 j ∧ s = .string (txB ⟨#[100, 101, 108]⟩ (ss.take j)) ∧ wr = (w2.alloc (.cells #[.string ⟨#[]⟩, .string ⟨#[103, 101, 116]⟩, .string ⟨#[115, 101, 116]⟩, .string ⟨#[100, 101, 108]⟩] 9)).drewN q) (fun _ i _ => L - (intOf i).toNat)
  case atStart => exact ⟨0, q3, Nat.zero_le _, rfl, rfl, rfl⟩
  case round =>
    obtain ⟨j, q, hj, rfl, rfl, rfl⟩ := hrel
    have hzj := HZ.out j
    by_cases hlt : j < L
    · obtain ⟨x, hx⟩ : ∃ x, ss[j]? = some x := ⟨ss[j]'(by rw [HL.out]; exact hlt), List.getElem?_eq_getElem _⟩
      have hcell := HD.out j x hx
      have hm := HK.out x (List.mem_of_getElem? hx)
      have tx := textB_size (s := x) (by omega)
      have HX := hide' (txB_step ⟨#[100, 101, 108]⟩ hx)
      clear hx
      go_wp2_with fail
      go_at_call 143
      refine (HT.out x _ (by omega)).mono ?_
      rintro e w4 ⟨rfl, q4, rfl⟩
      go_wp2
      go_round
      case rel => exact ⟨j + 1, _, by omega, by go_num, by rw [HX.out], rfl⟩
      case measure => simp [intOf]; omega
    · have hj2 : j = L := by omega
      subst hj2
      have HTT := hide' (show ss.take j = ss by rw [← HL.out]; exact List.take_length)
      have dz := dec100_size (1 + j)
      go_wp2_with fail
      go_at_call 142
      refine (HQ.out _ (1 + j) _ (by omega) (by omega)).mono ?_
      rintro e w6 ⟨rfl, q6, rfl⟩
      go_wp2
      go_ret2
      exact ⟨ret_said (by rw [HTT.out, ← HE.out]), below_drewN (H2.out.alloc (by omega) _) _⟩

set_option maxHeartbeats 1000000 in
theorem refask_bad (d k : Int) (a : Option Addr) (n c : Nat) (ss : List ByteArray) (val wd : ByteArray) (ft : Bool) (cid id : Int) (w : World) (hs : StrsIn w a n c ss) (hv : val.size ≤ maxLen) (hb : (cmdB k ss val && sayB d k n id) = false) :
    Calls Tryz.prog 101 #[.int .i64 d, cmdV6 k (.slice a n c) val wd ft cid, .int .i64 id] w fun e w' => e = .returned (.tuple #[.string ⟨#[]⟩, .int .i64 1]) ∧ Below w.heap.size w w' := by
  have hBa : ∀ x, Below w.heap.size w (w.alloc x) := fun x => (Below.refl _ _).alloc (Nat.le_refl _) _
  have HBa := hide' hBa
  clear hBa
  have HC : Hid (∀ x, Calls Tryz.prog 139 #[cmdV6 k (.slice a n c) val wd ft cid] (w.alloc x) fun e w' => e = .returned (.bool (cmdB k ss val)) ∧ Below (w.alloc x).heap.size (w.alloc x) w') := fun x => refcmd_any k (.slice a n c) ss val wd ft cid _ (hs.later (HBa.out x)).strs hv
  have HS : Hid (∀ W, Calls Tryz.prog 140 #[.int .i64 d, cmdV6 k (.slice a n c) val wd ft cid, .int .i64 id] W fun e w' => e = .returned (.bool (sayB d k n id)) ∧ Below W.heap.size W w') := fun W => sayable_any d k a n c val wd ft cid id W
  generalize cmdB k ss val = B at *
  generalize sayB d k n id = S at *
  clear hs hv
  unfold cmdV6 at *
  have hS : B = true → S = false := by intro h; subst h; simpa using hb
  clear hb
  cases B with
  | false =>
    clear hS
    go_enter Tryz.func101, Tryz.ntmps101
    go_wp2_with fail
    go_at_call 139
    refine (HC.out _).mono ?_
    rintro e w1 ⟨rfl, hb1⟩
    obtain ⟨hc1, hf1⟩ := bcell hb1
    have hz1 : w.heap.size < w1.heap.size := by have := hb1.size; simp at this; omega
    have H1 := hide' hb1
    clear hb1
    go_wp2_with fail
    go_at_call 140
    refine (HS.out _).mono ?_
    rintro e w2 ⟨rfl, hb2⟩
    have HW := H1.out.trans (hb2.mono H1.out.size)
    have H2 := hide' ((HBa.out _).trans (HW.mono (by simp)))
    clear hb2 HW hc1 hf1 H1 HC HS HBa
    go_wp2
    go_ret2
    exact ⟨rfl, H2.out⟩
  | true =>
    have e := hS rfl
    clear hS
    subst e
    go_enter Tryz.func101, Tryz.ntmps101
    go_wp2_with fail
    go_at_call 139
    refine (HC.out _).mono ?_
    rintro e w1 ⟨rfl, hb1⟩
    obtain ⟨hc1, hf1⟩ := bcell hb1
    have hz1 : w.heap.size < w1.heap.size := by have := hb1.size; simp at this; omega
    have H1 := hide' hb1
    clear hb1
    go_wp2_with fail
    go_at_call 140
    refine (HS.out _).mono ?_
    rintro e w2 ⟨rfl, hb2⟩
    have HW := H1.out.trans (hb2.mono H1.out.size)
    have H2 := hide' ((HBa.out _).trans (HW.mono (by simp)))
    clear hb2 HW hc1 hf1 H1 HC HS HBa
    go_wp2
    go_ret2
    exact ⟨rfl, H2.out⟩
theorem refask_any (d k : Int) (a : Option Addr) (n c : Nat) (ss : List ByteArray) (val wd : ByteArray) (ft : Bool) (cid id : Int) (w : World) (hs : StrsIn w a n c ss) (hv : val.size ≤ maxLen) :
    Calls Tryz.prog 101 #[.int .i64 d, cmdV6 k (.slice a n c) val wd ft cid, .int .i64 id] w fun e w' => e = .returned (saidV (cmdB k ss val && sayB d k n id) (askS d k ss val id)) ∧ Below w.heap.size w w' := by
  rcases hok : cmdB k ss val && sayB d k n id with _ | _
  · exact refask_bad d k a n c ss val wd ft cid id w hs hv hok
  · rw [Bool.and_eq_true] at hok
    obtain ⟨hcb, hsay⟩ := hok
    have R := right_of hcb
    obtain ⟨b, o, rfl, hb, hcell⟩ : ∃ b o, a = some ⟨b, o, none⟩ ∧ b < w.heap.size ∧ ∀ (i : Nat) (s : ByteArray), ss[i]? = some s → w.cell? ⟨b, o + i, none⟩ = some (.string s) := by
      rcases hs.form with h | ⟨h, _⟩
      · exact h
      · rw [h] at R; exact absurd R.len1 (by simp)
    have hn := hs.len
    subst hn
    have hd : d = 1 ∨ d = 2 ∨ d = 3 := by
      unfold sayB dialB at hsay
      simp at hsay
      omega
    rcases hd with rfl | rfl | rfl
    · rcases R.kind with rfl | rfl | rfl
      · exact refask1_1 b o c ss val wd ft cid id w hs hv hcb hb hs.cap hcell
      · exact refask1_2 b o c ss val wd ft cid id w hs hv hcb hb hs.cap hcell
      · exact refask1_3 b o c ss val wd ft cid id w hs hv hcb hb hs.cap hcell
    · have hfr : frSayB k ss.length id = true := by
        have h2 : sayB 2 k ss.length id = frSayB k ss.length id := by unfold sayB; rcases frSayB k ss.length id <;> rfl
        rw [← h2]; exact hsay
      have hn1 : ss.length = 1 := by
        by_cases hk : k = 1
        · unfold frSayB at hfr
          simp [hk] at hfr
          omega
        · exact R.one hk
      match ss, hn1, R with
      | [key], _, R =>
        rcases R.kind with rfl | rfl | rfl
        · exact refask2_1 b o c key val wd ft cid id w hs hv hcb hfr hb hs.cap (hcell 0 key rfl)
        · exact refask2_2 b o c key val wd ft cid id w hs hv hcb hfr hb hs.cap (hcell 0 key rfl)
        · exact refask2_3 b o c key val wd ft cid id w hs hv hcb hfr hb hs.cap (hcell 0 key rfl)
    · rcases R.kind with rfl | rfl | rfl
      · exact refask3_1 b o c ss val wd ft cid id w hs hv hcb hb hs.cap hcell
      · exact refask3_2 b o c ss val wd ft cid id w hs hv hcb hb hs.cap hcell
      · exact refask3_3 b o c ss val wd ft cid id w hs hv hcb hb hs.cap hcell
end Go.Proofs.YtlonjggfnleolaaGreatDoor
