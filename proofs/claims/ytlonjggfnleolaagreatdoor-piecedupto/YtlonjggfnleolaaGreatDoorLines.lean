/-
  lines: Ask, for every right command.
-/
import Derived.Test.YtlonjggfnleolaaGreatDoorFrames
import Derived.Test.YtlonjggfnleolaaGreatDoorAskW
import Derived.Deep.Cut
namespace Go.Proofs.YtlonjggfnleolaaGreatDoor
open Go.RowKit
set_option linter.unusedVariables false

def nameB (k : Int) : ByteArray := if k = 1 then ⟨#[103, 101, 116]⟩ else if k = 2 then ⟨#[115, 101, 116]⟩ else ⟨#[100, 101, 108]⟩
theorem nameB_size (k : Int) : (nameB k).size = 3 := by unfold nameB; split; rfl; split <;> rfl
set_option maxHeartbeats 400000 in
theorem nameOf_any (k : Int) (w : World) (hk : k = 1 ∨ k = 2 ∨ k = 3) : Calls Tryz.prog 213 #[.int .i64 k] w fun e w' => e = .returned (.string (nameB k)) ∧ w' = w := by
  rcases hk with rfl | rfl | rfl
  all_goals
    go_enter Tryz.func213, Tryz.ntmps213
    go_wp2
    go_ret
    exact ⟨rfl, rfl⟩

def joinB (ss : List ByteArray) : ByteArray := ⟨(Lib.join (ss.map (·.data.toList)) [32]).toArray⟩
theorem joinB_len (ss : List ByteArray) : (joinB ss).size = (Lib.join (ss.map (·.data.toList)) [32]).length := by simp [joinB, ByteArray.size]
theorem len_size (s : ByteArray) : s.data.toList.length = s.size := by simp
theorem joinB_size {ss : List ByteArray} (h1 : 1 ≤ ss.length) (h4 : ss.length ≤ 4) (hs : ∀ s ∈ ss, s.size ≤ 8) : (joinB ss).size ≤ 35 := by
  rw [joinB_len]
  match ss, h1, h4, hs with
  | [a], _, _, hs =>
    have ha := hs a (by simp); have la := len_size a
    simp only [List.map_cons, List.map_nil, Lib.join, List.intercalate, List.intersperse_singleton, List.flatten_cons, List.flatten_nil, List.length_append, List.length_nil]; omega
  | [a, b], _, _, hs =>
    have ha := hs a (by simp); have la := len_size a; have hb := hs b (by simp); have lb := len_size b
    simp only [List.map_cons, List.map_nil, Lib.join, List.intercalate, List.intersperse_cons_cons, List.intersperse_singleton, List.flatten_cons, List.flatten_nil, List.length_append, List.length_cons, List.length_nil]; omega
  | [a, b, c], _, _, hs =>
    have ha := hs a (by simp); have la := len_size a; have hb := hs b (by simp); have lb := len_size b; have hc := hs c (by simp); have lc := len_size c
    simp only [List.map_cons, List.map_nil, Lib.join, List.intercalate, List.intersperse_cons_cons, List.intersperse_singleton, List.flatten_cons, List.flatten_nil, List.length_append, List.length_cons, List.length_nil]; omega
  | [a, b, c, d], _, _, hs =>
    have ha := hs a (by simp); have la := len_size a; have hb := hs b (by simp); have lb := len_size b; have hc := hs c (by simp); have lc := len_size c; have hd := hs d (by simp); have ld := len_size d
    simp only [List.map_cons, List.map_nil, Lib.join, List.intercalate, List.intersperse_cons_cons, List.intersperse_singleton, List.flatten_cons, List.flatten_nil, List.length_append, List.length_cons, List.length_nil]; omega

theorem join_any (bk o c : Nat) (ss : List ByteArray) (w : World) (hcells : ∀ (j : Nat) x, ss[j]? = some x → w.cell? ⟨bk, o + j, none⟩ = some (.string x)) (hbk : bk < w.heap.size) (hcap : ss.length ≤ c) (h1 : 1 ≤ ss.length) (h4 : ss.length ≤ 4) (hs : ∀ s ∈ ss, s.size ≤ 8) :
    Calls Tryz.prog 214 #[.slice (some ⟨bk, o, none⟩) ss.length c, .string ⟨#[32]⟩] w fun e w' => e = .returned (.string (joinB ss)) ∧ Below w.heap.size w w' := by
  have hz := joinB_size h1 h4 hs
  have hz2 : (Lib.join (ss.map (·.data.toList)) [32]).length ≤ 35 := by
    have e : (joinB ss).size = (Lib.join (ss.map (·.data.toList)) [32]).length := by simp [joinB, ByteArray.size]
    omega
  exact Tryz.strings_Join bk o c ss ⟨#[32]⟩ w hcells hbk (by omega) hcap (by show (Lib.join (ss.map (·.data.toList)) [32]).length ≤ _; omega)

def sizedB (s : ByteArray) : ByteArray := dec100 s.size ++ ⟨#[10]⟩ ++ s ++ ⟨#[10]⟩
def linesAskB (k : Int) (ss : List ByteArray) (val : ByteArray) : ByteArray :=
  if k = 2 then nameB k ++ ⟨#[32]⟩ ++ joinB ss ++ ⟨#[32]⟩ ++ sizedB val else nameB k ++ ⟨#[32]⟩ ++ joinB ss ++ ⟨#[10]⟩

theorem sized_any' (s : ByteArray) (w : World) (hs : s.size < 100) : Calls Tryz.prog 215 #[.string s] w fun e w' => e = .returned (.string (sizedB s)) ∧ w' = w := sized_any s w hs
theorem sizedB_size {s : ByteArray} (h : s.size ≤ 40) : (sizedB s).size ≤ 44 := by
  have := dec100_size s.size
  have e : (ByteArray.mk #[10]).size = 1 := rfl
  unfold sizedB
  rw [ByteArray.size_append, ByteArray.size_append, ByteArray.size_append]
  omega

set_option maxRecDepth 20000 in
set_option maxHeartbeats 4000000 in
theorem liAsk (k : Int) (b o c : Nat) (ss : List ByteArray) (val wd : ByteArray) (ft : Bool) (cid id : Int) (w : World) (R : Right k ss val) (hb : b < w.heap.size) (hcap : ss.length ≤ c)
    (hc : ∀ (j : Nat) x, ss[j]? = some x → w.cell? ⟨b, o + j, none⟩ = some (.string x)) :
    Calls Tryz.prog 209 #[.agg #[], cmdV6 k (.slice (some ⟨b, o, none⟩) ss.length c) val wd ft cid, .int .i64 id] w fun e w' => e = .returned (.string (linesAskB k ss val)) ∧ Below w.heap.size w w' := by
  unfold cmdV6
  have hz := joinB_size R.len1 R.len4 R.keys
  have hns := nameB_size k
  have hzs := sizedB_size R.val40
  have HJ : Hid (∀ W : World, Below w.heap.size w W → Calls Tryz.prog 214 #[.slice (some ⟨b, o, none⟩) ss.length c, .string ⟨#[32]⟩] W fun e w' => e = .returned (.string (joinB ss)) ∧ Below W.heap.size W w') :=
    fun W hW => join_any b o c ss W (fun j x hx => (hW.cell (p := ⟨b, o + j, none⟩) hb).trans (hc j x hx)) (Nat.lt_of_lt_of_le hb hW.size) hcap R.len1 R.len4 R.keys
  have HN : Hid (∀ W : World, Calls Tryz.prog 213 #[.int .i64 k] W fun e w' => e = .returned (.string (nameB k)) ∧ w' = W) := fun W => nameOf_any k W R.kind
  have HZ : Hid (∀ W : World, Calls Tryz.prog 215 #[.string val] W fun e w' => e = .returned (.string (sizedB val)) ∧ w' = W) := fun W => sized_any' val W (by have := R.val40; omega)
  have HK : Hid (k = 1 ∨ k = 2 ∨ k = 3) := R.kind
  clear R hc
  generalize hL : ss.length = L at *
  clear hL
  have HS : Hid (linesAskB k ss val = if k = 2 then nameB k ++ ⟨#[32]⟩ ++ joinB ss ++ ⟨#[32]⟩ ++ sizedB val else nameB k ++ ⟨#[32]⟩ ++ joinB ss ++ ⟨#[10]⟩) := by show _ = _; rfl
  generalize joinB ss = J at *
  generalize sizedB val = Z at *
  generalize nameB k = N at *
  have c32 : (ByteArray.mk #[32]).size = 1 := rfl
  have g1 : ¬ 9223372036854775807 < 3 + 1 := by omega
  have g2 : ¬ 9223372036854775807 < 3 + 1 + J.size := by omega
  go_enter Tryz.func209, Tryz.ntmps209
  go_wp2
  go_cut [7] from 8 (fun s7 W => s7 = .string (N ++ ⟨#[32]⟩ ++ J) ∧ Below w.heap.size w W ∧ W.cell? ⟨w.heap.size + 1, 0, none⟩ = some (.int .i64 k) ∧ W.cell? ⟨w.heap.size + 1, 2, none⟩ = some (.string val))
  case first =>
    go_region_held3 (fun w' => w'.cell? ⟨w.heap.size + 1, 0, none⟩ = some (.int .i64 k) ∧ w'.cell? ⟨w.heap.size + 1, 1, none⟩ = some (.slice (some ⟨b, o, none⟩) L c)) (go_keep)
      (first
        | (go_at_call 213; refine (HN.out _).mono ?_; rintro e w4 ⟨rfl, rfl⟩)
        | (go_at_call 214; refine (HJ.out _ ?hx).mono ?_; (case hx => repeat (first | exact Below.refl _ _ | refine Below.drew ?_ | refine below_drewN ?_ _ | refine Below.alloc ?_ (by simp; try omega) _)); rintro e w5 ⟨rfl, hB5⟩; have hS5 := (hB5.cell (p := ⟨w.heap.size + 1, 0, none⟩) (by simp)); have hS6 := (hB5.cell (p := ⟨w.heap.size + 1, 1, none⟩) (by simp)); have hS7 := (hB5.cell (p := ⟨w.heap.size + 1, 2, none⟩) (by simp)); have HB5 := hide3 hB5; clear hB5))
    all_goals
      go_wp2_with fail
      go_meet
    all_goals
      exact ⟨rfl, ((((Below.refl _ _).alloc (Nat.le_refl _) _).alloc (by simp) _).drew).trans (HB5.out.mono (by simp [Nat.le_add_right, Nat.add_assoc])), by rw [hS5]; go_simp, by rw [hS7]; go_simp⟩
  case rest =>
    obtain ⟨rfl, hBc, q0, q2⟩ := hcut
    have HBc : Hid (Below w.heap.size w wc) := hBc
    clear hBc HJ HN
    have g3 : ¬ 9223372036854775807 < 3 + 1 + J.size + 1 := by omega
    by_cases h2 : k = 2
    · subst h2
      have H2 := HS.out
      rw [if_pos rfl] at H2
      have H3 : Hid (linesAskB 2 ss val = N ++ ⟨#[32]⟩ ++ J ++ ⟨#[32]⟩ ++ Z) := H2
      clear H2 HS
      go_wp2_with (go_at_call 215; refine (HZ.out _).mono ?_; rintro e w4 ⟨rfl, rfl⟩)
      go_ret
      exact ⟨ret_str H3.out.symm, HBc.out⟩
    · have h2' : (k == 2) = false := by simpa using h2
      have H2 := HS.out
      rw [if_neg h2] at H2
      have H3 : Hid (linesAskB k ss val = N ++ ⟨#[32]⟩ ++ J ++ ⟨#[10]⟩) := H2
      clear H2 HS h2
      go_wp2
      go_ret
      exact ⟨ret_str H3.out.symm, HBc.out⟩
end Go.Proofs.YtlonjggfnleolaaGreatDoor
