/-
  junctionkeep: raw, pick, same.
-/
import Derived.Test.YtlonjggfnleolaaGreatDoorRdrH
import Derived.Test.YtlonjggfnleolaaGreatDoorKey
import Derived.Test.YtlonjggfnleolaaGreatDoorDecode
import Derived.Deep.RegionHeld3
import Derived.Deep.Cut
import Derived.Deep.RegionLaw
import Derived.Test.YtlonjggfnleolaaGreatDoorRefAsk0
import Derived.Test.YtlonjggfnleolaaGreatDoorWords

namespace Go.Proofs.YtlonjggfnleolaaGreatDoor
open Go.RowKit
set_option linter.unusedVariables false

/-- Raw numbers that a call was handed. -/
structure RawIn (w : World) (a : Option Addr) (n c : Nat) (xs : List Int) : Prop where
  len : xs.length = n
  cap : n ≤ c
  small : n ≤ 140737488355328
  ag : ∀ g o, a = some ⟨g, o, none⟩ → 1 ≤ n → g < w.heap.size
  by_ : ∀ i, i < n → ∃ g o, a = some ⟨g, o, none⟩ ∧ w.cell? ⟨g, o + i, none⟩ = some (.int .i64 (xs.getD i 0))
  wf : ∀ i, i < n → (Lit.int .i64 (xs.getD i 0)).wf = true
theorem RawIn.later {w w' : World} {a : Option Addr} {n c : Nat} {xs : List Int} (h : RawIn w a n c xs) (hb : Below w.heap.size w w') : RawIn w' a n c xs :=
  ⟨h.len, h.cap, h.small, fun g o e h1 => Nat.lt_of_lt_of_le (h.ag g o e h1) hb.size, fun i hi => by
    obtain ⟨g, o, e, hc⟩ := h.by_ i hi
    exact ⟨g, o, e, (hb.cell (p := ⟨g, o + i, none⟩) (h.ag g o e (by omega))).trans hc⟩, h.wf⟩
def rawN (xs : List Int) (i : Nat) : Int := if xs.length = 0 then 0 else xs.getD (i % xs.length) 0
theorem rawN_wf {w : World} {a : Option Addr} {n c : Nat} {xs : List Int} (h : RawIn w a n c xs) (i : Nat) : (Lit.int .i64 (rawN xs i)).wf = true := by
  unfold rawN
  split
  · rfl
  · rename_i h0
    have := h.len
    exact h.wf _ (by have := Nat.mod_lt i (show 0 < xs.length by omega); omega)
set_option maxHeartbeats 1000000 in
theorem raw_any (a : Option Addr) (n c : Nat) (xs : List Int) (i : Nat) (w : World) (h : RawIn w a n c xs) (hi : i ≤ 140737488355328) :
    Calls Tryz.prog 37 #[.slice a n c, .int .i64 (i : Int)] w fun e w' => e = .returned (.int .i64 (rawN xs i)) ∧ w' = w := by
  have hl := h.len
  have hsm := h.small
  by_cases h0 : n = 0
  · subst h0
    have hr : rawN xs i = 0 := by unfold rawN; rw [if_pos hl]
    rw [hr]
    clear h hl hr
    go_enter Tryz.func37, Tryz.ntmps37
    go_wp2
    go_ret
    exact ⟨rfl, rfl⟩
  · have hr : rawN xs i = xs.getD (i % n) 0 := by unfold rawN; rw [if_neg (by omega), hl]
    rw [hr]
    have hm : i % n < n := Nat.mod_lt i (by omega)
    obtain ⟨g, o, rfl, hc⟩ := h.by_ (i % n) hm
    generalize xs.getD (i % n) 0 = x at *
    have h0' : ((n : Int) == 0) = false := by rw [beq_eq_false_iff_ne]; omega
    have hmm : (i : Int) % (n : Int) = ((i % n : Nat) : Int) := by simp
    obtain ⟨m, hmd⟩ : ∃ m, i % n = m := ⟨_, rfl⟩
    rw [hmd] at hm hc hmm
    have hm' : (m : Int) < (n : Int) := by omega
    have hnz : ¬ (n : Int) = 0 := by omega
    clear h hl hr hmd
    go_enter Tryz.func37, Tryz.ntmps37
    go_wp2
    go_ret
    exact ⟨rfl, rfl⟩
set_option maxHeartbeats 1000000 in
theorem pick_big (c : Int) (n : Nat) (w : World) (hc : (Lit.int .i64 c).wf = true) (hn : 0 < n) (hn2 : n ≤ 140737488355328) :
    Calls Tryz.prog 17 #[.int .i64 c, .int .i64 n] w fun e w' => e = .returned (.int .i64 (pickN c n)) ∧ w' = w := by
  obtain ⟨b1, b2⟩ := bounds_i64 hc
  by_cases h : c < 0
  · go_enter Tryz.func17, Tryz.ntmps17
    go_wp2
    go_ret
    refine ⟨ret_int ?_, rfl⟩
    rw [pickN_eq c n hn, if_pos h, ← Int.neg_tmod, Int.tmod_eq_emod_of_nonneg (by omega)]
  · have h' : ¬ c < 0 := h
    go_enter Tryz.func17, Tryz.ntmps17
    go_wp2
    go_ret
    refine ⟨ret_int ?_, rfl⟩
    rw [pickN_eq c n hn, if_neg (by omega)]

/-- The keys of a list in memory, cell by cell. -/
theorem keysIn_cells {W : World} {lo : Nat} {a : Option Addr} {n c : Nat} {ss : List ByteArray} (h : KeysIn W lo (.slice a n c) ss) : ss.length = n ∧ n ≤ c ∧ ∀ i s, ss[i]? = some s → ∃ g, a = some ⟨g, 0, none⟩ ∧ g < W.heap.size ∧ W.cell? ⟨g, i, none⟩ = some (.string s) := by
  rcases h with ⟨h, rfl⟩ | ⟨b, c', h, _, Z, hZ, hz, hl, hi⟩
  · cases h; exact ⟨rfl, Nat.le_refl _, fun i s h => by simp at h⟩
  · cases h
    refine ⟨rfl, by omega, fun i s hs => ⟨b, rfl, blkLt hZ, ?_⟩⟩
    rw [blkCell hZ i]; exact hi i s hs

theorem toList_beq (s : ByteArray) : (s.toList == s.toList) = true := by simp

set_option maxRecDepth 20000 in
set_option maxHeartbeats 2000000 in
/-- same: of a command and itself, wherever its keys lie. -/
theorem same_yes (k : Int) (a1 a2 : Option Addr) (n c1 c2 : Nat) (val wd : ByteArray) (ft : Bool) (id1 id2 : Int) (ss : List ByteArray) (lo1 lo2 : Nat) (w : World) (h1 : KeysIn w lo1 (.slice a1 n c1) ss) (h2 : KeysIn w lo2 (.slice a2 n c2) ss) (hn : n ≤ 1000) (hs : ∀ s ∈ ss, s.size ≤ 1000) :
    Calls Tryz.prog 20 #[cmdV6 k (.slice a1 n c1) val wd ft id1, cmdV6 k (.slice a2 n c2) val wd ft id2] w fun e w' => e = .returned (.bool true) ∧ Below w.heap.size w w' := by
  obtain ⟨l1, p1, q1⟩ := keysIn_cells h1
  obtain ⟨l2, p2, q2⟩ := keysIn_cells h2
  have HQ := hide' (And.intro q1 q2)
  have HL := hide' l1
  have HB2 := hide' (show ∀ x y, Below w.heap.size w ((w.alloc x).alloc y) from fun x y => ((Below.refl _ _).alloc (Nat.le_refl _) _).alloc (by simp) _)
  clear q1 q2 h1 h2 l1 l2
  unfold cmdV6
  have tb := toList_beq
  go_enter Tryz.func20, Tryz.ntmps20
  go_wp2
  go_loopw [5] (fun i wr => ∃ (j q : Nat), j ≤ n ∧ i = .int .i64 j ∧ wr = ((w.alloc (.cells #[.int .i64 k, .slice a1 n c1, .string val, .string wd, .bool ft, .int .i64 id1] 36)).alloc (.cells #[.int .i64 k, .slice a2 n c2, .string val, .string wd, .bool ft, .int .i64 id2] 36)).drewN q) (fun i _ => n - (intOf i).toNat)
  case atStart => exact ⟨0, 0, Nat.zero_le _, rfl, rfl⟩
  case round =>
    obtain ⟨j, q, hj, rfl, rfl⟩ := hrel
    by_cases hlt : j < n
    · obtain ⟨s, hsj⟩ : ∃ s, ss[j]? = some s := by
        have := HL.out
        exact ⟨ss[j], List.getElem?_eq_getElem (by omega)⟩
      obtain ⟨g1, e1, hg1, k1⟩ := HQ.out.1 j s hsj
      obtain ⟨g2, e2, hg2, k2⟩ := HQ.out.2 j s hsj
      subst e1
      subst e2
      have hlt' : (j : Int) < (n : Int) := by omega
      have hg1a : g1 < w.heap.size + 1 := by omega
      have hg2a : g2 < w.heap.size + 1 := by omega
      have hsz := hs s (List.mem_of_getElem? hsj)
      clear hsj
      go_wp2
      go_quiet (fail)
      go_wp2
      go_roundw
      case rel => exact ⟨j + 1, _, by omega, by go_num, rfl⟩
      case measure => simp [intOf]; omega
    · have hlt' : ¬ (j : Int) < (n : Int) := by omega
      go_wp2
      go_ret
      exact ⟨rfl, below_drewN (HB2.out _ _) _⟩
end Go.Proofs.YtlonjggfnleolaaGreatDoor


/-
  junctionkeep: command.
-/

namespace Go.Proofs.YtlonjggfnleolaaGreatDoor
open Go.RowKit
set_option linter.unusedVariables false

/-- What command told. -/
structure CmdOut (w w' : World) (d : Int) (e : Ending) : Prop where
  ex : ∃ (k : Int) (a : Option Addr) (n c : Nat) (val : ByteArray) (ss : List ByteArray), e = .returned (cmdV6 k (.slice a n c) val ⟨#[]⟩ false 0) ∧ KeysIn w' w.heap.size (.slice a n c) ss ∧ cmdB k ss val = true ∧ (d = 2 → ss.length = 1)
  bel : Below w.heap.size w w'

theorem emp0 : (ByteArray.mk #[]).toList.isEmpty = true := by decide +kernel
theorem cmdB_keys {k : Int} {ss : List ByteArray} (hk : k = 1) (h1 : 1 ≤ ss.length) (h4 : ss.length ≤ 4) (hs : ∀ s ∈ ss, keyB s = true) : cmdB k ss ⟨#[]⟩ = true := by
  subst hk
  have : keysB ss 4 = true := by
    simp only [keysB, withinB, Bool.and_eq_true, decide_eq_true_eq, List.all_eq_true]
    exact ⟨⟨by omega, by omega⟩, hs⟩
  unfold cmdB
  rw [if_pos rfl, this, emp0]
  rfl
theorem cmdB_set {s val : ByteArray} (hs : keyB s = true) (hv : val.size ≤ 40) : cmdB 2 [s] val = true := by
  have : keysB [s] 1 = true := by simp [keysB, withinB, hs]
  have hv' : (val.size : Int) ≤ 40 := by omega
  unfold cmdB
  rw [if_neg (by decide), if_pos rfl, this]
  simp [hv']
theorem cmdB_del {s : ByteArray} (hs : keyB s = true) : cmdB 3 [s] ⟨#[]⟩ = true := by
  have : keysB [s] 1 = true := by simp [keysB, withinB, hs]
  unfold cmdB
  rw [if_neg (by decide), if_neg (by decide), if_pos rfl, this, emp0]
  rfl

/-- Within command: the result at R, the command at C, its keys. -/
structure CmdAt (w W : World) (C : Nat) (k : Int) (g n cap : Nat) (val : ByteArray) (ss : List ByteArray) : Prop where
  hR : W.heap[w.heap.size]? = some (.cells zCmd 36 (0, 0))
  hC : W.heap[C]? = some (.cells #[.int .i64 k, .slice (some ⟨g, 0, none⟩) n cap, .string val, .string ⟨#[]⟩, .bool false, .int .i64 0] 36 (0, 0))
  own : W.ownsRow w.heap.size 9 1 (.slice (some ⟨g, 0, none⟩) n cap) n (ss.map Value.string)
  len : ss.length = n
  pos : 1 ≤ n
  keys : ∀ s ∈ ss, keyB s = true
  lC : w.heap.size < C
  bel : Below w.heap.size w W
theorem CmdAt.keysIn {w W : World} {C : Nat} {k : Int} {g n cap : Nat} {val : ByteArray} {ss : List ByteArray} (h : CmdAt w W C k g n cap val ss) : KeysIn W w.heap.size (.slice (some ⟨g, 0, none⟩) n cap) ss := by
  obtain ⟨h1, h2⟩ := owns_texts h.len (by have := h.pos; omega) h.own
  exact .inr ⟨g, cap, by rw [h.len], h2, h1⟩

theorem conv1 (wr : World) (b : Int) : (convert 80 9 (.slice (some ⟨wr.heap.size, 0, none⟩) 1 1)).run Tryz.prog (wr.alloc (.cells #[.int .u8 b] 5)) = .ok (.string (strOfNums [b])) (wr.alloc (.cells #[.int .u8 b] 5)) :=
  run_convert_bytes_arg (P := Tryz.prog) _ 80 5 Tryz.underlying80 Tryz.underlying5 wr.heap.size 0 1 1 [b] rfl (fun i hi => by
    have h0 : i = 0 := by omega
    subst h0
    simp) 9 Tryz.underlying9
theorem CmdAt.fin {w W : World} {C : Nat} {k : Int} {g n cap : Nat} {val : ByteArray} {ss : List ByteArray} (h : CmdAt w W C k g n cap val ss) (v0 v1 v2 v3 v4 v5 : Value) :
    KeysIn ((((((W.setCell ⟨w.heap.size, 0, none⟩ v0).setCell ⟨w.heap.size, 1, none⟩ v1).setCell ⟨w.heap.size, 2, none⟩ v2).setCell ⟨w.heap.size, 3, none⟩ v3).setCell ⟨w.heap.size, 4, none⟩ v4).setCell ⟨w.heap.size, 5, none⟩ v5) w.heap.size (.slice (some ⟨g, 0, none⟩) n cap) ss ∧
    Below w.heap.size w ((((((W.setCell ⟨w.heap.size, 0, none⟩ v0).setCell ⟨w.heap.size, 1, none⟩ v1).setCell ⟨w.heap.size, 2, none⟩ v2).setCell ⟨w.heap.size, 3, none⟩ v3).setCell ⟨w.heap.size, 4, none⟩ v4).setCell ⟨w.heap.size, 5, none⟩ v5) :=
  ⟨h.keysIn.other (Nat.le_refl _) (fun b c Z hZ _ _ => set6_other (fun e => by rw [e, h.hR] at hZ; cases hZ) _ _ _ _ _ _), set6_below h.bel (Nat.le_refl _) _ _ _ _ _ _⟩
theorem CmdAt.below {w W W' : World} {C : Nat} {k : Int} {g n cap : Nat} {val : ByteArray} {ss : List ByteArray} (h : CmdAt w W C k g n cap val ss) (hb : Below W.heap.size W W') : CmdAt w W' C k g n cap val ss := by
  refine ⟨(hb.block _ (blkLt h.hR)).trans h.hR, (hb.block _ (blkLt h.hC)).trans h.hC, own_keep h.own ?_, h.len, h.pos, h.keys, h.lC, h.bel.trans (hb.mono h.bel.size)⟩
  obtain ⟨_, h2 | ⟨g', cap', cur, e, _, hg, _⟩⟩ := h.own
  · cases h2.1
  · cases e; exact hb.block _ (blkLt hg)
/-- The value is laid. -/
theorem CmdAt.setVal {w W : World} {C : Nat} {k : Int} {g n cap : Nat} {val : ByteArray} {ss : List ByteArray} (h : CmdAt w W C k g n cap val ss) (val' : ByteArray) : CmdAt w (W.setCell ⟨C, 2, none⟩ (.string val')) C k g n cap val' ss := by
  have hlC := h.lC
  refine ⟨(Below.heap_setCell _ _ _ _ (by show w.heap.size ≠ C; omega)).trans h.hR, (blkSet (i := 2) h.hC (.string val')).trans rfl, own_keep h.own (Below.heap_setCell _ _ _ _ ?_), h.len, h.pos, h.keys, h.lC, h.bel.setCell (p := ⟨C, 2, none⟩) (by show w.heap.size ≤ C; omega) _⟩
  obtain ⟨_, h2 | ⟨g', cap', cur, e, _, hg, _⟩⟩ := h.own
  · cases h2.1
  · cases e
    intro e2
    rw [show g = C from e2, h.hC] at hg
    cases hg

/-- One key more. -/
theorem CmdAt.push {w W Wx wa : World} {C : Nat} {k : Int} {g n cap g2 cap2 : Nat} {val s : ByteArray} {ss : List ByteArray} (h : CmdAt w W C k g n cap val ss) (hW : Below W.heap.size W Wx) (hgrow : Wx.grownBy wa (Value.slice (some ⟨g, 0, none⟩) n cap).ownBlock)
    (hown : wa.ownsRow w.heap.size 9 1 (.slice (some ⟨g2, 0, none⟩) (n + 1) cap2) (n + 1) (ss.map Value.string ++ [Value.string s])) (hat : (Value.slice (some ⟨g, 0, none⟩) n cap).ownBlock = some g2 ∨ g2 = Wx.heap.size) (hs : keyB s = true) :
    CmdAt w (wa.setCell ⟨C, 1, none⟩ (.slice (some ⟨g2, 0, none⟩) (n + 1) cap2)) C k g2 (n + 1) cap2 val (ss ++ [s]) := by
  have hx := h.below hW
  obtain ⟨hgt, hg⟩ : ∃ cur, Wx.heap[g]? = some (.cells cur 9 (0, 0)) := by
    obtain ⟨_, h2 | ⟨g', cap', cur, e, _, hg, _⟩⟩ := hx.own
    · cases h2.1
    · cases e; exact ⟨cur, hg⟩
  have hCg : C ≠ g := fun e => by rw [← e, hx.hC] at hg; cases hg
  have hRg : w.heap.size ≠ g := fun e => by rw [← e, hx.hR] at hg; cases hg
  have hlC := h.lC
  have hCa := (hgrow.block C (blkLt hx.hC) (by show some C ≠ some g; simpa using hCg)).trans hx.hC
  have hRa := (hgrow.block w.heap.size (blkLt hx.hR) (by show some w.heap.size ≠ some g; simpa using hRg)).trans hx.hR
  have hg2C : g2 ≠ C := by
    rcases hat with e | e
    · have : g = g2 := by simpa [Value.ownBlock] using e
      omega
    · have := blkLt hx.hC; omega
  have hgl : w.heap.size ≤ g := by
    obtain ⟨_, h2 | ⟨g', cap', cur, e, hl, hg, _⟩⟩ := hx.own
    · cases h2.1
    · cases e; exact hl
  refine ⟨(Below.heap_setCell _ ⟨C, 1, none⟩ _ _ (by show w.heap.size ≠ C; omega)).trans hRa, (blkSet (i := 1) hCa _).trans rfl, own_keep (by rw [List.map_append]; exact hown) (Below.heap_setCell _ ⟨C, 1, none⟩ _ _ hg2C), by rw [List.length_append, h.len]; rfl, by omega, fun x hx' => ?_, hlC, ?_⟩
  · rcases List.mem_append.1 hx' with h' | h'
    · exact h.keys x h'
    · rw [List.mem_singleton] at h'; rw [h']; exact hs
  · have hb : Below w.heap.size w wa := hx.bel.trans ⟨hgrow.os, hgrow.tape, hgrow.output, hgrow.size, fun k' hk' => hgrow.block k' (by have := hx.bel.size; omega) (by show some k' ≠ some g; simp; omega)⟩
    exact hb.setCell (p := ⟨C, 1, none⟩) (by show w.heap.size ≤ C; omega) _

theorem raw_wf0 : (Lit.int .i64 0).wf = true := rfl

set_option maxRecDepth 20000 in
set_option maxHeartbeats 1000000 in
theorem command_any (d : Int) (cl : Nat) (a : Option Addr) (n c : Nat) (xs : List Int) (at' : Nat) (w : World) (h : RawIn w a n c xs) (hcl : cl < 4) (hat : at' ≤ 1000000000) :
    Calls Tryz.prog 45 #[.int .i64 d, .int .i64 (cl : Int), .slice a n c, .int .i64 (at' : Int)] w fun e w' => CmdOut w w' d e := by
  have HRaw := hide' (fun W (hW : Below w.heap.size w W) (i : Nat) (hi : i ≤ 140737488355328) => raw_any a n c xs i W (h.later hW) hi)
  have HWf := hide' (fun i => rawN_wf h i)
  have hsm := h.small
  clear h
  have hp3 := pickN_lt (rawN xs at') 3 (by omega)
  have HP3 := hide' (fun W => pick_big (rawN xs at') 3 W (HWf.out _) (by omega) (by omega))
  have HKey := hide' (fun W => jkey_any cl (rawN xs (at' + 1)) W (HWf.out _) hcl)
  have hko := keyS_ok cl hcl (pickN (rawN xs (at' + 1)) 6) (pickN_lt _ 6 (by omega))
  have HR0 := hide' (fun W hW => HRaw.out W hW at' (by omega))
  have HR1 : Hid (∀ W, Below w.heap.size w W → Calls Tryz.prog 37 #[.slice a n c, .int .i64 ((at' : Int) + 1)] W fun e w' => e = .returned (.int .i64 (rawN xs (at' + 1))) ∧ w' = W) := fun W hW => HRaw.out W hW (at' + 1) (by omega)
  have HR2 : Hid (∀ W, Below w.heap.size w W → Calls Tryz.prog 37 #[.slice a n c, .int .i64 ((at' : Int) + 2)] W fun e w' => e = .returned (.int .i64 (rawN xs (at' + 2))) ∧ w' = W) := fun W hW => HRaw.out W hW (at' + 2) (by omega)
  generalize hp : pickN (rawN xs at') 3 = p at *
  generalize hkk : keyS cl (pickN (rawN xs (at' + 1)) 6) = key at *
  clear hp hkk
  go_enter Tryz.func45, Tryz.ntmps45
  go_wp2_with fail
  go_at_call 37
  refine (HR0.out _ ((Below.refl _ _).alloc (Nat.le_refl _) _)).mono ?_
  rintro e w1 ⟨rfl, hw1⟩
  subst hw1
  go_wp2_with fail
  go_at_call 17
  refine (HP3.out _).mono ?_
  rintro e w1 ⟨rfl, hw1⟩
  subst hw1
  go_wp2_with fail
  go_at_call 37
  refine (HR1.out _ ((Below.refl _ _).alloc (Nat.le_refl _) _)).mono ?_
  rintro e w1 ⟨rfl, hw1⟩
  subst hw1
  go_wp2_with fail
  go_at_call 22
  refine (HKey.out _).mono ?_
  rintro e w1 ⟨rfl, hb1⟩
  have hR1 : w1.heap[w.heap.size]? = some (.cells zCmd 36 (0, 0)) := (hb1.block _ (by simp)).trans (blkNew w _)
  have hB1 : Below w.heap.size w w1 := ((Below.refl _ _).alloc (Nat.le_refl _) _).trans (hb1.mono (by simp))
  have hz1 := blkLt hR1
  have H1 := hide' (And.intro hR1 hB1)
  have y0 := blkCell hR1 0
  have y1 := blkCell hR1 1
  have y2 := blkCell hR1 2
  have y3 := blkCell hR1 3
  have y4 := blkCell hR1 4
  have y5 := blkCell hR1 5
  have yf := blkFree hR1
  simp [zCmd] at y0 y1 y2 y3 y4 y5
  clear hb1 hR1 hB1 HR0 HR1 HP3 HKey
  obtain ⟨hkey, hksz⟩ := hko
  have hz2 : ¬ w.heap.size = w1.heap.size := by omega
  have hz3 : ¬ w.heap.size = w1.heap.size + 1 := by omega
  have HCA : Hid (∀ (k : Int), CmdAt w ((w1.alloc (.cells #[.string key] 9)).alloc (.cells #[.int .i64 k, .slice (some ⟨w1.heap.size, 0, none⟩) 1 1, .string ⟨#[]⟩, .string ⟨#[]⟩, .bool false, .int .i64 0] 36)) (w1.heap.size + 1) k w1.heap.size 1 1 ⟨#[]⟩ [key]) := fun k => by
    have hb : Below w1.heap.size w1 ((w1.alloc (.cells #[.string key] 9)).alloc (.cells #[.int .i64 k, .slice (some ⟨w1.heap.size, 0, none⟩) 1 1, .string ⟨#[]⟩, .string ⟨#[]⟩, .bool false, .int .i64 0] 36)) := ((Below.refl _ _).alloc (Nat.le_refl _) _).alloc (by simp) _
    have hn := blkNew (w1.alloc (.cells #[.string key] 9)) (.cells #[.int .i64 k, .slice (some ⟨w1.heap.size, 0, none⟩) 1 1, .string ⟨#[]⟩, .string ⟨#[]⟩, .bool false, .int .i64 0] 36)
    rw [World.size_alloc] at hn
    refine ⟨(hb.block _ hz1).trans H1.out.1, hn, ⟨rfl, .inr ⟨_, 1, #[.string key], rfl, by omega, ?_, Nat.le_refl _, by decide, rfl, rfl⟩⟩, rfl, Nat.le_refl _, fun s hs => by simp at hs; rw [hs]; exact hkey, by omega, H1.out.2.trans (hb.mono (by omega))⟩
    exact (Below.heap_alloc _ _ _ (by simp)).trans (blkNew w1 _)
  have hpc : p = 0 ∨ p = 1 ∨ p = 2 := by omega
  rcases hpc with rfl | rfl | rfl
  · -- Get
    clear y0 y1 y2 y3 y4 y5 yf
    have h4 := pickN_lt (rawN xs (at' + 2)) 4 (by omega)
    have HP4 := hide' (fun W => pick_big (rawN xs (at' + 2)) 4 W (HWf.out _) (by omega) (by omega))
    generalize pickN (rawN xs (at' + 2)) 4 = q at *
    go_wp2_with fail
    generalize hW : (w1.alloc (.cells #[.string key] 9)).alloc (.cells #[.int .i64 1, .slice (some ⟨w1.heap.size, 0, none⟩) 1 1, .string ⟨#[]⟩, .string ⟨#[]⟩, .bool false, .int .i64 0] 36) = W2
    have HA := hide' (show CmdAt w W2 (w1.heap.size + 1) 1 w1.heap.size 1 1 ⟨#[]⟩ [key] from hW ▸ HCA.out 1)
    clear hW HCA
    go_loopw [13] (fun i wr => ∃ (j g cap : Nat) (ss : List ByteArray), i = .int .i64 j ∧ j ≤ q ∧ Hid (CmdAt w wr (w1.heap.size + 1) 1 g (j + 1) cap ⟨#[]⟩ ss ∧ (d = 2 → j = 0))) (fun i _ => q - (intOf i).toNat)
    case atStart => exact ⟨0, w1.heap.size, 1, [key], rfl, Nat.zero_le _, HA.out, fun _ => rfl⟩
    case round =>
      obtain ⟨j, g, cap, ss, rfl, hj, HJ⟩ := hrel
      have HR2' := hide' (HR2.out wr HJ.out.1.bel)
      have HP4' := hide' (HP4.out wr)
      have hcC := blkCell HJ.out.1.hC 1
      have hcf := blkFree HJ.out.1.hC
      have hCl := blkLt HJ.out.1.hC
      simp at hcC
      by_cases hgo : j < q ∧ d ≠ 2
      · obtain ⟨hlt, hd2⟩ := hgo
        have hlt' : (j : Int) < (q : Int) := by omega
        have hd' : (d == 2) = false := by simpa using hd2
        have hd'' : (d != 2) = true := by simp only [bne, hd', Bool.not_false]
        have HRj : Hid (∀ W, Below wr.heap.size wr W → Calls Tryz.prog 37 #[.slice a n c, .int .i64 ((at' : Int) + 3 + (j : Int))] W fun e w' => e = .returned (.int .i64 (rawN xs (at' + 3 + j))) ∧ w' = W) := fun W hW => by
          have := HRaw.out W (HJ.out.1.bel.trans (hW.mono HJ.out.1.bel.size)) (at' + 3 + j) (by omega)
          have e : ((at' + 3 + j : Nat) : Int) = (at' : Int) + 3 + (j : Int) := by omega
          rw [e] at this
          exact this
        have HKj := hide' (fun W => jkey_any cl (rawN xs (at' + 3 + j)) W (HWf.out _) hcl)
        have hkj := keyS_ok cl hcl (pickN (rawN xs (at' + 3 + j)) 6) (pickN_lt _ 6 (by omega))
        generalize keyS cl (pickN (rawN xs (at' + 3 + j)) 6) = kj at *
        generalize rawN xs (at' + 3 + j) = rj at *
        obtain ⟨i9, hi, hz0, hz1', hz2'⟩ := info9
        have HI := hide' (And.intro hi (And.intro hz0 (And.intro hz1' hz2')))
        clear hi hz0 hz1' hz2' hd2
        go_wp2_with fail
        go_at_call 37
        refine HR2'.out.mono ?_
        rintro e w3 ⟨rfl, hw3⟩
        subst hw3
        go_wp2_with fail
        go_at_call 17
        refine HP4'.out.mono ?_
        rintro e w4 ⟨rfl, hw4⟩
        subst hw4
        go_wp2_with fail
        have hCg : w1.heap.size + 1 ≠ g := fun e => by
          obtain ⟨_, h2 | ⟨g', cap', cur, e', _, hg, _⟩⟩ := HJ.out.1.own
          · cases h2.1
          · cases e'
            rw [← e, HJ.out.1.hC] at hg
            cases hg
        have HOwn : Hid (∀ W, Below w4.heap.size w4 W → W.ownsRow w.heap.size 9 1 (.slice (some ⟨g, 0, none⟩) (j + 1) cap) (j + 1) (ss.map Value.string)) := fun W hW => (HJ.out.1.below hW).own
        have wr1 : IntKind.i64.wrap ((at' : Int) + 3) = (at' : Int) + 3 := wrap_small _ (by omega) (by omega)
        have wr2 : IntKind.i64.wrap ((at' : Int) + 3 + (j : Int)) = (at' : Int) + 3 + (j : Int) := wrap_small _ (by omega) (by omega)
        go_region_law (first
          | (go_simp; go_at_call 37; refine (HRj.out _ ?hx).mono ?_; (case hx => repeat (first | with_reducible exact Below.refl _ _ | with_reducible refine Below.drew ?_)); rintro e w5 ⟨rfl, hw5⟩; subst hw5)
          | (go_simp; go_at_call 22; refine (HKj.out _).mono ?_; rintro e wk ⟨rfl, hbk⟩; have hcK : wk.cell? ⟨w1.heap.size + 1, 1, none⟩ = some (.slice (some ⟨g, 0, none⟩) (j + 1) cap) := (hbk.cell (p := ⟨w1.heap.size + 1, 1, none⟩) hCl).trans hcC; have hfK : ∀ i, wk.frozen? ⟨w1.heap.size + 1, i, none⟩ = false := fun i => (hbk.frozen (p := ⟨w1.heap.size + 1, i, none⟩) hCl).trans (hcf i); have HBK := hide' (below_undrew hbk); have hzK : w1.heap.size + 1 < wk.heap.size := (Nat.lt_of_lt_of_le hCl HBK.out.size); clear hbk)
          | (refine step_append_lies _ (by rfl) _ _ _ (by rfl) w.heap.size 9 i9 (.string ⟨#[]⟩) 1 16 Tryz.underlying34 HI.out.1 HI.out.2.1 HI.out.2.2.1 HI.out.2.2.2 (by rfl) (by omega) (.slice (some ⟨g, 0, none⟩) (j + 1) cap) (j + 1) (ss.map Value.string) (by rfl) (HOwn.out _ ((HBK.out.alloc HBK.out.size _))) ⟨wk.heap.size, 0, none⟩ 1 1 [Value.string kj] (by rfl) (by rfl) (World.news_of_block (cs := #[.string kj]) (blkNew wk _)) (fun u hu => by simp at hu; subst hu; rfl) (by omega) (by unfold maxLen; omega) (by omega) (by simp; omega) _ rfl ?_; intro g2 cap2 wa hown hgrow hat hlt3; have hcA : wa.cell? ⟨w1.heap.size + 1, 1, none⟩ = some (.slice (some ⟨g, 0, none⟩) (j + 1) cap) := (hgrow.cell_far ⟨w1.heap.size + 1, 1, none⟩ (by simp; omega) (by simpa [Value.ownBlock] using hCg)).trans ((World.cell?_of_block (w := wk) (Below.heap_alloc wk _ _ (by show w1.heap.size + 1 < wk.heap.size; omega))).trans hcK); have hfA : wa.frozen? ⟨w1.heap.size + 1, 1, none⟩ = false := (hgrow.frozen_far ⟨w1.heap.size + 1, 1, none⟩ (by simp; omega) (by simpa [Value.ownBlock] using hCg)).trans ((World.frozen?_of_block (w := wk) (Below.heap_alloc wk _ _ (by show w1.heap.size + 1 < wk.heap.size; omega))).trans (hfK 1)); have HG := hide' (And.intro hown (And.intro hgrow hat)); clear hown hgrow hat))
        all_goals go_wp2
        all_goals
          go_roundw
          case rel =>
            have hpush := HJ.out.1.push (HBK.out.alloc HBK.out.size _) HG.out.2.1 HG.out.1 HG.out.2.2 hkj.1
            exact ⟨j + 1, g2, cap2, ss ++ [kj], by go_num, by omega, hpush, fun h => absurd h (by intro e; rw [e] at hd'; cases hd')⟩
          case measure => simp [intOf]; omega
      · have hstop : ¬ (j < q ∧ d ≠ 2) := hgo
        have hc := HJ.out.1.hC
        have c0 := blkCell hc 0
        have c2 := blkCell hc 2
        have c3 := blkCell hc 3
        have c4 := blkCell hc 4
        have c5 := blkCell hc 5
        simp at c0 c2 c3 c4 c5
        have hr := HJ.out.1.hR
        have y0 := blkCell hr 0
        have y1 := blkCell hr 1
        have y2 := blkCell hr 2
        have y3 := blkCell hr 3
        have y4 := blkCell hr 4
        have y5 := blkCell hr 5
        have yf := blkFree hr
        simp [zCmd] at y0 y1 y2 y3 y4 y5
        have hzz := blkLt hr
        clear hc hr hgo
        have hfin := hide' (HJ.out.1.fin (.int .i64 1) (.slice (some ⟨g, 0, none⟩) (j + 1) cap) (.string ⟨#[]⟩) (.string ⟨#[]⟩) (.bool false) (.int .i64 0))
        have HST := hide' hstop
        clear hstop
        by_cases hlt : j < q
        · have hlt' : (j : Int) < (q : Int) := by omega
          have hd2 : d = 2 := Classical.byContradiction fun h => HST.out ⟨hlt, h⟩
          subst hd2
          go_wp2_with fail
          go_at_call 37
          refine HR2'.out.mono ?_
          rintro e w3 ⟨rfl, hw3⟩
          subst hw3
          go_wp2_with fail
          go_at_call 17
          refine HP4'.out.mono ?_
          rintro e w4 ⟨rfl, hw4⟩
          subst hw4
          go_wp2
          refine bodyPost_ret (v := cmdV6 1 (.slice (some ⟨g, 0, none⟩) (j + 1) cap) ⟨#[]⟩ ⟨#[]⟩ false 0) (by simp [results, Tryz.results45, go_sem, cmdV6, y0, y1, y2, y3, y4, y5]) rfl ?_
          exact ⟨⟨1, _, _, _, ⟨#[]⟩, ss, rfl, hfin.out.1, cmdB_keys rfl (by rw [HJ.out.1.len]; omega) (by rw [HJ.out.1.len]; omega) HJ.out.1.keys, fun h => by have := HJ.out.2 (by first | exact h | trivial); rw [HJ.out.1.len]; omega⟩, hfin.out.2⟩
        · have hlt' : ¬ (j : Int) < (q : Int) := by omega
          go_wp2_with fail
          go_at_call 37
          refine HR2'.out.mono ?_
          rintro e w3 ⟨rfl, hw3⟩
          subst hw3
          go_wp2_with fail
          go_at_call 17
          refine HP4'.out.mono ?_
          rintro e w4 ⟨rfl, hw4⟩
          subst hw4
          go_wp2
          refine bodyPost_ret (v := cmdV6 1 (.slice (some ⟨g, 0, none⟩) (j + 1) cap) ⟨#[]⟩ ⟨#[]⟩ false 0) (by simp [results, Tryz.results45, go_sem, cmdV6, y0, y1, y2, y3, y4, y5]) rfl ?_
          exact ⟨⟨1, _, _, _, ⟨#[]⟩, ss, rfl, hfin.out.1, cmdB_keys rfl (by rw [HJ.out.1.len]; omega) (by rw [HJ.out.1.len]; omega) HJ.out.1.keys, fun h => by have := HJ.out.2 (by first | exact h | trivial); rw [HJ.out.1.len]; omega⟩, hfin.out.2⟩
  · -- Set
    clear y0 y1 y2 y3 y4 y5 yf
    have h41 := pickN_lt (rawN xs (at' + 2)) 41 (by omega)
    have HP41 := hide' (fun W => pick_big (rawN xs (at' + 2)) 41 W (HWf.out _) (by omega) (by omega))
    generalize pickN (rawN xs (at' + 2)) 41 = q at *
    go_wp2_with fail
    go_at_call 37
    refine (HR2.out _ (HCA.out 2).bel).mono ?_
    rintro e w3 ⟨rfl, hw3⟩
    subst hw3
    go_wp2_with fail
    go_at_call 17
    refine (HP41.out _).mono ?_
    rintro e w3 ⟨rfl, hw3⟩
    subst hw3
    go_wp2_with fail
    generalize hW : (w1.alloc (.cells #[.string key] 9)).alloc (.cells #[.int .i64 2, .slice (some ⟨w1.heap.size, 0, none⟩) 1 1, .string ⟨#[]⟩, .string ⟨#[]⟩, .bool false, .int .i64 0] 36) = W2
    have HA := hide' (show CmdAt w W2 (w1.heap.size + 1) 2 w1.heap.size 1 1 ⟨#[]⟩ [key] from hW ▸ HCA.out 2)
    clear hW HCA HR2 HP41
    go_loopw [11, 12] (fun v i wr => ∃ (j : Nat) (val : ByteArray), j ≤ q ∧ i = .int .i64 j ∧ v = .string val ∧ val.size = j ∧ Hid (Below W2.heap.size W2 wr)) (fun _ i _ => q - (intOf i).toNat)
    case atStart => exact ⟨0, ⟨#[]⟩, Nat.zero_le _, rfl, rfl, rfl, Below.refl _ _⟩
    case round =>
      obtain ⟨j, val, hj, rfl, rfl, hvs, HJ⟩ := hrel
      by_cases hlt : j < q
      · have hlt' : (j : Int) < (q : Int) := by omega
        have HVS := hide' hvs
        clear hvs
        have HRj : Hid (Calls Tryz.prog 37 #[.slice a n c, .int .i64 ((at' : Int) + 3 + (j : Int) % 4)] wr fun e w' => e = .returned (.int .i64 (rawN xs (at' + 3 + j % 4))) ∧ w' = wr) := by
          have := HRaw.out wr (HA.out.bel.trans (HJ.out.mono HA.out.bel.size)) (at' + 3 + j % 4) (by omega)
          have e : ((at' + 3 + j % 4 : Nat) : Int) = (at' : Int) + 3 + (j : Int) % 4 := by omega
          rw [e] at this
          exact this
        generalize rawN xs (at' + 3 + j % 4) = rv at *
        have hcv := conv1 wr
        have hv40 : ¬ 9223372036854775807 < val.size + 1 := by have := HVS.out; omega
        go_wp2_with fail
        go_at_call 37
        refine HRj.out.mono ?_
        rintro e w3 ⟨rfl, hw3⟩
        subst hw3
        go_wp2_with fail
        go_roundw
        case rel =>
          refine ⟨j + 1, _, by omega, by go_num, rfl, ?_, HJ.out.trans ?_⟩
          · rw [ByteArray.size_append, HVS.out]; rfl
          · exact (Below.refl _ _).alloc HJ.out.size _
        case measure => simp [intOf]; omega
      · have hlt' : ¬ (j : Int) < (q : Int) := by omega
        have HA2 := hide' ((HA.out.below HJ.out))
        have hc := HA2.out.hC
        have c0 := blkCell hc 0
        have c1 := blkCell hc 1
        have c2 := blkCell hc 2
        have c3 := blkCell hc 3
        have c4 := blkCell hc 4
        have c5 := blkCell hc 5
        have cf := blkFree hc
        simp at c0 c1 c2 c3 c4 c5
        have hr := HA2.out.hR
        have y0 := blkCell hr 0
        have y1 := blkCell hr 1
        have y2 := blkCell hr 2
        have y3 := blkCell hr 3
        have y4 := blkCell hr 4
        have y5 := blkCell hr 5
        have yf := blkFree hr
        simp [zCmd] at y0 y1 y2 y3 y4 y5
        have hzz := blkLt hr
        have hzc := blkLt hc
        have hv40 : val.size ≤ 40 := by omega
        clear hc hr hvs
        go_wp2
        have hfin := (HA2.out.setVal val).fin (.int .i64 2) (.slice (some ⟨w1.heap.size, 0, none⟩) 1 1) (.string val) (.string ⟨#[]⟩) (.bool false) (.int .i64 0)
        refine bodyPost_ret (v := cmdV6 2 (.slice (some ⟨w1.heap.size, 0, none⟩) 1 1) val ⟨#[]⟩ false 0) (by simp [results, Tryz.results45, go_sem, cmdV6, y0, y1, y2, y3, y4, y5]) rfl ?_
        exact ⟨⟨2, _, _, _, val, [key], rfl, hfin.1, cmdB_set hkey hv40, fun _ => rfl⟩, hfin.2⟩
  · -- Delete
    have hz1a : w.heap.size < w1.heap.size + 1 := by omega
    go_wp2
    refine bodyPost_ret (v := cmdV6 3 (.slice (some ⟨w1.heap.size, 0, none⟩) 1 1) ⟨#[]⟩ ⟨#[]⟩ false 0) (by simp [results, Tryz.results45, go_sem, cmdV6, y0, y1, y2, y3, y4, y5, hz1, hz1a]) rfl ?_
    refine ⟨⟨3, _, _, _, ⟨#[]⟩, [key], rfl, .inr ⟨w1.heap.size, 1, rfl, by omega, texts1 ?_⟩, cmdB_del hkey, fun _ => rfl⟩, ?_⟩
    · repeat (first | with_reducible refine hs_set ?_ (by simp; try omega) | with_reducible refine hs_drewN ?_ _ | with_reducible refine hs_drew ?_ | with_reducible exact hs_new (by simp) | with_reducible refine hs_alloc ?_ _)
    · repeat (first | with_reducible exact H1.out.2 | with_reducible exact Below.refl _ _ | with_reducible refine Below.alloc ?_ (by simp; try omega) _ | with_reducible refine Below.setCell ?_ (by simp; try omega) _)
end Go.Proofs.YtlonjggfnleolaaGreatDoor


/-
  junctionkeep: said.
-/

namespace Go.Proofs.YtlonjggfnleolaaGreatDoor
open Go.RowKit
set_option linter.unusedVariables false

/-- A command that can be said. -/
structure GoodC (d : Int) (c : Cmd) : Prop where
  cmd : cmdB c.kind c.keys c.val = true
  word : c.word = noB
  fatal : c.fatal = false
  id : c.id = 0
  one : d = 2 → c.keys.length = 1
def asksFrom (d : Int) : Nat → List Cmd → List UInt8
  | _, [] => []
  | i, c :: cs => (askS d c.kind c.keys c.val i).data.toList ++ asksFrom d (i + 1) cs
theorem asksFrom_snoc (d : Int) : ∀ (cs : List Cmd) (i : Nat) (c : Cmd), asksFrom d i (cs ++ [c]) = asksFrom d i cs ++ (askS d c.kind c.keys c.val ((i + cs.length : Nat) : Int)).data.toList := by
  intro cs
  induction cs with
  | nil => intro i c; simp [asksFrom]
  | cons x cs ih =>
    intro i c
    simp only [List.cons_append, asksFrom]
    rw [ih (i + 1) c, List.append_assoc]
    have e : i + 1 + cs.length = i + (x :: cs).length := by simp; omega
    rw [e]
theorem ask_len {d k : Int} {ss : List ByteArray} {val : ByteArray} {id : Int} (hd : d = 1 ∨ d = 2 ∨ d = 3) (h : cmdB k ss val = true) (h2 : d = 2 → ss.length = 1 ∧ 0 ≤ id ∧ id ≤ 65535) : 1 ≤ (askS d k ss val id).size ∧ (askS d k ss val id).size ≤ 300 := by
  have A := askable_of h
  have R := ask_round d k ss val id [] hd A h2
  have hm := (readR_mono [] R).2.1
  rw [len_size'] at hm
  refine ⟨hm, ?_⟩
  have hv := A.val40
  unfold askS
  rcases hd with rfl | rfl | rfl
  · rw [if_pos rfl, ← len_size', ask_line A]
    have := askWords_len A
    rw [List.length_append, List.length_cons]
    split
    · rw [List.length_append, len_size']; simp; omega
    · simp; omega
  · rw [if_neg (by decide), if_pos rfl, ByteArray.size_append, ByteArray.size_append]
    have e : (headB 1 k (ss.headD ⟨#[]⟩).size val.size id).size = 7 := rfl
    have hk : (ss.headD ⟨#[]⟩).size ≤ 8 := by
      obtain ⟨h1, _⟩ := h2 rfl
      cases ss with
      | nil => simp at h1
      | cons s l => exact (keyB_size' (A.keys s (by simp))).2
    omega
  · rw [if_neg (by decide), if_neg (by decide)]
    show (listsAskL _).toArray.size ≤ 300
    rw [List.size_toArray]
    unfold listsAskL
    rw [List.length_append, len_size']
    have h1 := starL_len (nameB k :: ss ++ if k = 2 then [val] else []).length
    have h3 := textsL_len (nameB k :: ss ++ if k = 2 then [val] else []) (by
      intro t ht
      rw [List.mem_append, List.mem_cons] at ht
      rcases ht with (rfl | ht) | ht
      · rw [nameB_size']; omega
      · have := keyB_size' (A.keys t ht); omega
      · by_cases h2 : k = 2
        · rw [if_pos h2, List.mem_singleton] at ht; rw [ht]; exact hv
        · rw [if_neg h2] at ht; cases ht)
    have h5 : (nameB k :: ss ++ if k = 2 then [val] else []).length ≤ 6 := by
      have := A.len4
      by_cases h2 : k = 2
      · have := A.one (by omega); simp [h2]; omega
      · simp [h2]; omega
    omega
theorem keysIn_strs {W : World} {lo : Nat} {a : Option Addr} {n c : Nat} {ss : List ByteArray} (h : KeysIn W lo (.slice a n c) ss) (hn : n ≤ 1000) (hs : ∀ s ∈ ss, s.size ≤ 8) : StrsIn W a n c ss := by
  rcases h with ⟨h, rfl⟩ | ⟨b, c', h, _, Z, hZ, hz, hl, hi⟩
  · cases h; exact ⟨rfl, Nat.le_refl _, by simp, fun s h => (by cases h), .inr ⟨rfl, rfl⟩⟩
  · cases h
    refine ⟨rfl, by omega, by omega, fun s h => by have := hs s h; unfold maxLen; omega, .inl ⟨b, 0, rfl, blkLt hZ, fun i s hs' => ?_⟩⟩
    rw [Nat.zero_add, blkCell hZ i]; exact hi i s hs'
theorem CmdsIn.row {W : World} {lo : Nat} {v : Value} {cs : List Cmd} {kvs : List Value} (h : W.ownsRow lo 36 6 v cs.length (cmdCells cs kvs)) : ∀ g, v.ownBlock = some g → ∀ Z f, W.heap[g]? ≠ some (.cells Z 9 f) := by
  intro g hg Z f hZ
  rcases h.2 with ⟨e, _⟩ | ⟨g', cap, cur, e, _, h6, _⟩
  · rw [e] at hg; cases hg
  · rw [e] at hg
    cases hg
    rw [h6] at hZ
    cases hZ

set_option maxRecDepth 20000 in
set_option maxHeartbeats 2000000 in
theorem said_any (d : Int) (cl : Nat) (a : Option Addr) (n c : Nat) (xs : List Int) (most : Nat) (w : World) (h : RawIn w a n c xs) (hd : d = 1 ∨ d = 2 ∨ d = 3) (hcl : cl < 4) (hm : most ≤ 50) :
    Calls Tryz.prog 18 #[.int .i64 d, .int .i64 (cl : Int), .slice a n c, .int .i64 (most : Int)] w fun e w' => ∃ v s cs, e = .returned (.tuple #[v, .string s, .bool true]) ∧ CmdsIn w' w.heap.size v cs ∧ s.data.toList = asksFrom d 0 cs ∧ (∀ x ∈ cs, GoodC d x) ∧ cs.length ≤ most ∧ s.size ≤ 15000 ∧ Below w.heap.size w w' := by
  have HRaw := hide' h
  have hsm := h.small
  clear h
  go_enter Tryz.func18, Tryz.ntmps18
  go_wp2
  go_loopw [11, 12, 13] (fun o s i wr => ∃ (j : Nat) (cs : List Cmd) (S : ByteArray) (va : Option Addr) (vn vc : Nat), i = .int .i64 j ∧ s = .string S ∧ o = .slice va vn vc ∧ j ≤ most ∧ S.size ≤ 300 * j ∧ Hid (CmdsIn wr w.heap.size (.slice va vn vc) cs ∧ cs.length = j ∧ S.data.toList = asksFrom d 0 cs ∧ (∀ x ∈ cs, GoodC d x) ∧ Below w.heap.size w wr)) (fun _ _ i _ => most - (intOf i).toNat)
  case atStart => exact ⟨0, [], ⟨#[]⟩, none, 0, 0, rfl, rfl, rfl, Nat.zero_le _, Nat.zero_le _, CmdsIn.nil _ _, rfl, rfl, fun _ h => (by cases h), Below.refl _ _⟩
  case round =>
    obtain ⟨j, cs, S, va, vn, vc, rfl, rfl, rfl, hj, hS, HJ⟩ := hrel
    by_cases hgo : 5 * j < n ∧ j < most
    · obtain ⟨g1, g2⟩ := hgo
      have g1' : 5 * (j : Int) < (n : Int) := by omega
      have g2' : (j : Int) < (most : Int) := by omega
      have HC : Hid (Calls Tryz.prog 45 #[.int .i64 d, .int .i64 (cl : Int), .slice a n c, .int .i64 (5 * (j : Int))] wr fun e w' => CmdOut wr w' d e) := by
        have := command_any d cl a n c xs (5 * j) wr (HRaw.out.later HJ.out.2.2.2.2) hcl (by omega)
        have e : ((5 * j : Nat) : Int) = 5 * (j : Int) := by omega
        rw [e] at this
        exact this
      go_wp2_with fail
      go_at_call 45
      refine HC.out.mono ?_
      rintro e w5 ⟨⟨k, ka, kn, kc, val, ss, he, hki, hcb, hone⟩, hb5⟩
      unfold cmdV6 at he
      subst he
      have A := askable_of hcb
      have HO1 := hide' hone
      have h2 : d = 2 → ss.length = 1 ∧ 0 ≤ (j : Int) ∧ (j : Int) ≤ 65535 := fun h => ⟨hone h, by omega, by omega⟩
      have hal := ask_len (id := (j : Int)) hd hcb h2
      have hkl := (keysIn_cells hki).1
      have hl4 := A.len4
      have hss : ∀ s ∈ ss, s.size ≤ 8 := fun s hs => (keyB_size' (A.keys s hs)).2
      have hsay : sayB d k kn (j : Int) = true := by
        unfold sayB dialB frSayB
        rcases hd with rfl | rfl | rfl
        · rfl
        · have := hone rfl
          have hk1 : kn = 1 := by omega
          simp [hk1]; omega
        · rfl
      have HAk := hide' (fun W (hW : KeysIn W wr.heap.size (.slice ka kn kc) ss) => ask_any d k ka kn kc ss val ⟨#[]⟩ false 0 (j : Int) W (keysIn_strs hW (by omega) hss) (by have := A.val40; unfold maxLen; omega))
      simp only [hcb, hsay, Bool.and_true] at HAk
      have hT1 := hal.1
      have hT2 := hal.2
      have HTL : Hid (askS d k ss val (j : Int) = askS d k ss val (j : Int)) := (show _ = _ from rfl)
      generalize hTT : askS d k ss val (j : Int) = T at *
      have HTT := hide' hTT
      clear hTT HTL
      unfold saidV cmdV6 at HAk
      simp only [cond_true] at HAk
      have hT0 : T.toList.isEmpty = false := by
        cases he : T.toList.isEmpty with
        | false => rfl
        | true => have := emptyB he; omega
      have hT0' : (T.toList == []) = false := by
        cases hl : T.toList with
        | nil => rw [hl] at hT0; cases hT0
        | cons => rfl
      have hcat : ¬ 9223372036854775807 < S.size + T.size := by omega
      have hb5c := HJ.out.1.below hb5
      have hbw5 := HJ.out.2.2.2.2.trans (hb5.mono HJ.out.2.2.2.2.size)
      have H5 := hide' (And.intro hb5c (And.intro hki hbw5))
      have hz5 := hb5.size
      have hzw := HJ.out.2.2.2.2.size
      clear hb5 hb5c hki hbw5 hss A hone h2 hsay hal HC
      have hki6 : KeysIn (w5.alloc (.cells #[.int .i64 k, .slice ka kn kc, .string val, .string ⟨#[]⟩, .bool false, .int .i64 0] 36)) wr.heap.size (.slice ka kn kc) ss := H5.out.2.1.other (Nat.le_refl _) (fun b c Z hZ _ _ => Below.heap_alloc _ _ _ (blkLt hZ))
      have HA6 := hide' (HAk.out _ hki6)
      clear hki6 HAk
      go_wp2_with fail
      go_at_call 21
      refine HA6.out.mono ?_
      rintro e w7 ⟨rfl, hb7⟩
      have hbox : w7.heap[w5.heap.size]? = some (.cells #[.int .i64 k, .slice ka kn kc, .string val, .string ⟨#[]⟩, .bool false, .int .i64 0] 36 (0, 0)) := (hb7.block _ (by simp)).trans (blkNew w5 _)
      have hB57 : Below w5.heap.size w5 w7 := ((Below.refl _ _).alloc (Nat.le_refl _) _).trans (hb7.mono (by simp))
      have v0 := blkCell hbox 0
      have v1 := blkCell hbox 1
      have v2 := blkCell hbox 2
      have v3 := blkCell hbox 3
      have v4 := blkCell hbox 4
      have v5 := blkCell hbox 5
      simp at v0 v1 v2 v3 v4 v5
      have c7 := H5.out.1.below hB57
      have k7 : KeysIn w7 w.heap.size (.slice ka kn kc) ss := H5.out.2.1.other hzw (fun b c Z hZ _ _ => hB57.block b (blkLt hZ))
      have B7 := H5.out.2.2.trans (hB57.mono H5.out.2.2.size)
      have hz7 := hB57.size
      have hlb := blkLt hbox
      obtain ⟨kvs, hc1, hc2, hcf, hc4⟩ := c7
      obtain ⟨i36, z36, hi, hz0, hz1, hz2, hz3⟩ := info36
      have HI := hide' (And.intro hi (And.intro hz0 (And.intro hz1 (And.intro hz2 hz3))))
      have HC7 := hide' (And.intro hc1 (And.intro hc2 (And.intro hcf hc4)))
      have HK7 := hide' (And.intro k7 B7)
      have HNw := hide' (show ∀ (i : Nat) (u : Value), [Value.int IntKind.i64 k, .slice ka kn kc, .string val, .string ⟨#[]⟩, .bool false, .int .i64 0][i]? = some u → (w7.alloc (.cells #[.int .i64 k, .slice ka kn kc, .string val, .string ⟨#[]⟩, .bool false, .int .i64 0] 36)).cell? ((⟨w7.heap.size, 0, none⟩ : Addr).add i) = some u from World.news_of_block (cs := #[.int .i64 k, .slice ka kn kc, .string val, .string ⟨#[]⟩, .bool false, .int .i64 0]) (blkNew w7 _))
      have hdl : cs.length ≤ 50 := by have := HJ.out.2.1; omega
      clear hb7 hbox hB57 hc1 hc2 hcf hc4 hi hz0 hz1 hz2 hz3 k7 B7 HA6
      go_wp2_with (first
        | (at_builtin; refine wpList_append_own_at _ rfl _ _ _ rfl w.heap.size 36 i36 z36 6 80 Tryz.underlying28 HI.out.1 HI.out.2.1 HI.out.2.2.1 HI.out.2.2.2.1 HI.out.2.2.2.2 (by omega) (.slice va vn vc) cs.length (cmdCells cs kvs) rfl (World.ownsRow.alloc HC7.out.2.1 _) ⟨w7.heap.size, 0, none⟩ 1 1 [Value.int IntKind.i64 k, .slice ka kn kc, .string val, .string ⟨#[]⟩, .bool false, .int .i64 0] rfl rfl HNw.out (by simp [Value.oneCell']) (by unfold maxLen; omega) (by omega) (by have := HK7.out.2.size; simp; omega) ?_; intro v' w9 hown hgrow hnil hat; obtain ⟨ua, un, uc, huf⟩ := own_form hown; subst huf; have HG := hide' (And.intro hown hgrow); clear hown hgrow hnil hat)
        | fail)
      go_roundw
      case rel =>
        obtain ⟨hc1, hc2, hcf, hc4⟩ := HC7.out
        have Ba : Below w7.heap.size w7 (w7.alloc (.cells #[.int .i64 k, .slice ka kn kc, .string val, .string ⟨#[]⟩, .bool false, .int .i64 0] 36)) := (Below.refl _ _).alloc (Nat.le_refl _) _
        have hsn : CmdsIn w9 w.heap.size (.slice ua un uc) (cs ++ [⟨k, ss, val, noB, false, 0⟩]) :=
          CmdsIn.snoc (W := w7.alloc (.cells #[.int .i64 k, .slice ka kn kc, .string val, .string ⟨#[]⟩, .bool false, .int .i64 0] 36)) (c := ⟨k, ss, val, noB, false, 0⟩) hc1 hcf (fun i c kv hci hkv => (hc4 i c kv hci hkv).other (Nat.le_refl _) (fun b c Z hZ _ _ => Ba.block b (blkLt hZ)))
            (CmdsIn.row (World.ownsRow.alloc hc2 _)) (HK7.out.1.other (Nat.le_refl _) (fun b c Z hZ _ _ => Ba.block b (blkLt hZ))) HG.out.2 HG.out.1
        have hgr := HG.out.2
        have hb9 : Below w.heap.size w w9 := (HK7.out.2.alloc HK7.out.2.size _).trans ⟨hgr.os, hgr.tape, hgr.output, hgr.size, fun k' hk' => hgr.block k' (by have := HK7.out.2.size; simp; omega) (fun e => by
          rcases hc2.2 with ⟨e2, _⟩ | ⟨g', cap, cur, e2, hl, _, _⟩
          · rw [e2] at e; cases e
          · rw [e2] at e
            have e3 : k' = g' := by simpa [Value.ownBlock] using e
            omega)⟩
        refine ⟨j + 1, cs ++ [⟨k, ss, val, noB, false, 0⟩], S ++ T, ua, un, uc, by go_num, rfl, rfl, by omega, by rw [ByteArray.size_append]; omega, hsn, ?_, ?_, ?_, hb9⟩
        · rw [List.length_append, HJ.out.2.1]; rfl
        · rw [toList_app, HJ.out.2.2.1, asksFrom_snoc, Nat.zero_add, HJ.out.2.1]
          show _ = _ ++ (askS d k ss val (j : Int)).data.toList
          rw [HTT.out]
        · intro x hx
          rcases List.mem_append.1 hx with h | h
          · exact HJ.out.2.2.2.1 x h
          · rw [List.mem_singleton] at h
            subst h
            exact ⟨hcb, rfl, rfl, rfl, fun h => by have := HO1.out h; exact this⟩
      case measure => simp [intOf]; omega
    · have hgo' := hide' hgo
      clear hgo
      have fin : CmdsIn wr w.heap.size (.slice va vn vc) cs ∧ S.data.toList = asksFrom d 0 cs ∧ (∀ x ∈ cs, GoodC d x) ∧ cs.length ≤ most ∧ S.size ≤ 15000 ∧ Below w.heap.size w wr :=
        ⟨HJ.out.1, HJ.out.2.2.1, HJ.out.2.2.2.1, by rw [HJ.out.2.1]; exact hj, by omega, HJ.out.2.2.2.2⟩
      have HF := hide' fin
      clear fin
      by_cases g1 : 5 * j < n
      · have g1' : 5 * (j : Int) < (n : Int) := by omega
        have g2' : ¬ (j : Int) < (most : Int) := by intro h; exact hgo'.out ⟨g1, by omega⟩
        go_wp2
        go_ret3
        exact ⟨.slice va vn vc, S, rfl, cs, HF.out⟩
      · have g1' : ¬ 5 * (j : Int) < (n : Int) := by omega
        go_wp2
        go_ret3
        exact ⟨.slice va vn vc, S, rfl, cs, HF.out⟩
end Go.Proofs.YtlonjggfnleolaaGreatDoor


/-
  junctionkeep: fed.
-/

namespace Go.Proofs.YtlonjggfnleolaaGreatDoor
open Go.RowKit
set_option linter.unusedVariables false

theorem drain_len (d : Int) : ∀ (n : Nat) (s : St), s.held.length ≤ n → (drainS d s).1.length + (drainS d s).2.held.length ≤ s.held.length := by
  intro n
  induction n with
  | zero =>
    intro s hn
    have h0 : s.held = [] := List.length_eq_zero_iff.1 (by omega)
    have hr : readR d s.held = none := by rw [h0, readR_nil]
    rw [drainS_none hr]
    simp
  | succ n ih =>
    intro s hn
    cases hr : readR d s.held with
    | none => rw [drainS_none hr]; simp
    | some t =>
      have hl := afterS_len hr
      have := ih (afterS s t) (by omega)
      rw [drainS_some hr, List.length_cons]
      show (drainS d (afterS s t)).1.length + 1 + (drainS d (afterS s t)).2.held.length ≤ _
      omega
theorem feed_len (d : Int) (s : St) (p : List UInt8) : (feedS d s p).1.length + (feedS d s p).2.held.length ≤ s.held.length + p.length := by
  unfold feedS
  have h1 := drain_len d _ (takeS s p) (Nat.le_refl _)
  have h2 := takeS_len s p
  omega
theorem cmdCells_one : ∀ (cs : List Cmd) (kvs : List Value), (∀ kv ∈ kvs, ∃ a n c, kv = .slice a n c) → ∀ u ∈ cmdCells cs kvs, u.oneCell' = true := by
  intro cs
  induction cs with
  | nil => intro kvs _ u hu; simp [cmdCells] at hu
  | cons x cs ih =>
    intro kvs h u hu
    cases kvs with
    | nil => simp [cmdCells] at hu
    | cons y kvs =>
      simp only [cmdCells, List.mem_append] at hu
      rcases hu with hu | hu
      · obtain ⟨a, n, c, rfl⟩ := h y (by simp)
        simp [cmdA] at hu
        rcases hu with rfl | rfl | rfl | rfl | rfl | rfl <;> rfl
      · exact ih kvs (fun kv hk => h kv (by simp [hk])) u hu
theorem CmdsIn.app {W W' : World} {lo : Nat} {v v' : Value} {cs cs2 : List Cmd} {kvs kvs2 : List Value} (h1 : kvs.length = cs.length) (hf : ∀ kv ∈ kvs, ∃ a n c, kv = .slice a n c) (h4 : ∀ (i : Nat) (c : Cmd) (kv : Value), cs[i]? = some c → kvs[i]? = some kv → KeysIn W lo kv c.keys)
    (g1 : kvs2.length = cs2.length) (gf : ∀ kv ∈ kvs2, ∃ a n c, kv = .slice a n c) (g4 : ∀ (i : Nat) (c : Cmd) (kv : Value), cs2[i]? = some c → kvs2[i]? = some kv → KeysIn W lo kv c.keys)
    (hrow : ∀ g, v.ownBlock = some g → ∀ Z f, W.heap[g]? ≠ some (.cells Z 9 f)) (hg : W.grownBy W' v.ownBlock)
    (ho : W'.ownsRow lo 36 6 v' (cs.length + cs2.length) (cmdCells cs kvs ++ cmdCells cs2 kvs2)) : CmdsIn W' lo v' (cs ++ cs2) := by
  have keep : ∀ {kv : Value} {ss : List ByteArray}, KeysIn W lo kv ss → KeysIn W' lo kv ss := fun h => h.other (Nat.le_refl _) (fun b c Z hZ _ _ => hg.block b (blkLt hZ) (fun e => hrow b e.symm Z _ hZ))
  refine ⟨kvs ++ kvs2, by simp [h1, g1], ?_, ?_, ?_⟩
  · rw [cmdCells_app cs kvs cs2 kvs2 h1, List.length_append]; exact ho
  · intro kv hkv
    rcases List.mem_append.1 hkv with h | h
    · exact hf kv h
    · exact gf kv h
  · intro i c' kv hc hkv
    by_cases hi : i < cs.length
    · rw [List.getElem?_append_left hi] at hc
      rw [List.getElem?_append_left (by omega)] at hkv
      exact keep (h4 i c' kv hc hkv)
    · rw [List.getElem?_append_right (by omega)] at hc
      rw [List.getElem?_append_right (by omega), h1] at hkv
      exact keep (g4 _ c' kv hc hkv)
theorem wpList_append_nothing (w : World) {ops : Array Oper} {rest : List Oper} {o : Oper} {a : Act} {Q : Exit → Act → World → Prop} (hgd : o.guard = none) (sl x : Operand)
    (ho : o.op = .call { callee := .builtin .append, args := #[sl, x], argTypes := #[28, 28] })
    (lo : Nat) (v : Value) (n : Nat) (xs : List Value) (hs : a.eval sl = v) (hown : w.ownsRow lo 36 6 v n xs) (hx : a.eval x = .slice none 0 0)
    (h : wpList Tryz.prog ops Q rest (a.put o.dst v) w) : wpList Tryz.prog ops Q (o :: rest) a w := by
  refine wpList_plain hgd fun K hK => ?_
  obtain ⟨i36, z36, hi, _⟩ := info36
  have hr := run_append_owned_none (P := Tryz.prog) w lo 28 o.type 36 i36 6 Tryz.underlying28 hi v n xs hown
  unfold Oper.wp execOp
  simp only [ho, resolve, invoke, builtin, Sem.run_bind, Sem.run_pure, Result.andThen_ok, List.map_toArray, List.map_cons, List.map_nil, hs, hx, hr]
  exact hK _ _ h

theorem CmdsIn.lo {W : World} {lo lo' : Nat} {v : Value} {cs : List Cmd} (h : CmdsIn W lo v cs) (hl : lo' ≤ lo) : CmdsIn W lo' v cs := by
  obtain ⟨kvs, g1, ⟨g2, g3⟩, g4, g5⟩ := h
  refine ⟨kvs, g1, ⟨g2, ?_⟩, g4, fun i c kv h1 h2 => (g5 i c kv h1 h2).other hl (fun _ _ _ _ _ _ => rfl)⟩
  rcases g3 with h | ⟨g, cap, cur, e, h5, h6⟩
  · exact .inl h
  · exact .inr ⟨g, cap, cur, e, by omega, h6⟩
theorem RdrAt.grown {W W' : World} {D t : Nat} {hb : Option Nat} {s : St} {v : Value} {lo n : Nat} {xs : List Value} (R : RdrAt W D hb t s) (ho : W.ownsRow lo 36 6 v n xs) (hg : W.grownBy W' v.ownBlock) : RdrAt W' D hb t s := by
  have key : ∀ g, v.ownBlock = some g → g ≠ D ∧ some g ≠ hb := fun g hgv => by
    rcases ho.2 with ⟨e, _⟩ | ⟨g', cap, cur, e, _, h6, _⟩
    · rw [e] at hgv; cases hgv
    · rw [e] at hgv
      cases hgv
      exact R.apart h6 (by decide) (by decide)
  obtain ⟨lD, lb⟩ := R.lt
  exact R.other (hg.block D lD (fun e => (key D e.symm).1 rfl)) (fun b hb' => hg.block b (lb b hb') (fun e => (key b e.symm).2 hb'.symm))
theorem extract_take (S : ByteArray) (k : Nat) : (S.extract 0 k).data.toList = S.data.toList.take k := by simp
theorem extract_drop (S : ByteArray) (k : Nat) : (S.extract k S.size).data.toList = S.data.toList.drop k := by
  rw [ByteArray.data_extract, Array.toList_extract]
  simp only [List.extract_eq_take_drop]
  rw [List.take_of_length_le]
  rw [List.length_drop, len_size]
  exact Nat.le_refl _
def strSz : Value → Nat
  | .string s => s.size
  | _ => 0
/-- Within fed: a reader at D, what was read of the bytes p. -/
structure FedAt (w W : World) (d : Int) (D t : Nat) (hb : Option Nat) (v : Value) (p : List UInt8) : Prop where
  cmds : CmdsIn W w.heap.size v (feedS d st0 p).1
  rdr : RdrAt W D hb t (feedS d st0 p).2
  hbl : ∀ b, hb = some b → w.heap.size ≤ b
  hD : w.heap.size ≤ D
  bel : Below w.heap.size w W

theorem feed_split (d : Int) (p q : List UInt8) : (feedS d st0 (p ++ q)).1 = (feedS d st0 p).1 ++ (feedS d (feedS d st0 p).2 q).1 ∧ (feedS d st0 (p ++ q)).2 = (feedS d (feedS d st0 p).2 q).2 := by
  rw [feed_cut d st0 p q st0_ok]
  exact ⟨rfl, rfl⟩

/-- Behind one piece, ahead of the append. -/
theorem FedAt.step {w W W3 : World} {d : Int} {t : Nat} {hb hb' : Option Nat} {v v2 : Value} {p q : List UInt8} (h : FedAt w W d w.heap.size t hb v p) (G : CmdsIn W3 W.heap.size v2 (feedS d (feedS d st0 p).2 q).1) (R : RdrAt W3 w.heap.size hb' t (feedS d (feedS d st0 p).2 q).2) (F : Fresh W hb hb') (T : Turn2 w.heap.size hb W W3) :
    CmdsIn W3 w.heap.size v (feedS d st0 p).1 ∧ CmdsIn W3 w.heap.size v2 (feedS d (feedS d st0 p).2 q).1 ∧ RdrAt W3 w.heap.size hb' t (feedS d st0 (p ++ q)).2 ∧ (∀ b, hb' = some b → w.heap.size ≤ b) ∧ Below w.heap.size w W3 := by
  have hs := h.bel.size
  refine ⟨h.cmds.rdr ⟨⟨hb', R, F⟩, T⟩ h.rdr, G.lo hs, by rw [(feed_split d p q).2]; exact R, fun b e => ?_, h.bel.trans ⟨T.os, T.tape, T.output, T.size, fun k hk => T.block k (by omega) (by omega) (fun e => by have := h.hbl k e.symm; omega)⟩⟩
  rcases F with f | f | ⟨k, f, hk⟩
  · exact h.hbl b (by rw [← f]; exact e)
  · rw [f] at e; cases e
  · rw [f] at e; cases e; omega

set_option maxRecDepth 20000 in
set_option maxHeartbeats 2000000 in
theorem fed_any (d : Int) (s0 : ByteArray) (a : Option Addr) (n c : Nat) (xs : List Int) (w : World) (h : RawIn w a n c xs) (hd : d = 1 ∨ d = 2 ∨ d = 3) (hs : s0.size ≤ 100000000) :
    Calls Tryz.prog 19 #[.int .i64 d, .string s0, .slice a n c] w fun e w' => ∃ v, e = .returned (.tuple #[v, .int .i64 ((feedS d st0 s0.data.toList).2.held.length : Int), .bool true]) ∧ CmdsIn w' w.heap.size v (feedS d st0 s0.data.toList).1 ∧ Below w.heap.size w w' := by
  have HRaw := hide' h
  have hsm := h.small
  have HDec := hide' (fun W => decoder_any d W hd)
  have HdT := hide' (dT_ty hd)
  clear h
  go_enter Tryz.func19, Tryz.ntmps19
  go_wp2_with fail
  go_at_call 43
  refine (HDec.out _).mono ?_
  rintro e w1 ⟨rfl, hw1⟩
  have H0 : Hid (FedAt w w1 d w.heap.size (tyOf d) none (.slice none 0 0) []) := by
    have hb : Below w.heap.size w w1 := by rw [hw1]; exact (Below.refl _ _).alloc (Nat.le_refl _) _
    refine ⟨?_, ?_, fun b h => (by cases h), Nat.le_refl _, hb⟩
    · have : (feedS d st0 []).1 = [] := by rw [feed_nil st0_ok (readR_nil d)]
      rw [this]; exact CmdsIn.nil _ _
    · have : (feedS d st0 []).2 = st0 := by rw [feed_nil st0_ok (readR_nil d)]
      rw [this, hw1]; exact rdr_new w _
  clear hw1 HDec
  go_wp2
  go_loopw [1, 11, 12] (fun s o i wr => ∃ (j : Nat) (S : ByteArray) (va : Option Addr) (vn vc : Nat) (hb : Option Nat) (p : List UInt8), i = .int .i64 j ∧ s = .string S ∧ o = .slice va vn vc ∧ j + S.size ≤ s0.size ∧ Hid (FedAt w wr d w.heap.size (tyOf d) hb (.slice va vn vc) p ∧ p ++ S.data.toList = s0.data.toList)) (fun s _ _ _ => strSz s)
  case atStart => exact ⟨0, s0, none, 0, 0, none, [], rfl, rfl, rfl, by omega, H0.out, rfl⟩
  case round =>
    obtain ⟨j, S, va, vn, vc, hb, p, rfl, rfl, rfl, hjS, HJ⟩ := hrel
    by_cases hS : 0 < S.size
    · have hS' : (0 : Int) < (S.size : Int) := by omega
      have HR := hide' (raw_any a n c xs j wr (HRaw.out.later HJ.out.1.bel) (by omega))
      have HP := hide' (fun W => pick_big (rawN xs j) S.size W (rawN_wf HRaw.out j) hS (by omega))
      have hm := pickN_lt (rawN xs j) S.size hS
      generalize pickN (rawN xs j) S.size = m at *
      generalize rawN xs j = rv at *
      obtain ⟨nn, hnn⟩ : ∃ nn : Nat, nn = 1 + m := ⟨_, rfl⟩
      have z1 : (1 : Int) + (m : Int) = (nn : Int) := by omega
      have hn1 : nn ≤ S.size := by omega
      have hn2 : 1 ≤ nn := by omega
      have hn1' : (nn : Int) ≤ (S.size : Int) := by omega
      clear hnn hm
      have hpl : p.length + S.size = s0.size := by
        have := congrArg List.length HJ.out.2
        rw [List.length_append, len_size, len_size] at this
        exact this
      have hfl := feed_len d st0 p
      have hst0 : st0.held.length = 0 := rfl
      have hxs : (S.extract 0 nn).size = nn := by simp; omega
      have HFd := hide' (feed_any w.heap.size (tyOf d) d hb (feedS d st0 p).2 (S.extract 0 nn) wr HdT.out HJ.out.1.rdr (by rw [hxs]; omega))
      go_wp2_with fail
      go_at_call 37
      refine HR.out.mono ?_
      rintro e w2 ⟨rfl, hw2⟩
      subst hw2
      go_wp2_with fail
      go_at_call 17
      refine (HP.out _).mono ?_
      rintro e w2 ⟨rfl, hw2⟩
      subst hw2
      go_wp2_with fail
      go_at_call 44
      refine HFd.out.mono ?_
      rintro e w3 ⟨v, hb', rfl, G3, R3, F3, T3⟩
      obtain ⟨s1, s2, s3, s4, s5⟩ := HJ.out.1.step G3 R3 F3 T3
      have hcl : (feedS d st0 p).1.length + (feedS d (feedS d st0 p).2 (S.extract 0 nn).data.toList).1.length ≤ 100000000 := by
        have h1 := feed_len d (feedS d st0 p).2 (S.extract 0 nn).data.toList
        rw [len_size, hxs] at h1
        omega
      have hq1 : p ++ (S.extract 0 nn).data.toList ++ (S.extract nn S.size).data.toList = s0.data.toList := by
        rw [extract_take, extract_drop, List.append_assoc, List.take_append_drop]; exact HJ.out.2
      have hsp := (feed_split d p (S.extract 0 nn).data.toList).1
      have hx2 : (S.extract nn S.size).size = S.size - nn := by simp
      have HS := hide' (And.intro s3 (And.intro s4 (And.intro s5 (And.intro hq1 hsp))))
      obtain ⟨kvs, a1, a2, a3, a4⟩ := s1
      obtain ⟨kvs2, b1, b2, b3, b4⟩ := s2
      have HA := hide' (And.intro a1 (And.intro a2 (And.intro a3 a4)))
      have HB := hide' (And.intro b1 (And.intro b2 (And.intro b3 b4)))
      generalize (feedS d (feedS d st0 p).2 (S.extract 0 nn).data.toList).1 = outs at *
      generalize hcs1 : (feedS d st0 p).1 = cs1 at *
      have HZ1 := hide' hcs1
      clear G3 R3 F3 T3 s3 s4 s5 a1 a2 a3 a4 b1 b3 b4 hq1 hsp HFd HR HP hcs1
      rcases b2.2 with ⟨hv, ho0⟩ | ⟨g, cap, cur, hv, hlo, hgc, hnc, hcm, hcs, htk⟩
      · subst hv
        have ho : outs = [] := List.length_eq_zero_iff.1 ho0
        subst ho
        clear b2 ho0
        go_wp2_with (first
          | (at_builtin; refine wpList_append_nothing _ rfl _ _ rfl w.heap.size (.slice va vn vc) cs1.length (cmdCells cs1 kvs) rfl HA.out.2.1 rfl ?_)
          | fail)
        go_roundw
        case rel =>
          obtain ⟨s3, s4, s5, hq1, hsp⟩ := HS.out
          refine ⟨j + 1, S.extract nn S.size, va, vn, vc, hb', p ++ (S.extract 0 nn).data.toList, by go_num, rfl, rfl, by rw [hx2]; omega, ⟨?_, s3, s4, Nat.le_refl _, s5⟩, hq1⟩
          rw [hsp, List.append_nil]
          exact ⟨kvs, HA.out.1, HA.out.2.1, HA.out.2.2.1, HA.out.2.2.2⟩
        case measure => simp only [strSz]; rw [hx2]; omega
      · subst hv
        obtain ⟨i36, z36, hi, hz0, hz1, hz2, hz3⟩ := info36
        have HI := hide' (And.intro hi (And.intro hz0 (And.intro hz1 (And.intro hz2 hz3))))
        have HNw : Hid (∀ (i : Nat) (u : Value), (cmdCells outs kvs2)[i]? = some u → w3.cell? ((⟨g, 0, none⟩ : Addr).add i) = some u) := fun i u hu => by
          have hadd : (⟨g, 0, none⟩ : Addr).add i = ⟨g, i, none⟩ := by unfold Addr.add; split <;> simp_all
          rw [hadd, blkCell hgc i]
          rw [← htk] at hu
          have hlt := (List.getElem?_eq_some_iff.1 hu).1
          have hlt2 : i < outs.length * 6 := by simp at hlt; omega
          rw [List.getElem?_take_of_lt hlt2] at hu
          simpa using hu
        have HLn := hide' (cmdCells_len outs kvs2 HB.out.1)
        have HOn := hide' (cmdCells_one outs kvs2 HB.out.2.2.1)
        have hbase : w.heap.size ≤ w3.heap.size := HS.out.2.2.1.size
        clear b2 hgc htk hi hz0 hz1 hz2 hz3
        generalize hol : outs.length = ol at *
        have HOL := hide' hol
        generalize hcl1 : cs1.length = cl at *
        have HCL := hide' hcl1
        clear hol hcl1
        go_wp2_with (first
          | (at_builtin; refine wpList_append_own_at _ rfl _ _ _ rfl w.heap.size 36 i36 z36 6 80 Tryz.underlying28 HI.out.1 HI.out.2.1 HI.out.2.2.1 HI.out.2.2.2.1 HI.out.2.2.2.2 (by omega) (.slice va vn vc) cl (cmdCells cs1 kvs) rfl HA.out.2.1 ⟨g, 0, none⟩ ol cap (cmdCells outs kvs2) rfl HLn.out HNw.out HOn.out (by unfold maxLen; omega) (by omega) hbase ?_; intro v' w9 hown hgrow hnil hat; obtain ⟨ua, un, uc, huf⟩ := own_form hown; subst huf; have HG := hide' (And.intro hown hgrow); clear hown hgrow hnil hat)
          | fail)
        go_roundw
        case rel =>
          obtain ⟨s3, s4, s5, hq1, hsp⟩ := HS.out
          have hown := HG.out.1
          have hgr := HG.out.2
          rw [← HCL.out, ← HOL.out] at hown
          have ha2 := HA.out.2.1
          rw [← HCL.out] at ha2
          refine ⟨j + 1, S.extract nn S.size, ua, un, uc, hb', p ++ (S.extract 0 nn).data.toList, by go_num, rfl, rfl, by rw [hx2]; omega, ⟨?_, s3.grown ha2 hgr, s4, Nat.le_refl _, ?_⟩, hq1⟩
          · rw [hsp]
            exact CmdsIn.app (by rw [HA.out.1, HCL.out]) HA.out.2.2.1 HA.out.2.2.2 (by rw [HB.out.1, HOL.out]) HB.out.2.2.1 HB.out.2.2.2 (CmdsIn.row ha2) hgr hown
          · exact s5.trans ⟨hgr.os, hgr.tape, hgr.output, hgr.size, fun k' hk' => hgr.block k' (by omega) (fun e => by
              rcases ha2.2 with ⟨e2, _⟩ | ⟨g', cap', cur', e2, hl, _, _⟩
              · rw [e2] at e; cases e
              · rw [e2] at e
                have e3 : k' = g' := by simpa [Value.ownBlock] using e
                omega)⟩
        case measure => simp only [strSz]; rw [hx2]; omega
    · have hS0 : S.size = 0 := by omega
      have hS' : ¬ ((0 : Int) < (S.size : Int)) := by omega
      have hp : p = s0.data.toList := by
        have h1 := HJ.out.2
        have h2 : S.data.toList = [] := List.length_eq_zero_iff.1 (by rw [len_size]; exact hS0)
        rw [h2, List.append_nil] at h1
        exact h1
      subst hp
      have hfl := feed_len d st0 s0.data.toList
      have hst0 : st0.held.length = 0 := rfl
      have hz : (⟨#[]⟩ : ByteArray).size = 0 := rfl
      have HFd := hide' (feed_any w.heap.size (tyOf d) d hb (feedS d st0 s0.data.toList).2 ⟨#[]⟩ wr HdT.out HJ.out.1.rdr (by rw [hz]; have := len_size s0; omega))
      go_wp2_with fail
      go_at_call 44
      refine HFd.out.mono ?_
      rintro e w3 ⟨v, hb', rfl, G3, R3, F3, T3⟩
      have hok := feed_nil (feed_ok d st0 s0.data.toList st0_ok).1 (feed_ok d st0 s0.data.toList st0_ok).2
      rw [hok] at G3 R3
      have hv : ∃ va2 vc2, v = .slice va2 0 vc2 := by
        obtain ⟨kvs2, b1, b2, b3, b4⟩ := G3
        rcases b2.2 with ⟨hv, _⟩ | ⟨g, cap, cur, hv, _⟩
        · exact ⟨_, _, hv⟩
        · exact ⟨_, _, hv⟩
      obtain ⟨va2, vc2, rfl⟩ := hv
      have HR3 := hide' (rest_any w.heap.size (tyOf d) hb' (feedS d st0 s0.data.toList).2 w3 R3)
      have fin : CmdsIn w3 w.heap.size (.slice va vn vc) (feedS d st0 s0.data.toList).1 ∧ Below w.heap.size w w3 := by
        refine ⟨HJ.out.1.cmds.rdr ⟨⟨hb', R3, F3⟩, T3⟩ HJ.out.1.rdr, HJ.out.1.bel.trans ⟨T3.os, T3.tape, T3.output, T3.size, fun k hk => T3.block k (by have := HJ.out.1.bel.size; omega) (by omega) (fun e => by have := HJ.out.1.hbl k e.symm; omega)⟩⟩
      have HF := hide' fin
      clear fin G3 R3 F3 T3 hok HFd
      go_wp2_with fail
      go_at_call 46
      refine HR3.out.mono ?_
      rintro e w4 ⟨rfl, q4, hw4⟩
      subst hw4
      go_wp2
      go_ret3
      refine ⟨.slice va vn vc, rfl, HF.out.1.below ?_, ?_⟩
      · exact ⟨rfl, rfl, rfl, Nat.le_refl _, fun _ _ => rfl⟩
      · exact HF.out.2.trans ⟨rfl, rfl, rfl, Nat.le_refl _, fun _ _ => rfl⟩
end Go.Proofs.YtlonjggfnleolaaGreatDoor


/-
  junctionkeep: Round.
-/

namespace Go.Proofs.YtlonjggfnleolaaGreatDoor
open Go.RowKit
set_option linter.unusedVariables false

/-- The commands as they are read: with their numbers, in frames. -/
def idsFrom (d : Int) : Nat → List Cmd → List Cmd
  | _, [] => []
  | i, c :: cs => ⟨c.kind, c.keys, c.val, c.word, c.fatal, if d = 2 then (i : Int) else 0⟩ :: idsFrom d (i + 1) cs
theorem idsFrom_len (d : Int) : ∀ (cs : List Cmd) (i : Nat), (idsFrom d i cs).length = cs.length := by
  intro cs
  induction cs with
  | nil => intro i; rfl
  | cons c cs ih => intro i; simp only [idsFrom, List.length_cons, ih (i + 1)]
theorem idsFrom_get (d : Int) : ∀ (cs : List Cmd) (i j : Nat) (c : Cmd), cs[j]? = some c → (idsFrom d i cs)[j]? = some ⟨c.kind, c.keys, c.val, c.word, c.fatal, if d = 2 then ((i + j : Nat) : Int) else 0⟩ := by
  intro cs
  induction cs with
  | nil => intro i j c h; simp at h
  | cons x cs ih =>
    intro i j c h
    cases j with
    | zero =>
      simp only [List.getElem?_cons_zero, Option.some.injEq] at h
      subst h
      simp only [idsFrom, List.getElem?_cons_zero, Nat.add_zero]
    | succ j =>
      rw [List.getElem?_cons_succ] at h
      have := ih (i + 1) j c h
      simp only [idsFrom, List.getElem?_cons_succ]
      rw [this]
      have e : i + 1 + j = i + (j + 1) := by omega
      rw [e]
theorem drain_asks (d : Int) (hd : d = 1 ∨ d = 2 ∨ d = 3) : ∀ (cs : List Cmd) (i : Nat), (∀ x ∈ cs, GoodC d x) → i + cs.length ≤ 65535 → drainS d ⟨asksFrom d i cs, false, false⟩ = (idsFrom d i cs, st0) := by
  intro cs
  induction cs with
  | nil => intro i _ _; exact drainS_none (s := ⟨[], false, false⟩) (readR_nil d)
  | cons c cs ih =>
    intro i hg hl
    have g := hg c (by simp)
    rw [List.length_cons] at hl
    have hr := ask_round d c.kind c.keys c.val (i : Int) (asksFrom d (i + 1) cs) hd (askable_of g.cmd) (fun h => ⟨g.one h, by omega, by omega⟩)
    rw [drainS_some (s := ⟨asksFrom d i (c :: cs), false, false⟩) hr]
    have ha : afterS ⟨asksFrom d i (c :: cs), false, false⟩ ⟨⟨c.kind, c.keys, c.val, noB, false, if d = 2 then (i : Int) else 0⟩, (askS d c.kind c.keys c.val i).data.toList.length, false⟩ = ⟨asksFrom d (i + 1) cs, false, false⟩ := by
      unfold afterS
      simp only [asksFrom, Bool.false_eq_true, if_false, List.drop_left]
    rw [ha, ih (i + 1) (fun x hx => hg x (by simp [hx])) (by omega)]
    simp only [idsFrom, g.word, g.fatal]
theorem feed_asks (d : Int) (hd : d = 1 ∨ d = 2 ∨ d = 3) (cs : List Cmd) (hg : ∀ x ∈ cs, GoodC d x) (hl : cs.length ≤ 50) : feedS d st0 (asksFrom d 0 cs) = (idsFrom d 0 cs, st0) := by
  have ht : takeS st0 (asksFrom d 0 cs) = ⟨asksFrom d 0 cs, false, false⟩ := by simp [takeS, st0]
  unfold feedS
  rw [ht]
  exact drain_asks d hd cs 0 hg (by omega)

theorem cmdCells_at : ∀ (cs : List Cmd) (kvs : List Value) (j : Nat) (c : Cmd) (kv : Value), cs[j]? = some c → kvs[j]? = some kv → ∀ k, k < 6 → (cmdCells cs kvs)[j * 6 + k]? = (cmdA c kv)[k]? := by
  intro cs
  induction cs with
  | nil => intro kvs j c kv h; simp at h
  | cons x cs ih =>
    intro kvs j c kv h1 h2 k hk
    cases kvs with
    | nil => simp at h2
    | cons y kvs =>
      have hl : (cmdA x y).toList.length = 6 := rfl
      cases j with
      | zero =>
        simp only [List.getElem?_cons_zero, Option.some.injEq] at h1 h2
        subst h1 h2
        simp only [cmdCells, Nat.zero_mul, Nat.zero_add]
        rw [List.getElem?_append_left (by rw [hl]; exact hk)]
        simp
      | succ j =>
        rw [List.getElem?_cons_succ] at h1 h2
        simp only [cmdCells]
        rw [List.getElem?_append_right (by rw [hl]; omega), hl]
        have e : (j + 1) * 6 + k - 6 = j * 6 + k := by omega
        rw [e]
        exact ih kvs j c kv h1 h2 k hk
theorem CmdsIn.form {W : World} {lo : Nat} {v : Value} {cs : List Cmd} (h : CmdsIn W lo v cs) : ∃ a c, v = .slice a cs.length c := by
  obtain ⟨kvs, _, ⟨_, g3⟩, _⟩ := h
  rcases g3 with ⟨hv, h0⟩ | ⟨g, cap, cur, hv, _⟩
  · exact ⟨none, 0, by rw [hv, h0]⟩
  · exact ⟨_, _, hv⟩
theorem CmdsIn.at_ {W : World} {lo n' cap' : Nat} {a : Option Addr} {cs : List Cmd} (h : CmdsIn W lo (.slice a n' cap') cs) {j : Nat} {c : Cmd} (hc : cs[j]? = some c) : ∃ g ka kn kc, a = some ⟨g, 0, none⟩ ∧ g < W.heap.size ∧ n' ≤ cap' ∧ KeysIn W lo (.slice ka kn kc) c.keys ∧ ∀ k, k < 6 → W.cell? ⟨g, j * 6 + k, none⟩ = (cmdA c (.slice ka kn kc))[k]? := by
  obtain ⟨kvs, g1, ⟨g2, g3⟩, g4, g5⟩ := h
  have hj : j < cs.length := (List.getElem?_eq_some_iff.1 hc).1
  obtain ⟨kv, hkv⟩ : ∃ kv, kvs[j]? = some kv := ⟨_, List.getElem?_eq_getElem (by omega)⟩
  obtain ⟨ka, kn, kc, rfl⟩ := g4 kv (List.mem_of_getElem? hkv)
  rcases g3 with ⟨_, h0⟩ | ⟨g, cap, cur, hv, hlo, hgc, hnc, hcm, hcs, htk⟩
  · omega
  · cases hv
    refine ⟨g, ka, kn, kc, rfl, blkLt hgc, by omega, g5 j c _ hc hkv, fun k hk => ?_⟩
    rw [← cmdCells_at cs kvs j c _ hc hkv k hk, ← htk, blkCell hgc]
    have hlt : j * 6 + k < cs.length * 6 := by omega
    rw [List.getElem?_take_of_lt hlt]
    simp

set_option maxRecDepth 20000 in
set_option maxHeartbeats 2000000 in
theorem round_any (x : Int) (a1 : Option Addr) (n1 c1 : Nat) (xs1 : List Int) (a2 : Option Addr) (n2 c2 : Nat) (xs2 : List Int) (w : World) (hx : (Lit.int .i64 x).wf = true) (h1 : RawIn w a1 n1 c1 xs1) (h2 : RawIn w a2 n2 c2 xs2) :
    Calls Tryz.prog 6 #[.int .i64 x, .slice a1 n1 c1, .slice a2 n2 c2] w fun e w' => e = .returned (.bool true) ∧ Below w.heap.size w w' := by
  have HR1 := hide' h1
  have HR2 := hide' h2
  have HP := hide' (fun W => pick_big x 3 W hx (by omega) (by omega))
  have hm := pickN_lt x 3 (by omega)
  clear h1 h2
  generalize pickN x 3 = m at *
  obtain ⟨d, hd⟩ : ∃ d : Int, d = 1 + (m : Int) := ⟨_, rfl⟩
  have z1 : (1 : Int) + (m : Int) = d := hd.symm
  have hd3 : d = 1 ∨ d = 2 ∨ d = 3 := by omega
  have HD3 := hide' hd3
  have hdb : 1 ≤ d ∧ d ≤ 3 := by omega
  clear hd hd3
  go_enter Tryz.func6, Tryz.ntmps6
  go_wp2_with fail
  go_at_call 16
  refine (words_any _).mono ?_
  rintro e w1 ⟨rfl, hb1⟩
  have HB1 := hide' hb1
  clear hb1
  go_wp2_with fail
  go_at_call 17
  refine (HP.out _).mono ?_
  rintro e w2 ⟨rfl, hw2⟩
  subst hw2
  go_wp2_with fail
  go_at_call 18
  refine (said_any d 0 a1 n1 c1 xs1 50 _ (HR1.out.later HB1.out) HD3.out (by omega) (by omega)).mono ?_
  rintro e w3 ⟨v, s, cs, rfl, hcs, hs, hgood, hlen, hsz, hb3⟩
  obtain ⟨va, vc, rfl⟩ := hcs.form
  have HS := hide' (And.intro hcs (And.intro hs (And.intro hgood hb3)))
  clear hcs hs hgood hb3
  go_wp2_with fail
  go_at_call 19
  have hB3 : Below w.heap.size w w3 := HB1.out.trans (HS.out.2.2.2.mono HB1.out.size)
  refine (fed_any d s a2 n2 c2 xs2 w3 (HR2.out.later hB3) HD3.out (by omega)).mono ?_
  rw [HS.out.2.1, feed_asks d HD3.out cs HS.out.2.2.1 hlen]
  rintro e w4 ⟨v2, rfl, hcs2, hb4⟩
  obtain ⟨va2, vc2, rfl⟩ := hcs2.form
  rw [idsFrom_len] at *
  have HL : Hid (CmdsIn w4 w2.heap.size (.slice va cs.length vc) cs ∧ CmdsIn w4 w3.heap.size (.slice va2 cs.length vc2) (idsFrom d 0 cs) ∧ Below w.heap.size w w4) := ⟨HS.out.1.below hb4, hcs2, hB3.trans (hb4.mono hB3.size)⟩
  have HG := hide' HS.out.2.2.1
  clear hcs2 hb4 HS hB3 HP HR1 HR2
  have st : ((idsFrom d 0 cs, st0).snd.held.length : Int) = 0 := rfl
  generalize hcl : cs.length = cl at *
  have HCL := hide' hcl
  clear hcl
  go_wp2
  go_loopw [7, 15] (fun ok i wr => ∃ (j : Nat), i = .int .i64 j ∧ ok = .bool true ∧ j ≤ cl ∧ Hid (CmdsIn wr w2.heap.size (.slice va cl vc) cs ∧ CmdsIn wr w3.heap.size (.slice va2 cl vc2) (idsFrom d 0 cs) ∧ Below w.heap.size w wr)) (fun _ i _ => cl - (intOf i).toNat)
  case atStart => exact ⟨0, rfl, rfl, Nat.zero_le _, HL.out⟩
  case round =>
    obtain ⟨j, rfl, rfl, hj, HJ⟩ := hrel
    by_cases hlt : j < cl
    · have hlt' : (j : Int) < (cl : Int) := by omega
      obtain ⟨c, hc⟩ : ∃ c, cs[j]? = some c := ⟨_, List.getElem?_eq_getElem (by rw [HCL.out]; exact hlt)⟩
      have hc2 := idsFrom_get d cs 0 j c hc
      have gd := HG.out c (List.mem_of_getElem? hc)
      have hk := askable_of gd.cmd
      obtain ⟨g, ka, kn, kc, rfl, hgl, hcap, hK1, hcell1⟩ := HJ.out.1.at_ hc
      obtain ⟨g', ka', kn', kc', rfl, hgl', hcap', hK2, hcell2⟩ := HJ.out.2.1.at_ hc2
      obtain ⟨k, ss, val, wd, ft, id0⟩ := c
      have hw := gd.word
      have hf := gd.fatal
      have hi0 := gd.id
      simp only at hw hf hi0 hK1 hK2 hk
      subst hw hf hi0
      have hn1 := (keysIn_cells hK1).1
      have hn2 := (keysIn_cells hK2).1
      subst hn1
      obtain rfl : kn' = ss.length := hn2.symm
      have hkl := hk.len4
      have hks : ∀ s ∈ ss, s.size ≤ 1000 := fun s hs => by have := keyB_size (hk.keys s hs); omega
      have p0 := hcell1 0 (by omega)
      have p1 := hcell1 1 (by omega)
      have p2 := hcell1 2 (by omega)
      have p3 := hcell1 3 (by omega)
      have p4 := hcell1 4 (by omega)
      have p5 := hcell1 5 (by omega)
      have q0 := hcell2 0 (by omega)
      have q1 := hcell2 1 (by omega)
      have q2 := hcell2 2 (by omega)
      have q3 := hcell2 3 (by omega)
      have q4 := hcell2 4 (by omega)
      have q5 := hcell2 5 (by omega)
      simp only [cmdA] at p0 p1 p2 p3 p4 p5 q0 q1 q2 q3 q4 q5
      have HSm : Hid (∀ W, Below wr.heap.size wr W → ∀ i1 i2 : Int, Calls Tryz.prog 20 #[.agg #[.int .i64 k, .slice ka' ss.length kc', .string val, .string noB, .bool false, .int .i64 i1], .agg #[.int .i64 k, .slice ka ss.length kc, .string val, .string noB, .bool false, .int .i64 i2]] W fun e w' => e = .returned (.bool true) ∧ Below W.heap.size W w') := fun W hW i1 i2 =>
        same_yes k ka' ka ss.length kc' kc val noB false i1 i2 ss w3.heap.size w2.heap.size W (hK2.other (Nat.le_refl _) (fun b c Z hZ _ _ => hW.block b (blkLt hZ))) (hK1.other (Nat.le_refl _) (fun b c Z hZ _ _ => hW.block b (blkLt hZ))) (by omega) hks
      have hwr : (j : Int) + 1 ≤ 9223372036854775807 := by omega
      clear hcell1 hcell2 hK1 hK2 hc hc2 gd hk hks HG hn2
      by_cases hd2 : d = 2
      · subst hd2
        simp at p0 p1 p2 p3 p4 p5 q0 q1 q2 q3 q4 q5
        go_wp2
        go_region_law (first
          | (go_simp; go_at_call 20; refine (HSm.out _ ?hx _ _).mono ?_; (case hx => repeat (first | with_reducible exact Below.refl _ _ | with_reducible refine Below.drew ?_)); rintro e w5 ⟨rfl, hb5⟩; have hq5 : w5.cell? ⟨g', j * 6 + 5, none⟩ = some (.int .i64 (j : Int)) := (hb5.cell (p := ⟨g', j * 6 + 5, none⟩) hgl').trans q5; have HB5 := hide' (below_undrew hb5); clear hb5))
        all_goals go_wp2
        all_goals
          go_roundw
          case rel =>
            exact ⟨j + 1, by go_num, rfl, by omega, HJ.out.1.below HB5.out, HJ.out.2.1.below HB5.out, HJ.out.2.2.trans (HB5.out.mono HJ.out.2.2.size)⟩
          case measure => simp [intOf]; omega
      · rw [if_neg hd2] at q5
        simp at p0 p1 p2 p3 p4 p5 q0 q1 q2 q3 q4 q5
        go_wp2
        go_region_law (first
          | (go_simp; go_at_call 20; refine (HSm.out _ ?hx _ _).mono ?_; (case hx => repeat (first | with_reducible exact Below.refl _ _ | with_reducible refine Below.drew ?_)); rintro e w5 ⟨rfl, hb5⟩; have hq5 : w5.cell? ⟨g', j * 6 + 5, none⟩ = some (.int .i64 0) := (hb5.cell (p := ⟨g', j * 6 + 5, none⟩) hgl').trans q5; have HB5 := hide' (below_undrew hb5); clear hb5))
        all_goals go_wp2
        all_goals
          go_roundw
          case rel =>
            exact ⟨j + 1, by go_num, rfl, by omega, HJ.out.1.below HB5.out, HJ.out.2.1.below HB5.out, HJ.out.2.2.trans (HB5.out.mono HJ.out.2.2.size)⟩
          case measure => simp [intOf]; omega
    · have hlt' : ¬ (j : Int) < (cl : Int) := by omega
      go_wp2
      go_ret
      exact ⟨rfl, HJ.out.2.2⟩
end Go.Proofs.YtlonjggfnleolaaGreatDoor
