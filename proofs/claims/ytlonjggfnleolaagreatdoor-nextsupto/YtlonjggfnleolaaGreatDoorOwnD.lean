/-
  What the function that Next gives does with the example, for every yield.
-/
import Derived.Test.YtlonjggfnleolaaGreatDoorReaderNil
import Derived.RangeFuncNested
import Derived.RangeFuncBound
import Derived.RangeFuncCalls
import Derived.RangeFuncLeaves
import Derived.Shelf.Abstract
import Derived.Shelf.RegionOpen
import Derived.OwnWalkIn
import Derived.TacticsInMore
import Derived.LoopNIn
import Derived.LoopIn
import Derived.Test.YtlonjggfnleolaaGreatDoorRdrD
import Derived.Test.YtlonjggfnleolaaGreatDoorRefC
import Derived.Test.YtlonjggfnleolaaGreatDoorRefL
import Derived.Test.YtlonjggfnleolaaGreatDoorRefH
import Derived.Test.YtlonjggfnleolaaGreatDoorRefM
import Derived.Maps.OwnIn
import Derived.Test.YtlonjggfnleolaaGreatDoorAsks
import Derived.ArgAppend
import Derived.Maps.AppendAt
import Derived.Deep.DeepCutAuto

namespace Go.Proofs.YtlonjggfnleolaaGreatDoor
open Go.RowKit Go.Shelf
set_option linter.unusedVariables false
attribute [local go_sem] Oper.semAt_some

def boxR (D : Nat) : Obj := .cells #[.pointer (some ⟨D, 0, none⟩)] 97 (0, 0)
def cmdV (kb kc : Nat) : Value := .agg #[.int .i64 1, .slice (some ⟨kb, 0, none⟩) 1 kc, .string ⟨#[]⟩, .string ⟨#[]⟩, .bool false, .int .i64 0]

set_option maxRecDepth 20000 in
set_option maxHeartbeats 2000000 in
theorem next1_ex (n l X D g c : Nat) (W : World) (hX : W.heap[X]? = some (boxR D)) (hXD : X ≠ D) (hD : W.heap[D]? = some (rd3 (.slice (some ⟨g, 0, none⟩) 15 c) 0)) (hc : 15 ≤ c) (hg : g < W.heap.size) (hgD : g ≠ D)
    (hb : ∀ (i : Nat) (b : UInt8), exL[i]? = some b → W.cell? ⟨g, 0 + i, none⟩ = some (.int .u8 (b.toNat : Int)))
    (R : World → Prop)
    (hY : ∀ W1 kb kc, Turn D W W1 → W1.heap[D]? = some (rd3 (.slice none 0 0) 0) → W.heap.size ≤ kb → kb < W1.heap.size → W1.cell? ⟨kb, 0, none⟩ = some (.string ⟨#[97]⟩) →
      YieldAt Fence.wide (n - 1) Tryz.prog l #[cmdV kb kc] W1 fun e W' => e = .returned (.bool true) ∧ W'.heap[D]? = some (rd3 (.slice none 0 0) 0) ∧ W'.heap[X]? = some (boxR D) ∧ R W')
    (hR : ∀ W1 W2, R W1 → Below W1.heap.size W1 W2 → R W2) :
    CallsIn Fence.wide n Tryz.prog 120 #[.func (.yield l) #[] #[], .pointer (some ⟨X, 0, none⟩)] W fun e W' => (∃ v, e = .returned v) ∧ R W' := by
  have HX := hide' hX
  have HD := hide' hD
  have HY := hide' hY
  have HR := hide' hR
  have HB := hide' hb
  clear hD hY hR hb
  unfold boxR at hX
  have x0 := blkCell hX 0
  simp at x0
  clear hX
  refine callsIn_of_wp Tryz.func120 rfl trivial ?_ rfl
  simp only [Tryz.ntmps120, List.size_toArray, List.length_cons, List.length_nil, Nat.reduceAdd, Nat.reduceSub, Array.replicate_succ, Array.replicate_zero, List.push_toArray, List.append_toArray, List.nil_append, List.cons_append]
  gi_wp2
  refine wpIn_loop_rounds 2 ?_
  rw [roundsIn_succ]
  gi_wp2_with fail
  refine ⟨trivial, (fun h => (by cases h)), ?_⟩
  refine (callsIn_wide.2 (readR_ex D g c W HD.out hc hg hgD HB.out)).mono ?_
  rintro e w1 ⟨⟨kb, kc, rfl, hk1, hk2, hk3⟩, hD1, T1⟩
  have hsz1 := T1.size
  have hXlt := blkLt HX.out
  have hX1 := (T1.block X hXlt hXD).trans HX.out
  have hDlt := blkLt HD.out
  have TA := T1.alloc (Obj.cells #[.int .i64 1, .slice (some ⟨kb, 0, none⟩) 1 kc, .string ⟨#[]⟩, .string ⟨#[]⟩, .bool false, .int .i64 0] 36)
  have hy := HY.out _ kb kc TA ((Below.heap_alloc w1 _ D (by omega)).trans hD1) hk1 (by simp; omega) ((World.cell?_of_block (w := w1) (Below.heap_alloc w1 _ kb hk2)).trans hk3)
  unfold cmdV at hy
  obtain ⟨fn, tmps, assign, body, hy1, hy2⟩ := hy
  have HD1 := hide' hD1
  have HX1 := hide' hX1
  have HT1 := hide' T1
  have HY2 := hide' hy2
  clear hD1 hX1 T1 TA hk3 hy2
  gi_wp2
  refine ⟨(fun h => (by cases h)), HY2.out.mono ?_⟩
  rintro e W2 ⟨rfl, hD2, hX2, hR2⟩
  have HX2 := hide' hX2
  have HRR := hide' hR2
  unfold boxR at hX2
  have z0 := blkCell hX2 0
  simp at z0
  clear hX2 hR2 hy1 HY2 HT1 HX1 HD1
  gi_wp2
  rw [roundsIn_succ]
  gi_wp2_with fail
  refine ⟨trivial, (fun h => (by cases h)), ?_⟩
  refine (callsIn_wide.2 (readRd_nil D W2 hD2)).mono ?_
  rintro e w3 ⟨rfl, hD3, B3⟩
  have HB3 := hide' B3
  clear B3
  gi_wp2
  refine ⟨fun _ h => (by cases h), ?_⟩
  gi_wp2
  refine bodyPost_ret (results_none rfl _ _ _) rfl ?_
  refine ⟨⟨_, rfl⟩, HR.out _ _ HRR.out (HB3.out.trans ?_)⟩
  exact ((Below.refl _ _).alloc (HB3.out.size) _)
end Go.Proofs.YtlonjggfnleolaaGreatDoor


/-
  The function that Next gives, for every yield that goes on.
-/

namespace Go.Proofs.YtlonjggfnleolaaGreatDoor
open Go.RowKit Go.Shelf
set_option linter.unusedVariables false
attribute [local go_sem] Oper.semAt_some

theorem RdrAt.apart {W : World} {D t b T : Nat} {hb : Option Nat} {s : St} {Z : Array Value} {f : Nat × Nat} (R : RdrAt W D hb t s) (hZ : W.heap[b]? = some (.cells Z T f)) (h1 : T ≠ 134) (h2 : T ≠ 5) : b ≠ D ∧ some b ≠ hb := by
  obtain ⟨⟨v, u, hD, ⟨⟨all, ⟨h3, h4⟩, h5⟩, hbk⟩, hiv⟩, hne⟩ := R
  refine ⟨?_, ?_⟩
  · rintro rfl
    rw [hD] at hZ
    simp [rdO] at hZ
    exact h1 hZ.2.1.symm
  · rintro rfl
    rcases h4 with ⟨rfl, _⟩ | ⟨g, cap, cur, rfl, _, hg, _⟩
    · cases hbk
    · cases hbk
      rw [hg] at hZ
      simp at hZ
      exact h2 hZ.2.1.symm

/-- How many bytes a reader holds, read off its cells. -/
def heldLen (w : World) (D : Nat) : Nat :=
  match w.cell? ⟨D, 1, none⟩, w.cell? ⟨D, 2, none⟩ with
  | some (.slice _ n _), some (.int _ u) => n - u.toNat
  | _, _ => 0
theorem RdrAt.len {W : World} {D t : Nat} {hb : Option Nat} {s : St} (R : RdrAt W D hb t s) : heldLen W D = s.held.length := by
  obtain ⟨⟨v, u, hD, H, hiv⟩, hne⟩ := R
  obtain ⟨d0, d1, d2, _⟩ := rdCells hD
  unfold heldLen
  rw [d1, d2]
  rcases H.form with ⟨rfl, rfl, h3, _⟩ | ⟨g, n, c, all, rfl, _, _, h1, _, h2, h3, _⟩
  · rw [h3]; simp
  · rw [h3, List.length_drop, h1]; simp

def cmdA (c : Cmd) (kv : Value) : Array Value := #[.int .i64 c.kind, kv, .string c.val, .string c.word, .bool c.fatal, .int .i64 c.id]

set_option maxRecDepth 20000 in
set_option maxHeartbeats 2000000 in
theorem next1_any (l X D t : Nat) (d : Int) (W0 : World) (J : Option Nat → List Cmd → World → Prop)
    (hRead : ∀ W hb s, RdrAt W D hb t s → s.held.length ≤ 140737488355328 → Calls Tryz.prog 121 #[.pointer (some ⟨D, 0, none⟩)] W fun e w' => ReadOut W w' D hb t s (readR d s.held) e)
    (hB : ∀ hb done W W2, J hb done W → Below W.heap.size W W2 → J hb done W2)
    (hY : ∀ hb done W s x W1 ka kn kc, J hb done W → RdrAt W D hb t s → readR d s.held = some x → KeysIn W1 W.heap.size (.slice ka kn kc) x.c.keys → RdrTo W W1 D hb t (afterS s x) → W1.heap[X]? = some (boxR D) →
      YieldAt Fence.wide 7 Tryz.prog l #[.agg #[.int .i64 x.c.kind, .slice ka kn kc, .string x.c.val, .string x.c.word, .bool x.c.fatal, .int .i64 x.c.id]] (W1.alloc (.cells #[.int .i64 x.c.kind, .slice ka kn kc, .string x.c.val, .string x.c.word, .bool x.c.fatal, .int .i64 x.c.id] 36)) fun e W' => e = .returned (.bool true) ∧ ∃ hb', RdrAt W' D hb' t (afterS s x) ∧ W'.heap[X]? = some (boxR D) ∧ J hb' (done ++ [x.c]) W')
    (s : St) (hb : Option Nat) (R : RdrAt W0 D hb t s) (hX : W0.heap[X]? = some (boxR D)) (h0 : J hb [] W0) (hsm : s.held.length ≤ 140737488355328) :
    CallsIn Fence.wide 8 Tryz.prog 120 #[.func (.yield l) #[] #[], .pointer (some ⟨X, 0, none⟩)] W0 fun e W' => (∃ v, e = .returned v) ∧ ∃ hb', RdrAt W' D hb' t (drainS d s).2 ∧ J hb' (drainS d s).1 W' := by
  have HRd := hide' hRead
  have HB := hide' hB
  have HY := hide' hY
  have H0 := hide' (And.intro R (And.intro hX h0))
  clear hRead hB hY h0 R hX
  generalize hTOT : (drainS d s).1 = TOT
  generalize hFIN : (drainS d s).2 = FIN
  have HT := hide' (And.intro hTOT hFIN)
  clear hTOT hFIN
  refine callsIn_of_wp Tryz.func120 rfl trivial ?_ rfl
  simp only [Tryz.ntmps120, List.size_toArray, List.length_cons, List.length_nil, Nat.reduceAdd, Nat.reduceSub, Array.replicate_succ, Array.replicate_zero, List.push_toArray, List.append_toArray, List.nil_append, List.cons_append]
  gi_wp2
  gi_loopw [3, 4] (fun _ _ wr => ∃ (s' : St) (hb' : Option Nat) (done : List Cmd), s'.held.length ≤ 140737488355328 ∧ Hid (RdrAt wr D hb' t s' ∧ wr.heap[X]? = some (boxR D) ∧ J hb' done wr ∧ done ++ (drainS d s').1 = TOT ∧ (drainS d s').2 = FIN)) (fun _ _ wr => heldLen wr D)
  case atStart => exact ⟨s, hb, [], hsm, H0.out.1, H0.out.2.1, H0.out.2.2, by rw [List.nil_append]; exact HT.out.1, HT.out.2⟩
  case round =>
    obtain ⟨s', hb', done, hsm', HJ⟩ := hrel
    have hXw := HJ.out.2.1
    unfold boxR at hXw
    have x0 := blkCell hXw 0
    simp at x0
    have hXlt := blkLt hXw
    clear hXw
    have HX2 := hide' (HRd.out wr hb' s' HJ.out.1 hsm')
    cases hrr : readR d s'.held with
    | none =>
      rw [hrr] at HX2
      gi_wp2_with fail
      refine ⟨trivial, ?_⟩
      refine (callsIn_wide.2 HX2.out).mono ?_
      rintro e w1 ⟨rfl, R1, B1⟩
      have H1 := hide' (And.intro R1 B1)
      clear R1 B1
      unfold zCmd
      gi_wp2
      refine ⟨fun _ h => (by cases h), ?_⟩
      gi_wp2
      refine bodyPost_ret (results_none rfl _ _ _) rfl ?_
      have hd := drainS_none hrr
      have hT := HJ.out.2.2.2
      rw [hd] at hT
      have hbb := H1.out.2.alloc H1.out.2.size (.cells #[.int .i64 0, .slice none 0 0, .string ⟨#[]⟩, .string ⟨#[]⟩, .bool false, .int .i64 0] 36)
      refine ⟨⟨_, rfl⟩, hb', ?_, ?_⟩
      · rw [← hT.2]; exact HJ.out.1.below hbb
      · rw [← hT.1, List.append_nil]; exact HB.out _ _ _ _ HJ.out.2.2.1 hbb
    | some x =>
      rw [hrr] at HX2
      have HRR := hide' hrr
      clear hrr
      gi_wp2_with fail
      refine ⟨trivial, ?_⟩
      refine (callsIn_wide.2 HX2.out).mono ?_
      rintro e w1 ⟨ka, kn, kc, rfl, hk1, T1⟩
      have hap := HJ.out.1.apart (b := X) (show wr.heap[X]? = some (.cells #[.pointer (some ⟨D, 0, none⟩)] 97 (0, 0)) from HJ.out.2.1) (by decide) (by decide)
      have hX1 := (T1.turn.block X hXlt hap.1 hap.2).trans HJ.out.2.1
      have hy := HY.out hb' done wr s' x w1 ka kn kc HJ.out.2.2.1 HJ.out.1 HRR.out hk1 T1 hX1
      obtain ⟨fn, tmps, assign, body, hy1, hy2⟩ := hy
      have HY2 := hide' hy2
      have HT1 := hide' (And.intro hk1 (And.intro T1 hX1))
      clear hk1 T1 hX1 hy2 hap
      gi_wp2
      refine HY2.out.mono ?_
      rintro e W2 ⟨rfl, hb2, R2, hX2, J2⟩
      have H2 := hide' (And.intro R2 (And.intro hX2 J2))
      clear R2 hX2 J2 hy1 HY2
      gi_wp2
      go_roundw
      case rel =>
        have hT := HJ.out.2.2.2
        rw [drainS_some HRR.out] at hT
        have hl := afterS_len HRR.out
        refine ⟨afterS s' x, hb2, done ++ [x.c], by omega, H2.out.1, H2.out.2.1, H2.out.2.2, ?_, hT.2⟩
        rw [List.append_assoc]; exact hT.1
      case measure =>
        have hl := afterS_len HRR.out
        rw [H2.out.1.len, HJ.out.1.len]
        exact hl
end Go.Proofs.YtlonjggfnleolaaGreatDoor


/-
  The reference's reader: Push, Next, Feed.
-/

namespace Go.Proofs.YtlonjggfnleolaaGreatDoor
open Go.RowKit
set_option linter.unusedVariables false

/-- A reader of the reference in memory. -/
def refO (d : Int) (s : St) : Obj := .cells #[.int .i64 d, .string (mkB s.held), .bool s.pass, .bool s.closed] 195 (0, 0)
structure RefAt (w : World) (Y : Nat) (d : Int) (s : St) : Prop where
  at_ : w.heap[Y]? = some (refO d s)
  ok : s.ok
theorem refCells {w : World} {Y : Nat} {d : Int} {s : St} (h : w.heap[Y]? = some (refO d s)) :
    w.cell? ⟨Y, 0, none⟩ = some (.int .i64 d) ∧ w.cell? ⟨Y, 1, none⟩ = some (.string (mkB s.held)) ∧ w.cell? ⟨Y, 2, none⟩ = some (.bool s.pass) ∧ w.cell? ⟨Y, 3, none⟩ = some (.bool s.closed) ∧ (∀ j, w.frozen? ⟨Y, j, none⟩ = false) :=
  ⟨blkCell h 0, blkCell h 1, blkCell h 2, blkCell h 3, blkFree h⟩
theorem mkB_app (l : List UInt8) (p : ByteArray) : mkB l ++ p = mkB (l ++ p.data.toList) := by
  apply ByteArray.ext
  rw [ByteArray.data_append]
  simp [mkB]
theorem mkB_nil : mkB [] = ⟨#[]⟩ := rfl
theorem mkB_size (l : List UInt8) : (mkB l).size = l.length := by show l.toArray.size = _; simp
theorem extract_drop (s : ByteArray) (f : Nat) : s.extract f s.size = mkB (s.data.toList.drop f) := by
  rw [extract_mkB, List.take_of_length_le (by simp)]

theorem refO_set {w : World} {Y : Nat} {d : Int} {s : St} (h : w.heap[Y]? = some (refO d s)) (l : List UInt8) : (w.setCell ⟨Y, 1, none⟩ (.string (mkB l))).heap[Y]? = some (refO d ⟨l, s.pass, s.closed⟩) := (blkSet (i := 1) h _).trans rfl
theorem refO_pass {w : World} {Y : Nat} {d : Int} {s : St} (h : w.heap[Y]? = some (refO d s)) (p : Bool) : (w.setCell ⟨Y, 2, none⟩ (.bool p)).heap[Y]? = some (refO d ⟨s.held, p, s.closed⟩) := (blkSet (i := 2) h _).trans rfl

set_option maxRecDepth 20000 in
set_option maxHeartbeats 2000000 in
/-- Push, where nothing is passed over. -/
theorem refpush_plain (Y : Nat) (d : Int) (s : St) (piece : ByteArray) (w : World) (hY : w.heap[Y]? = some (refO d s)) (hps : s.pass = false) (hp : s.held.length + piece.size ≤ 1000000000000) :
    Calls Tryz.prog 148 #[.pointer (some ⟨Y, 0, none⟩), .string piece] w fun e w' => e = .returned (.tuple #[]) ∧ w'.heap[Y]? = some (refO d (takeS s piece.data.toList)) ∧ Turn Y w w' := by
  obtain ⟨held, ps, cl⟩ := s
  simp only at hps
  subst hps
  obtain ⟨c0, c1, c2, c3, cf⟩ := refCells hY
  have hlt := blkLt hY
  simp only at c0 c1 c2 c3 hp
  have HY := hide' hY
  have hms := mkB_size held
  clear hY
  cases cl with
  | true =>
    have HT : Hid (takeS ⟨held, false, true⟩ piece.data.toList = ⟨held, false, true⟩) := (show _ = _ from rfl)
    generalize mkB held = H at *
    go_enter Tryz.func148, Tryz.ntmps148
    go_wp2
    go_loop [4] (fun i => i = .int .i64 0) (fun _ => 0)
    case atStart => rfl
    case round =>
      subst hrel
      go_wp2
      go_end0
      exact ⟨rfl, by rw [HT.out]; exact HY.out, Turn.refl _ _⟩
  | false =>
    have HT : Hid (takeS ⟨held, false, false⟩ piece.data.toList = ⟨held ++ piece.data.toList, false, false⟩) := (show _ = _ from rfl)
    have hX : piece.extract 0 piece.size = piece := by rw [extract_drop]; simp [mkB]
    have HM := hide' (mkB_app held piece)
    have HX := hide' hX
    have HB : Hid (∀ v : List UInt8, Turn Y w (w.setCell ⟨Y, 1, none⟩ (.string (mkB v))) ∧ (w.setCell ⟨Y, 1, none⟩ (.string (mkB v))).heap[Y]? = some (refO d ⟨v, false, false⟩)) := fun v => ⟨(Turn.refl Y w).setCell 1 _, refO_set HY.out v⟩
    have hsz2 : ¬ 9223372036854775807 < (mkB held).size + (piece.extract 0 piece.size).size := by rw [hX]; omega
    have hsz3 : ¬ 9223372036854775807 < (mkB held).size + piece.size := by omega
    clear hX hms
    go_enter Tryz.func148, Tryz.ntmps148
    go_wp2
    go_loop [4] (fun i => i = .int .i64 0) (fun _ => 0)
    case atStart => rfl
    case round =>
      subst hrel
      go_wp2_with fail
      go_big_region
      all_goals go_wp2
      all_goals go_end0
      refine ⟨rfl, ?_, ((Turn.refl Y w).setCell 1 _).drew⟩
      rw [HT.out, HM.out]
      exact (HB.out _).2

/-- The place behind the first line end, or the end. -/
theorem passL_none {l : List UInt8} (h : ¬ 0 ≤ Go.Lib.indexByte l 10) : passL l = ([], true) := by unfold passL; rw [if_neg h]
theorem passL_at {s : ByteArray} {k : Nat} (h : k < s.size) (h10 : s[k] = 10) (hn : ¬ 0 ≤ Go.Lib.indexByte (s.data.toList.take k) 10) : passL s.data.toList = (s.data.toList.drop (k + 1), false) := by
  have e := ib_at h h10 hn
  unfold passL
  rw [e, if_pos (by omega)]
  simp
set_option maxRecDepth 20000 in
set_option maxHeartbeats 2000000 in
/-- Push, where bytes are passed over. -/
theorem refpush_pass (Y : Nat) (d : Int) (piece : ByteArray) (w : World) (hY : w.heap[Y]? = some (refO d ⟨[], true, false⟩)) (hp : piece.size ≤ 1000000000000) :
    Calls Tryz.prog 148 #[.pointer (some ⟨Y, 0, none⟩), .string piece] w fun e w' => e = .returned (.tuple #[]) ∧ w'.heap[Y]? = some (refO d (takeS ⟨[], true, false⟩ piece.data.toList)) ∧ Turn Y w w' := by
  have HT : Hid (takeS ⟨[], true, false⟩ piece.data.toList = ⟨(passL piece.data.toList).1, (passL piece.data.toList).2, false⟩) := (show _ = _ from rfl)
  generalize takeS ⟨[], true, false⟩ piece.data.toList = TT at *
  have HY := hide' hY
  have hlt := blkLt hY
  clear hY
  go_enter Tryz.func148, Tryz.ntmps148
  go_wp2
  go_loopw [4] (fun i wr => ∃ (k : Nat) (sk : Bool), i = .int .i64 (k : Int) ∧ k ≤ piece.size ∧ Hid (wr.heap[Y]? = some (refO d ⟨[], sk, false⟩) ∧ Turn Y w wr) ∧ Hid ((sk = true ∧ ¬ 0 ≤ Go.Lib.indexByte (piece.data.toList.take k) 10) ∨ (sk = false ∧ passL piece.data.toList = (piece.data.toList.drop k, false)))) (fun i _ => piece.size - (intOf i).toNat)
  case atStart => exact ⟨0, true, rfl, Nat.zero_le _, ⟨HY.out, Turn.refl _ _⟩, .inl ⟨rfl, by rw [List.take_zero, ib_nil]; decide⟩⟩
  case round =>
    obtain ⟨k, sk, rfl, hk, HW, HS⟩ := hrel
    obtain ⟨c0, c1, c2, c3, cf⟩ := refCells HW.out.1
    simp only at c0 c1 c2 c3
    have hlw := blkLt HW.out.1
    cases sk with
    | true =>
      have hno : ¬ 0 ≤ Go.Lib.indexByte (piece.data.toList.take k) 10 := by
        rcases HS.out with ⟨_, h⟩ | ⟨h, _⟩
        · exact h
        · cases h
      have HNo := hide' hno
      clear hno HS
      by_cases hlt2 : k < piece.size
      · by_cases h10 : piece[k] = 10
        · have hb10 : ((piece[k].toNat : Int) != 10) = false := by rw [h10]; rfl
          have HP := hide' (passL_at hlt2 h10 HNo.out)
          go_wp2
          go_roundw
          case rel => exact ⟨k + 1, false, by go_num, by omega, ⟨refO_pass HW.out.1 false, HW.out.2.setCell 2 _⟩, .inr ⟨rfl, HP.out⟩⟩
          case measure => simp [intOf]; omega
        · have hb10 : ((piece[k].toNat : Int) == 10) = false := u8_ne h10
          have hb10' : ((piece[k].toNat : Int) != 10) = true := by simp only [bne, hb10, Bool.not_false]
          have HN2 := hide' (ib_no hlt2 h10 HNo.out)
          go_wp2
          go_roundw
          case rel => exact ⟨k + 1, true, by go_num, by omega, ⟨refO_pass HW.out.1 true, HW.out.2.setCell 2 _⟩, .inl ⟨rfl, HN2.out⟩⟩
          case measure => simp [intOf]; omega
      · have hk2 : k = piece.size := by omega
        subst hk2
        have HP : Hid (passL piece.data.toList = ([], true)) := by
          show _ = _
          have h := HNo.out
          rw [List.take_of_length_le (by simp)] at h
          exact passL_none h
        have hX : piece.extract piece.size piece.size = ⟨#[]⟩ := by rw [extract_drop, List.drop_eq_nil_of_le (by simp)]; rfl
        have HX := hide' hX
        have hmB : mkB [] = ⟨#[]⟩ := rfl
        rw [hmB] at c1
        have hsz1 : ¬ 9223372036854775807 < (⟨#[]⟩ : ByteArray).size + (piece.extract piece.size piece.size).size := by rw [hX]; decide
        clear hmB
        go_wp2_with fail
        go_big_region
        all_goals go_wp2
        all_goals go_end0
        refine ⟨rfl, ?_, (HW.out.2.setCell 1 _).drew⟩
        rw [HT.out, HP.out]
        exact refO_set HW.out.1 []
    | false =>
      have hpl : passL piece.data.toList = (piece.data.toList.drop k, false) := by
        rcases HS.out with ⟨h, _⟩ | ⟨_, h⟩
        · cases h
        · exact h
      have HP := hide' hpl
      clear hpl HS
      have hmB : mkB [] = ⟨#[]⟩ := rfl
      rw [hmB] at c1
      have hX := extract_drop piece k
      have HX := hide' hX
      have hi : (k : Int) ≤ (piece.size : Int) := by omega
      have hsz1 : ¬ 9223372036854775807 < (⟨#[]⟩ : ByteArray).size + (piece.extract k piece.size).size := by rw [ByteArray.size_extract]; show ¬ _ < 0 + _; omega
      clear hmB hX
      go_wp2_with fail
      go_big_region
      all_goals go_wp2
      all_goals go_end0
      have e1 : (⟨#[]⟩ : ByteArray) ++ piece.extract k piece.size = mkB (piece.data.toList.drop k) := by
        rw [HX.out]
        have := mkB_app [] (mkB (piece.data.toList.drop k))
        rw [mkB_nil] at this
        rw [this]
        simp [mkB]
      refine ⟨rfl, ?_, (HW.out.2.setCell 1 _).drew⟩
      rw [HT.out, HP.out, e1]
      exact refO_set HW.out.1 _

theorem refpush_any (Y : Nat) (d : Int) (s : St) (piece : ByteArray) (w : World) (R : RefAt w Y d s) (hp : s.held.length + piece.size ≤ 1000000000000) :
    Calls Tryz.prog 148 #[.pointer (some ⟨Y, 0, none⟩), .string piece] w fun e w' => e = .returned (.tuple #[]) ∧ RefAt w' Y d (takeS s piece.data.toList) ∧ Turn Y w w' := by
  obtain ⟨hY, hok⟩ := R
  have hok2 := takeS_ok piece.data.toList hok
  cases hps : s.pass with
  | false => exact (refpush_plain Y d s piece w hY hps hp).mono fun e w' ⟨h1, h2, h3⟩ => ⟨h1, ⟨h2, hok2⟩, h3⟩
  | true =>
    have hh := hok.pass hps
    have hc : s.closed = false := by
      cases hcc : s.closed with
      | false => rfl
      | true => have := (hok.closed hcc).2; rw [hps] at this; cases this
    obtain ⟨held, ps, cl⟩ := s
    simp only at hh hc hps
    subst hh
    subst hc
    subst hps
    exact (refpush_pass Y d piece w hY (by simp at hp; exact hp)).mono fun e w' ⟨h1, h2, h3⟩ => ⟨h1, ⟨h2, hok2⟩, h3⟩
end Go.Proofs.YtlonjggfnleolaaGreatDoor


/-
  The reference's reader: whole, Next.
-/

namespace Go.Proofs.YtlonjggfnleolaaGreatDoor
open Go.RowKit
set_option linter.unusedVariables false

theorem RefOut.none_eq {w w' : World} {e : Ending} (h : RefOut w w' none e) : e = .returned (.tuple #[zCmdV, .int .i64 0]) := h
set_option maxRecDepth 20000 in
set_option maxHeartbeats 4000000 in
theorem refwhole_of (N : Nat) (Y : Nat) (d : Int) (s : ByteArray) (RES : Option StepR) (w : World) (hY : w.cell? ⟨Y, 0, none⟩ = some (.int .i64 d)) (hYl : Y < w.heap.size) (hd : (d = 1 ∧ N = 171) ∨ (d = 2 ∧ N = 172) ∨ (d = 3 ∧ N = 173))
    (hC : ∀ W : World, Calls Tryz.prog N #[.string s] W fun r w' => RefOut W w' RES r ∧ Below W.heap.size W w') :
    Calls Tryz.prog 165 #[.pointer (some ⟨Y, 0, none⟩), .string s] w fun r w' => RefOut w w' RES r ∧ Below w.heap.size w w' := by
  have HC := hide' hC
  clear hC
  have HZ : Hid (∀ (W : World), Below (w.heap.size + 1) (w.alloc (.cells #[.int .i64 0, .slice none 0 0, .string ⟨#[]⟩, .string ⟨#[]⟩, .bool false, .int .i64 0] 36)) W → CCells W w.heap.size 0 (.slice none 0 0) ⟨#[]⟩ ∧ w.heap.size < W.heap.size ∧ Below w.heap.size w W ∧ W.heap[w.heap.size]? = some zCmdO) := fun W h => ⟨(zres h).1, (zres h).2.1, (zres h).2.2, (h.block _ (by omega)).trans (blkNew w _)⟩
  rcases hd with ⟨rfl, rfl⟩ | ⟨rfl, rfl⟩ | ⟨rfl, rfl⟩
  all_goals
    go_enter Tryz.func165, Tryz.ntmps165
    go_wp2_with fail
    first | go_at_call 171 | go_at_call 172 | go_at_call 173
    refine (HC.out _).mono ?_
    rintro r w2 ⟨hO, hb2⟩
    obtain ⟨⟨⟨r0, r1, r2, r3, r4, r5⟩, rf⟩, hz, hB, hR⟩ := HZ.out w2 (by simpa using hb2)
    have HB := hide' (And.intro hB hR)
    clear hb2 hB hR
    cases RES with
    | none =>
      have hr := RefOut.none_eq hO
      subst hr
      clear hO HC HZ
      unfold zCmdV
      go_wp2
      refine bodyPost_ret (v := .tuple #[zCmdV, .int .i64 0]) (by simp [results, Tryz.results165, go_sem, zCmdV, r0, r1, r2, r3, r4, r5]) rfl ⟨rfl, set6 HB.out.1 (Nat.le_refl _) _ _ _ _ _ _⟩
    | some t =>
      obtain ⟨kv, hr, hK⟩ := hO
      subst hr
      obtain ⟨ka, kc, hkv⟩ := hK.form
      subst hkv
      have HK : Hid (KeysR w2 w.heap.size (.slice ka t.c.keys.length kc) t.c.keys) := hK.other (by simp) (fun _ _ _ _ => rfl)
      clear hK HC HZ
      generalize hhow : (if t.skip = true then (2 : Int) else 1) = how at *
      have HW := hide' hhow
      clear hhow
      unfold cmdVR
      go_wp2
      refine bodyPost_ret (v := .tuple #[cmdVR t.c (.slice ka t.c.keys.length kc), .int .i64 how]) (by simp [results, Tryz.results165, go_sem, cmdVR, r0, r1, r2, r3, r4, r5]) rfl ⟨⟨_, by rw [HW.out], HK.out.other (Nat.le_refl _) (fun b Z hZ _ => set6_other (fun e => by rw [e, HB.out.2] at hZ; cases hZ) _ _ _ _ _ _)⟩, set6 HB.out.1 (Nat.le_refl _) _ _ _ _ _ _⟩
/-- whole: what the reference tells, where one byte less tells nothing. -/
theorem refwhole_any (Y : Nat) (d : Int) (s : ByteArray) (pre : List UInt8) (b : UInt8) (w : World) (hd : d = 1 ∨ d = 2 ∨ d = 3) (hY : w.cell? ⟨Y, 0, none⟩ = some (.int .i64 d)) (hYl : Y < w.heap.size) (hs : s.size ≤ 1000000000000) (hb : s.data.toList = pre ++ [b]) (h0 : readR d pre = none) :
    Calls Tryz.prog 165 #[.pointer (some ⟨Y, 0, none⟩), .string s] w fun r w' => RefOut w w' (readR d s.data.toList) r ∧ Below w.heap.size w w' := by
  unfold readR at h0 ⊢
  rcases hd with rfl | rfl | rfl
  · rw [if_pos rfl] at h0 ⊢
    exact refwhole_of 171 Y 1 s _ w hY hYl (.inl ⟨rfl, rfl⟩) (fun W => refline_any s pre b W hs hb h0)
  · rw [if_neg (by decide), if_pos rfl] at h0 ⊢
    exact refwhole_of 172 Y 2 s _ w hY hYl (.inr (.inl ⟨rfl, rfl⟩)) (fun W => refframe_any s pre b W hs hb h0)
  · rw [if_neg (by decide), if_neg (by decide)] at h0 ⊢
    exact refwhole_of 173 Y 3 s _ w hY hYl (.inr (.inr ⟨rfl, rfl⟩)) (fun W => reflist_any s W hs (by rw [← len_size', hb]; simp))

/-- What Next of the reference tells. -/
def NextOut (w w' : World) (Y : Nat) (d : Int) (s : St) (e : Ending) : Prop :=
  match readR d s.held with
  | none => e = .returned (.tuple #[zCmdV, .bool false]) ∧ RefAt w' Y d s
  | some t => ∃ kv, e = .returned (.tuple #[cmdVR t.c kv, .bool true]) ∧ KeysR w' w.heap.size kv t.c.keys ∧ RefAt w' Y d (afterS s t)
theorem edge_okS {d : Int} {s : St} {n : Nat} {t : StepR} (hn : n < s.held.length) (h0 : readR d (s.held.take n) = none) (h : readR d (s.held.take (n + 1)) = some t) : (⟨[], t.skip, t.c.fatal⟩ : St).ok := by
  have e1 : s.held.take (n + 1) = s.held.take n ++ [s.held[n]] := by rw [List.take_add_one, List.getElem?_eq_getElem hn]; rfl
  rw [e1] at h
  have he := readR_edge h0 h
  refine ⟨fun _ => rfl, fun hc => ⟨rfl, ?_⟩⟩
  rcases he with ⟨_, hk⟩ | ⟨hf, _⟩ | ⟨hf, _⟩
  · exact hk
  · simp only at hc; rw [hf] at hc; cases hc
  · simp only at hc; rw [hf] at hc; cases hc
theorem mkB_take (l : List UInt8) (k : Nat) : (mkB l).extract 0 k = mkB (l.take k) := by rw [extract_mkB]; simp [mkB]
theorem mkB_drop (l : List UInt8) (k : Nat) : (mkB l).extract k (mkB l).size = mkB (l.drop k) := by rw [extract_drop]; simp [mkB]
theorem mkB_list (l : List UInt8) : (mkB l).data.toList = l := by simp [mkB]
end Go.Proofs.YtlonjggfnleolaaGreatDoor


/-
  The reference's reader: Next.
-/

namespace Go.Proofs.YtlonjggfnleolaaGreatDoor
open Go.RowKit
set_option linter.unusedVariables false

def cmdO (c : Cmd) (kv : Value) : Obj := .cells #[.int .i64 c.kind, kv, .string c.val, .string c.word, .bool c.fatal, .int .i64 c.id] 36 (0, 0)
theorem next_push {w w2 w5 : World} {Y : Nat} {d : Int} {H : ByteArray} {p : Bool} {c : Cmd} {kv : Value} (sk : Bool) (h1 : w2.heap[Y]? = some (.cells #[.int .i64 d, .string H, .bool p, .bool false] 195 (0, 0))) (h2 : w2.heap[w.heap.size]? = some zCmdO) (h3 : Below w.heap.size w w2) (h4 : KeysR w2 w.heap.size kv c.keys) (hYn : ¬ Y = w.heap.size)
    (hT : Turn Y ((((w2.setCell ⟨Y, 1, none⟩ (.string ⟨#[]⟩)).setCell ⟨Y, 3, none⟩ (.bool c.fatal)).setCell ⟨Y, 2, none⟩ (.bool sk)).alloc (.cells #[.int .i64 c.kind, kv, .string c.val, .string c.word, .bool c.fatal, .int .i64 c.id] 36)) w5) :
    w5.heap[w2.heap.size]? = some (cmdO c kv) ∧ w5.heap[w.heap.size]? = some zCmdO ∧ KeysR w5 w.heap.size kv c.keys ∧ Turn Y w w5 := by
  have hl1 := blkLt h1
  have hl2 := blkLt h2
  have hYn' : w.heap.size ≠ Y := fun e => hYn e.symm
  have hsz : ((((w2.setCell ⟨Y, 1, none⟩ (.string ⟨#[]⟩)).setCell ⟨Y, 3, none⟩ (.bool c.fatal)).setCell ⟨Y, 2, none⟩ (.bool sk)).heap.size) = w2.heap.size := by simp
  have hT0 : Turn Y w ((((w2.setCell ⟨Y, 1, none⟩ (.string ⟨#[]⟩)).setCell ⟨Y, 3, none⟩ (.bool c.fatal)).setCell ⟨Y, 2, none⟩ (.bool sk)).alloc (.cells #[.int .i64 c.kind, kv, .string c.val, .string c.word, .bool c.fatal, .int .i64 c.id] 36)) := ((((Turn.of_below h3).setCell 1 _).setCell 3 _).setCell 2 _).alloc _
  have o1 : ∀ (b : Nat) (o : Obj), w2.heap[b]? = some o → b ≠ Y → ((((w2.setCell ⟨Y, 1, none⟩ (.string ⟨#[]⟩)).setCell ⟨Y, 3, none⟩ (.bool c.fatal)).setCell ⟨Y, 2, none⟩ (.bool sk)).alloc (.cells #[.int .i64 c.kind, kv, .string c.val, .string c.word, .bool c.fatal, .int .i64 c.id] 36)).heap[b]? = some o := fun b o h hb => hs_alloc (hs_set (hs_set (hs_set h hb) hb) hb) _
  have o2 : ((((w2.setCell ⟨Y, 1, none⟩ (.string ⟨#[]⟩)).setCell ⟨Y, 3, none⟩ (.bool c.fatal)).setCell ⟨Y, 2, none⟩ (.bool sk)).alloc (.cells #[.int .i64 c.kind, kv, .string c.val, .string c.word, .bool c.fatal, .int .i64 c.id] 36)).heap[w2.heap.size]? = some (cmdO c kv) := hs_new hsz.symm
  have hsa : ((((w2.setCell ⟨Y, 1, none⟩ (.string ⟨#[]⟩)).setCell ⟨Y, 3, none⟩ (.bool c.fatal)).setCell ⟨Y, 2, none⟩ (.bool sk)).alloc (.cells #[.int .i64 c.kind, kv, .string c.val, .string c.word, .bool c.fatal, .int .i64 c.id] 36)).heap.size = w2.heap.size + 1 := by rw [World.size_alloc, hsz]
  generalize ((((w2.setCell ⟨Y, 1, none⟩ (.string ⟨#[]⟩)).setCell ⟨Y, 3, none⟩ (.bool c.fatal)).setCell ⟨Y, 2, none⟩ (.bool sk)).alloc (.cells #[.int .i64 c.kind, kv, .string c.val, .string c.word, .bool c.fatal, .int .i64 c.id] 36)) = W3 at *
  refine ⟨(hT.block _ (by omega) (by omega)).trans o2, (hT.block _ (by omega) hYn').trans (o1 _ _ h2 hYn'), h4.other (Nat.le_refl _) (fun b Z hZ _ => ?_), hT0.trans hT⟩
  have hbY : b ≠ Y := fun e => by rw [e, h1] at hZ; cases hZ
  have hbl := blkLt hZ
  exact ((hT.block b (by omega) hbY).trans (o1 b _ hZ hbY)).trans hZ.symm
theorem next_end {w w5 : World} {Y : Nat} {d : Int} {s : St} {ks : List ByteArray} {kv : Value} (h1 : RefAt w5 Y d s) (h2 : KeysR w5 w.heap.size kv ks) (h3 : Turn Y w w5) (h4 : w5.heap[w.heap.size]? = some zCmdO) (hYn : ¬ Y = w.heap.size) (a b c e f g : Value) :
    KeysR ((((((w5.setCell ⟨w.heap.size, 0, none⟩ a).setCell ⟨w.heap.size, 1, none⟩ b).setCell ⟨w.heap.size, 2, none⟩ c).setCell ⟨w.heap.size, 3, none⟩ e).setCell ⟨w.heap.size, 4, none⟩ f).setCell ⟨w.heap.size, 5, none⟩ g) w.heap.size kv ks ∧ RefAt ((((((w5.setCell ⟨w.heap.size, 0, none⟩ a).setCell ⟨w.heap.size, 1, none⟩ b).setCell ⟨w.heap.size, 2, none⟩ c).setCell ⟨w.heap.size, 3, none⟩ e).setCell ⟨w.heap.size, 4, none⟩ f).setCell ⟨w.heap.size, 5, none⟩ g) Y d s ∧ Turn Y w ((((((w5.setCell ⟨w.heap.size, 0, none⟩ a).setCell ⟨w.heap.size, 1, none⟩ b).setCell ⟨w.heap.size, 2, none⟩ c).setCell ⟨w.heap.size, 3, none⟩ e).setCell ⟨w.heap.size, 4, none⟩ f).setCell ⟨w.heap.size, 5, none⟩ g) := by
  refine ⟨h2.other (Nat.le_refl _) (fun b Z hZ _ => set6_other (fun e => by rw [e, h4] at hZ; cases hZ) _ _ _ _ _ _), ⟨(set6_other hYn _ _ _ _ _ _).trans h1.at_, h1.ok⟩, ?_⟩
  have hB : Below w.heap.size w5 ((((((w5.setCell ⟨w.heap.size, 0, none⟩ a).setCell ⟨w.heap.size, 1, none⟩ b).setCell ⟨w.heap.size, 2, none⟩ c).setCell ⟨w.heap.size, 3, none⟩ e).setCell ⟨w.heap.size, 4, none⟩ f).setCell ⟨w.heap.size, 5, none⟩ g) :=
    ((((((Below.refl _ _).setCell (p := ⟨w.heap.size, 0, none⟩) (Nat.le_refl _) _).setCell (p := ⟨w.heap.size, 1, none⟩) (Nat.le_refl _) _).setCell (p := ⟨w.heap.size, 2, none⟩) (Nat.le_refl _) _).setCell (p := ⟨w.heap.size, 3, none⟩) (Nat.le_refl _) _).setCell (p := ⟨w.heap.size, 4, none⟩) (Nat.le_refl _) _).setCell (p := ⟨w.heap.size, 5, none⟩) (Nat.le_refl _) _
  exact ⟨hB.os.trans h3.os, hB.tape.trans h3.tape, hB.output.trans h3.output, Nat.le_trans h3.size hB.size, fun k hk hn => (hB.block k hk).trans (h3.block k hk hn)⟩

set_option maxRecDepth 20000 in
set_option maxHeartbeats 8000000 in
theorem refnext_any (Y : Nat) (d : Int) (s : St) (w : World) (hd : d = 1 ∨ d = 2 ∨ d = 3) (R : RefAt w Y d s) (hs : s.held.length ≤ 1000000000000) :
    Calls Tryz.prog 149 #[.pointer (some ⟨Y, 0, none⟩)] w fun e w' => NextOut w w' Y d s e ∧ Turn Y w w' := by
  have hok := R.ok
  have hY := R.at_
  obtain ⟨c0, c1, c2, c3, cf⟩ := refCells hY
  have hlt := blkLt hY
  have HR := hide' R
  have hYn : ¬ Y = w.heap.size := by omega
  clear R
  cases hcl : s.closed with
  | true =>
    have hh := (hok.closed hcl).1
    have HN : Hid (∀ w' e, e = Ending.returned (.tuple #[zCmdV, .bool false]) → RefAt w' Y d s → NextOut w w' Y d s e) := fun w' e h1 h2 => by unfold NextOut; rw [hh, readR_nil]; exact ⟨h1, h2⟩
    rw [hcl] at c3
    clear hcl hh hY hok
    go_enter Tryz.func149, Tryz.ntmps149
    go_wp2
    refine bodyPost_ret (v := .tuple #[zCmdV, .bool false]) (by simp [results, Tryz.results149, go_sem, zCmdV]) rfl ⟨HN.out _ _ rfl ⟨?_, HR.out.ok⟩, ?_⟩
    · repeat (first | with_reducible exact HR.out.at_ | with_reducible refine hs_set ?_ (by simp; try omega) | with_reducible refine hs_drew ?_ | with_reducible refine hs_alloc ?_ _)
    · refine .of_below ?_
      repeat (first | with_reducible exact Below.refl _ _ | with_reducible refine Below.drew ?_ | with_reducible refine Below.alloc ?_ (by simp; try omega) _ | with_reducible refine Below.setCell ?_ (by simp; try omega) _)
  | false =>
    rw [hcl] at c3
    have hms := mkB_size s.held
    have HOK := hide' hok
    have HCl := hide' hcl
    clear hcl hok hY
    generalize hL : s.held.length = L at *
    have HLn := hide' hL
    have HH := hide' (show ∀ k, (mkB s.held).extract 0 k = mkB (s.held.take k) from fun k => mkB_take _ _)
    have HD := hide' (show ∀ k, (mkB s.held).extract k (mkB s.held).size = mkB (s.held.drop k) from fun k => mkB_drop _ _)
    have HY0 : Hid (w.heap[Y]? = some (.cells #[.int .i64 d, .string (mkB s.held), .bool s.pass, .bool false] 195 (0, 0))) := by have := HR.out.at_; unfold refO at this; rw [HCl.out] at this; exact this
    generalize mkB s.held = H at *
    have HHL := hide' hms
    clear hL
    go_enter Tryz.func149, Tryz.ntmps149
    go_wp2
    go_loopw [4] (fun n wr => ∃ k : Nat, n = .int .i64 ((k : Int) + 1) ∧ k ≤ L ∧ Hid (readR d (s.held.take k) = none) ∧ Hid (wr.heap[Y]? = some (.cells #[.int .i64 d, .string H, .bool s.pass, .bool false] 195 (0, 0)) ∧ wr.heap[w.heap.size]? = some zCmdO ∧ Below w.heap.size w wr)) (fun n _ => L + 1 - (intOf n).toNat)
    case atStart =>
      refine ⟨0, rfl, Nat.zero_le _, ?_, ?_⟩
      · show _ = _; rw [List.take_zero, readR_nil]
      · exact ⟨hs_alloc HY0.out _, blkNew w _, (Below.refl _ _).alloc (Nat.le_refl _) _⟩
    case round =>
      clear c0 c1 c2 c3 cf
      obtain ⟨k, rfl, hk, HN, HW⟩ := hrel
      have c0 := blkCell HW.out.1 0
      have c1 := blkCell HW.out.1 1
      have c2 := blkCell HW.out.1 2
      have c3 := blkCell HW.out.1 3
      have cf := blkFree HW.out.1
      simp at c0 c1 c2 c3
      obtain ⟨⟨r0, r1, r2, r3, r4, r5⟩, rf⟩ := ccells_of HW.out.2.1
      have hYl := blkLt HW.out.1
      have hRl := blkLt HW.out.2.1
      by_cases hkl : k < L
      · have hkh : k < s.held.length := by rw [HLn.out]; exact hkl
        have i1 : (k : Int) + 1 ≤ (H.size : Int) := by omega
        have i2 : (0 : Int) ≤ (k : Int) + 1 := by omega
        have i3 : (k : Int) + 1 ≤ (L : Int) := by omega
        have htk : s.held.take (k + 1) = s.held.take k ++ [s.held[k]] := by rw [List.take_add_one, List.getElem?_eq_getElem hkh]; rfl
        have HWh : Hid (∀ W : World, W.cell? ⟨Y, 0, none⟩ = some (.int .i64 d) → Y < W.heap.size → Calls Tryz.prog 165 #[.pointer (some ⟨Y, 0, none⟩), .string (H.extract 0 (k + 1))] W fun r w' => RefOut W w' (readR d (s.held.take (k + 1))) r ∧ Below W.heap.size W w') := fun W h1 h2 => by
          rw [HH.out]
          have := refwhole_any Y d (mkB (s.held.take (k + 1))) (s.held.take k) s.held[k] W hd h1 h2 (by rw [mkB_size, List.length_take]; omega) (by rw [mkB_list, htk]) HN.out
          rw [mkB_list] at this
          exact this
        clear htk
        cases hr : readR d (s.held.take (k + 1)) with
        | none =>
          rw [hr] at HWh
          have HN2 := hide' hr
          clear hr
          go_wp2_with fail
          go_at_call 165
          refine (HWh.out _ (by first | exact c0 | (rw [Below.cell_alloc' (by omega)]; exact c0)) (by first | exact hYl | (simp; omega))).mono ?_
          rintro r w2 ⟨hO, hb2⟩
          have hre := RefOut.none_eq hO
          subst hre
          have HW2 : Hid (w2.heap[Y]? = some (.cells #[.int .i64 d, .string H, .bool s.pass, .bool false] 195 (0, 0)) ∧ w2.heap[w.heap.size]? = some zCmdO ∧ Below w.heap.size w w2) := ⟨(hb2.block _ hYl).trans HW.out.1, (hb2.block _ hRl).trans HW.out.2.1, HW.out.2.2.trans (hb2.mono HW.out.2.2.size)⟩
          clear hO hb2
          unfold zCmdV
          go_wp2
          go_roundw
          case rel => exact ⟨k + 1, by go_num, by omega, HN2, hs_alloc HW2.out.1 _, hs_alloc HW2.out.2.1 _, HW2.out.2.2.alloc HW2.out.2.2.size _⟩
          case measure => simp [intOf]; omega
        | some t =>
          rw [hr] at HWh
          obtain ⟨hra, hae⟩ := after_edge HOK.out hkh HN.out hr
          have hsok := edge_okS hkh HN.out hr
          have HNx : Hid (∀ w' e, (∃ kv, e = Ending.returned (.tuple #[cmdVR t.c kv, .bool true]) ∧ KeysR w' w.heap.size kv t.c.keys ∧ RefAt w' Y d (edgeS t (s.held.drop (k + 1)))) → NextOut w w' Y d s e) := fun w' e h => by unfold NextOut; rw [hra]; simp only; rw [hae]; exact h
          have HPu : Hid (∀ W : World, W.heap[Y]? = some (refO d ⟨[], t.skip, t.c.fatal⟩) → Calls Tryz.prog 148 #[.pointer (some ⟨Y, 0, none⟩), .string (H.extract (k + 1) L)] W fun e w' => e = .returned (.tuple #[]) ∧ RefAt w' Y d (edgeS t (s.held.drop (k + 1))) ∧ Turn Y W w') := fun W h => by
            rw [← HHL.out, HD.out]
            have hlL := HLn.out
            have := refpush_any Y d ⟨[], t.skip, t.c.fatal⟩ (mkB (s.held.drop (k + 1))) W ⟨h, hsok⟩ (by rw [mkB_size, List.length_drop]; simp; omega)
            rw [mkB_list] at this
            exact this
          clear hr hra hae hsok
          go_wp2_with fail
          go_at_call 165
          refine (HWh.out _ (by first | exact c0 | (rw [Below.cell_alloc' (by omega)]; exact c0)) (by first | exact hYl | (simp; omega))).mono ?_
          rintro r w2 ⟨⟨kv, hre, hK⟩, hb2⟩
          subst hre
          obtain ⟨ka, kc, hkv⟩ := hK.form
          subst hkv
          have hK2 : KeysR w2 w.heap.size (.slice ka t.c.keys.length kc) t.c.keys := hK.other HW.out.2.2.size (fun _ _ _ _ => rfl)
          have hY2 := (hb2.block _ hYl).trans HW.out.1
          have hR2 := (hb2.block _ hRl).trans HW.out.2.1
          have HW2 : Hid (w2.heap[Y]? = some (.cells #[.int .i64 d, .string H, .bool s.pass, .bool false] 195 (0, 0)) ∧ w2.heap[w.heap.size]? = some zCmdO ∧ Below w.heap.size w w2 ∧ KeysR w2 w.heap.size (.slice ka t.c.keys.length kc) t.c.keys) := ⟨hY2, hR2, HW.out.2.2.trans (hb2.mono HW.out.2.2.size), hK2⟩
          clear c0 c1 c2 c3 cf r0 r1 r2 r3 r4 r5 rf
          have c0 := blkCell hY2 0
          have c1 := blkCell hY2 1
          have c2 := blkCell hY2 2
          have c3 := blkCell hY2 3
          have cf := blkFree hY2
          simp at c0 c1 c2 c3
          have hYl2 := blkLt hY2
          have hRl2 := blkLt hR2
          clear hK hb2 hK2 hY2 hR2 HWh HW HN
          unfold cmdVR
          have HPw : Hid (∀ (sk : Bool), t.skip = sk → ∀ o, ((((w2.setCell ⟨Y, 1, none⟩ (.string ⟨#[]⟩)).setCell ⟨Y, 3, none⟩ (.bool t.c.fatal)).setCell ⟨Y, 2, none⟩ (.bool sk)).alloc o).heap[Y]? = some (refO d ⟨[], t.skip, t.c.fatal⟩)) := fun sk hsk o => by
            rw [hsk]
            exact (hs_alloc (blkSet (i := 2) (blkSet (i := 3) (blkSet (i := 1) HW2.out.1 _) _) _) o).trans rfl
          have hY3 : ¬ Y = w2.heap.size := by omega
          cases hsk : t.skip with
          | true =>
            have HSk := hide' hsk
            clear hsk
            dsimp only
            rw [if_pos rfl]
            go_wp2_with fail
            go_at_call 148
            refine (HPu.out _ (HPw.out true HSk.out _)).mono ?_
            rintro e w5 ⟨rfl, hRA, hT⟩
            obtain ⟨hC5, hR5, hK5, hTu⟩ := next_push true HW2.out.1 HW2.out.2.1 HW2.out.2.2.1 HW2.out.2.2.2 hYn hT
            have HF := hide' (And.intro hRA (And.intro hK5 (And.intro hTu hR5)))
            have q0 := blkCell hC5 0
            have q1 := blkCell hC5 1
            have q2 := blkCell hC5 2
            have q3 := blkCell hC5 3
            have q4 := blkCell hC5 4
            have q5 := blkCell hC5 5
            simp at q0 q1 q2 q3 q4 q5
            obtain ⟨⟨r0, r1, r2, r3, r4, r5⟩, rf⟩ := ccells_of hR5
            have hRl5 := blkLt hR5
            have hCl5 := blkLt hC5
            have hnC : ¬ w.heap.size = w2.heap.size := by omega
            clear hRA hT hC5 hR5 hK5 hTu c0 c1 c2 c3 cf
            go_wp2
            refine bodyPost_ret (v := .tuple #[cmdVR t.c (.slice ka t.c.keys.length kc), .bool true]) (by simp [results, Tryz.results149, go_sem, cmdVR, r0, r1, r2, r3, r4, r5]) rfl ⟨HNx.out _ _ ⟨_, rfl, (next_end HF.out.1 HF.out.2.1 HF.out.2.2.1 HF.out.2.2.2 hYn _ _ _ _ _ _).1, (next_end HF.out.1 HF.out.2.1 HF.out.2.2.1 HF.out.2.2.2 hYn _ _ _ _ _ _).2.1⟩, (next_end HF.out.1 HF.out.2.1 HF.out.2.2.1 HF.out.2.2.2 hYn _ _ _ _ _ _).2.2⟩
          | false =>
            have HSk := hide' hsk
            clear hsk
            dsimp only
            rw [if_neg (by simp)]
            go_wp2_with fail
            go_at_call 148
            refine (HPu.out _ (HPw.out false HSk.out _)).mono ?_
            rintro e w5 ⟨rfl, hRA, hT⟩
            obtain ⟨hC5, hR5, hK5, hTu⟩ := next_push false HW2.out.1 HW2.out.2.1 HW2.out.2.2.1 HW2.out.2.2.2 hYn hT
            have HF := hide' (And.intro hRA (And.intro hK5 (And.intro hTu hR5)))
            have q0 := blkCell hC5 0
            have q1 := blkCell hC5 1
            have q2 := blkCell hC5 2
            have q3 := blkCell hC5 3
            have q4 := blkCell hC5 4
            have q5 := blkCell hC5 5
            simp at q0 q1 q2 q3 q4 q5
            obtain ⟨⟨r0, r1, r2, r3, r4, r5⟩, rf⟩ := ccells_of hR5
            have hRl5 := blkLt hR5
            have hCl5 := blkLt hC5
            have hnC : ¬ w.heap.size = w2.heap.size := by omega
            clear hRA hT hC5 hR5 hK5 hTu c0 c1 c2 c3 cf
            go_wp2
            refine bodyPost_ret (v := .tuple #[cmdVR t.c (.slice ka t.c.keys.length kc), .bool true]) (by simp [results, Tryz.results149, go_sem, cmdVR, r0, r1, r2, r3, r4, r5]) rfl ⟨HNx.out _ _ ⟨_, rfl, (next_end HF.out.1 HF.out.2.1 HF.out.2.2.1 HF.out.2.2.2 hYn _ _ _ _ _ _).1, (next_end HF.out.1 HF.out.2.1 HF.out.2.2.1 HF.out.2.2.2 hYn _ _ _ _ _ _).2.1⟩, (next_end HF.out.1 HF.out.2.1 HF.out.2.2.1 HF.out.2.2.2 hYn _ _ _ _ _ _).2.2⟩
      · have hkk : k = L := by omega
        subst hkk
        have hnr : readR d s.held = none := by
          have := HN.out
          rw [List.take_of_length_le (by rw [HLn.out]; exact Nat.le_refl _)] at this
          exact this
        have HNx : Hid (∀ w' e, e = Ending.returned (.tuple #[zCmdV, .bool false]) → RefAt w' Y d s → NextOut w w' Y d s e) := fun w' e h1 h2 => by unfold NextOut; rw [hnr]; exact ⟨h1, h2⟩
        clear hnr
        go_wp2
        refine bodyPost_ret (v := .tuple #[zCmdV, .bool false]) (by simp [results, Tryz.results149, go_sem, zCmdV, r0, r1, r2, r3, r4, r5]) rfl ⟨HNx.out _ _ rfl ⟨?_, HR.out.ok⟩, ?_⟩
        · refine (set6_other hYn _ _ _ _ _ _).trans (HW.out.1.trans ?_)
          rw [← HY0.out]
          exact HR.out.at_
        · exact .of_below (set6 HW.out.2.2 (Nat.le_refl _) _ _ _ _ _ _)
end Go.Proofs.YtlonjggfnleolaaGreatDoor


/-
  A list of commands in memory.
-/

namespace Go.Proofs.YtlonjggfnleolaaGreatDoor
open Go.RowKit Go.Shelf
set_option linter.unusedVariables false

def cmdCells : List Cmd → List Value → List Value
  | c :: cs, kv :: kvs => (cmdA c kv).toList ++ cmdCells cs kvs
  | _, _ => []
theorem cmdCells_snoc : ∀ (cs : List Cmd) (kvs : List Value) (c : Cmd) (kv : Value), kvs.length = cs.length → cmdCells (cs ++ [c]) (kvs ++ [kv]) = cmdCells cs kvs ++ (cmdA c kv).toList := by
  intro cs
  induction cs with
  | nil =>
    intro kvs c kv h
    have : kvs = [] := List.length_eq_zero_iff.1 h
    subst this
    simp [cmdCells]
  | cons x cs ih =>
    intro kvs c kv h
    cases kvs with
    | nil => simp at h
    | cons y kvs =>
      simp only [List.cons_append, cmdCells]
      rw [ih kvs c kv (by simpa using h), List.append_assoc]
theorem cmdCells_app : ∀ (cs : List Cmd) (kvs : List Value) (cs2 : List Cmd) (kvs2 : List Value), kvs.length = cs.length → cmdCells (cs ++ cs2) (kvs ++ kvs2) = cmdCells cs kvs ++ cmdCells cs2 kvs2 := by
  intro cs
  induction cs with
  | nil =>
    intro kvs cs2 kvs2 h
    have : kvs = [] := List.length_eq_zero_iff.1 h
    subst this
    simp [cmdCells]
  | cons x cs ih =>
    intro kvs cs2 kvs2 h
    cases kvs with
    | nil => simp at h
    | cons y kvs =>
      simp only [List.cons_append, cmdCells]
      rw [ih kvs cs2 kvs2 (by simpa using h), List.append_assoc]
theorem cmdCells_len : ∀ (cs : List Cmd) (kvs : List Value), kvs.length = cs.length → (cmdCells cs kvs).length = cs.length * 6 := by
  intro cs
  induction cs with
  | nil => intro kvs h; simp [cmdCells]
  | cons x cs ih =>
    intro kvs h
    cases kvs with
    | nil => simp at h
    | cons y kvs =>
      simp only [cmdCells, List.length_append, List.length_cons]
      rw [ih kvs (by simpa using h)]
      simp [cmdA]
      omega
theorem cmdCells_get : ∀ (cs : List Cmd) (kvs : List Value) (i j : Nat) (c : Cmd) (kv : Value), cs[i]? = some c → kvs[i]? = some kv → j < 6 → (cmdCells cs kvs)[6 * i + j]? = (cmdA c kv)[j]? := by
  intro cs
  induction cs with
  | nil => intro kvs i j c kv h; simp at h
  | cons x cs ih =>
    intro kvs i j c kv h1 h2 hj
    cases kvs with
    | nil => simp at h2
    | cons y kvs =>
      simp only [cmdCells]
      cases i with
      | zero =>
        simp at h1 h2
        subst h1
        subst h2
        rw [List.getElem?_append_left (by simp [cmdA]; omega)]
        simp
      | succ i =>
        have e : 6 * (i + 1) + j = (cmdA x y).toList.length + (6 * i + j) := by simp [cmdA]; omega
        rw [e, List.getElem?_append_right (by omega), Nat.add_sub_cancel_left]
        exact ih kvs i j c kv (by simpa using h1) (by simpa using h2) hj

/-- A list of commands that was made: its row, and the keys of each. -/
def CmdsIn (W : World) (lo : Nat) (v : Value) (cs : List Cmd) : Prop :=
  ∃ kvs : List Value, kvs.length = cs.length ∧ W.ownsRow lo 36 6 v cs.length (cmdCells cs kvs) ∧ (∀ kv ∈ kvs, ∃ a n c, kv = .slice a n c) ∧ ∀ (i : Nat) (c : Cmd) (kv : Value), cs[i]? = some c → kvs[i]? = some kv → KeysIn W lo kv c.keys
theorem CmdsIn.nil (W : World) (lo : Nat) : CmdsIn W lo (.slice none 0 0) [] := ⟨[], rfl, World.ownsRow_nil _ _ _ _, fun _ h => (by cases h), fun i c kv h => (by simp at h)⟩
theorem CmdsIn.keep {W W' : World} {lo : Nat} {v : Value} {cs : List Cmd} (h : CmdsIn W lo v cs) (k : ∀ b (Z : Array Value) (T : Nat), W.heap[b]? = some (.cells Z T (0, 0)) → (T = 36 ∨ T = 9) → lo ≤ b → W'.heap[b]? = W.heap[b]?) : CmdsIn W' lo v cs := by
  obtain ⟨kvs, h1, ⟨h2, h3⟩, hf, h4⟩ := h
  refine ⟨kvs, h1, ⟨h2, ?_⟩, hf, fun i c kv hc hkv => (h4 i c kv hc hkv).other (Nat.le_refl _) (fun b c Z hZ _ hl => k b Z 9 hZ (.inr rfl) hl)⟩
  rcases h3 with h3 | ⟨g, cap, cur, e, h5, h6, h7⟩
  · exact .inl h3
  · exact .inr ⟨g, cap, cur, e, h5, (k g cur 36 h6 (.inl rfl) h5).trans h6, h7⟩
theorem CmdsIn.below {W W' : World} {lo : Nat} {v : Value} {cs : List Cmd} (h : CmdsIn W lo v cs) (hb : Below W.heap.size W W') : CmdsIn W' lo v cs := h.keep (fun b Z T hZ _ _ => hb.block b (blkLt hZ))

theorem RdrAt.apartO {W : World} {D t b : Nat} {hb : Option Nat} {s : St} {o : Obj} (R : RdrAt W D hb t s) (hZ : W.heap[b]? = some o) (h1 : ∀ Z f, o ≠ .cells Z 134 f) (h2 : ∀ Z f, o ≠ .cells Z 5 f) : b ≠ D ∧ some b ≠ hb := by
  obtain ⟨⟨v, u, hD, ⟨⟨all, ⟨h3, h4⟩, h5⟩, hbk⟩, hiv⟩, hne⟩ := R
  refine ⟨?_, ?_⟩
  · rintro rfl
    rw [hD] at hZ
    exact h1 _ _ (Option.some.inj hZ).symm
  · rintro rfl
    rcases h4 with ⟨rfl, _⟩ | ⟨g, cap, cur, rfl, _, hg, _⟩
    · cases hbk
    · cases hbk
      rw [hg] at hZ
      exact h2 _ _ (Option.some.inj hZ).symm
theorem RdrTo.keep {W W' : World} {D t b : Nat} {hb : Option Nat} {s s2 : St} {o : Obj} (T : RdrTo W W' D hb t s2) (R : RdrAt W D hb t s) (hZ : W.heap[b]? = some o) (h1 : ∀ Z f, o ≠ .cells Z 134 f) (h2 : ∀ Z f, o ≠ .cells Z 5 f) : W'.heap[b]? = some o := by
  obtain ⟨a1, a2⟩ := R.apartO hZ h1 h2
  exact (T.turn.block b (blkLt hZ) a1 a2).trans hZ
theorem CmdsIn.rdr {W W' : World} {lo D t : Nat} {v : Value} {cs : List Cmd} {hb : Option Nat} {s s2 : St} (h : CmdsIn W lo v cs) (T : RdrTo W W' D hb t s2) (R : RdrAt W D hb t s) : CmdsIn W' lo v cs :=
  h.keep (fun b Z T' hZ hT _ => (T.keep R hZ (fun Z f e => by cases e; rcases hT with h | h <;> cases h) (fun Z f e => by cases e; rcases hT with h | h <;> cases h)).trans hZ.symm)
/-- One more. -/
theorem CmdsIn.snoc {W W' : World} {lo : Nat} {v v' : Value} {cs : List Cmd} {c : Cmd} {ka : Option Addr} {kn kc : Nat} {kvs : List Value} (h1 : kvs.length = cs.length) (hf : ∀ kv ∈ kvs, ∃ a n c, kv = .slice a n c) (h4 : ∀ (i : Nat) (c : Cmd) (kv : Value), cs[i]? = some c → kvs[i]? = some kv → KeysIn W lo kv c.keys)
    (hrow : ∀ g, v.ownBlock = some g → ∀ Z f, W.heap[g]? ≠ some (.cells Z 9 f)) (hk : KeysIn W lo (.slice ka kn kc) c.keys) (hg : W.grownBy W' v.ownBlock)
    (ho : W'.ownsRow lo 36 6 v' (cs.length + 1) (cmdCells cs kvs ++ (cmdA c (.slice ka kn kc)).toList)) : CmdsIn W' lo v' (cs ++ [c]) := by
  have keep : ∀ {kv : Value} {ss : List ByteArray}, KeysIn W lo kv ss → KeysIn W' lo kv ss := fun h => h.other (Nat.le_refl _) (fun b c Z hZ _ _ => hg.block b (blkLt hZ) (fun e => hrow b e.symm Z _ hZ))
  refine ⟨kvs ++ [.slice ka kn kc], by simp [h1], ?_, ?_, ?_⟩
  · rw [cmdCells_snoc cs kvs c _ h1, List.length_append]; exact ho
  · intro kv hkv
    rcases List.mem_append.1 hkv with h | h
    · exact hf kv h
    · rw [List.mem_singleton] at h; exact ⟨_, _, _, h⟩
  · intro i c' kv hc hkv
    by_cases hi : i < cs.length
    · rw [List.getElem?_append_left hi] at hc
      rw [List.getElem?_append_left (by omega)] at hkv
      exact keep (h4 i c' kv hc hkv)
    · have hi2 : i = cs.length := by
        have := (List.getElem?_eq_some_iff.1 hc).1
        simp at this; omega
      subst hi2
      rw [List.getElem?_append_right (Nat.le_refl _)] at hc
      rw [← h1, List.getElem?_append_right (Nat.le_refl _)] at hkv
      simp at hc hkv
      subst hc
      subst hkv
      exact keep hk
/-- A list of commands whose keys lie each in a block of its own, all ahead of block hi. -/
def CmdsAp (W : World) (lo hi : Nat) (v : Value) (cs : List Cmd) : Prop :=
  ∃ kvs : List Value, kvs.length = cs.length ∧ W.ownsRow lo 36 6 v cs.length (cmdCells cs kvs) ∧ (∀ kv ∈ kvs, ∃ a n c, kv = .slice a n c) ∧ (∀ (i : Nat) (c : Cmd) (kv : Value), cs[i]? = some c → kvs[i]? = some kv → KeysIn W lo kv c.keys) ∧ (∀ kv ∈ kvs, ∀ b, kv.ownBlock = some b → b < hi) ∧ ∀ (i j : Nat) (kv kv' : Value) (b : Nat), i < j → kvs[i]? = some kv → kvs[j]? = some kv' → kv.ownBlock = some b → kv'.ownBlock ≠ some b
theorem CmdsAp.in_ {W : World} {lo hi : Nat} {v : Value} {cs : List Cmd} (h : CmdsAp W lo hi v cs) : CmdsIn W lo v cs := by
  obtain ⟨kvs, h1, h2, h3, h4, _⟩ := h
  exact ⟨kvs, h1, h2, h3, h4⟩
theorem keys_lt {W : World} {lo b : Nat} {kv : Value} {ss : List ByteArray} (h : KeysIn W lo kv ss) (hb : kv.ownBlock = some b) : lo ≤ b ∧ b < W.heap.size := by
  rcases h with ⟨rfl, _⟩ | ⟨b', c, rfl, hl, Z, hZ, _⟩
  · cases hb
  · cases hb; exact ⟨hl, blkLt hZ⟩
theorem CmdsAp.nil (W : World) (lo hi : Nat) : CmdsAp W lo hi (.slice none 0 0) [] := ⟨[], rfl, World.ownsRow_nil _ _ _ _, fun _ h => (by cases h), fun i c kv h => (by simp at h), fun _ h => (by cases h), fun i j kv kv' b _ h => (by simp at h)⟩
theorem CmdsAp.top {W : World} {lo hi : Nat} {v : Value} {cs : List Cmd} (h : CmdsAp W lo hi v cs) : CmdsAp W lo W.heap.size v cs := by
  obtain ⟨kvs, h1, h2, h3, h4, h5, h6⟩ := h
  refine ⟨kvs, h1, h2, h3, h4, fun kv hkv b hb => ?_, h6⟩
  obtain ⟨i, hi, e⟩ := List.mem_iff_getElem.1 hkv
  have hk : kvs[i]? = some kv := by rw [List.getElem?_eq_getElem hi, e]
  have hc : cs[i]? = some (cs[i]'(by omega)) := List.getElem?_eq_getElem _
  exact (keys_lt (h4 i _ kv hc hk) hb).2
theorem CmdsAp.keep {W W' : World} {lo hi : Nat} {v : Value} {cs : List Cmd} (h : CmdsAp W lo hi v cs) (k : ∀ b (Z : Array Value) (T : Nat), W.heap[b]? = some (.cells Z T (0, 0)) → (T = 36 ∨ T = 9) → lo ≤ b → W'.heap[b]? = W.heap[b]?) : CmdsAp W' lo hi v cs := by
  obtain ⟨kvs, h1, ⟨h2, h3⟩, hf, h4, h5, h6⟩ := h
  refine ⟨kvs, h1, ⟨h2, ?_⟩, hf, fun i c kv hc hkv => (h4 i c kv hc hkv).other (Nat.le_refl _) (fun b c Z hZ _ hl => k b Z 9 hZ (.inr rfl) hl), h5, h6⟩
  rcases h3 with h3 | ⟨g, cap, cur, e, h5, h6, h7⟩
  · exact .inl h3
  · exact .inr ⟨g, cap, cur, e, h5, (k g cur 36 h6 (.inl rfl) h5).trans h6, h7⟩
theorem CmdsAp.below {W W' : World} {lo hi : Nat} {v : Value} {cs : List Cmd} (h : CmdsAp W lo hi v cs) (hb : Below W.heap.size W W') : CmdsAp W' lo hi v cs := h.keep (fun b Z T hZ _ _ => hb.block b (blkLt hZ))
theorem CmdsAp.rdr {W W' : World} {lo hi D t : Nat} {v : Value} {cs : List Cmd} {hb : Option Nat} {s s2 : St} (h : CmdsAp W lo hi v cs) (T : RdrTo W W' D hb t s2) (R : RdrAt W D hb t s) : CmdsAp W' lo hi v cs :=
  h.keep (fun b Z T' hZ hT _ => (T.keep R hZ (fun Z f e => by cases e; rcases hT with h | h <;> cases h) (fun Z f e => by cases e; rcases hT with h | h <;> cases h)).trans hZ.symm)
/-- One more. -/
theorem CmdsAp.snoc {W W' : World} {lo hi : Nat} {v v' : Value} {cs : List Cmd} {c : Cmd} {ka : Option Addr} {kn kc : Nat} {kvs : List Value} (h1 : kvs.length = cs.length) (hf : ∀ kv ∈ kvs, ∃ a n c, kv = .slice a n c) (h4 : ∀ (i : Nat) (c : Cmd) (kv : Value), cs[i]? = some c → kvs[i]? = some kv → KeysIn W lo kv c.keys)
    (h5 : ∀ kv ∈ kvs, ∀ b, kv.ownBlock = some b → b < hi) (h6 : ∀ (i j : Nat) (kv kv' : Value) (b : Nat), i < j → kvs[i]? = some kv → kvs[j]? = some kv' → kv.ownBlock = some b → kv'.ownBlock ≠ some b)
    (hrow : ∀ g, v.ownBlock = some g → ∀ Z f, W.heap[g]? ≠ some (.cells Z 9 f)) (hk : KeysIn W lo (.slice ka kn kc) c.keys) (hkb : ∀ b, (Value.slice ka kn kc).ownBlock = some b → hi ≤ b) (hg : W.grownBy W' v.ownBlock)
    (ho : W'.ownsRow lo 36 6 v' (cs.length + 1) (cmdCells cs kvs ++ (cmdA c (.slice ka kn kc)).toList)) : CmdsAp W' lo W'.heap.size v' (cs ++ [c]) := by
  have keep : ∀ {kv : Value} {ss : List ByteArray}, KeysIn W lo kv ss → KeysIn W' lo kv ss := fun h => h.other (Nat.le_refl _) (fun b c Z hZ _ _ => hg.block b (blkLt hZ) (fun e => hrow b e.symm Z _ hZ))
  have last : ∀ (j : Nat) (kv' : Value), kvs.length ≤ j → (kvs ++ [.slice ka kn kc])[j]? = some kv' → kv' = .slice ka kn kc := by
    intro j kv' hj h
    rw [List.getElem?_append_right hj] at h
    have hjl : j - kvs.length < 1 := by have := (List.getElem?_eq_some_iff.1 h).1; simpa using this
    have : j - kvs.length = 0 := by omega
    rw [this] at h
    simpa using h.symm
  refine CmdsAp.top (hi := max hi W'.heap.size) ⟨kvs ++ [.slice ka kn kc], by simp [h1], ?_, ?_, ?_, ?_, ?_⟩
  · rw [cmdCells_snoc cs kvs c _ h1, List.length_append]; exact ho
  · intro kv hkv
    rcases List.mem_append.1 hkv with h | h
    · exact hf kv h
    · rw [List.mem_singleton] at h; exact ⟨_, _, _, h⟩
  · intro i c' kv hc hkv
    by_cases hi : i < cs.length
    · rw [List.getElem?_append_left hi] at hc
      rw [List.getElem?_append_left (by omega)] at hkv
      exact keep (h4 i c' kv hc hkv)
    · have hi2 : i = cs.length := by
        have := (List.getElem?_eq_some_iff.1 hc).1
        simp at this; omega
      subst hi2
      rw [List.getElem?_append_right (Nat.le_refl _)] at hc
      rw [← h1, List.getElem?_append_right (Nat.le_refl _)] at hkv
      simp at hc hkv
      subst hc
      subst hkv
      exact keep hk
  · intro kv hkv b hb
    rcases List.mem_append.1 hkv with h | h
    · have := h5 kv h b hb; omega
    · rw [List.mem_singleton] at h
      subst h
      have := (keys_lt (keep hk) hb).2
      omega
  · intro i j kv kv' b hij hi hj hb
    by_cases hjl : j < kvs.length
    · rw [List.getElem?_append_left (by omega)] at hi
      rw [List.getElem?_append_left hjl] at hj
      exact h6 i j kv kv' b hij hi hj hb
    · have e := last j kv' (by omega) hj
      subst e
      have hil : i < kvs.length := by
        have := (List.getElem?_eq_some_iff.1 hj).1
        simp at this; omega
      rw [List.getElem?_append_left hil] at hi
      intro h
      have h1 := hkb b h
      have h2 := h5 kv (List.mem_of_getElem? hi) b hb
      omega
theorem info36 : ∃ i z, Tryz.prog.info? 36 = some i ∧ i.zero = some z ∧ i.size = 6 ∧ i.bytes = 80 ∧ z.cells.size = 6 := by
  have h : (Tryz.prog.info? 36).map (fun i => (i.zero, i.size, i.bytes)) = some (some (.agg #[.int .i64 0, .slice none 0 0, .string ⟨#[]⟩, .string ⟨#[]⟩, .bool false, .int .i64 0]), 6, 80) := by kernel_rfl
  cases hi : Tryz.prog.info? 36 with
  | none => rw [hi] at h; cases h
  | some i =>
    rw [hi] at h
    simp only [Option.map_some, Option.some.injEq, Prod.mk.injEq] at h
    exact ⟨i, _, rfl, h.1, h.2.1, h.2.2, rfl⟩
end Go.Proofs.YtlonjggfnleolaaGreatDoor


/-
  Feed, for every reader and every piece.
-/

namespace Go.Proofs.YtlonjggfnleolaaGreatDoor
open Go.RowKit Go.Shelf
set_option linter.unusedVariables false
attribute [local go_sem] Oper.semAt_some

/-- What was collected so far: the loop's own object at L, its defers at K, the list at the head of block B. -/
structure Coll (w W : World) (D t B : Nat) (hb0 hb : Option Nat) (L K : Nat) (lo : Obj) (done : List Cmd) : Prop where
  hl : W.heap[L]? = some lo
  hk : W.heap[K]? = some (.deferred (some []))
  hv : ∃ v, W.heap[w.heap.size]? = some (.cells #[v] 28 (0, 0)) ∧ CmdsAp W w.heap.size W.heap.size v done
  turn : Turn2 D hb0 w W
  fresh : Fresh w hb0 hb
  len : ∃ s, RdrAt W D hb t s ∧ done.length + s.held.length ≤ B

theorem putObj_below (w : World) (r : Nat) (o : Obj) (a : World) (D : Nat) (hb : Option Nat) (h : Turn2 D hb a w) (hr : a.heap.size ≤ r) : Turn2 D hb a (w.putObj r o) :=
  ⟨h.os, h.tape, h.output, by simpa using h.size, fun k hk hn hh => (World.putObj_heap_other (by omega)).trans (h.block k hk hn hh)⟩

set_option maxRecDepth 20000 in
set_option maxHeartbeats 4000000 in
theorem appendSeq_ap (X D t : Nat) (d : Int) (hb0 : Option Nat) (s0 : St) (w : World)
    (hRead : ∀ W hb s, RdrAt W D hb t s → s.held.length ≤ 140737488355328 → Calls Tryz.prog 121 #[.pointer (some ⟨D, 0, none⟩)] W fun e w' => ReadOut W w' D hb t s (readR d s.held) e)
    (R0 : RdrAt w D hb0 t s0) (hX : w.heap[X]? = some (boxR D)) (hsm : s0.held.length ≤ 1000000000000) :
    Calls Tryz.prog 119 #[.slice none 0 0, .func (.func 120) #[] #[.pointer (some ⟨X, 0, none⟩)]] w fun e w' => ∃ v hb', e = .returned v ∧ CmdsAp w' w.heap.size w'.heap.size v (drainS d s0).1 ∧ RdrAt w' D hb' t (drainS d s0).2 ∧ Fresh w hb0 hb' ∧ Turn2 D hb0 w w' := by
  refine (callsIn_wide (n := 9)).1 ?_
  refine callsIn_of_wp_marks Tryz.func119 rfl trivial ?_ rfl
  simp only [Tryz.ntmps119, List.size_toArray, List.length_cons, List.length_nil, Nat.reduceAdd, Nat.reduceSub, Array.replicate_succ, Array.replicate_zero, List.push_toArray, List.append_toArray, List.nil_append, List.cons_append]
  gi_wp2
  generalize hw1 : w.alloc (Obj.cells #[Value.slice none 0 0] 28) = w1
  have hs1 : w1.heap.size = w.heap.size + 1 := by rw [← hw1]; simp
  have hSB1 : w1.heap[w.heap.size]? = some (.cells #[.slice none 0 0] 28 (0, 0)) := by rw [← hw1]; exact blkNew w _
  have hB1 : Below w.heap.size w w1 := by rw [← hw1]; exact (Below.refl _ _).alloc (Nat.le_refl _) _
  clear hw1
  refine wpIn_rangeFunc ?_
  intro fn hfn
  generalize hrec : (fun (st : LoopState) (pe : Option Code) => ({ state := st, pending := pe, fn := fn, tmps := #[Value.slice none 0 0, Value.func (Fn.func 120) #[] #[Value.pointer (some { block := X, off := 0 })], Value.pointer (some { block := w.heap.size, off := 0 }), undef, Value.slice none 0 0, undef, Value.func (Fn.func 120) #[] #[Value.pointer (some { block := X, off := 0 })], undef, undef, undef, undef, undef, undef], params := #[7], assign := (Code.region 2 #[{ dst := some 5, op := Op.alloc 36, type := 0, pos := "iter.go:51", after := #[], guard := none }, { dst := none, op := Op.store 36 (Operand.tmp 5) (Operand.tmp 7), type := 0, pos := "iter.go:51", after := #[{ on := 0, ground := Ground.data }, { on := 0, ground := Ground.phase }], guard := none }] false), body := (Code.block 1 (Code.region 3 #[{ dst := some 8, op := Op.load 28 (Operand.tmp 2), type := 28, pos := "iter.go:52", after := #[], guard := none }, { dst := some 9, op := Op.load 36 (Operand.tmp 5), type := 36, pos := "iter.go:52", after := #[], guard := none }, { dst := some 10, op := Op.buildSlice 28 1 #[(0, Operand.tmp 9)], type := 28, pos := "iter.go:52", after := #[{ on := 1, ground := Ground.data }], guard := none }, { dst := some 11, op := Op.call { callee := Callee.builtin Builtin.append, args := #[Operand.tmp 8, Operand.tmp 10], argTypes := #[28, 28] }, type := 28, pos := "iter.go:52", after := #[{ on := 0, ground := Ground.data }, { on := 2, ground := Ground.data }], guard := none }, { dst := none, op := Op.store 28 (Operand.tmp 2) (Operand.tmp 11), type := 0, pos := "iter.go:52", after := #[{ on := 3, ground := Ground.data }, { on := 3, ground := Ground.chain }, { on := 0, ground := Ground.phase }, { on := 1, ground := Ground.phase }, { on := 2, ground := Ground.phase }, { on := 3, ground := Ground.phase }], guard := none }] false)), defers := w1.heap.size } : Loop)) = rec
  generalize hW1 : (w1.alloc (.deferred (some []))).alloc (.loop (rec .ready none)) = W1
  have hsW : W1.heap.size = w.heap.size + 3 := by rw [← hW1]; simp; omega
  have hL1 : W1.heap[w1.heap.size + 1]? = some (.loop (rec .ready none)) := by
    rw [← hW1]; have := blkNew (w1.alloc (.deferred (some []))) (.loop (rec .ready none)); rwa [World.size_alloc] at this
  have hK1 : W1.heap[w1.heap.size]? = some (.deferred (some [])) := by
    rw [← hW1]; exact (Below.heap_alloc _ _ _ (by simp)).trans (blkNew w1 _)
  have hBW : Below w1.heap.size w1 W1 := by
    rw [← hW1]; exact (((Below.refl _ w1).alloc (Nat.le_refl _) _).alloc (by simp) _)
  refine ⟨w1.heap.size + 1, [{ target := .collected w1.heap.size, args := #[] }], W1, { target := .fn (.func 120) #[.pointer (some ⟨X, 0, none⟩)], args := #[.func (.yield (w1.heap.size + 1)) #[] #[]] }, W1, 120,
    #[.func (.yield (w1.heap.size + 1)) #[] #[], .pointer (some ⟨X, 0, none⟩)], W1, ?_, ?_, ?_, ?_, fun _ => by omega, ?_⟩
  · rw [← hW1, ← hrec]; exact run_enterLoop_outer _ _ _ _ _
  · simp [resolve, go_sem]
  · intro f' hf'; trivial
  · have eg := enters_of Tryz.func120 (by kernel_rfl) rfl
    simp [invoke, go_sem]
  · have lX := blkLt hX
    have hBw : Below w.heap.size w W1 := hB1.trans (hBW.mono (by omega))
    have hX1 := (hBw.block X lX).trans hX
    have hR1 := R0.below hBw
    have hSB : W1.heap[w.heap.size]? = some (.cells #[.slice none 0 0] 28 (0, 0)) := (hBW.block w.heap.size (by omega)).trans hSB1
    have lD := (R0.lt).1
    clear hW1
    refine (next1_any (w1.heap.size + 1) X D t d W1 (fun hb done W => Coll w W D t 1000000000000 hb0 hb (w1.heap.size + 1) w1.heap.size (.loop (rec .ready none)) done) hRead ?hB ?hY s0 hb0 hR1 hX1 ⟨hL1, hK1, ⟨_, hSB, CmdsAp.nil _ _ _⟩, .of_below hBw, .inl rfl, s0, hR1, by simpa using hsm⟩ (by omega)).mono ?hdone
    case hB =>
      rintro hb done A B ⟨h1, h2, ⟨v, h3, h4⟩, h5, h6, s, h7, h8⟩ hAB
      exact ⟨(hAB.block _ (blkLt h1)).trans h1, (hAB.block _ (blkLt h2)).trans h2, ⟨v, (hAB.block _ (blkLt h3)).trans h3, (h4.below hAB).top⟩, h5.trans (.of_below (hb := none) hAB) (.inr (.inl rfl)), h6, s, h7.below hAB, h8⟩
    case hY =>
      rintro hb done W s x Wr ka kn kc ⟨h1, h2, ⟨v, h3, h4⟩, h5, h6, s', h7, h8⟩ hR hx hk T1 hXr
      have hlen : s'.held.length = s.held.length := by rw [← h7.len, hR.len]
      have hdrop := afterS_len hx
      -- behind the read
      have r1 := T1.keep hR h1 (fun Z f e => by cases e) (fun Z f e => by cases e)
      have r2 := T1.keep hR h2 (fun Z f e => by cases e) (fun Z f e => by cases e)
      have r3 := T1.keep hR h3 (fun Z f e => by cases e) (fun Z f e => by cases e)
      have r4 := h4.rdr T1 hR
      have szW := T1.turn.size
      obtain ⟨⟨hb2, RR, FF⟩, TT⟩ := T1
      have T5 := h5.trans TT h6
      have F5 : Fresh w hb0 hb2 := h6.trans FF h5.size
      have hkb : ∀ b, (Value.slice ka kn kc).ownBlock = some b → W.heap.size ≤ b := fun b hb => (keys_lt hk hb).1
      have hkk : KeysIn Wr w.heap.size (.slice ka kn kc) x.c.keys := hk.other (by have := h5.size; omega) (fun _ _ _ _ _ _ => rfl)
      have hwW := h5.size
      have hL2 := blkLt r1
      have hK2 := blkLt r2
      have hS2 := blkLt r3
      clear hL1 hK1 hSB hX1 hR1 hBw hBW hSB1 hB1 h1 h2 h3 h4 h7 hR TT FF hk h5 h6
      -- the box of the iterator
      have B2 : Below Wr.heap.size Wr (Wr.alloc (.cells #[.int .i64 x.c.kind, .slice ka kn kc, .string x.c.val, .string x.c.word, .bool x.c.fatal, .int .i64 x.c.id] 36)) := (Below.refl _ _).alloc (Nat.le_refl _) _
      generalize hW2 : Wr.alloc (.cells #[.int .i64 x.c.kind, .slice ka kn kc, .string x.c.val, .string x.c.word, .bool x.c.fatal, .int .i64 x.c.id] 36) = W2 at *
      have l2 := (B2.block _ hL2).trans r1
      have k2 := (B2.block _ hK2).trans r2
      have s2 := (B2.block _ hS2).trans r3
      have c2 := r4.below B2
      have R2 := RR.below B2
      have X2 := (B2.block _ (blkLt hXr)).trans hXr
      have T2 := T5.trans (.of_below (hb := none) B2) (.inr (.inl rfl))
      have kk2 : KeysIn W2 w.heap.size (.slice ka kn kc) x.c.keys := hkk.other (Nat.le_refl _) (fun b c Z hZ _ _ => B2.block b (blkLt hZ))
      clear hW2 B2 r1 r2 r3 r4 RR hXr T5 hkk hL2 hK2 hS2 szW
      have hyr := run_yield (P := Tryz.prog) (args := #[.agg #[.int .i64 x.c.kind, .slice ka kn kc, .string x.c.val, .string x.c.word, .bool x.c.fatal, .int .i64 x.c.id]]) l2 (by rw [← hrec]; rfl)
      rw [← hrec] at hyr
      refine ⟨fn, _, _, _, hyr, roundIn_of_wpIn hfn ?_⟩
      have H2 := hide' (And.intro l2 (And.intro k2 (And.intro s2 (And.intro c2 (And.intro R2 (And.intro X2 (And.intro T2 kk2)))))))
      clear hyr l2 k2 s2 c2 R2 X2 T2 kk2
      dsimp only
      gi_wp2
      obtain ⟨l2, k2, s2, c2, R2, X2, T2, kk2⟩ := H2.out
      clear H2
      have B3 : Below W2.heap.size W2 (W2.alloc (.cells #[.int .i64 x.c.kind, .slice ka kn kc, .string x.c.val, .string x.c.word, .bool x.c.fatal, .int .i64 x.c.id] 36)) := (Below.refl _ _).alloc (Nat.le_refl _) _
      have hV3 := blkNew W2 (.cells #[.int .i64 x.c.kind, .slice ka kn kc, .string x.c.val, .string x.c.word, .bool x.c.fatal, .int .i64 x.c.id] 36)
      generalize hW3 : W2.alloc (.cells #[.int .i64 x.c.kind, .slice ka kn kc, .string x.c.val, .string x.c.word, .bool x.c.fatal, .int .i64 x.c.id] 36) = W3 at *
      have l3 := (B3.block _ (blkLt l2)).trans l2
      have k3 := (B3.block _ (blkLt k2)).trans k2
      have s3 := (B3.block _ (blkLt s2)).trans s2
      have c3 := c2.below B3
      have R3 := R2.below B3
      have X3 := (B3.block _ (blkLt X2)).trans X2
      have T3 := T2.trans (.of_below (hb := none) B3) (.inr (.inl rfl))
      have kk3 : KeysIn W3 w.heap.size (.slice ka kn kc) x.c.keys := kk2.other (Nat.le_refl _) (fun b c Z hZ _ _ => B3.block b (blkLt hZ))
      have sz3 : W2.heap.size < W3.heap.size := blkLt hV3
      have lW2 : w1.heap.size + 1 < W2.heap.size := blkLt l2
      clear hW3 B3 l2 k2 s2 c2 R2 X2 T2 kk2
      refine ⟨_, run_beginRound l3 (by rw [← hrec]), ?_⟩
      have hlt3 := blkLt l3
      generalize hW4 : W3.putObj (w1.heap.size + 1) (.loop { rec .ready none with state := .busy }) = W4
      have oth : ∀ k, k ≠ w1.heap.size + 1 → W4.heap[k]? = W3.heap[k]? := fun k hk => by rw [← hW4]; exact World.putObj_heap_other hk
      have othc : ∀ k (Z : Array Value) (T : Nat) f, W3.heap[k]? = some (.cells Z T f) → k ≠ w1.heap.size + 1 := fun k Z T f hZ e => by rw [e, l3] at hZ; cases hZ
      have l4 : W4.heap[w1.heap.size + 1]? = some (.loop { rec .ready none with state := .busy }) := by rw [← hW4]; exact World.putObj_heap_same hlt3
      have sz4 : W4.heap.size = W3.heap.size := by rw [← hW4]; simp [World.putObj]
      have T4 : Turn2 D hb0 w W4 := by rw [← hW4]; exact putObj_below _ _ _ _ _ _ T3 (by omega)
      have s4 := (oth _ (show w.heap.size ≠ w1.heap.size + 1 by omega)).trans s3
      have k4 := (oth _ (show w1.heap.size ≠ w1.heap.size + 1 by omega)).trans k3
      have c4 : CmdsAp W4 w.heap.size W.heap.size v done := c3.keep (fun b Z T hZ _ _ => oth b (othc b Z T _ hZ))
      have hap := R3.apartO l3 (fun Z f e => by cases e) (fun Z f e => by cases e)
      have R4 : RdrAt W4 D hb2 t (afterS s x) := R3.other (oth D (fun e => hap.1 e.symm)) (fun b hb' => oth b (fun e => hap.2 (by rw [hb', e])))
      have X4 := (oth X (othc X _ _ _ X3)).trans X3
      have V4 := (oth W2.heap.size (by omega)).trans hV3
      have kk4 : KeysIn W4 w.heap.size (.slice ka kn kc) x.c.keys := kk3.other (Nat.le_refl _) (fun b c Z hZ _ _ => oth b (othc b Z 9 _ hZ))
      clear oth othc l3 k3 s3 c3 R3 X3 T3 kk3 hV3 hW4 hlt3 hap
      have q0 := blkCell s4 0
      have qf := blkFree s4
      have v0 := blkCell V4 0
      have v1 := blkCell V4 1
      have v2 := blkCell V4 2
      have v3 := blkCell V4 3
      have v4 := blkCell V4 4
      have v5 := blkCell V4 5
      simp at q0 v0 v1 v2 v3 v4 v5
      have lt4 : w.heap.size < W4.heap.size := blkLt s4
      have ltV : W2.heap.size < W4.heap.size := blkLt V4
      have HW := hide' (And.intro l4 (And.intro k4 (And.intro s4 (And.intro c4 (And.intro R4 (And.intro X4 (And.intro T4 kk4)))))))
      obtain ⟨kvs, hc1, hc2, hcf, hc4, hc5, hc6⟩ := c4
      obtain ⟨va, vn, vc, hvf⟩ := own_form hc2
      subst hvf
      obtain ⟨i36, z36, hi, hz0, hz1, hz2, hz3⟩ := info36
      have HI := hide' (And.intro hi (And.intro hz0 (And.intro hz1 (And.intro hz2 hz3))))
      have HC := hide' (And.intro hc1 (And.intro hc2 (And.intro hcf (And.intro hc4 (And.intro hc5 (And.intro hc6 hkb))))))
      have HNw := hide' (show ∀ (j : Nat) (u : Value), [Value.int IntKind.i64 x.c.kind, .slice ka kn kc, .string x.c.val, .string x.c.word, .bool x.c.fatal, .int .i64 x.c.id][j]? = some u → (W4.alloc (.cells #[.int .i64 x.c.kind, .slice ka kn kc, .string x.c.val, .string x.c.word, .bool x.c.fatal, .int .i64 x.c.id] 36)).cell? ((⟨W4.heap.size, 0, none⟩ : Addr).add j) = some u from World.news_of_block (cs := #[.int .i64 x.c.kind, .slice ka kn kc, .string x.c.val, .string x.c.word, .bool x.c.fatal, .int .i64 x.c.id]) (blkNew W4 _))
      have HN : Hid (done.length + s.held.length ≤ 1000000000000) := by show _ ≤ _; omega
      have hd12 : done.length + 1 ≤ 1000000000000 := by omega
      have HZ1 := hide' (And.intro hs1 (And.intro hsW (And.intro hwW (And.intro lW2 (And.intro sz3 sz4)))))
      clear l4 k4 s4 R4 X4 T4 kk4 V4 hc1 hc2 hcf hc4 hc5 hc6 hkb hi hz0 hz1 hz2 hz3 hs1 hsW hwW lW2 sz3 sz4
      have hrow : ∀ g, (Value.slice va vn vc).ownBlock = some g → ∃ cur, W4.heap[g]? = some (.cells cur 36 (0, 0)) := fun g hg => by
        rcases HC.out.2.1.2 with ⟨e, _⟩ | ⟨g', cap, cur, e, _, h6, _⟩
        · rw [e] at hg; cases hg
        · rw [e] at hg; cases hg; exact ⟨cur, h6⟩
      have hneS : some w.heap.size ≠ (Value.slice va vn vc).ownBlock := fun e => by
        obtain ⟨cur, hc⟩ := hrow _ e.symm
        rw [HW.out.2.2.1] at hc
        cases hc
      have HRow := hide' (And.intro hrow hneS)
      clear hrow hneS
      have HDL : Hid (done.length = done.length) := (show _ = _ from rfl)
      gi_wp2_with (first
        | (gi_at_builtin; refine wpListIn_append_own_at _ rfl _ _ _ rfl w.heap.size 36 i36 z36 6 80 Tryz.underlying28 HI.out.1 HI.out.2.1 HI.out.2.2.1 HI.out.2.2.2.1 HI.out.2.2.2.2 (by omega) (.slice va vn vc) done.length (cmdCells done kvs) rfl (World.ownsRow.alloc HC.out.2.1 _) ⟨W4.heap.size, 0, none⟩ 1 1 [Value.int IntKind.i64 x.c.kind, .slice ka kn kc, .string x.c.val, .string x.c.word, .bool x.c.fatal, .int .i64 x.c.id] rfl rfl HNw.out (by simp [Value.oneCell']) (by unfold maxLen; omega) (by omega) (by simp; omega) ?_; intro v' w5 hown hgrow hnil hat; obtain ⟨ua, un, uc, huf⟩ := own_form hown; subst huf; have es := (hgrow.block w.heap.size (by simp; omega) HRow.out.2).trans ((Below.heap_alloc _ _ _ lt4).trans HW.out.2.2.1); have e0 := blkCell es 0; have ef := blkFree es; simp at e0; have HG := hide' (And.intro hown (And.intro hgrow (And.intro hat es))); clear hown hgrow hnil hat es)
        | fail)
      obtain ⟨l4, k4, s4, c4, R4, X4, T4, kk4⟩ := HW.out
      obtain ⟨hown, hgrow, hat, es⟩ := HG.out
      obtain ⟨hrow, hneS⟩ := HRow.out
      obtain ⟨z1, z2, z3, z4, z5, z6⟩ := HZ1.out
      obtain ⟨hc1, hc2, hcf, hc4, hc5, hc6, hkb⟩ := HC.out
      clear HW HG HRow HZ1 HC HI HNw
      have hrg : ∀ g, (Value.slice va vn vc).ownBlock = some g → w.heap.size ≤ g := fun g hg => by
        rcases hc2.2 with ⟨e, _⟩ | ⟨g', cap, cur, e, h5, h6, _⟩
        · rw [e] at hg; cases hg
        · rw [e] at hg; cases hg; exact h5
      have Ba : Below W4.heap.size W4 (W4.alloc (.cells #[.int .i64 x.c.kind, .slice ka kn kc, .string x.c.val, .string x.c.word, .bool x.c.fatal, .int .i64 x.c.id] 36)) := (Below.refl _ _).alloc (Nat.le_refl _) _
      have keep5 : ∀ b o, W4.heap[b]? = some o → b ≠ w.heap.size → (∀ Z f, o ≠ .cells Z 36 f) → (w5.setCell ⟨w.heap.size, 0, none⟩ (.slice ua un uc)).heap[b]? = some o := fun b o h hb' hne =>
        (Below.heap_setCell w5 ⟨w.heap.size, 0, none⟩ _ b hb').trans ((hgrow.block b (by have := blkLt h; have := Ba.size; omega) (fun e => by
          obtain ⟨cur, hc⟩ := hrow b e.symm
          rw [h] at hc
          exact hne _ _ (Option.some.inj hc))).trans ((Ba.block b (blkLt h)).trans h))
      have l5 := keep5 _ _ l4 (by omega) (fun Z f e => by cases e)
      have k5 := keep5 _ _ k4 (by omega) (fun Z f e => by cases e)
      have X5 := keep5 X _ X4 (fun e => by rw [e, s4] at X4; cases X4) (fun Z f e => by cases e)
      have c5 : CmdsAp w5 w.heap.size w5.heap.size (.slice ua un uc) (done ++ [x.c]) :=
        CmdsAp.snoc (W := W4.alloc (.cells #[.int .i64 x.c.kind, .slice ka kn kc, .string x.c.val, .string x.c.word, .bool x.c.fatal, .int .i64 x.c.id] 36)) hc1 hcf (fun i c kv hci hkv => (hc4 i c kv hci hkv).other (Nat.le_refl _) (fun b c Z hZ _ _ => Ba.block b (blkLt hZ))) hc5 hc6
          (fun g hg Z f hZ => by
            obtain ⟨cur, hc⟩ := hrow g hg
            rw [(Ba.block g (blkLt hc)), hc] at hZ
            cases hZ) (kk4.other (Nat.le_refl _) (fun b c Z hZ _ _ => Ba.block b (blkLt hZ))) hkb hgrow hown
      have c6 : CmdsAp (w5.setCell ⟨w.heap.size, 0, none⟩ (.slice ua un uc)) w.heap.size w5.heap.size (.slice ua un uc) (done ++ [x.c]) := c5.keep (fun b Z T hZ hT _ => Below.heap_setCell w5 ⟨w.heap.size, 0, none⟩ _ b (fun e => by
        rw [show b = w.heap.size from e, es] at hZ
        cases hZ
        rcases hT with h | h <;> cases h))
      have s6 := blkSet (i := 0) es (.slice ua un uc)
      have R5 : RdrAt (w5.setCell ⟨w.heap.size, 0, none⟩ (.slice ua un uc)) D hb2 t (afterS s x) := by
        obtain ⟨⟨rv, ru, hD, H, hiv⟩, hne⟩ := R4
        have hD5 := keep5 D _ hD (fun e => by rw [e, s4] at hD; cases hD) (fun Z f e => by cases e)
        refine ⟨⟨rv, ru, hD5, H.other (fun b hb' => ?_), hiv⟩, hne⟩
        obtain ⟨⟨all, ⟨e1, e2⟩, e3⟩, hbk⟩ := H
        rcases e2 with ⟨rfl, _⟩ | ⟨g, cap, cur, rfl, _, hg, _⟩
        · rw [hb'] at hbk; cases hbk
        · rw [hb'] at hbk
          cases hbk
          exact (keep5 g _ hg (fun e => by rw [e, s4] at hg; cases hg) (fun Z f e => by cases e)).trans hg.symm
      have T6 : Turn2 D hb0 w (w5.setCell ⟨w.heap.size, 0, none⟩ (.slice ua un uc)) := by
        have sb : Below 0 w5 (w5.setCell ⟨w.heap.size, 0, none⟩ (.slice ua un uc)) := (Below.refl 0 w5).setCell (p := ⟨w.heap.size, 0, none⟩) (Nat.zero_le _) _
        refine ⟨by rw [sb.os, hgrow.os, Ba.os, T4.os], by rw [sb.tape, hgrow.tape, Ba.tape, T4.tape], by rw [sb.output, hgrow.output, Ba.output, T4.output], Nat.le_trans T4.size (Nat.le_trans Ba.size (Nat.le_trans hgrow.size sb.size)), fun k hk hn hh => ?_⟩
        have h4s := T4.size
        rw [Below.heap_setCell w5 ⟨w.heap.size, 0, none⟩ _ k (by show k ≠ w.heap.size; omega), hgrow.block k (by have := Ba.size; omega) (fun e => by have := hrg k e.symm; omega), Ba.block k (by omega), T4.block k hk hn hh]
      have sz6 : (w5.setCell ⟨w.heap.size, 0, none⟩ (.slice ua un uc)).heap.size = w5.heap.size := by simp
      clear keep5 c5 hown hgrow es
      generalize w5.setCell ⟨w.heap.size, 0, none⟩ (.slice ua un uc) = S6 at *
      have lk6 := blkLt l5
      refine ⟨_, _, run_endRound (P := Tryz.prog) none l5, rfl, hb2, ?_, ?_, ?_⟩
      · have hap := R5.apartO l5 (fun Z f e => by cases e) (fun Z f e => by cases e)
        exact R5.other (World.putObj_heap_other (fun e => hap.1 e.symm)) (fun b hb' => World.putObj_heap_other (fun e => hap.2 (by rw [hb', e])))
      · exact (World.putObj_heap_other (fun e => by rw [e, l5] at X5; cases X5)).trans X5
      · refine ⟨?_, (World.putObj_heap_other (by omega)).trans k5, ⟨_, (World.putObj_heap_other (by omega)).trans (s6.trans rfl), (c6.keep (fun b Z T hZ _ _ => World.putObj_heap_other (fun e => by rw [e, l5] at hZ; cases hZ))).top⟩, putObj_below _ _ _ _ _ _ T6 (by omega), F5, afterS s x, ?_, ?_⟩
        · rw [World.putObj_heap_same lk6, ← hrec]; rfl
        · have hap := R5.apartO l5 (fun Z f e => by cases e) (fun Z f e => by cases e)
          exact R5.other (World.putObj_heap_other (fun e => hap.1 e.symm)) (fun b hb' => World.putObj_heap_other (fun e => hap.2 (by rw [hb', e])))
        · have := HN.out
          rw [List.length_append]
          show done.length + 1 + _ ≤ _
          omega
    case hdone =>
      rintro e W6 ⟨⟨rv, rfl⟩, hb', R6, ⟨hl6, hk6, ⟨v, hs6, G⟩, T6, F6, _⟩⟩
      have hp : (rec .ready none).pending = none := by rw [← hrec]
      obtain ⟨o7, hend⟩ : ∃ o, (Instr.endLoop (w1.heap.size + 1)).run Tryz.prog W6 = .ok none (W6.putObj (w1.heap.size + 1) o) := by
        have := run_endLoop (P := Tryz.prog) hl6 (by rw [← hrec]; simp)
        rw [hp] at this
        exact ⟨_, this⟩
      refine ⟨none, _, hend, ?_⟩
      have hap := R6.apartO hl6 (fun Z f e => by cases e) (fun Z f e => by cases e)
      have G7 : CmdsAp (W6.putObj (w1.heap.size + 1) o7) w.heap.size W6.heap.size v (drainS d s0).1 := G.keep (fun b Z T hZ _ _ => World.putObj_heap_other (fun e => by rw [e, hl6] at hZ; cases hZ))
      have R7 : RdrAt (W6.putObj (w1.heap.size + 1) o7) D hb' t (drainS d s0).2 := R6.other (World.putObj_heap_other (fun e => hap.1 e.symm)) (fun b hb'' => World.putObj_heap_other (fun e => hap.2 (by rw [hb'', e])))
      have hs7 := (World.putObj_heap_other (w := W6) (r := w1.heap.size + 1) (o := o7) (show w.heap.size ≠ w1.heap.size + 1 by omega)).trans hs6
      have hk7 := (World.putObj_heap_other (w := W6) (r := w1.heap.size + 1) (o := o7) (show w1.heap.size ≠ w1.heap.size + 1 by omega)).trans hk6
      have T7 := putObj_below W6 (w1.heap.size + 1) o7 w D hb0 T6 (by omega)
      generalize W6.putObj (w1.heap.size + 1) o7 = W7 at *
      have c7 := blkCell hs7 0
      simp at c7
      have HG := hide' (And.intro G7 (And.intro R7 (And.intro T7 F6)))
      have HK7 := hide' hk7
      have H1 := hide' hs1
      have hvf : ∃ a n c, v = .slice a n c := by obtain ⟨kvs, _, ho, _⟩ := G7; exact own_form ho
      obtain ⟨va, vn, vc, rfl⟩ := hvf
      clear G7 R7 T7 hs7 hk7 hs1 hend hl6 hk6 hs6 G hp hL1 hK1 hX1 hR1 hSB hBw hBW hSB1 hB1 hX R0 hrec T6 F6 R6 hap hRead
      dsimp only
      gi_wp2
      refine ⟨by simp, .inl ⟨_, _, rfl, run_takeDeferred HK7.out, ?_⟩⟩
      refine ⟨_, results_tmp rfl _ _ _, .slice va vn vc, hb', rfl, ?_⟩
      obtain ⟨G, R, T, F⟩ := HG.out
      have hk := HK7.out
      have z1 := H1.out
      have hap := R.apartO hk (fun Z f e => by cases e) (fun Z f e => by cases e)
      exact ⟨(G.keep (fun b Z T hZ _ _ => World.putObj_heap_other (fun e => by rw [e, hk] at hZ; cases hZ))).top, R.other (World.putObj_heap_other (fun e => hap.1 e.symm)) (fun b hb'' => World.putObj_heap_other (fun e => hap.2 (by rw [hb'', e]))), F, putObj_below _ _ _ _ _ _ T (by omega)⟩
theorem appendSeq_any (X D t : Nat) (d : Int) (hb0 : Option Nat) (s0 : St) (w : World)
    (hRead : ∀ W hb s, RdrAt W D hb t s → s.held.length ≤ 140737488355328 → Calls Tryz.prog 121 #[.pointer (some ⟨D, 0, none⟩)] W fun e w' => ReadOut W w' D hb t s (readR d s.held) e)
    (R0 : RdrAt w D hb0 t s0) (hX : w.heap[X]? = some (boxR D)) (hsm : s0.held.length ≤ 1000000000000) :
    Calls Tryz.prog 119 #[.slice none 0 0, .func (.func 120) #[] #[.pointer (some ⟨X, 0, none⟩)]] w fun e w' => ∃ v hb', e = .returned v ∧ CmdsIn w' w.heap.size v (drainS d s0).1 ∧ RdrAt w' D hb' t (drainS d s0).2 ∧ Fresh w hb0 hb' ∧ Turn2 D hb0 w w' :=
  (appendSeq_ap X D t d hb0 s0 w hRead R0 hX hsm).mono fun e w' ⟨v, hb', h1, h2, h3⟩ => ⟨v, hb', h1, h2.in_, h3⟩
end Go.Proofs.YtlonjggfnleolaaGreatDoor


/-
  Feed, Next, Rest, Decoder: for every reader.
-/

namespace Go.Proofs.YtlonjggfnleolaaGreatDoor
open Go.RowKit Go.Shelf
set_option linter.unusedVariables false

def dT (d : Int) (t : Nat) : Prop := (d = 1 ∧ t = 160) ∨ (d = 2 ∧ t = 161) ∨ (d = 3 ∧ t = 162)
theorem readRd_any (D t : Nat) (d : Int) (hd : dT d t) : ∀ W hb s, RdrAt W D hb t s → s.held.length ≤ 140737488355328 → Calls Tryz.prog 121 #[.pointer (some ⟨D, 0, none⟩)] W fun e w' => ReadOut W w' D hb t s (readR d s.held) e := by
  intro W hb s R hs
  rcases hd with ⟨rfl, rfl⟩ | ⟨rfl, rfl⟩ | ⟨rfl, rfl⟩
  · exact readRd1 D hb s W R hs
  · exact readRd2 D hb s W R hs
  · exact readRd3 D hb s W R hs
theorem takeS_len (s : St) (p : List UInt8) : (takeS s p).held.length ≤ s.held.length + p.length := by
  unfold takeS
  split
  · omega
  · split
    · have := passL_len (s.held ++ p)
      show (passL (s.held ++ p)).1.length ≤ _
      simp at this; omega
    · simp

set_option maxRecDepth 20000 in
set_option maxHeartbeats 1000000 in
theorem next_any (D t : Nat) (hb : Option Nat) (s : St) (piece : ByteArray) (w : World) (R : RdrAt w D hb t s) (hsm : 2 * s.held.length + piece.size ≤ 140737488355328) :
    Calls Tryz.prog 73 #[.pointer (some ⟨D, 0, none⟩), .string piece] w fun e w' => e = .returned (.func (.func 120) #[] #[.pointer (some ⟨w.heap.size, 0, none⟩)]) ∧ w'.heap[w.heap.size]? = some (boxR D) ∧ ∃ hb', RdrAt w' D hb' t (takeS s piece.data.toList) ∧ Fresh w hb hb' ∧ Turn2 D hb w w' := by
  have hB : Below w.heap.size w (w.alloc (boxR D)) := (Below.refl _ _).alloc (Nat.le_refl _) _
  have R1 := R.below hB
  have H := hide' (take_any D t hb s piece (w.alloc (boxR D)) R1 hsm)
  have hlt := (R.lt).1
  have HR := hide' (And.intro R1 hB)
  clear R R1 hB
  go_enter Tryz.func73, Tryz.ntmps73
  go_wp2_with fail
  go_at_call 58
  refine H.out.mono ?_
  rintro e w1 ⟨rfl, T⟩
  have HT := hide' T
  clear T
  go_wp2
  go_ret
  have hbx := HT.out.keep HR.out.1 (blkNew w (boxR D)) (fun Z f e => by cases e) (fun Z f e => by cases e)
  obtain ⟨⟨hb', R', F'⟩, T'⟩ := HT.out
  exact ⟨rfl, hbx, hb', R', Fresh.trans (a := w) (.inl rfl) F' HR.out.2.size, (Turn2.of_below HR.out.2).trans T' (.inl rfl)⟩

set_option maxRecDepth 20000 in
set_option maxHeartbeats 1000000 in
theorem feed_ap (D t : Nat) (d : Int) (hb : Option Nat) (s : St) (piece : ByteArray) (w : World) (hd : dT d t) (R : RdrAt w D hb t s) (hsm : 2 * s.held.length + piece.size ≤ 1000000000000) :
    Calls Tryz.prog 44 #[.pointer (some ⟨D, 0, none⟩), .string piece] w fun e w' => ∃ v hb', e = .returned v ∧ CmdsAp w' w.heap.size w'.heap.size v (feedS d s piece.data.toList).1 ∧ RdrAt w' D hb' t (feedS d s piece.data.toList).2 ∧ Fresh w hb hb' ∧ Turn2 D hb w w' := by
  have H := hide' (next_any D t hb s piece w R (by omega))
  have HC : Hid (∀ (w1 : World) (hb1 : Option Nat), RdrAt w1 D hb1 t (takeS s piece.data.toList) → w1.heap[w.heap.size]? = some (boxR D) → Calls Tryz.prog 72 #[.func (.func 120) #[] #[.pointer (some ⟨w.heap.size, 0, none⟩)]] w1 fun e w' => ∃ v hb', e = .returned v ∧ CmdsAp w' w1.heap.size w'.heap.size v (feedS d s piece.data.toList).1 ∧ RdrAt w' D hb' t (feedS d s piece.data.toList).2 ∧ Fresh w1 hb1 hb' ∧ Turn2 D hb1 w1 w') := fun w1 hb1 R1 hX1 => by
    have hl := takeS_len s piece.data.toList
    rw [len_size] at hl
    have HA := hide' (appendSeq_ap w.heap.size D t d hb1 (takeS s piece.data.toList) w1 (readRd_any D t d hd) R1 hX1 (by omega))
    clear hl R1 hX1
    go_enter Tryz.func72, Tryz.ntmps72
    go_wp2_with fail
    go_at_call 119
    refine HA.out.mono ?_
    rintro e w2 ⟨v, hb', rfl, G⟩
    have HG := hide' G
    clear G
    go_wp2
    go_ret
    exact ⟨v, hb', rfl, HG.out⟩
  clear R
  go_enter Tryz.func44, Tryz.ntmps44
  go_wp2_with fail
  go_at_call 73
  refine H.out.mono ?_
  rintro e w1 ⟨rfl, hX1, hb1, R1, F1, T1⟩
  have H2 := hide' (HC.out w1 hb1 R1 hX1)
  have HF := hide' (And.intro F1 T1)
  clear hX1 R1 F1 T1 HC
  go_wp2_with fail
  go_at_call 72
  refine H2.out.mono ?_
  rintro e w2 ⟨v, hb', rfl, G, R2, F2, T2⟩
  have HG := hide' (And.intro G (And.intro R2 (And.intro F2 T2)))
  clear G R2 F2 T2
  go_wp2
  go_ret
  obtain ⟨F1, T1⟩ := HF.out
  obtain ⟨G, R2, F2, T2⟩ := HG.out
  have hsz := T1.size
  refine ⟨v, hb', rfl, ?_, R2, F1.trans F2 hsz, T1.trans T2 F1⟩
  obtain ⟨kvs, g1, ⟨g2, g3⟩, g4, g5, g6, g7⟩ := G
  refine ⟨kvs, g1, ⟨g2, ?_⟩, g4, fun i c kv h1 h2 => (g5 i c kv h1 h2).other hsz (fun _ _ _ _ _ _ => rfl), g6, g7⟩
  rcases g3 with h | ⟨g, cap, cur, e, h5, h6⟩
  · exact .inl h
  · exact .inr ⟨g, cap, cur, e, by omega, h6⟩

theorem feed_any (D t : Nat) (d : Int) (hb : Option Nat) (s : St) (piece : ByteArray) (w : World) (hd : dT d t) (R : RdrAt w D hb t s) (hsm : 2 * s.held.length + piece.size ≤ 1000000000000) :
    Calls Tryz.prog 44 #[.pointer (some ⟨D, 0, none⟩), .string piece] w fun e w' => ∃ v hb', e = .returned v ∧ CmdsIn w' w.heap.size v (feedS d s piece.data.toList).1 ∧ RdrAt w' D hb' t (feedS d s piece.data.toList).2 ∧ Fresh w hb hb' ∧ Turn2 D hb w w' :=
  (feed_ap D t d hb s piece w hd R hsm).mono fun e w' ⟨v, hb', h1, h2, h3⟩ => ⟨v, hb', h1, h2.in_, h3⟩

set_option maxHeartbeats 1000000 in
theorem rest_any (D t : Nat) (hb : Option Nat) (s : St) (w : World) (R : RdrAt w D hb t s) :
    Calls Tryz.prog 46 #[.pointer (some ⟨D, 0, none⟩)] w fun e w' => e = .returned (.int .i64 (s.held.length : Int)) ∧ ∃ q, w' = w.drewN q := by
  obtain ⟨⟨v, u, hD, H, hiv⟩, hne⟩ := R
  obtain ⟨d0, d1, d2, d3, d4, df⟩ := rdCells hD
  have HL := hide' (len_any D u v hb s.held w H d1 d2)
  clear hD H hiv
  generalize s.held.length = n at *
  go_enter Tryz.func46, Tryz.ntmps46
  go_wp2_with (go_at_call 74; refine HL.out.mono ?_; rintro e w1 ⟨rfl, q, rfl⟩)
  go_ret
  exact ⟨rfl, q, rfl⟩

def tyOf (d : Int) : Nat := if d = 1 then 160 else if d = 2 then 161 else 162
theorem dT_ty {d : Int} (h : d = 1 ∨ d = 2 ∨ d = 3) : dT d (tyOf d) := by
  rcases h with rfl | rfl | rfl
  · exact .inl ⟨rfl, rfl⟩
  · exact .inr (.inl ⟨rfl, rfl⟩)
  · exact .inr (.inr ⟨rfl, rfl⟩)
theorem rdr_new (w : World) (t : Nat) : RdrAt (w.alloc (rdO t (.slice none 0 0) 0 false false)) w.heap.size none t st0 :=
  ⟨⟨.slice none 0 0, 0, blkNew w _, ⟨⟨[], World.ownsRow_nil _ _ _ _, Nat.le_refl _, rfl, by simp⟩, rfl⟩, .inl rfl⟩, by simp⟩
set_option maxHeartbeats 1000000 in
theorem decoder_any (d : Int) (w : World) (hd : d = 1 ∨ d = 2 ∨ d = 3) :
    Calls Tryz.prog 43 #[.int .i64 d] w fun e w' => e = .returned (.tuple #[.pointer (some ⟨w.heap.size, 0, none⟩), .int .i64 0]) ∧ w' = w.alloc (rdO (tyOf d) (.slice none 0 0) 0 false false) := by
  rcases hd with rfl | rfl | rfl
  all_goals
    go_enter Tryz.func43, Tryz.ntmps43
    go_wp2
    go_ret2
    exact ⟨rfl, rfl⟩
end Go.Proofs.YtlonjggfnleolaaGreatDoor


/-
  The reference's reader: Feed, Decoder.
-/

namespace Go.Proofs.YtlonjggfnleolaaGreatDoor
open Go.RowKit
set_option linter.unusedVariables false

/-- A list of commands of the reference's. -/
def CmdsR (W : World) (lo : Nat) (v : Value) (cs : List Cmd) : Prop :=
  ∃ kvs : List Value, kvs.length = cs.length ∧ W.ownsRow lo 36 6 v cs.length (cmdCells cs kvs) ∧ (∀ kv ∈ kvs, ∃ a n c, kv = .slice a n c) ∧ ∀ (i : Nat) (c : Cmd) (kv : Value), cs[i]? = some c → kvs[i]? = some kv → KeysR W lo kv c.keys
theorem CmdsR.nil (W : World) (lo : Nat) : CmdsR W lo (.slice none 0 0) [] := ⟨[], rfl, World.ownsRow_nil _ _ _ _, fun _ h => (by cases h), fun i c kv h => (by simp at h)⟩
theorem CmdsR.keep {W W' : World} {lo : Nat} {v : Value} {cs : List Cmd} (h : CmdsR W lo v cs) (k : ∀ b (Z : Array Value) (T : Nat), W.heap[b]? = some (.cells Z T (0, 0)) → (T = 36 ∨ T = 9) → lo ≤ b → W'.heap[b]? = W.heap[b]?) : CmdsR W' lo v cs := by
  obtain ⟨kvs, h1, ⟨h2, h3⟩, hf, h4⟩ := h
  refine ⟨kvs, h1, ⟨h2, ?_⟩, hf, fun i c kv hc hkv => (h4 i c kv hc hkv).other (Nat.le_refl _) (fun b Z hZ hl => k b Z 9 hZ (.inr rfl) hl)⟩
  rcases h3 with h3 | ⟨g, cap, cur, e, h5, h6, h7⟩
  · exact .inl h3
  · exact .inr ⟨g, cap, cur, e, h5, (k g cur 36 h6 (.inl rfl) h5).trans h6, h7⟩
theorem CmdsR.below {W W' : World} {lo : Nat} {v : Value} {cs : List Cmd} (h : CmdsR W lo v cs) (hb : Below W.heap.size W W') : CmdsR W' lo v cs := h.keep (fun b Z T hZ _ _ => hb.block b (blkLt hZ))
theorem CmdsR.turn {W W' : World} {lo Y : Nat} {d : Int} {s : St} {v : Value} {cs : List Cmd} (h : CmdsR W lo v cs) (hT : Turn Y W W') (hY : W.heap[Y]? = some (refO d s)) : CmdsR W' lo v cs :=
  h.keep (fun b Z T hZ hT' _ => hT.block b (blkLt hZ) (fun e => by
    rw [e, hY] at hZ
    unfold refO at hZ
    cases hZ
    rcases hT' with h | h <;> cases h))
theorem CmdsR.lower {W : World} {lo lo' : Nat} {v : Value} {cs : List Cmd} (h : CmdsR W lo v cs) (hl : lo' ≤ lo) : CmdsR W lo' v cs := by
  obtain ⟨kvs, h1, ⟨h2, h3⟩, hf, h4⟩ := h
  refine ⟨kvs, h1, ⟨h2, ?_⟩, hf, fun i c kv hc hkv => (h4 i c kv hc hkv).other hl (fun _ _ _ _ => rfl)⟩
  rcases h3 with h3 | ⟨g, cap, cur, e, h5, h6⟩
  · exact .inl h3
  · exact .inr ⟨g, cap, cur, e, by omega, h6⟩
/-- One more. -/
theorem CmdsR.snoc {W W' : World} {lo : Nat} {v v' : Value} {cs : List Cmd} {c : Cmd} {ka : Option Addr} {kn kc : Nat} {kvs : List Value} (h1 : kvs.length = cs.length) (hf : ∀ kv ∈ kvs, ∃ a n c, kv = .slice a n c) (h4 : ∀ (i : Nat) (c : Cmd) (kv : Value), cs[i]? = some c → kvs[i]? = some kv → KeysR W lo kv c.keys)
    (hrow : ∀ g, v.ownBlock = some g → ∀ Z f, W.heap[g]? ≠ some (.cells Z 9 f)) (hk : KeysR W lo (.slice ka kn kc) c.keys) (hg : W.grownBy W' v.ownBlock)
    (ho : W'.ownsRow lo 36 6 v' (cs.length + 1) (cmdCells cs kvs ++ (cmdA c (.slice ka kn kc)).toList)) : CmdsR W' lo v' (cs ++ [c]) := by
  have keep : ∀ {kv : Value} {ss : List ByteArray}, KeysR W lo kv ss → KeysR W' lo kv ss := fun h => h.other (Nat.le_refl _) (fun b Z hZ _ => hg.block b (blkLt hZ) (fun e => hrow b e.symm Z _ hZ))
  refine ⟨kvs ++ [.slice ka kn kc], by simp [h1], ?_, ?_, ?_⟩
  · rw [cmdCells_snoc cs kvs c _ h1, List.length_append]; exact ho
  · intro kv hkv
    rcases List.mem_append.1 hkv with h | h
    · exact hf kv h
    · rw [List.mem_singleton] at h; exact ⟨_, _, _, h⟩
  · intro i c' kv hc hkv
    by_cases hi : i < cs.length
    · rw [List.getElem?_append_left hi] at hc
      rw [List.getElem?_append_left (by omega)] at hkv
      exact keep (h4 i c' kv hc hkv)
    · have hi2 : i = cs.length := by
        have := (List.getElem?_eq_some_iff.1 hc).1
        simp at this; omega
      subst hi2
      rw [List.getElem?_append_right (Nat.le_refl _)] at hc
      rw [← h1, List.getElem?_append_right (Nat.le_refl _)] at hkv
      simp at hc hkv
      subst hc
      subst hkv
      exact keep hk
theorem row36 {W : World} {lo n : Nat} {v : Value} {xs : List Value} (h : W.ownsRow lo 36 6 v n xs) : ∀ g, v.ownBlock = some g → ∀ Z f, W.heap[g]? ≠ some (.cells Z 9 f) := by
  intro g hg Z f hZ
  obtain ⟨_, ⟨rfl, _⟩ | ⟨g', cap, cur, rfl, _, hh, _⟩⟩ := h
  · cases hg
  · cases hg; rw [hh] at hZ; cases hZ

def heldN (w : World) (Y : Nat) : Nat := match w.cell? ⟨Y, 1, none⟩ with | some (.string b) => b.size | _ => 0
theorem heldN_at {w : World} {Y : Nat} {d : Int} {s : St} (h : w.heap[Y]? = some (refO d s)) : heldN w Y = s.held.length := by
  unfold heldN
  rw [(refCells h).2.1]
  simp only
  rw [mkB_size]

theorem feed_step {w w2 w9 : World} {Y : Nat} {d : Int} {s : St} {done : List Cmd} {c : Cmd} {kvs : List Value} {v v' : Value} {ka : Option Addr} {kn kc : Nat} (hk : KeysR w2 w.heap.size (.slice ka kn kc) c.keys) (hR : RefAt w2 Y d s) (hT : Turn Y w w2) (h1 : kvs.length = done.length) (h2 : w2.ownsRow w.heap.size 36 6 v done.length (cmdCells done kvs)) (hf : ∀ kv ∈ kvs, ∃ a n c, kv = .slice a n c) (h4 : ∀ (i : Nat) (c : Cmd) (kv : Value), done[i]? = some c → kvs[i]? = some kv → KeysR w2 w.heap.size kv c.keys)
    {A B : Obj} (hg : ((w2.alloc A).alloc B).grownBy w9 v.ownBlock) (ho : w9.ownsRow w.heap.size 36 6 v' (done.length + 1) (cmdCells done kvs ++ (cmdA c (.slice ka kn kc)).toList)) :
    CmdsR w9 w.heap.size v' (done ++ [c]) ∧ RefAt w9 Y d s ∧ Turn Y w w9 := by
  have hB : Below w2.heap.size w2 ((w2.alloc A).alloc B) := ((Below.refl _ _).alloc (Nat.le_refl _) _).alloc (by simp) _
  have hlo : w.heap.size ≤ w2.heap.size := hT.size
  have h2' : ((w2.alloc A).alloc B).ownsRow w.heap.size 36 6 v done.length (cmdCells done kvs) := World.ownsRow.alloc (World.ownsRow.alloc h2 _) _
  have hk' : ∀ {kv ss}, KeysR w2 w.heap.size kv ss → KeysR ((w2.alloc A).alloc B) w.heap.size kv ss := fun h => h.other (Nat.le_refl _) (fun b Z hZ _ => hB.block b (blkLt hZ))
  have hY : ((w2.alloc A).alloc B).heap[Y]? = some (refO d s) := (hB.block Y (blkLt hR.at_)).trans hR.at_
  have hsz := hB.size
  generalize (w2.alloc A).alloc B = W3 at *
  refine ⟨CmdsR.snoc h1 hf (fun i c kv a b => hk' (h4 i c kv a b)) (row36 h2') (hk' hk) hg ho, ⟨(hg.block Y (blkLt hY) (fun e => ?_)).trans hY, hR.ok⟩, ?_⟩
  · obtain ⟨_, ⟨rfl, _⟩ | ⟨g', cap, cur, rfl, _, hh, _⟩⟩ := h2'
    · cases e
    · have : Y = g' := by simpa [Value.ownBlock] using e
      rw [this, hh] at hY
      unfold refO at hY
      cases hY
  · have hb2 : Below w.heap.size w2 w9 := (hB.mono hlo).trans (grown_base h2' hg (by omega))
    exact ⟨hb2.os.trans hT.os, hb2.tape.trans hT.tape, hb2.output.trans hT.output, Nat.le_trans hT.size hb2.size, fun k hk hn => (hb2.block k hk).trans (hT.block k hk hn)⟩
set_option maxRecDepth 20000 in
set_option maxHeartbeats 8000000 in
theorem reffeed_any (Y : Nat) (d : Int) (s : St) (piece : ByteArray) (w : World) (hd : d = 1 ∨ d = 2 ∨ d = 3) (R : RefAt w Y d s) (hs : s.held.length + piece.size ≤ 1000000000000) :
    Calls Tryz.prog 108 #[.pointer (some ⟨Y, 0, none⟩), .string piece] w fun e w' => ∃ v, e = .returned v ∧ CmdsR w' w.heap.size v (feedS d s piece.data.toList).1 ∧ RefAt w' Y d (feedS d s piece.data.toList).2 ∧ Turn Y w w' := by
  have HP := hide' (refpush_any Y d s piece w R hs)
  have HX : Hid (∀ (W : World) (s' : St), RefAt W Y d s' → s'.held.length ≤ 1000000000000 → Calls Tryz.prog 149 #[.pointer (some ⟨Y, 0, none⟩)] W fun e w' => NextOut W w' Y d s' e ∧ Turn Y W w') := fun W s' h1 h2 => refnext_any Y d s' W hd h1 h2
  have hYl := blkLt R.at_
  have hlen : (takeS s piece.data.toList).held.length ≤ 1000000000000 := by
    have h1 : (takeS s piece.data.toList).held.length ≤ s.held.length + piece.data.toList.length := by
      unfold takeS
      split
      · omega
      · split
        · have := passL_len (s.held ++ piece.data.toList)
          show (passL (s.held ++ piece.data.toList)).1.length ≤ _
          simp at this ⊢; omega
        · simp
    rw [len_size'] at h1
    omega
  have HFd : Hid (feedS d s piece.data.toList = drainS d (takeS s piece.data.toList)) := (show _ = _ from rfl)
  generalize takeS s piece.data.toList = s0 at *
  generalize feedS d s piece.data.toList = FD at *
  clear R hs
  obtain ⟨i36, z36, hi, hz0, hz1, hz2, hz3⟩ := info36
  have HI := hide' (And.intro hi (And.intro hz0 (And.intro hz1 (And.intro hz2 hz3))))
  clear hi hz0 hz1 hz2 hz3
  go_enter Tryz.func108, Tryz.ntmps108
  go_wp2_with fail
  go_at_call 148
  refine HP.out.mono ?_
  rintro e w1 ⟨rfl, hR1, hT1⟩
  have H1 := hide' (And.intro hR1 hT1)
  clear hR1 hT1 HP
  go_wp2_with fail
  go_loopw [5] (fun l wr => ∃ (done : List Cmd) (s' : St) (va : Option Addr) (vn vc : Nat), l = .slice va vn vc ∧ Hid (done.length + s'.held.length ≤ 1000000000000) ∧ Hid (FD = (done ++ (drainS d s').1, (drainS d s').2)) ∧ Hid (CmdsR wr w.heap.size (.slice va vn vc) done ∧ RefAt wr Y d s' ∧ Turn Y w wr)) (fun _ wr => heldN wr Y + 1)
  case atStart => exact ⟨[], s0, none, 0, 0, rfl, by show _ ≤ _; simpa using hlen, by show _ = _; rw [HFd.out]; simp, CmdsR.nil _ _, H1.out.1, H1.out.2⟩
  case round =>
    obtain ⟨done, s', va, vn, vc, rfl, HLn, HD, HW⟩ := hrel
    have hln := HLn.out
    have HC := hide' (HX.out wr s' HW.out.2.1 (by omega))
    have hsz : w.heap.size ≤ wr.heap.size := HW.out.2.2.size
    cases hr : readR d s'.held with
    | none =>
      have hfd : FD = (done, s') := by rw [HD.out, drainS_none hr]; simp
      subst hfd
      have HC2 : Hid (Calls Tryz.prog 149 #[.pointer (some ⟨Y, 0, none⟩)] wr fun e w' => (e = .returned (.tuple #[zCmdV, .bool false]) ∧ RefAt w' Y d s') ∧ Turn Y wr w') := HC.out.mono fun e w' ⟨h1, h2⟩ => ⟨by unfold NextOut at h1; rw [hr] at h1; exact h1, h2⟩
      clear HC HX hr HD
      go_wp2_with fail
      go_at_call 149
      refine HC2.out.mono ?_
      rintro e w2 ⟨⟨rfl, hR2⟩, hT2⟩
      have H2 : Hid (CmdsR w2 w.heap.size (.slice va vn vc) done ∧ RefAt w2 Y d s' ∧ Turn Y w w2) := ⟨HW.out.1.turn hT2 HW.out.2.1.at_, hR2, HW.out.2.2.trans hT2⟩
      clear hR2 hT2
      unfold zCmdV
      go_wp2
      go_ret
      refine ⟨_, rfl, H2.out.1.below ((Below.refl _ _).alloc (Nat.le_refl _) _), ⟨hs_alloc H2.out.2.1.at_ _, H2.out.2.1.ok⟩, H2.out.2.2.alloc _⟩
    | some t =>
      have hfd : FD = (done ++ [t.c] ++ (drainS d (afterS s' t)).1, (drainS d (afterS s' t)).2) := by rw [HD.out, drainS_some hr]; simp
      have hlen2 := afterS_len hr
      have HD2 := hide' hfd
      have HC2 : Hid (Calls Tryz.prog 149 #[.pointer (some ⟨Y, 0, none⟩)] wr fun e w' => (∃ kv, e = .returned (.tuple #[cmdVR t.c kv, .bool true]) ∧ KeysR w' wr.heap.size kv t.c.keys ∧ RefAt w' Y d (afterS s' t)) ∧ Turn Y wr w') := HC.out.mono fun e w' ⟨h1, h2⟩ => ⟨by unfold NextOut at h1; rw [hr] at h1; exact h1, h2⟩
      have hm1 := heldN_at HW.out.2.1.at_
      have HM1 := hide' (And.intro hm1 hlen2)
      clear HC HX hr HD hfd hm1 hlen2
      go_wp2_with fail
      go_at_call 149
      refine HC2.out.mono ?_
      rintro e w2 ⟨⟨kv, rfl, hK, hR2⟩, hT2⟩
      obtain ⟨ka, kc, hkv⟩ := hK.form
      subst hkv
      have hcr : CmdsR w2 w.heap.size (.slice va vn vc) done := HW.out.1.turn hT2 HW.out.2.1.at_
      have hK2 : KeysR w2 w.heap.size (.slice ka t.c.keys.length kc) t.c.keys := hK.other hsz (fun _ _ _ _ => rfl)
      obtain ⟨kvs, hc1, hc2, hcf, hc4⟩ := hcr
      have H2 := hide' (And.intro hK2 (And.intro hR2 (And.intro (HW.out.2.2.trans hT2) (And.intro hc1 (And.intro hc2 (And.intro hcf hc4))))))
      have hsz2 : w.heap.size ≤ w2.heap.size := Nat.le_trans hsz hT2.size
      clear hK hR2 hT2 hK2 hc1 hc2 hcf hc4 HC2 HW
      unfold cmdVR
      have hd12 : done.length + 1 ≤ 1000000000000 := by have := HLn.out; have := HM1.out.2; omega
      have HDL : Hid (done.length = done.length) := (show _ = _ from rfl)
      have HNw := hide' (show ∀ (j : Nat) (u : Value), [Value.int IntKind.i64 t.c.kind, .slice ka t.c.keys.length kc, .string t.c.val, .string t.c.word, .bool t.c.fatal, .int .i64 t.c.id][j]? = some u → ((w2.alloc (.cells #[.int .i64 t.c.kind, .slice ka t.c.keys.length kc, .string t.c.val, .string t.c.word, .bool t.c.fatal, .int .i64 t.c.id] 36)).alloc (.cells #[.int .i64 t.c.kind, .slice ka t.c.keys.length kc, .string t.c.val, .string t.c.word, .bool t.c.fatal, .int .i64 t.c.id] 36)).cell? ((⟨w2.heap.size + 1, 0, none⟩ : Addr).add j) = some u from World.news_of_block (cs := #[.int .i64 t.c.kind, .slice ka t.c.keys.length kc, .string t.c.val, .string t.c.word, .bool t.c.fatal, .int .i64 t.c.id]) (hs_new (by rw [World.size_alloc])))
      go_wp2_with (first
        | (at_builtin; refine wpList_append_own_at _ rfl _ _ _ rfl w.heap.size 36 i36 z36 6 80 Tryz.underlying28 HI.out.1 HI.out.2.1 HI.out.2.2.1 HI.out.2.2.2.1 HI.out.2.2.2.2 (by omega) (.slice va vn vc) done.length (cmdCells done kvs) rfl (World.ownsRow.alloc (World.ownsRow.alloc H2.out.2.2.2.2.1 _) _) ⟨w2.heap.size + 1, 0, none⟩ 1 1 [Value.int IntKind.i64 t.c.kind, .slice ka t.c.keys.length kc, .string t.c.val, .string t.c.word, .bool t.c.fatal, .int .i64 t.c.id] rfl rfl HNw.out (by simp [Value.oneCell']) (by unfold maxLen; omega) (by omega) (by rw [World.size_alloc, World.size_alloc]; omega) ?_; intro v' w9 hown hgrow hnil hat; obtain ⟨ua, un, uc, huf⟩ := own_formR hown; subst huf; have HG := hide' (And.intro hown hgrow); clear hown hgrow hnil hat)
        | fail)
      have hfin := feed_step H2.out.1 H2.out.2.1 H2.out.2.2.1 H2.out.2.2.2.1 H2.out.2.2.2.2.1 H2.out.2.2.2.2.2.1 H2.out.2.2.2.2.2.2 HG.out.2 HG.out.1
      have hm2 := heldN_at hfin.2.1.at_
      have hm3 := HM1.out
      have hln3 := HLn.out
      go_roundw
      case rel => exact ⟨done ++ [t.c], afterS s' t, ua, un, uc, rfl, by show _ ≤ _; rw [List.length_append]; show done.length + 1 + _ ≤ _; omega, HD2, hfin.1, hfin.2.1, hfin.2.2⟩
      case measure => omega

set_option maxHeartbeats 1000000 in
theorem refdecoder_any (d : Int) (w : World) (hd : d = 1 ∨ d = 2 ∨ d = 3) :
    Calls Tryz.prog 106 #[.int .i64 d] w fun e w' => e = .returned (.tuple #[.pointer (some ⟨w.heap.size, 0, none⟩), .int .i64 0]) ∧ w' = w.alloc (refO d st0) := by
  rcases hd with rfl | rfl | rfl
  all_goals
    go_enter Tryz.func106, Tryz.ntmps106
    go_wp2
    go_ret2
    exact ⟨rfl, rfl⟩
set_option maxHeartbeats 1000000 in
theorem refdecoder_no (d : Int) (w : World) (hd : d < 1 ∨ 3 < d) :
    Calls Tryz.prog 106 #[.int .i64 d] w fun e w' => e = .returned (.tuple #[.pointer none, .int .i64 1]) ∧ w' = w := by
  rcases hd with h | h
  · go_enter Tryz.func106, Tryz.ntmps106
    go_wp2
    go_ret2
    exact ⟨rfl, rfl⟩
  · have h' : ¬ d < 1 := by omega
    go_enter Tryz.func106, Tryz.ntmps106
    go_wp2
    go_ret2
    exact ⟨rfl, rfl⟩
end Go.Proofs.YtlonjggfnleolaaGreatDoor


/-
  Lists that lie at the head of a block: append, where the old list is looked at again.
-/

namespace Go.Proofs.YtlonjggfnleolaaGreatDoor
open Go.RowKit
set_option linter.unusedVariables false

/-- A list at the head of a block. -/
def Row (w : World) (lo e size : Nat) (v : Value) (n : Nat) (xs : List Value) : Prop :=
  xs.length = n * size ∧ ((v = .slice none 0 0 ∧ n = 0) ∨ ∃ g cap cur, v = .slice (some ⟨g, 0, none⟩) n cap ∧ lo ≤ g ∧ w.heap[g]? = some (.cells cur e (0, 0)) ∧ n ≤ cap ∧ cur.size = cap * size ∧ cur.toList.take (n * size) = xs)
theorem Row.of_own {w : World} {lo e size n : Nat} {v : Value} {xs : List Value} (h : w.ownsRow lo e size v n xs) : Row w lo e size v n xs := by
  obtain ⟨h1, h2 | ⟨g, cap, cur, a, b, c, d, _, f, k⟩⟩ := h
  · exact ⟨h1, .inl h2⟩
  · exact ⟨h1, .inr ⟨g, cap, cur, a, b, c, d, f, k⟩⟩
theorem Row.nil (w : World) (lo e size : Nat) : Row w lo e size (.slice none 0 0) 0 [] := ⟨by simp, .inl ⟨rfl, rfl⟩⟩
theorem Row.lower {w : World} {lo lo' e size n : Nat} {v : Value} {xs : List Value} (h : Row w lo e size v n xs) (hl : lo' ≤ lo) : Row w lo' e size v n xs := by
  obtain ⟨h1, h2 | ⟨g, cap, cur, a, b, c⟩⟩ := h
  · exact ⟨h1, .inl h2⟩
  · exact ⟨h1, .inr ⟨g, cap, cur, a, by omega, c⟩⟩
theorem Row.other {w w' : World} {lo e size n : Nat} {v : Value} {xs : List Value} (h : Row w lo e size v n xs) (k : ∀ g Z, v.ownBlock = some g → w.heap[g]? = some (.cells Z e (0, 0)) → lo ≤ g → w'.heap[g]? = w.heap[g]?) : Row w' lo e size v n xs := by
  obtain ⟨h1, h2 | ⟨g, cap, cur, rfl, b, c, d⟩⟩ := h
  · exact ⟨h1, .inl h2⟩
  · exact ⟨h1, .inr ⟨g, cap, cur, rfl, b, (k g cur rfl c b).trans c, d⟩⟩
theorem Row.form {w : World} {lo e size n : Nat} {v : Value} {xs : List Value} (h : Row w lo e size v n xs) : ∃ a c, v = .slice a n c := by
  obtain ⟨h1, ⟨rfl, rfl⟩ | ⟨g, cap, cur, rfl, _⟩⟩ := h
  · exact ⟨_, _, rfl⟩
  · exact ⟨_, _, rfl⟩
theorem Row.blk {w : World} {lo e size n g : Nat} {v : Value} {xs : List Value} (h : Row w lo e size v n xs) (hg : v.ownBlock = some g) : ∃ cur, w.heap[g]? = some (.cells cur e (0, 0)) ∧ lo ≤ g ∧ g < w.heap.size := by
  obtain ⟨h1, ⟨rfl, rfl⟩ | ⟨g', cap, cur, rfl, b, c, _⟩⟩ := h
  · cases hg
  · cases hg; exact ⟨cur, c, b, blkLt c⟩

theorem run_append_row {P : Program} (w : World) (lo : Nat) (t ty e : TypeId) (i : TypeInfo) (z : Value) (size bytes : Nat) (ht : P.underlying t = some (.slice e)) (hi : P.info? e = some i) (hz : i.zero = some z)
    (hsize : i.size = size) (hby : i.bytes = bytes) (hzs : z.cells.size = size) (hsz : 0 < size)
    (v : Value) (n : Nat) (xs : List Value) (hrow : Row w lo e size v n xs)
    (a : Addr) (m c : Nat) (news : List Value) (hl : news.length = m * size) (hnews : ∀ j u, news[j]? = some u → w.cell? (a.add j) = some u) (h1 : ∀ u ∈ news, u.oneCell' = true)
    (hm : 0 < m) (h63 : n + m ≤ maxLen) (hbytes : (n + m) * bytes ≤ 140737488355328) (hlo : lo ≤ w.heap.size) :
    ∃ v' w', (Builtin.append_ #[t, t] ty #[v, .slice (some a) m c]).run P w = .ok v' w' ∧ Row w' lo e size v' (n + m) (xs ++ news) ∧ w.grownBy w' v.ownBlock ∧
      (v'.ownBlock = v.ownBlock ∨ (∃ g, v'.ownBlock = some g ∧ w.heap.size ≤ g ∧ w.grownBy w' none)) ∧
      ∀ u k ys, Row w lo e size u k ys → (u.ownBlock = v.ownBlock → k ≤ n + m ∧ ys = (xs ++ news).take (k * size)) → Row w' lo e size u k ys := by
  have hlen : (xs ++ news).length = (n + m) * size := by rw [List.length_append, hrow.1, hl, Nat.add_mul]
  have fresh : ∀ w', w.grownBy w' none → ∀ u k ys, Row w lo e size u k ys → Row w' lo e size u k ys := fun w' hg u k ys hu => hu.other (fun g Z _ hZ _ => hg.block g (blkLt hZ) (by simp))
  rcases hrow.2 with ⟨rfl, rfl⟩ | ⟨g, cap, cur, rfl, hbg, hg, hnc, hcs, htake⟩
  · have hx : xs = [] := List.eq_nil_of_length_eq_zero (by simpa using hrow.1)
    subst hx
    obtain ⟨v', w', hr, ho, hgr, _, hat⟩ := run_append_own_at (P := P) w w.heap.size t ty e i z size bytes ht hi hz hsize hby hzs hsz (.slice none 0 0) 0 [] (World.ownsRow_nil w _ e size) a m c news hl hnews h1 h63 hbytes (Nat.le_refl _)
    refine ⟨v', w', hr, (Row.of_own ho).lower hlo, hgr, .inr ?_, fun u k ys hu _ => fresh w' hgr u k ys hu⟩
    rcases ho.2 with ⟨_, h0⟩ | ⟨g, cap, cur, e1, e2, _⟩
    · omega
    · subst e1; exact ⟨g, rfl, e2, hgr⟩
  · by_cases hroom : n + m ≤ cap
    · subst hsize
      have hfit : n * i.size + news.length ≤ cur.size := by rw [hl, hcs, ← Nat.add_mul]; exact Nat.mul_le_mul_right _ hroom
      have hr := run_append_room (P := P) w t ty e i ht hi g n cap cur hg a m c news hl hnews h1 hroom hfit
      have hsz2 : (cur.toList.take (n * i.size) ++ news ++ cur.toList.drop (n * i.size + news.length)).length = cur.size := by
        simp only [List.length_append, List.length_take, List.length_drop, Array.length_toList]
        omega
      have hgr : ∀ o, w.grownBy (w.setRow g o) (some g) := fun o => ⟨rfl, rfl, rfl, by simp, fun k _ hk => setRow_other w g k _ (fun e => hk (by simp [e]))⟩
      have hh := setRow_heap w g cur (List.take (n * i.size) cur.toList ++ news ++ List.drop (n * i.size + news.length) cur.toList).toArray e _ hg
      refine ⟨_, _, hr, ⟨hlen, .inr ⟨g, cap, _, rfl, hbg, hh, hroom, ?_, ?_⟩⟩, hgr _, .inl rfl, ?_⟩
      · simp only [List.size_toArray]; omega
      · simp only
        rw [htake, ← hlen]
        exact List.take_left
      · intro u k ys hu hcond
        rcases hu with ⟨hul, ⟨rfl, rfl⟩ | ⟨gu, capu, curu, rfl, hub, huh, hun, hus, hut⟩⟩
        · exact ⟨hul, .inl ⟨rfl, rfl⟩⟩
        · by_cases hgg : gu = g
          · subst hgg
            obtain ⟨hk, hys⟩ := hcond rfl
            rw [hg] at huh
            cases huh
            refine ⟨hul, .inr ⟨gu, capu, _, rfl, hub, hh, hun, ?_, ?_⟩⟩
            · simp only [List.size_toArray]; omega
            · simp only
              rw [htake, hys]
              have hk2 : k * i.size ≤ (xs ++ news).length := by rw [hlen]; exact Nat.mul_le_mul_right _ hk
              rw [List.take_append_of_le_length hk2]
          · exact ⟨hul, .inr ⟨gu, capu, curu, rfl, hub, ((hgr _).block gu (blkLt huh) (by simpa using hgg)).trans huh, hun, hus, hut⟩⟩
    · have holds : ∀ j u, xs[j]? = some u → w.cell? ((⟨g, 0, none⟩ : Addr).add j) = some u := by
        intro j u hj
        have hadd : (⟨g, 0, none⟩ : Addr).add j = ⟨g, j, none⟩ := by unfold Addr.add; split <;> simp_all
        have hjl : j < n * size := by have := (List.getElem?_eq_some_iff.1 hj).1; rw [hrow.1] at this; exact this
        rw [hadd, blkCell hg]
        rw [← htake, List.getElem?_take_of_lt hjl] at hj
        simpa using hj
      obtain ⟨v', w', hr, ho, hgr⟩ := run_append_arg_grows (P := P) w t ty e i z size bytes ht hi hz hsize hby hzs hsz ⟨g, 0, none⟩ n cap xs hrow.1 holds a m c news hl hnews (by omega) h63 hbytes
      refine ⟨v', w', hr, (Row.of_own ho).lower hlo, ⟨hgr.os, hgr.tape, hgr.output, hgr.size, fun k hk _ => hgr.block k hk (by simp)⟩, .inr ?_, fun u k ys hu _ => fresh w' hgr u k ys hu⟩
      rcases ho.2 with ⟨_, h0⟩ | ⟨g', cap', cur', e1, e2, _⟩
      · omega
      · subst e1; exact ⟨g', rfl, e2, hgr⟩

theorem wpList_append_row {P : Program} (w : World) {ops : Array Oper} {rest : List Oper} {o : Oper} {a : Act} {Q : Exit → Act → World → Prop} (hgd : o.guard = none) (s x : Operand) (t : TypeId)
    (ho : o.op = .call { callee := .builtin .append, args := #[s, x], argTypes := #[t, t] })
    (lo : Nat) (e : TypeId) (i : TypeInfo) (z : Value) (size bytes : Nat) (ht : P.underlying t = some (.slice e)) (hi : P.info? e = some i) (hz : i.zero = some z)
    (hsize : i.size = size) (hby : i.bytes = bytes) (hzs : z.cells.size = size) (hsz : 0 < size)
    (v : Value) (n : Nat) (xs : List Value) (hs : a.eval s = v) (hrow : Row w lo e size v n xs)
    (ad : Addr) (m c : Nat) (news : List Value) (hx : a.eval x = .slice (some ad) m c) (hl : news.length = m * size) (hnews : ∀ j u, news[j]? = some u → w.cell? (ad.add j) = some u) (h1 : ∀ u ∈ news, u.oneCell' = true)
    (hm : 0 < m) (h63 : n + m ≤ maxLen) (hbytes : (n + m) * bytes ≤ 140737488355328) (hlo : lo ≤ w.heap.size)
    (h : ∀ v' w', Row w' lo e size v' (n + m) (xs ++ news) → w.grownBy w' v.ownBlock → (v'.ownBlock = v.ownBlock ∨ (∃ g, v'.ownBlock = some g ∧ w.heap.size ≤ g ∧ w.grownBy w' none)) →
      (∀ u k ys, Row w lo e size u k ys → (u.ownBlock = v.ownBlock → k ≤ n + m ∧ ys = (xs ++ news).take (k * size)) → Row w' lo e size u k ys) → wpList P ops Q rest (a.put o.dst v') w') :
    wpList P ops Q (o :: rest) a w := by
  refine wpList_plain hgd fun K hK => ?_
  obtain ⟨v', w', hr, h2, h3, h4, h5⟩ := run_append_row (P := P) w lo t o.type e i z size bytes ht hi hz hsize hby hzs hsz v n xs hrow ad m c news hl hnews h1 hm h63 hbytes hlo
  unfold Oper.wp execOp
  simp only [ho, resolve, invoke, builtin, Sem.run_bind, Sem.run_pure, Result.andThen_ok, List.map_toArray, List.map_cons, List.map_nil, hs, hx, hr]
  exact hK _ _ (h v' w' h2 h3 h4 h5)
end Go.Proofs.YtlonjggfnleolaaGreatDoor


/-
  What the law keeps of the lists that came out.
-/

namespace Go.Proofs.YtlonjggfnleolaaGreatDoor
open Go.RowKit Go.Shelf
set_option linter.unusedVariables false

/-- The cells of n commands that are but a mark. -/
def marks (n : Nat) (id : Int) : List Value := (List.replicate n [Value.int .i64 0, .slice none 0 0, .string ⟨#[]⟩, .string ⟨#[]⟩, .bool false, .int .i64 id]).flatten
theorem marks_len (n : Nat) (id : Int) : (marks n id).length = n * 6 := by
  unfold marks
  rw [List.length_flatten, List.map_replicate, List.sum_replicate_nat]
  rfl
theorem marks_succ (n : Nat) (id : Int) : marks (n + 1) id = [Value.int .i64 0, .slice none 0 0, .string ⟨#[]⟩, .string ⟨#[]⟩, .bool false, .int .i64 id] ++ marks n id := by
  unfold marks
  rw [List.replicate_succ, List.flatten_cons]

structure TxM where
  v : Value
  n : Nat
  m : ByteArray
  le : n ≤ 3000000
structure CmM where
  v : Value
  n : Nat
  id : Int
  le : n ≤ 3000000

/-- The law's own memory: its block B, the rows of what it keeps, and each list as it was marked; S: the blocks that are taken. -/
structure OwnW (W : World) (lo B : Nat) (S : Nat → Prop) (rv : Value) (M : List TxM) (N : List CmM) (nx : Nat) (csv cmv ssv smv : Value) : Prop where
  wd : W.heap[B]? = some (.cells #[rv, .slice none 0 0, csv, cmv, ssv, smv, .int .i64 (nx : Int)] 87 (0, 0))
  ge : lo ≤ B
  cs : Row W lo 28 1 csv N.length (N.map (·.v))
  cm : Row W lo 3 1 cmv N.length (N.map fun e => .int .i64 e.id)
  ss : Row W lo 34 1 ssv M.length (M.map (·.v))
  sm : Row W lo 9 1 smv M.length (M.map fun e => .string e.m)
  tk : ∀ e ∈ M, Row W lo 9 1 e.v e.n (List.replicate e.n (.string e.m)) ∧ ∀ g, e.v.ownBlock = some g → S g ∧ smv.ownBlock ≠ some g
  nk : ∀ e ∈ N, Row W lo 36 6 e.v e.n (marks e.n e.id) ∧ ∀ g, e.v.ownBlock = some g → S g
  smS : ∀ g, smv.ownBlock = some g → S g

theorem OwnW.keep {W W' : World} {lo B nx : Nat} {S : Nat → Prop} {rv csv cmv ssv smv : Value} {M : List TxM} {N : List CmM} (h : OwnW W lo B S rv M N nx csv cmv ssv smv)
    (k : ∀ (b : Nat) (Z : Array Value) (T : Nat), W.heap[b]? = some (.cells Z T (0, 0)) → (T = 87 ∨ T = 28 ∨ T = 3 ∨ T = 34) → W'.heap[b]? = W.heap[b]?)
    (k9 : ∀ (b : Nat) (Z : Array Value) (T : Nat), W.heap[b]? = some (.cells Z T (0, 0)) → (T = 9 ∨ T = 36) → S b → W'.heap[b]? = W.heap[b]?) : OwnW W' lo B S rv M N nx csv cmv ssv smv :=
  ⟨(k B _ 87 h.wd (.inl rfl)).trans h.wd, h.ge, h.cs.other (fun g Z _ hZ _ => k g Z 28 hZ (.inr (.inl rfl))), h.cm.other (fun g Z _ hZ _ => k g Z 3 hZ (.inr (.inr (.inl rfl)))), h.ss.other (fun g Z _ hZ _ => k g Z 34 hZ (.inr (.inr (.inr rfl)))),
    h.sm.other (fun g Z hg hZ _ => k9 g Z 9 hZ (.inl rfl) (h.smS g hg)),
    fun e he => ⟨(h.tk e he).1.other (fun g Z hg hZ _ => k9 g Z 9 hZ (.inl rfl) ((h.tk e he).2 g hg).1), (h.tk e he).2⟩,
    fun e he => ⟨(h.nk e he).1.other (fun g Z hg hZ _ => k9 g Z 36 hZ (.inr rfl) ((h.nk e he).2 g hg)), (h.nk e he).2⟩, h.smS⟩
/-- All that is taken is there. -/
theorem OwnW.take {W : World} {lo B nx : Nat} {S : Nat → Prop} {rv csv cmv ssv smv : Value} {M : List TxM} {N : List CmM} (h : OwnW W lo B S rv M N nx csv cmv ssv smv) : OwnW W lo B (fun g => g < W.heap.size) rv M N nx csv cmv ssv smv :=
  ⟨h.wd, h.ge, h.cs, h.cm, h.ss, h.sm, fun e he => ⟨(h.tk e he).1, fun g hg => ⟨((h.tk e he).1.blk hg).choose_spec.2.2, ((h.tk e he).2 g hg).2⟩⟩,
    fun e he => ⟨(h.nk e he).1, fun g hg => ((h.nk e he).1.blk hg).choose_spec.2.2⟩, fun g hg => (h.sm.blk hg).choose_spec.2.2⟩
theorem OwnW.more {W : World} {lo B nx : Nat} {S S' : Nat → Prop} {rv csv cmv ssv smv : Value} {M : List TxM} {N : List CmM} (h : OwnW W lo B S rv M N nx csv cmv ssv smv) (hs : ∀ g, S g → S' g) : OwnW W lo B S' rv M N nx csv cmv ssv smv :=
  ⟨h.wd, h.ge, h.cs, h.cm, h.ss, h.sm, fun e he => ⟨(h.tk e he).1, fun g hg => ⟨hs g ((h.tk e he).2 g hg).1, ((h.tk e he).2 g hg).2⟩⟩, fun e he => ⟨(h.nk e he).1, fun g hg => hs g ((h.nk e he).2 g hg)⟩, fun g hg => hs g (h.smS g hg)⟩
theorem OwnW.below {W W' : World} {lo B nx : Nat} {S : Nat → Prop} {rv csv cmv ssv smv : Value} {M : List TxM} {N : List CmM} (h : OwnW W lo B S rv M N nx csv cmv ssv smv) (hb : Below W.heap.size W W') : OwnW W' lo B S rv M N nx csv cmv ssv smv :=
  h.keep (fun b Z T hZ _ => hb.block b (blkLt hZ)) (fun b Z T hZ _ _ => hb.block b (blkLt hZ))
/-- A row beside: its block is none of those that are taken. -/
theorem OwnW.grown {W W' : World} {lo B nx : Nat} {S : Nat → Prop} {rv csv cmv ssv smv l : Value} {M : List TxM} {N : List CmM} {T n sz : Nat} {xs : List Value} (h : OwnW W lo B S rv M N nx csv cmv ssv smv) (hl : Row W lo T sz l n xs) (hT : T = 9 ∨ T = 36) (hS : ∀ g, l.ownBlock = some g → ¬ S g) (hg : W.grownBy W' l.ownBlock) : OwnW W' lo B S rv M N nx csv cmv ssv smv := by
  refine h.keep (fun b Z T' hZ hT' => hg.block b (blkLt hZ) (fun e => ?_)) (fun b Z T' hZ _ hb => hg.block b (blkLt hZ) (fun e => hS b e.symm hb))
  obtain ⟨cur, hc, _⟩ := hl.blk e.symm
  rw [hZ] at hc
  cases hc
  rcases hT with rfl | rfl <;> rcases hT' with h | h | h | h <;> cases h
end Go.Proofs.YtlonjggfnleolaaGreatDoor


/-
  A list of texts that came out is written full, and grows.
-/

namespace Go.Proofs.YtlonjggfnleolaaGreatDoor
open Go.RowKit Go.Shelf
set_option linter.unusedVariables false

def mkNum (x : Int) : ByteArray := strOfNums [x % 256, x / 256 % 256, x / 65536 % 256]
theorem mkNum_size (x : Int) : (mkNum x).size = 3 := rfl
theorem conv3 (W : World) (B : Nat) (x : Int) :
    (convert 80 9 (.slice (some ⟨W.heap.size, 0, none⟩) 3 3)).run Tryz.prog ((W.setCell ⟨B, 6, none⟩ (.int .i64 x)).alloc (.cells #[.int .u8 (x % 256), .int .u8 (x / 256 % 256), .int .u8 (x / 65536 % 256)] 5)).drew =
      .ok (.string (mkNum x)) ((W.setCell ⟨B, 6, none⟩ (.int .i64 x)).alloc (.cells #[.int .u8 (x % 256), .int .u8 (x / 256 % 256), .int .u8 (x / 65536 % 256)] 5)).drew := by
  have hn : ((W.setCell ⟨B, 6, none⟩ (.int .i64 x)).alloc (.cells #[.int .u8 (x % 256), .int .u8 (x / 256 % 256), .int .u8 (x / 65536 % 256)] 5)).drew.heap[W.heap.size]? = some (.cells #[.int .u8 (x % 256), .int .u8 (x / 256 % 256), .int .u8 (x / 65536 % 256)] 5 (0, 0)) := hs_drew (hs_new (by simp))
  generalize ((W.setCell ⟨B, 6, none⟩ (.int .i64 x)).alloc (.cells #[.int .u8 (x % 256), .int .u8 (x / 256 % 256), .int .u8 (x / 65536 % 256)] 5)).drew = W1 at *
  exact run_convert_bytes_arg (P := Tryz.prog) _ 80 5 Tryz.underlying80 Tryz.underlying5 W.heap.size 0 3 3 [x % 256, x / 256 % 256, x / 65536 % 256] rfl (fun i hi => by
    rw [Nat.zero_add, blkCell hn i]
    have h3 : i = 0 ∨ i = 1 ∨ i = 2 := by omega
    rcases h3 with rfl | rfl | rfl <;> rfl) 9 Tryz.underlying9

/-- A list of texts on its way: l is written full with m, and has grown into G. -/
structure TxAt (W W' : World) (lo B : Nat) (S : Nat → Prop) (rv : Value) (M : List TxM) (N : List CmM) (nx : Nat) (csv cmv ssv smv l : Value) (n : Nat) (m : ByteArray) (G : List (Value × Nat)) : Prop where
  own : OwnW W' lo B S rv M N nx csv cmv ssv smv
  row : Row W' lo 9 1 l n (List.replicate n (.string m))
  gs : ∀ e ∈ G, Row W' lo 9 1 e.1 e.2 (List.replicate e.2 (.string m)) ∧ (e.1.ownBlock = l.ownBlock ∨ ∃ g, e.1.ownBlock = some g ∧ W.heap.size ≤ g)
  kept : ∀ (b : Nat) (o : Obj), W.heap[b]? = some o → b ≠ B → l.ownBlock ≠ some b → W'.heap[b]? = some o
  below : Below lo W W'
theorem TxAt.alloc {W W' : World} {lo B nx n : Nat} {S : Nat → Prop} {rv csv cmv ssv smv l : Value} {M : List TxM} {N : List CmM} {m : ByteArray} {G : List (Value × Nat)} (h : TxAt W W' lo B S rv M N nx csv cmv ssv smv l n m G) (hlo : lo ≤ W.heap.size) (A : Obj) : TxAt W (W'.alloc A) lo B S rv M N nx csv cmv ssv smv l n m G := by
  have hB : Below W'.heap.size W' (W'.alloc A) := (Below.refl _ _).alloc (Nat.le_refl _) _
  have hs := h.below.size
  exact ⟨h.own.below hB, h.row.other (fun g Z _ hZ _ => hB.block g (blkLt hZ)), fun e he => ⟨(h.gs e he).1.other (fun g Z _ hZ _ => hB.block g (blkLt hZ)), (h.gs e he).2⟩, fun b o ho hb hl => hs_alloc (h.kept b o ho hb hl) _, h.below.alloc (by omega) _⟩
theorem TxAt.grow {W W1 W2 : World} {lo B nx n k : Nat} {S : Nat → Prop} {rv csv cmv ssv smv l v' : Value} {M : List TxM} {N : List CmM} {m : ByteArray} {G : List (Value × Nat)} (h : TxAt W W1 lo B S rv M N nx csv cmv ssv smv l n m G) (hlo : lo ≤ W.heap.size) (hlS : ∀ g, l.ownBlock = some g → ¬ S g) (hG : ∀ e ∈ G, e.2 ≤ n + k)
    (hrow : Row W2 lo 9 1 v' (n + k) (List.replicate n (.string m) ++ List.replicate k (Value.string m))) (hg : W1.grownBy W2 l.ownBlock) (hat : v'.ownBlock = l.ownBlock ∨ (∃ g, v'.ownBlock = some g ∧ W1.heap.size ≤ g ∧ W1.grownBy W2 none))
    (hall : ∀ u j ys, Row W1 lo 9 1 u j ys → (u.ownBlock = l.ownBlock → j ≤ n + k ∧ ys = (List.replicate n (Value.string m) ++ List.replicate k (Value.string m)).take (j * 1)) → Row W2 lo 9 1 u j ys) :
    TxAt W W2 lo B S rv M N nx csv cmv ssv smv l n m (G ++ [(v', n + k)]) := by
  have hs := h.below.size
  have htk : ∀ j, j ≤ n + k → List.replicate j (Value.string m) = (List.replicate n (Value.string m) ++ List.replicate k (Value.string m)).take (j * 1) := by
    intro j hj
    rw [List.replicate_append_replicate, Nat.mul_one, List.take_replicate, Nat.min_eq_left hj]
  refine ⟨h.own.grown h.row (.inl rfl) hlS hg, hall _ _ _ h.row (fun _ => ⟨by omega, htk n (by omega)⟩), fun e he => ?_, fun b o ho hb hl => (hg.block b (blkLt (h.kept b o ho hb hl)) (fun e => hl e.symm)).trans (h.kept b o ho hb hl), ?_⟩
  · rcases List.mem_append.1 he with he | he
    · exact ⟨hall _ _ _ (h.gs e he).1 (fun _ => ⟨hG e he, htk e.2 (hG e he)⟩), (h.gs e he).2⟩
    · rw [List.mem_singleton] at he
      subst he
      refine ⟨?_, ?_⟩
      · rw [List.replicate_append_replicate] at hrow
        exact hrow
      · rcases hat with h | ⟨g, h1, h2, _⟩
        · exact .inl h
        · exact .inr ⟨g, h1, by omega⟩
  · refine h.below.trans ⟨hg.os, hg.tape, hg.output, hg.size, fun b hb => hg.block b (by omega) (fun e => ?_)⟩
    obtain ⟨_, _, hge, _⟩ := h.row.blk e.symm
    omega
end Go.Proofs.YtlonjggfnleolaaGreatDoor


/-
  A list of texts that came out: what the law then keeps.
-/

namespace Go.Proofs.YtlonjggfnleolaaGreatDoor
open Go.RowKit Go.Shelf
set_option linter.unusedVariables false

/-- What a list's marking leaves as it was. -/
structure TxTo (W W' : World) (lo B : Nat) (S : Nat → Prop) (l : Value) : Prop where
  below : Below lo W W'
  kept : ∀ (b : Nat) (o : Obj), W.heap[b]? = some o → b ≠ B → (∀ Z f, o ≠ .cells Z 34 f) → (∀ Z f, o = .cells Z 9 f → ¬ S b ∧ l.ownBlock ≠ some b) → W'.heap[b]? = some o

theorem row_below {W W' : World} {lo e sz n : Nat} {v : Value} {xs : List Value} (h : Row W lo e sz v n xs) (hg : W.grownBy W' v.ownBlock) (hlo : lo ≤ W.heap.size) : Below lo W W' :=
  ⟨hg.os, hg.tape, hg.output, hg.size, fun b hb => hg.block b (by omega) (fun e => by obtain ⟨_, _, hge, _⟩ := h.blk e.symm; omega)⟩
theorem row_ne {W : World} {lo e sz n b T : Nat} {v : Value} {xs : List Value} {Z : Array Value} {f : Nat × Nat} (h : Row W lo e sz v n xs) (hb : W.heap[b]? = some (.cells Z T f)) (hT : T ≠ e) : some b ≠ v.ownBlock := fun e' => by
  obtain ⟨cur, hc, _⟩ := h.blk e'.symm
  rw [hb] at hc
  cases hc
  exact hT rfl

theorem TxAt.fin {W W2 W3 W5 : World} {lo B nx n : Nat} {S : Nat → Prop} {rv csv cmv ssv smv ssv' smv' l g1 g2 g3 : Value} {M : List TxM} {N : List CmM} {m : ByteArray} {A A' : Obj}
    (h : TxAt W W2 lo B S rv M N nx csv cmv ssv smv l n m [(g1, n + 1), (g2, n + 2), (g3, n + 3)]) (hn3 : n ≤ 2000000) (hlo : lo ≤ W.heap.size) (hlS : ∀ g, l.ownBlock = some g → ¬ S g ∧ ∃ Z, W.heap[g]? = some (.cells Z 9 (0, 0))) (hSW : ∀ g, smv.ownBlock = some g → g < W.heap.size)
    (hss : Row W3 lo 34 1 ssv' (M.length + 4) (M.map (·.v) ++ [l, g1, g2, g3])) (hg3 : (W2.alloc A).grownBy W3 ssv.ownBlock)
    (hsm : Row W5 lo 9 1 smv' (M.length + 4) ((M.map fun e => Value.string e.m) ++ [.string m, .string m, .string m, .string m])) (hg5 : ((W3.setCell ⟨B, 4, none⟩ ssv').alloc A').grownBy W5 smv.ownBlock) (hat : smv'.ownBlock = smv.ownBlock ∨ (∃ g, smv'.ownBlock = some g ∧ ((W3.setCell ⟨B, 4, none⟩ ssv').alloc A').heap.size ≤ g ∧ ((W3.setCell ⟨B, 4, none⟩ ssv').alloc A').grownBy W5 none)) :
    OwnW (W5.setCell ⟨B, 5, none⟩ smv') lo B (fun g => S g ∨ l.ownBlock = some g ∨ W.heap.size ≤ g) rv (M ++ [⟨l, n, m, by omega⟩, ⟨g1, n + 1, m, by omega⟩, ⟨g2, n + 2, m, by omega⟩, ⟨g3, n + 3, m, by omega⟩]) N nx csv cmv ssv' smv' ∧ TxTo W (W5.setCell ⟨B, 5, none⟩ smv') lo B S l := by
  have hsz2 := h.below.size
  have hBa : Below W2.heap.size W2 (W2.alloc A) := (Below.refl _ _).alloc (Nat.le_refl _) _
  have hssA : Row (W2.alloc A) lo 34 1 ssv M.length (M.map (·.v)) := h.own.ss.other (fun g Z _ hZ _ => hBa.block g (blkLt hZ))
  have hszA : (W2.alloc A).heap.size = W2.heap.size + 1 := World.size_alloc _ _
  -- up to W3
  have k3 : ∀ (b : Nat) (o : Obj), W2.heap[b]? = some o → some b ≠ ssv.ownBlock → W3.heap[b]? = some o := fun b o hb hn => (hg3.block b (by rw [hszA]; have := blkLt hb; omega) hn).trans ((hBa.block b (blkLt hb)).trans hb)
  have wB3 := k3 B _ h.own.wd (row_ne h.own.ss h.own.wd (by decide))
  have wB4 := blkSet (i := 4) wB3 ssv'
  have hsz3 := hg3.size
  -- up to W4
  have k4 : ∀ (b : Nat) (o : Obj), W2.heap[b]? = some o → b ≠ B → some b ≠ ssv.ownBlock → (W3.setCell ⟨B, 4, none⟩ ssv').heap[b]? = some o := fun b o hb hn hs => hs_set (k3 b o hb hs) hn
  have hss4 : Row (W3.setCell ⟨B, 4, none⟩ ssv') lo 34 1 ssv' (M.length + 4) (M.map (·.v) ++ [l, g1, g2, g3]) := hss.other (fun g Z _ hZ _ => Below.heap_setCell _ _ _ _ (fun e => by rw [show g = B from e, wB3] at hZ; cases hZ))
  have hsz4 : (W3.setCell ⟨B, 4, none⟩ ssv').heap.size = W3.heap.size := by simp
  have hsm4 : Row (W3.setCell ⟨B, 4, none⟩ ssv') lo 9 1 smv M.length (M.map fun e => Value.string e.m) := h.own.sm.other (fun g Z hg hZ _ => (k4 g _ hZ (fun e => by rw [e, h.own.wd] at hZ; cases hZ) (row_ne h.own.ss hZ (by decide))).trans hZ.symm)
  have hB4 : Below lo W2 (W3.setCell ⟨B, 4, none⟩ ssv') := ((hBa.mono (by omega)).trans (row_below hssA hg3 (by rw [hszA]; omega))).setCell (p := ⟨B, 4, none⟩) h.own.ge _
  generalize W3.setCell ⟨B, 4, none⟩ ssv' = W4 at *
  have hBb : Below W4.heap.size W4 (W4.alloc A') := (Below.refl _ _).alloc (Nat.le_refl _) _
  have hszB : (W4.alloc A').heap.size = W4.heap.size + 1 := World.size_alloc _ _
  have hsmB : Row (W4.alloc A') lo 9 1 smv M.length (M.map fun e => Value.string e.m) := hsm4.other (fun g Z _ hZ _ => hBb.block g (blkLt hZ))
  have k5 : ∀ (b : Nat) (o : Obj), W4.heap[b]? = some o → some b ≠ smv.ownBlock → W5.heap[b]? = some o := fun b o hb hn => (hg5.block b (by rw [hszB]; have := blkLt hb; omega) hn).trans ((hBb.block b (blkLt hb)).trans hb)
  have wB5 := k5 B _ wB4 (row_ne hsm4 wB4 (by decide))
  have wB6 := blkSet (i := 5) wB5 smv'
  have hB5 : Below lo W4 W5 := (hBb.mono (by omega)).trans (row_below hsmB hg5 (by rw [hszB]; omega))
  have k6 : ∀ (b : Nat) (o : Obj), W4.heap[b]? = some o → b ≠ B → some b ≠ smv.ownBlock → (W5.setCell ⟨B, 5, none⟩ smv').heap[b]? = some o := fun b o hb hn hs => hs_set (k5 b o hb hs) hn
  have hB6 : Below lo W4 (W5.setCell ⟨B, 5, none⟩ smv') := hB5.setCell (p := ⟨B, 5, none⟩) h.own.ge _
  have hsm6 : Row (W5.setCell ⟨B, 5, none⟩ smv') lo 9 1 smv' (M.length + 4) ((M.map fun e => Value.string e.m) ++ [.string m, .string m, .string m, .string m]) := hsm.other (fun g Z _ hZ _ => Below.heap_setCell _ _ _ _ (fun e => by rw [show g = B from e, wB5] at hZ; cases hZ))
  generalize W5.setCell ⟨B, 5, none⟩ smv' = W6 at *
  -- a block of another type, up to W6
  have k26 : ∀ (b T : Nat) (Z : Array Value), W2.heap[b]? = some (.cells Z T (0, 0)) → T ≠ 34 → T ≠ 87 → (T = 9 → some b ≠ smv.ownBlock) → W6.heap[b]? = W2.heap[b]? := fun b T Z hb h1 h2 h3 => by
    have hbB : b ≠ B := fun e => by rw [e, h.own.wd] at hb; cases hb; exact h2 rfl
    have hb4 := k4 b _ hb hbB (row_ne h.own.ss hb h1)
    refine (k6 b _ hb4 hbB ?_).trans hb.symm
    by_cases hT : T = 9
    · exact h3 hT
    · exact row_ne hsm4 hb4 hT
  have smNe : ∀ g, smv'.ownBlock = some g → smv.ownBlock = some g ∨ W4.heap.size + 1 ≤ g := fun g hg => by
    rcases hat with e | ⟨g', e1, e2, _⟩
    · left; rw [← e]; exact hg
    · right
      rw [e1] at hg
      cases hg
      rw [hszB] at e2
      exact e2
  have lt4 : ∀ (b : Nat) (o : Obj), W2.heap[b]? = some o → b < W4.heap.size := fun b o hb => by have := blkLt hb; have := hB4.size; omega
  -- the new ones
  have newRow : ∀ (v : Value) (j : Nat), Row W2 lo 9 1 v j (List.replicate j (.string m)) → (v.ownBlock = l.ownBlock ∨ ∃ g, v.ownBlock = some g ∧ W.heap.size ≤ g) → Row W6 lo 9 1 v j (List.replicate j (.string m)) ∧ ∀ g, v.ownBlock = some g → (S g ∨ l.ownBlock = some g ∨ W.heap.size ≤ g) ∧ smv'.ownBlock ≠ some g := by
    intro v j hv hw
    have hne : ∀ g, v.ownBlock = some g → smv.ownBlock ≠ some g := fun g hg e => by
      have hS := h.own.smS g e
      rcases hw with h1 | ⟨g', h1, h2⟩
      · exact (hlS g (by rw [← h1]; exact hg)).1 hS
      · rw [hg] at h1; cases h1; have := hSW g e; omega
    refine ⟨hv.other (fun g Z hg hZ _ => k26 g 9 Z hZ (by decide) (by decide) (fun _ e => hne g hg e.symm)), fun g hg => ⟨?_, fun e => ?_⟩⟩
    · rcases hw with h1 | ⟨g', h1, h2⟩
      · exact .inr (.inl (by rw [← h1]; exact hg))
      · rw [hg] at h1; cases h1; exact .inr (.inr h2)
    · obtain ⟨Z, hZ, _⟩ := hv.blk hg
      have := lt4 g _ hZ
      rcases smNe g e with h1 | h1
      · exact hne g hg h1
      · omega
  refine ⟨⟨wB6.trans rfl, h.own.ge, h.own.cs.other (fun g Z _ hZ _ => k26 g 28 Z hZ (by decide) (by decide) (fun e => by cases e)), h.own.cm.other (fun g Z _ hZ _ => k26 g 3 Z hZ (by decide) (by decide) (fun e => by cases e)), ?_, ?_, ?_, ?_, ?_⟩, ⟨h.below.trans (hB4.trans hB6), ?_⟩⟩
  · have := hss4.other (w' := W6) (fun g Z _ hZ _ => (k6 g _ hZ (fun e => by rw [e, wB4] at hZ; cases hZ) (row_ne hsm4 hZ (by decide))).trans hZ.symm)
    rw [List.length_append, List.map_append]
    exact this
  · rw [List.length_append, List.map_append]
    exact hsm6
  · intro e he
    rcases List.mem_append.1 he with he | he
    · obtain ⟨r1, r2⟩ := h.own.tk e he
      refine ⟨r1.other (fun g Z hg hZ _ => k26 g 9 Z hZ (by decide) (by decide) (fun _ e' => (r2 g hg).2 e'.symm)), fun g hg => ⟨.inl (r2 g hg).1, fun e' => ?_⟩⟩
      obtain ⟨Z, hZ, _⟩ := r1.blk hg
      have := lt4 g _ hZ
      rcases smNe g e' with h1 | h1
      · exact (r2 g hg).2 h1
      · omega
    · simp only [List.mem_cons, List.not_mem_nil, or_false] at he
      rcases he with rfl | rfl | rfl | rfl
      · exact newRow _ _ h.row (.inl rfl)
      · exact newRow _ _ (h.gs (g1, n + 1) (by simp)).1 (h.gs (g1, n + 1) (by simp)).2
      · exact newRow _ _ (h.gs (g2, n + 2) (by simp)).1 (h.gs (g2, n + 2) (by simp)).2
      · exact newRow _ _ (h.gs (g3, n + 3) (by simp)).1 (h.gs (g3, n + 3) (by simp)).2
  · intro e he
    obtain ⟨r1, r2⟩ := h.own.nk e he
    exact ⟨r1.other (fun g Z _ hZ _ => k26 g 36 Z hZ (by decide) (by decide) (fun e => by cases e)), fun g hg => .inl (r2 g hg)⟩
  · intro g hg
    rcases smNe g hg with h1 | h1
    · exact .inl (h.own.smS g h1)
    · have := hB4.size
      exact .inr (.inr (by omega))
  · intro b o ho hbB h34 h9
    have hl : l.ownBlock ≠ some b := fun e => by
      obtain ⟨_, Z, hZ⟩ := hlS b e
      rw [ho] at hZ
      cases hZ
      exact (h9 _ _ rfl).2 e
    have h2 := h.kept b o ho hbB hl
    refine k6 b o (k4 b o h2 hbB (fun e => ?_)) hbB (fun e => ?_)
    · obtain ⟨cur, hc, _⟩ := h.own.ss.blk e.symm
      rw [h2] at hc
      cases hc
      exact h34 _ _ rfl
    · obtain ⟨cur, hc, _⟩ := h.own.sm.blk e.symm
      rw [h2] at hc
      cases hc
      exact (h9 _ _ rfl).1 (h.own.smS b e.symm)
end Go.Proofs.YtlonjggfnleolaaGreatDoor
