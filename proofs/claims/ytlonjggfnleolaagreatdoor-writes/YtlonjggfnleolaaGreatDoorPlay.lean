/-
  The script of Writes: step, ends, looks.
-/
import Derived.Test.YtlonjggfnleolaaGreatDoorWritTell
import Derived.Deep.MidRow
namespace Go.Proofs.YtlonjggfnleolaaGreatDoor
open Go.RowKit
set_option linter.unusedVariables false

/-- A step that may be handed on. -/
def OpIn (w : World) (k : Int) (v : Value) : Prop :=
  ∃ (at' ck : Int) (a : Option Addr) (n c : Nat) (ss : List ByteArray) (val cw : ByteArray) (ft : Bool) (cid ak : Int) (fa va : Option Addr) (fn fc vn vc : Nat) (bs : List Bool) (vs : List ByteArray) (wd : ByteArray) (g0 g1 g2 : Int) (s : ByteArray) (x y : Int),
    v = opV k at' ck (.slice a n c) val cw ft cid ak (.slice fa fn fc) (.slice va vn vc) wd g0 g1 g2 s x y ∧ StrsIn w a n c ss ∧ val.size ≤ maxLen ∧ BoolsIn w fa fn fc bs ∧ StrsIn w va vn vc vs ∧ wd.size ≤ maxLen ∧ s.size ≤ maxLen ∧ n ≤ 8796093022208 ∧ fn ≤ 140737488355328 ∧ vn ≤ 8796093022208

theorem OpIn.later {w w' : World} {k : Int} {v : Value} (h : OpIn w k v) (hB : Below w.heap.size w w') : OpIn w' k v := by
  obtain ⟨at', ck, a, n, c, ss, val, cw, ft, cid, ak, fa, va, fn, fc, vn, vc, bs, vs, wd, g0, g1, g2, s, x, y, hv, h1, h2, h3, h4, h5, h6, h7, h8, h9⟩ := h
  exact ⟨at', ck, a, n, c, ss, val, cw, ft, cid, ak, fa, va, fn, fc, vn, vc, bs, vs, wd, g0, g1, g2, s, x, y, hv, h1.later hB, h2, h3.later hB, h4.later hB, h5, h6, h7, h8, h9⟩

theorem written_any (w : World) (k : Int) (v : Value) (h : OpIn w k v) :
    Calls Tryz.prog 66 #[v] w fun e w' => e = .returned (.bool true) ∧ Below w.heap.size w w' := by
  obtain ⟨at', ck, a, n, c, ss, val, cw, ft, cid, ak, fa, va, fn, fc, vn, vc, bs, vs, wd, g0, g1, g2, s, x, y, rfl, h1, h2, h3, h4, h5, h6, h7, h8, h9⟩ := h
  by_cases e3 : k = 3
  · subst e3
    exact written_owner at' ck _ val cw ft cid ak _ _ wd g0 g1 g2 s x y w h6
  by_cases e1 : k = 1
  · subst e1
    exact written_ask at' ck a n c ss val cw ft cid ak _ _ wd g0 g1 g2 s x y w h1 h2 h7
  exact written_tell k at' ck a n c ss val cw ft cid ak fa va fn fc vn vc bs vs wd g0 g1 g2 s x y w (by simpa using e3) (by simpa using e1) h1 h2 h3 h4 h5 h7 h8 h9

theorem range_new (w : World) (cs : List Value) (t : TypeId) : (w.alloc (.cells cs.toArray t)).rangeAt w.heap.size 0 cs := by
  intro j v hv
  rw [Nat.zero_add]
  refine (blkCell (blkNew w (.cells cs.toArray t)) j).trans ?_
  rw [List.getElem?_toArray]
  exact hv

set_option maxRecDepth 20000 in
set_option maxHeartbeats 1000000 in
theorem step_any (p : Value) (w : World) (k : Int) (v : Value) (h : OpIn w k v) (hk1 : 1 ≤ k) (hk3 : k ≤ 3) :
    Calls Tryz.prog 40 #[p, v] w fun e w' => e = .returned (.bool true) ∧ Below w.heap.size w w' := by
  have HW : Hid (∀ x, Calls Tryz.prog 66 #[v] (w.alloc x) fun e w' => e = .returned (.bool true) ∧ Below (w.alloc x).heap.size (w.alloc x) w') := fun x => written_any _ k v (h.later ((Below.refl _ _).alloc (Nat.le_refl _) _))
  obtain ⟨at', ck, a, n, c, ss, val, cw, ft, cid, ak, fa, va, fn, fc, vn, vc, bs, vs, wd, g0, g1, g2, s, x, y, rfl, h1, h2, h3, h4, h5, h6, h7, h8, h9⟩ := h
  clear h1 h2 h3 h4 h5 h6 h7 h8 h9
  have HR := hide' (range_new w [.int .i64 k, .int .i64 at', .int .i64 ck, .slice a n c, .string val, .string cw, .bool ft, .int .i64 cid, .int .i64 ak, .slice fa fn fc, .slice va vn vc, .string wd, .int .i64 g0, .int .i64 g1, .int .i64 g2, .string s, .int .i64 x, .int .i64 y] 95)
  have HI : Hid ((Tryz.prog.info? 95).map (·.size) = some 18) := (show (Tryz.prog.info? 95).map (·.size) = some 18 by kernel_rfl)
  unfold opV at *
  go_enter Tryz.func40, Tryz.ntmps40
  go_wp2_with (show wpList _ _ _ ({ dst := _, op := Op.load 95 _, type := _, pos := _, after := _, guard := _ } :: _) _ _; refine wpList_load_mid rfl 95 _ rfl w.heap.size 0 rfl [.int .i64 k, .int .i64 at', .int .i64 ck, .slice a n c, .string val, .string cw, .bool ft, .int .i64 cid, .int .i64 ak, .slice fa fn fc, .slice va vn vc, .string wd, .int .i64 g0, .int .i64 g1, .int .i64 g2, .string s, .int .i64 x, .int .i64 y] _ HR.out Tryz.underlying95 rfl HI.out ?_)
  go_at_call 66
  refine (HW.out _).mono ?_
  rintro e w1 ⟨rfl, hb1⟩
  have H1 : Hid (Below w.heap.size w w1) := ((Below.refl _ _).alloc (Nat.le_refl _) _).trans (hb1.mono (by simp))
  clear hb1
  go_wp2
  go_ret
  exact ⟨rfl, H1.out⟩

/-- The law's own memory, where nothing was made. -/
def zWorld : Array Value := #[.slice none 0 0, .slice none 0 0, .slice none 0 0, .slice none 0 0, .slice none 0 0, .slice none 0 0, .int .i64 0]

set_option maxRecDepth 20000 in
set_option maxHeartbeats 1000000 in
theorem ends_any (B : Nat) (lo hi : Int) (w : World) (h : ∀ i, i < 7 → w.cell? ⟨B, i, none⟩ = zWorld[i]?) :
    Calls Tryz.prog 41 #[.pointer (some ⟨B, 0, none⟩), .int .i64 lo, .int .i64 hi] w fun e w' => e = .returned (.bool true) ∧ w' = w := by
  have c0 : w.cell? ⟨B, 0, none⟩ = some (.slice none 0 0) := h 0 (by decide)
  have c1 : w.cell? ⟨B, 1, none⟩ = some (.slice none 0 0) := h 1 (by decide)
  clear h
  go_enter Tryz.func41, Tryz.ntmps41
  go_wp2
  go_loop [7] (fun i => i = .int .i64 0) (fun _ => 0)
  case atStart => rfl
  case round =>
    subst hrel
    go_wp2
    go_loop [9] (fun i => i = .int .i64 0) (fun _ => 0)
    case atStart => rfl
    case round =>
      subst hrel
      go_wp2
      go_ret
      exact ⟨rfl, rfl⟩

set_option maxRecDepth 20000 in
set_option maxHeartbeats 1000000 in
theorem looks_any (B : Nat) (w : World) (h : ∀ i, i < 7 → w.cell? ⟨B, i, none⟩ = zWorld[i]?) :
    Calls Tryz.prog 42 #[.pointer (some ⟨B, 0, none⟩)] w fun e w' => e = .returned (.bool true) ∧ w' = w := by
  have c2 : w.cell? ⟨B, 2, none⟩ = some (.slice none 0 0) := h 2 (by decide)
  have c4 : w.cell? ⟨B, 4, none⟩ = some (.slice none 0 0) := h 4 (by decide)
  clear h
  go_enter Tryz.func42, Tryz.ntmps42
  go_wp2
  go_loop [3] (fun i => i = .int .i64 0) (fun _ => 0)
  case atStart => rfl
  case round =>
    subst hrel
    go_wp2
    go_loop [5] (fun i => i = .int .i64 0) (fun _ => 0)
    case atStart => rfl
    case round =>
      subst hrel
      go_wp2
      go_ret
      exact ⟨rfl, rfl⟩
end Go.Proofs.YtlonjggfnleolaaGreatDoor
