/-
  The law's own lists: stillTexts, stillBools.
-/
import Derived.Test.YtlonjggfnleolaaGreatDoorLent
import Derived.BigQuiet
namespace Go.Proofs.YtlonjggfnleolaaGreatDoor
open Go.RowKit
set_option linter.unusedVariables false

/-- Nothing but the block g is written. -/
structure Still (g : Nat) (w w' : World) : Prop where
  bel : Below g w w'
  rest : ∀ k, k ≠ g → w'.heap[k]? = w.heap[k]?

theorem Still.refl (g : Nat) (w : World) : Still g w w := ⟨Below.refl _ _, fun _ _ => rfl⟩
theorem Still.drewN {g : Nat} {w w' : World} (h : Still g w w') (q : Nat) : Still g w (w'.drewN q) := ⟨below_drewN h.bel q, h.rest⟩
theorem Still.set {g : Nat} {w w' : World} (h : Still g w w') (i : Nat) (v : Value) : Still g w (w'.setCell ⟨g, i, none⟩ v) := by
  refine ⟨h.bel.setCell (p := ⟨g, i, none⟩) (Nat.le_refl _) v, fun k hk => ?_⟩
  rw [← h.rest k hk]
  simp [World.setCell, Array.getElem?_modify, Ne.symm hk]

set_option maxRecDepth 20000 in
theorem stillTexts_nil (v : Value) (w : World) :
    Calls Tryz.prog 102 #[v, .slice none 0 0] w fun e w' => e = .returned (.bool true) ∧ w' = w := by
  have h1 := eqn34
  go_enter Tryz.func102, Tryz.ntmps102
  go_wp2
  go_ret
  exact ⟨rfl, rfl⟩

set_option maxRecDepth 20000 in
set_option maxHeartbeats 1000000 in
theorem stillTexts_some (g b o n c : Nat) (ss : List ByteArray) (w : World) (hL : LentT w g n ss) (hl : ss.length = n) (hc : n ≤ c) (hn : n ≤ 8796093022208) (hb : b < g) (hcell : ∀ (i : Nat) (s : ByteArray), ss[i]? = some s → w.cell? ⟨b, o + i, none⟩ = some (.string s)) :
    Calls Tryz.prog 102 #[.slice (some ⟨g, 0, none⟩) n (n + 2), .slice (some ⟨b, o, none⟩) n c] w fun e w' => e = .returned (.bool true) ∧ Still g w w' := by
  obtain ⟨Z, z1, z2, z3, z4, z5⟩ := hL
  have HC := hide' hcell
  have HL := hide' hl
  have HZ := hide' z1
  have HZ3 := hide' z3
  have hgw := blkLt z1
  have c0 : w.cell? ⟨g, n, none⟩ = some (.string ⟨#[109, 105, 110, 101]⟩) := (blkCell z1 n).trans z4
  have c1 : w.cell? ⟨g, n + 1, none⟩ = some (.string ⟨#[121, 111, 117, 114, 115]⟩) := (blkCell z1 (n + 1)).trans z5
  clear hcell hl z1 z3 z4 z5
  have h1 := eqs34 b o n c
  go_enter Tryz.func102, Tryz.ntmps102
  go_wp2
  go_loopw [6, 7] (fun k i wr => ∃ j : Nat, j ≤ n ∧ i = .int .i64 j ∧ k = .bool true ∧ Hid (Still g w wr ∧ ∃ Y : Array Value, wr.heap[g]? = some (.cells Y 9 (0, 0)) ∧ Y.size = n + 2 ∧ ∀ (i : Nat) (x : ByteArray), j ≤ i → ss[i]? = some x → Y[i]? = some (.string x))) (fun _ i _ => n - (intOf i).toNat)
  case atStart => exact ⟨0, Nat.zero_le _, rfl, rfl, ⟨Still.refl _ _, Z, HZ.out, z2, fun i x _ h => HZ3.out i x h⟩⟩
  case round =>
    obtain ⟨j, hj, rfl, rfl, HJ⟩ := hrel
    by_cases hlt : j < n
    · obtain ⟨x, hx⟩ : ∃ x, ss[j]? = some x := ⟨ss[j]'(by rw [HL.out]; exact hlt), List.getElem?_eq_getElem _⟩
      obtain ⟨Y, y1, y2, y3⟩ := HJ.out.2
      have d0 : wr.cell? ⟨g, j, none⟩ = some (.string x) := (blkCell y1 j).trans (y3 j x (Nat.le_refl _) hx)
      have d1 : wr.cell? ⟨b, o + j, none⟩ = some (.string x) := (HJ.out.1.bel.cell (p := ⟨b, o + j, none⟩) hb).trans (HC.out j x hx)
      have hfr := blkFree y1
      have hgr := blkLt y1
      have HY := hide' y1
      have HY3 := hide' y3
      have hbr : b < wr.heap.size := by omega
      clear y1 y3 hx
      go_wp2_with fail
      go_quiet (fail)
      go_wp2
      go_roundw
      case rel =>
        refine ⟨j + 1, by omega, by go_num, rfl, ⟨((HJ.out.1.drewN _).set _ _), _, blkSet (show (wr.drewN _).heap[g]? = _ from HY.out) (i := j) _, by simpa using y2, ?_⟩⟩
        intro i x' hi hx'
        rw [Array.getElem?_setIfInBounds_ne (by omega)]
        exact HY3.out i x' (by omega) hx'
      case measure => simp [intOf]; omega
    · have hj2 : j = n := by omega
      subst hj2
      go_wp2
      go_ret
      exact ⟨rfl, HJ.out.1⟩
set_option maxRecDepth 20000 in
theorem stillBools_nil (v : Value) (w : World) :
    Calls Tryz.prog 105 #[v, .slice none 0 0] w fun e w' => e = .returned (.bool true) ∧ w' = w := by
  have h1 := eqn54
  go_enter Tryz.func105, Tryz.ntmps105
  go_wp2
  go_ret
  exact ⟨rfl, rfl⟩

set_option maxRecDepth 20000 in
set_option maxHeartbeats 1000000 in
theorem stillBools_some (g b o n c : Nat) (ss : List Bool) (w : World) (hL : LentB w g n ss) (hl : ss.length = n) (hc : n ≤ c) (hn : n ≤ 140737488355328) (hb : b < g) (hcell : ∀ (i : Nat) (s : Bool), ss[i]? = some s → w.cell? ⟨b, o + i, none⟩ = some (.bool s)) :
    Calls Tryz.prog 105 #[.slice (some ⟨g, 0, none⟩) n (n + 2), .slice (some ⟨b, o, none⟩) n c] w fun e w' => e = .returned (.bool true) ∧ Still g w w' := by
  obtain ⟨Z, z1, z2, z3, z4, z5⟩ := hL
  have HC := hide' hcell
  have HL := hide' hl
  have HZ := hide' z1
  have HZ3 := hide' z3
  have hgw := blkLt z1
  have c0 : w.cell? ⟨g, n, none⟩ = some (.bool true) := (blkCell z1 n).trans z4
  have c1 : w.cell? ⟨g, n + 1, none⟩ = some (.bool false) := (blkCell z1 (n + 1)).trans z5
  clear hcell hl z1 z3 z4 z5
  have h1 := eqs54 b o n c
  go_enter Tryz.func105, Tryz.ntmps105
  go_wp2
  go_loopw [6, 7] (fun k i wr => ∃ j : Nat, j ≤ n ∧ i = .int .i64 j ∧ k = .bool true ∧ Hid (Still g w wr ∧ ∃ Y : Array Value, wr.heap[g]? = some (.cells Y 4 (0, 0)) ∧ Y.size = n + 2 ∧ ∀ (i : Nat) (x : Bool), j ≤ i → ss[i]? = some x → Y[i]? = some (.bool x))) (fun _ i _ => n - (intOf i).toNat)
  case atStart => exact ⟨0, Nat.zero_le _, rfl, rfl, ⟨Still.refl _ _, Z, HZ.out, z2, fun i x _ h => HZ3.out i x h⟩⟩
  case round =>
    obtain ⟨j, hj, rfl, rfl, HJ⟩ := hrel
    by_cases hlt : j < n
    · obtain ⟨x, hx⟩ : ∃ x, ss[j]? = some x := ⟨ss[j]'(by rw [HL.out]; exact hlt), List.getElem?_eq_getElem _⟩
      obtain ⟨Y, y1, y2, y3⟩ := HJ.out.2
      have d0 : wr.cell? ⟨g, j, none⟩ = some (.bool x) := (blkCell y1 j).trans (y3 j x (Nat.le_refl _) hx)
      have d1 : wr.cell? ⟨b, o + j, none⟩ = some (.bool x) := (HJ.out.1.bel.cell (p := ⟨b, o + j, none⟩) hb).trans (HC.out j x hx)
      have hfr := blkFree y1
      have hgr := blkLt y1
      have HY := hide' y1
      have HY3 := hide' y3
      have hbr : b < wr.heap.size := by omega
      clear y1 y3 hx
      go_wp2_with fail
      go_quiet (fail)
      go_wp2
      go_roundw
      case rel =>
        exact ⟨j + 1, by omega, by go_num, rfl, ⟨HJ.out.1.drewN _, Y, HY.out, y2, fun i x' hi hx' => HY3.out i x' (by omega) hx'⟩⟩
      case measure => simp [intOf]; omega
    · have hj2 : j = n := by omega
      subst hj2
      go_wp2
      go_ret
      exact ⟨rfl, HJ.out.1⟩
theorem eqx34 (x : Addr) (n c : Nat) (w : World) : (binOp .eql 34 (.slice (some x) n c) (.slice none 0 0)).run Tryz.prog w = .ok (.bool false) w := by kernel_rfl
theorem eqx54 (x : Addr) (n c : Nat) (w : World) : (binOp .eql 89 (.slice (some x) n c) (.slice none 0 0)).run Tryz.prog w = .ok (.bool false) w := by kernel_rfl
set_option maxRecDepth 20000 in
set_option maxHeartbeats 1000000 in
theorem lentTexts_empty (x : Addr) (w : World) :
    Calls Tryz.prog 100 #[.slice (some x) 0 0] w fun e w' => e = .returned (.slice (some ⟨w.heap.size, 0, none⟩) 0 (0 + 2)) ∧ LentT w' w.heap.size 0 [] ∧ Below w.heap.size w w' := by
  obtain ⟨i0, hi, hz0, hz1, hz2⟩ : ∃ i, Tryz.prog.info? 9 = some i ∧ i.zero = some (.string ⟨#[]⟩) ∧ i.size = 1 ∧ i.bytes = 16 := info_parts (by kernel_rfl)
  have h1 := eqx34 x 0 0
  have HSZ : Hid ((Tryz.prog.info? 9).map (·.size) = some 1) := (show _ = _ by kernel_rfl)
  go_enter Tryz.func100, Tryz.ntmps100
  go_wp2_with (at_make; refine wpList_make_full _ rfl _ _ 34 rfl w.heap.size 9 i0 (.string ⟨#[]⟩) 1 Tryz.underlying34 hi hz0 hz1 _ _ _ _ 2 rfl rfl rfl rfl (by rw [hz2]; decide) (by unfold maxLen; omega) (Nat.le_refl _) ?_)
  intro w1 hown hgrow
  have HB1 : Hid (Below w.heap.size w w1) := (Below.refl _ _).grown hgrow (Nat.le_refl _) (fun _ h => by cases h)
  have hfull := own_full hown
  obtain ⟨L, hLd, hcur, hLl⟩ : ∃ L : List Value, L = (madeCells #[Value.string ⟨#[]⟩] 2).toList ∧ w1.heap[w.heap.size]? = some (.cells L.toArray 9 (0, 0)) ∧ L.length = 2 := ⟨_, rfl, hfull⟩
  clear hown hgrow hfull
  have HLD := hide' hLd
  clear hLd
  have HCU := hide' hcur
  have hsz1 := blkLt hcur
  have hfr := blkFree hcur
  obtain ⟨v0, hv0⟩ : ∃ v, L.toArray[0]? = some v := ⟨L.toArray[0]'(by simp; omega), Array.getElem?_eq_getElem _⟩
  obtain ⟨v1, hv1⟩ : ∃ v, L.toArray[1]? = some v := ⟨L.toArray[1]'(by simp; omega), Array.getElem?_eq_getElem _⟩
  have c0 : w1.cell? ⟨w.heap.size, 0, none⟩ = some v0 := (blkCell hcur 0).trans hv0
  have c1 : w1.cell? ⟨w.heap.size, 1, none⟩ = some v1 := (blkCell hcur 1).trans hv1
  clear hcur hv0 hv1
  go_wp2_with (show wpList _ _ _ ({ dst := _, op := Op.call { callee := Callee.builtin Builtin.copy, args := _, argTypes := _ }, type := _, pos := _, after := _, guard := _ } :: _) _ _; refine wpList_copy_nothing rfl _ _ 34 34 rfl 9 Tryz.underlying34 HSZ.out _ _ _ _ _ _ rfl rfl rfl ?_)
  go_ret
  refine ⟨rfl, ⟨⟨_, blkSet (blkSet HCU.out (i := 0) _) (i := 1) _, by simpa using hLl, fun i x hx => by simp at hx, ?_, ?_⟩⟩, (HB1.out.setCell (p := ⟨w.heap.size, 0, none⟩) (Nat.le_refl _) _).setCell (p := ⟨w.heap.size, 1, none⟩) (Nat.le_refl _) _⟩
  · rw [Array.getElem?_setIfInBounds_ne (by omega), Array.getElem?_setIfInBounds_self_of_lt (by simp; omega)]
  · rw [Array.getElem?_setIfInBounds_self_of_lt (by simp; omega)]
set_option maxRecDepth 20000 in
set_option maxHeartbeats 1000000 in
theorem lentBools_empty (x : Addr) (w : World) :
    Calls Tryz.prog 103 #[.slice (some x) 0 0] w fun e w' => e = .returned (.slice (some ⟨w.heap.size, 0, none⟩) 0 (0 + 2)) ∧ LentB w' w.heap.size 0 [] ∧ Below w.heap.size w w' := by
  obtain ⟨i0, hi, hz0, hz1, hz2⟩ : ∃ i, Tryz.prog.info? 4 = some i ∧ i.zero = some (.bool false) ∧ i.size = 1 ∧ i.bytes = 1 := info_parts (by kernel_rfl)
  have h1 := eqx54 x 0 0
  have HSZ : Hid ((Tryz.prog.info? 4).map (·.size) = some 1) := (show _ = _ by kernel_rfl)
  go_enter Tryz.func103, Tryz.ntmps103
  go_wp2_with (at_make; refine wpList_make_full _ rfl _ _ 89 rfl w.heap.size 4 i0 (.bool false) 1 Tryz.underlying89 hi hz0 hz1 _ _ _ _ 2 rfl rfl rfl rfl (by rw [hz2]; decide) (by unfold maxLen; omega) (Nat.le_refl _) ?_)
  intro w1 hown hgrow
  have HB1 : Hid (Below w.heap.size w w1) := (Below.refl _ _).grown hgrow (Nat.le_refl _) (fun _ h => by cases h)
  have hfull := own_full hown
  obtain ⟨L, hLd, hcur, hLl⟩ : ∃ L : List Value, L = (madeCells #[Value.bool false] 2).toList ∧ w1.heap[w.heap.size]? = some (.cells L.toArray 4 (0, 0)) ∧ L.length = 2 := ⟨_, rfl, hfull⟩
  clear hown hgrow hfull
  have HLD := hide' hLd
  clear hLd
  have HCU := hide' hcur
  have hsz1 := blkLt hcur
  have hfr := blkFree hcur
  obtain ⟨v0, hv0⟩ : ∃ v, L.toArray[0]? = some v := ⟨L.toArray[0]'(by simp; omega), Array.getElem?_eq_getElem _⟩
  obtain ⟨v1, hv1⟩ : ∃ v, L.toArray[1]? = some v := ⟨L.toArray[1]'(by simp; omega), Array.getElem?_eq_getElem _⟩
  have c0 : w1.cell? ⟨w.heap.size, 0, none⟩ = some v0 := (blkCell hcur 0).trans hv0
  have c1 : w1.cell? ⟨w.heap.size, 1, none⟩ = some v1 := (blkCell hcur 1).trans hv1
  clear hcur hv0 hv1
  go_wp2_with (show wpList _ _ _ ({ dst := _, op := Op.call { callee := Callee.builtin Builtin.copy, args := _, argTypes := _ }, type := _, pos := _, after := _, guard := _ } :: _) _ _; refine wpList_copy_nothing rfl _ _ 89 89 rfl 4 Tryz.underlying89 HSZ.out _ _ _ _ _ _ rfl rfl rfl ?_)
  go_ret
  refine ⟨rfl, ⟨⟨_, blkSet HCU.out (i := 0) _, by simpa using hLl, fun i x hx => by simp at hx, ?_, ?_⟩⟩, HB1.out.setCell (p := ⟨w.heap.size, 0, none⟩) (Nat.le_refl _) _⟩
  · rw [Array.getElem?_setIfInBounds_self_of_lt (by simp; omega)]
  · rw [Array.getElem?_setIfInBounds_ne (by omega), HLD.out]
    simp [madeCells, Nat.mod_one]
set_option maxRecDepth 20000 in
set_option maxHeartbeats 1000000 in
theorem stillTexts_empty (x : Addr) (g : Nat) (w : World) (hL : LentT w g 0 []) :
    Calls Tryz.prog 102 #[.slice (some ⟨g, 0, none⟩) 0 (0 + 2), .slice (some x) 0 0] w fun e w' => e = .returned (.bool true) ∧ Still g w w' := by
  obtain ⟨Z, z1, z2, z3, z4, z5⟩ := hL
  have c0 : w.cell? ⟨g, 0, none⟩ = some (.string ⟨#[109, 105, 110, 101]⟩) := (blkCell z1 0).trans z4
  have c1 : w.cell? ⟨g, 1, none⟩ = some (.string ⟨#[121, 111, 117, 114, 115]⟩) := (blkCell z1 1).trans z5
  clear z1 z2 z3 z4 z5
  have h1 := eqx34 x 0 0
  go_enter Tryz.func102, Tryz.ntmps102
  go_wp2
  go_loop [6, 7] (fun k i => k = .bool true ∧ i = .int .i64 0) (fun _ _ => 0)
  case atStart => exact ⟨rfl, rfl⟩
  case round =>
    obtain ⟨rfl, rfl⟩ := hrel
    go_wp2
    go_ret
    exact ⟨rfl, Still.refl _ _⟩
set_option maxRecDepth 20000 in
set_option maxHeartbeats 1000000 in
theorem stillBools_empty (x : Addr) (g : Nat) (w : World) (hL : LentB w g 0 []) :
    Calls Tryz.prog 105 #[.slice (some ⟨g, 0, none⟩) 0 (0 + 2), .slice (some x) 0 0] w fun e w' => e = .returned (.bool true) ∧ Still g w w' := by
  obtain ⟨Z, z1, z2, z3, z4, z5⟩ := hL
  have c0 : w.cell? ⟨g, 0, none⟩ = some (.bool true) := (blkCell z1 0).trans z4
  have c1 : w.cell? ⟨g, 1, none⟩ = some (.bool false) := (blkCell z1 1).trans z5
  clear z1 z2 z3 z4 z5
  have h1 := eqx54 x 0 0
  go_enter Tryz.func105, Tryz.ntmps105
  go_wp2
  go_loop [6, 7] (fun k i => k = .bool true ∧ i = .int .i64 0) (fun _ _ => 0)
  case atStart => exact ⟨rfl, rfl⟩
  case round =>
    obtain ⟨rfl, rfl⟩ := hrel
    go_wp2
    go_ret
    exact ⟨rfl, Still.refl _ _⟩
end Go.Proofs.YtlonjggfnleolaaGreatDoor
