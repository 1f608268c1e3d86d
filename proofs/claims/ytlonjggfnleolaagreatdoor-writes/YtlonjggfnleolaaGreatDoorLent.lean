/-
  The law's own lists: lentTexts, lentBools.
-/
import Derived.Test.YtlonjggfnleolaaGreatDoorReadEx
import Derived.Laws.CopyOwn
import Derived.OwnWalk
namespace Go.Proofs.YtlonjggfnleolaaGreatDoor
open Go.RowKit
set_option linter.unusedVariables false
theorem eqn34 (w : World) : (binOp .eql 34 (.slice none 0 0) (.slice none 0 0)).run Tryz.prog w = .ok (.bool true) w := by kernel_rfl
theorem eqs34 (b o n c : Nat) (w : World) : (binOp .eql 34 (.slice (some ⟨b, o, none⟩) n c) (.slice none 0 0)).run Tryz.prog w = .ok (.bool false) w := by kernel_rfl
theorem eqn54 (w : World) : (binOp .eql 89 (.slice none 0 0) (.slice none 0 0)).run Tryz.prog w = .ok (.bool true) w := by kernel_rfl
theorem eqs54 (b o n c : Nat) (w : World) : (binOp .eql 89 (.slice (some ⟨b, o, none⟩) n c) (.slice none 0 0)).run Tryz.prog w = .ok (.bool false) w := by kernel_rfl

/-- A list that was lent: the texts, and behind them two marks, in a block of their own. -/
structure LentT (w : World) (g n : Nat) (ss : List ByteArray) : Prop where
  blk : ∃ Z : Array Value, w.heap[g]? = some (.cells Z 9 (0, 0)) ∧ Z.size = n + 2 ∧ (∀ (i : Nat) (x : ByteArray), ss[i]? = some x → Z[i]? = some (.string x)) ∧ Z[n]? = some (.string ⟨#[109, 105, 110, 101]⟩) ∧ Z[n + 1]? = some (.string ⟨#[121, 111, 117, 114, 115]⟩)

theorem own_full {w1 : World} {base g n : Nat} {e : TypeId} {xs : List Value} (h : w1.ownsRow base e 1 (.slice (some ⟨g, 0, none⟩) n n) n xs) : w1.heap[g]? = some (.cells xs.toArray e (0, 0)) ∧ xs.length = n := by
  obtain ⟨hx1, ⟨hx2, _⟩ | ⟨g', cap, cur, hv, hg, hcur, hc1, hc2, hc3, hc4⟩⟩ := h
  · cases hx2
  · injection hv with a b c
    injection a with a
    injection a with a
    subst a; subst c
    have h2 : cur.toList = xs := by
      rw [← hc4]; exact (List.take_of_length_le (by simp; omega)).symm
    refine ⟨by rw [hcur, ← h2], by simpa using hx1⟩

set_option maxRecDepth 20000 in
theorem lentTexts_nil (w : World) :
    Calls Tryz.prog 100 #[.slice none 0 0] w fun e w' => e = .returned (.slice none 0 0) ∧ w' = w := by
  have h1 := eqn34
  go_enter Tryz.func100, Tryz.ntmps100
  go_wp2
  go_ret
  exact ⟨rfl, rfl⟩

set_option maxRecDepth 20000 in
set_option maxHeartbeats 1000000 in
theorem lentTexts_some (b o n c : Nat) (ss : List ByteArray) (w : World) (hl : ss.length = n) (hc : n ≤ c) (hn : n ≤ 8796093022208) (hb : b < w.heap.size) (hcell : ∀ (i : Nat) (s : ByteArray), ss[i]? = some s → w.cell? ⟨b, o + i, none⟩ = some (.string s)) :
    Calls Tryz.prog 100 #[.slice (some ⟨b, o, none⟩) n c] w fun e w' => e = .returned (.slice (some ⟨w.heap.size, 0, none⟩) n (n + 2)) ∧ LentT w' w.heap.size n ss ∧ Below w.heap.size w w' := by
  obtain ⟨i0, hi, hz0, hz1, hz2⟩ : ∃ i, Tryz.prog.info? 9 = some i ∧ i.zero = some (.string ⟨#[]⟩) ∧ i.size = 1 ∧ i.bytes = 16 := info_parts (by kernel_rfl)
  have HC := hide' hcell
  have HL := hide' hl
  clear hcell hl
  have h1 := eqs34 b o n c
  go_enter Tryz.func100, Tryz.ntmps100
  go_wp2_with (at_make; refine wpList_make_full _ rfl _ _ 34 rfl w.heap.size 9 i0 (.string ⟨#[]⟩) 1 Tryz.underlying34 hi hz0 hz1 _ _ _ _ (n + 2) rfl rfl (by omega) (by omega) (by rw [hz2]; omega) (by unfold maxLen; omega) (Nat.le_refl _) ?_)
  intro w1 hown hgrow
  have HB1 : Hid (Below w.heap.size w w1) := (Below.refl _ _).grown hgrow (Nat.le_refl _) (fun _ h => by cases h)
  obtain ⟨L, HLD, hcur, hLl⟩ : ∃ L : List Value, Hid (L = (madeCells #[Value.string ⟨#[]⟩] (n + 2)).toList) ∧ w1.heap[w.heap.size]? = some (.cells L.toArray 9 (0, 0)) ∧ L.length = n + 2 := ⟨_, (show _ = _ from rfl), own_full hown⟩
  obtain ⟨cs, hcs⟩ : ∃ cs : List Value, cs = ss.map Value.string := ⟨_, rfl⟩
  have HCS := hide' hcs
  have HCU := hide' hcur
  have hcl : cs.length = n := by rw [hcs, List.length_map]; exact HL.out
  clear hcs hcur hgrow hown
  have HSRC : Hid (∀ (j : Nat) v, cs[j]? = some v → w1.cell? ((⟨b, o, none⟩ : Addr).add j) = some v) := by
    intro j v hj
    rw [HCS.out, List.getElem?_map] at hj
    cases hs : ss[j]? with
    | none => rw [hs] at hj; cases hj
    | some x =>
      rw [hs] at hj
      simp at hj
      subst hj
      have := (HB1.out.cell (p := ⟨b, o + j, none⟩) hb).trans (HC.out j x hs)
      unfold Addr.add; split
      · subst_vars; simpa using this
      · exact this
  have HSZ : Hid ((Tryz.prog.info? 9).map (·.size) = some 1) := (show _ = _ by kernel_rfl)
  have HONE : Hid (∀ v ∈ cs, v.oneCell' = true) := by
    intro v hv
    rw [HCS.out] at hv
    obtain ⟨x, _, rfl⟩ := List.mem_map.1 hv
    rfl
  go_wp2_with (show wpList _ _ _ ({ dst := _, op := Op.call { callee := Callee.builtin Builtin.copy, args := _, argTypes := _ }, type := _, pos := _, after := _, guard := _ } :: _) _ _; refine wpList_copy_splice rfl _ _ 34 34 rfl 9 Tryz.underlying34 HSZ.out _ _ _ _ _ _ rfl rfl w.heap.size 0 L 9 HCU.out cs (by rw [hcl]; exact (Nat.min_eq_left (by omega)).symm) (fun _ => ⟨rfl, _, rfl, HSRC.out⟩) (by omega) HONE.out w.heap.size w HB1.out (Nat.le_refl _) ?_)
  intro w2 HG2 hB2
  have HB2 := hide' hB2
  have hsz2 := blkLt HG2.out
  have hfr := blkFree HG2.out
  obtain ⟨S, hS⟩ : ∃ S : Array Value, S = (splice L 0 cs).toArray := ⟨_, rfl⟩
  have hSz : S.size = n + 2 := by rw [hS]; simp only [List.size_toArray]; rw [length_splice _ _ _ (by omega)]; exact hLl
  have HS := hide' hS
  rw [← hS] at HG2
  obtain ⟨v0, hv0⟩ : ∃ v, S[n]? = some v := ⟨S[n]'(by omega), Array.getElem?_eq_getElem _⟩
  obtain ⟨v1, hv1⟩ : ∃ v, S[n + 1]? = some v := ⟨S[n + 1]'(by omega), Array.getElem?_eq_getElem _⟩
  have c0 : w2.cell? ⟨w.heap.size, n, none⟩ = some v0 := (blkCell HG2.out n).trans hv0
  have c1 : w2.cell? ⟨w.heap.size, n + 1, none⟩ = some v1 := (blkCell HG2.out (n + 1)).trans hv1
  clear hv0 hv1 hS
  clear hB2 HB1 HCU
  go_wp2
  go_ret
  refine ⟨rfl, ⟨⟨_, blkSet (blkSet HG2.out (i := n) _) (i := n + 1) _, by simpa using hSz, ?_, ?_, ?_⟩⟩, (HB2.out.setCell (p := ⟨w.heap.size, n, none⟩) (Nat.le_refl _) _).setCell (p := ⟨w.heap.size, n + 1, none⟩) (Nat.le_refl _) _⟩
  · intro i x hx
    have hi : i < n := by rw [← HL.out]; exact (List.getElem?_eq_some_iff.1 hx).1
    rw [Array.getElem?_setIfInBounds_ne (by omega), Array.getElem?_setIfInBounds_ne (by omega), HS.out, List.getElem?_toArray]
    unfold splice
    simp only [List.take_zero, List.nil_append]
    rw [List.getElem?_append_left (by omega), HCS.out, List.getElem?_map, hx]
    rfl
  · rw [Array.getElem?_setIfInBounds_ne (by omega), Array.getElem?_setIfInBounds_self_of_lt (by omega)]
  · rw [Array.getElem?_setIfInBounds_self_of_lt (by simp; omega)]
/-- A list of truths that was lent. -/
structure LentB (w : World) (g n : Nat) (bs : List Bool) : Prop where
  blk : ∃ Z : Array Value, w.heap[g]? = some (.cells Z 4 (0, 0)) ∧ Z.size = n + 2 ∧ (∀ (i : Nat) (x : Bool), bs[i]? = some x → Z[i]? = some (.bool x)) ∧ Z[n]? = some (.bool true) ∧ Z[n + 1]? = some (.bool false)

set_option maxRecDepth 20000 in
theorem lentBools_nil (w : World) :
    Calls Tryz.prog 103 #[.slice none 0 0] w fun e w' => e = .returned (.slice none 0 0) ∧ w' = w := by
  have h1 := eqn54
  go_enter Tryz.func103, Tryz.ntmps103
  go_wp2
  go_ret
  exact ⟨rfl, rfl⟩

set_option maxRecDepth 20000 in
set_option maxHeartbeats 1000000 in
theorem lentBools_some (b o n c : Nat) (ss : List Bool) (w : World) (hl : ss.length = n) (hc : n ≤ c) (hn : n ≤ 140737488355328) (hb : b < w.heap.size) (hcell : ∀ (i : Nat) (s : Bool), ss[i]? = some s → w.cell? ⟨b, o + i, none⟩ = some (.bool s)) :
    Calls Tryz.prog 103 #[.slice (some ⟨b, o, none⟩) n c] w fun e w' => e = .returned (.slice (some ⟨w.heap.size, 0, none⟩) n (n + 2)) ∧ LentB w' w.heap.size n ss ∧ Below w.heap.size w w' := by
  obtain ⟨i0, hi, hz0, hz1, hz2⟩ : ∃ i, Tryz.prog.info? 4 = some i ∧ i.zero = some (.bool false) ∧ i.size = 1 ∧ i.bytes = 1 := info_parts (by kernel_rfl)
  have HC := hide' hcell
  have HL := hide' hl
  clear hcell hl
  have h1 := eqs54 b o n c
  go_enter Tryz.func103, Tryz.ntmps103
  go_wp2_with (at_make; refine wpList_make_full _ rfl _ _ 89 rfl w.heap.size 4 i0 (.bool false) 1 Tryz.underlying89 hi hz0 hz1 _ _ _ _ (n + 2) rfl rfl (by omega) (by omega) (by rw [hz2]; omega) (by unfold maxLen; omega) (Nat.le_refl _) ?_)
  intro w1 hown hgrow
  have HB1 : Hid (Below w.heap.size w w1) := (Below.refl _ _).grown hgrow (Nat.le_refl _) (fun _ h => by cases h)
  obtain ⟨L, HLD, hcur, hLl⟩ : ∃ L : List Value, Hid (L = (madeCells #[Value.bool false] (n + 2)).toList) ∧ w1.heap[w.heap.size]? = some (.cells L.toArray 4 (0, 0)) ∧ L.length = n + 2 := ⟨_, (show _ = _ from rfl), own_full hown⟩
  obtain ⟨cs, hcs⟩ : ∃ cs : List Value, cs = ss.map Value.bool := ⟨_, rfl⟩
  have HCS := hide' hcs
  have HCU := hide' hcur
  have hcl : cs.length = n := by rw [hcs, List.length_map]; exact HL.out
  clear hcs hcur hgrow hown
  have HSRC : Hid (∀ (j : Nat) v, cs[j]? = some v → w1.cell? ((⟨b, o, none⟩ : Addr).add j) = some v) := by
    intro j v hj
    rw [HCS.out, List.getElem?_map] at hj
    cases hs : ss[j]? with
    | none => rw [hs] at hj; cases hj
    | some x =>
      rw [hs] at hj
      simp at hj
      subst hj
      have := (HB1.out.cell (p := ⟨b, o + j, none⟩) hb).trans (HC.out j x hs)
      unfold Addr.add; split
      · subst_vars; simpa using this
      · exact this
  have HSZ : Hid ((Tryz.prog.info? 4).map (·.size) = some 1) := (show _ = _ by kernel_rfl)
  have HONE : Hid (∀ v ∈ cs, v.oneCell' = true) := by
    intro v hv
    rw [HCS.out] at hv
    obtain ⟨x, _, rfl⟩ := List.mem_map.1 hv
    rfl
  go_wp2_with (show wpList _ _ _ ({ dst := _, op := Op.call { callee := Callee.builtin Builtin.copy, args := _, argTypes := _ }, type := _, pos := _, after := _, guard := _ } :: _) _ _; refine wpList_copy_splice rfl _ _ 89 89 rfl 4 Tryz.underlying89 HSZ.out _ _ _ _ _ _ rfl rfl w.heap.size 0 L 4 HCU.out cs (by rw [hcl]; exact (Nat.min_eq_left (by omega)).symm) (fun _ => ⟨rfl, _, rfl, HSRC.out⟩) (by omega) HONE.out w.heap.size w HB1.out (Nat.le_refl _) ?_)
  intro w2 HG2 hB2
  have HB2 := hide' hB2
  have hsz2 := blkLt HG2.out
  have hfr := blkFree HG2.out
  obtain ⟨S, hS⟩ : ∃ S : Array Value, S = (splice L 0 cs).toArray := ⟨_, rfl⟩
  have hSz : S.size = n + 2 := by rw [hS]; simp only [List.size_toArray]; rw [length_splice _ _ _ (by omega)]; exact hLl
  have HS := hide' hS
  rw [← hS] at HG2
  obtain ⟨v0, hv0⟩ : ∃ v, S[n]? = some v := ⟨S[n]'(by omega), Array.getElem?_eq_getElem _⟩
  have HV1 : Hid (S[n + 1]? = some (.bool false)) := by
    show _ = _
    rw [hS, List.getElem?_toArray]
    unfold splice
    simp only [List.take_zero, List.nil_append]
    rw [List.getElem?_append_right (by omega), List.getElem?_drop, HLD.out, Array.getElem?_toList]
    have e : 0 + cs.length + (n + 1 - cs.length) = n + 1 := by omega
    rw [e]
    simp [madeCells, Nat.mod_one]
  have c0 : w2.cell? ⟨w.heap.size, n, none⟩ = some v0 := (blkCell HG2.out n).trans hv0
  clear hv0 hS
  clear hB2 HB1 HCU
  go_wp2
  go_ret
  refine ⟨rfl, ⟨⟨_, blkSet HG2.out (i := n) _, by simpa using hSz, ?_, ?_, ?_⟩⟩, HB2.out.setCell (p := ⟨w.heap.size, n, none⟩) (Nat.le_refl _) _⟩
  · intro i x hx
    have hi : i < n := by rw [← HL.out]; exact (List.getElem?_eq_some_iff.1 hx).1
    rw [Array.getElem?_setIfInBounds_ne (by omega), HS.out, List.getElem?_toArray]
    unfold splice
    simp only [List.take_zero, List.nil_append]
    rw [List.getElem?_append_left (by omega), HCS.out, List.getElem?_map, hx]
    rfl
  · rw [Array.getElem?_setIfInBounds_self_of_lt (by omega)]
  · rw [Array.getElem?_setIfInBounds_ne (by omega)]
    exact HV1.out
end Go.Proofs.YtlonjggfnleolaaGreatDoor
