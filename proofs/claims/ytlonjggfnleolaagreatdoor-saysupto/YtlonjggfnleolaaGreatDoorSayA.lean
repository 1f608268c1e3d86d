/-
  New: a junction is made.
-/
import Derived.Test.YtlonjggfnleolaaGreatDoorJuZc
import Derived.Test.YtlonjggfnleolaaGreatDoorJuZb
import Derived.Test.YtlonjggfnleolaaGreatDoorRjH
import Derived.Deep.RegionHeld3
import Derived.Deep.RegionLaw

namespace Go.Proofs.YtlonjggfnleolaaGreatDoor
open Go.RowKit Go.Shelf Go.Conc
set_option linter.unusedVariables false

def configB (sv pt win : Int) : Bool := ringB sv pt && withinB 1 win 6
set_option maxHeartbeats 1000000 in
set_option maxRecDepth 100000 in
theorem config_any (sv pt win : Int) (w : World) :
    Calls Tryz.prog 84 #[.agg #[.int .i64 sv, .int .i64 pt, .int .i64 win]] w fun e w' => e = .returned (.bool (configB sv pt win)) ∧ Below w.heap.size w w' := by
  have HB : Hid (∀ o, Below w.heap.size w (w.alloc o)) := fun o => (Below.refl _ _).alloc (Nat.le_refl _) o
  have HR : Hid (∀ W, Calls Tryz.prog 49 #[.int .i64 sv, .int .i64 pt] W fun e w' => e = .returned (.bool (ringB sv pt)) ∧ w' = W) := fun W => ring_any sv pt W
  have HW : Hid (∀ W, Calls Tryz.prog 77 #[.int .i64 win, .int .i64 1, .int .i64 6] W fun e w' => e = .returned (.bool (withinB 1 win 6)) ∧ w' = W) := fun W => within_any win 1 6 W
  unfold configB
  cases hr : ringB sv pt with
  | false =>
    rw [hr] at HR
    go_enter Tryz.func84, Tryz.ntmps84
    go_wp2_with fail
    go_at_call 49
    refine (HR.out _).mono ?_
    rintro e w1 ⟨rfl, hw1⟩
    subst hw1
    go_wp2
    go_ret
    exact ⟨rfl, HB.out _⟩
  | true =>
    rw [hr] at HR
    go_enter Tryz.func84, Tryz.ntmps84
    go_wp2_with fail
    go_at_call 49
    refine (HR.out _).mono ?_
    rintro e w1 ⟨rfl, hw1⟩
    subst hw1
    go_wp2_with fail
    go_at_call 77
    refine (HW.out _).mono ?_
    rintro e w2 ⟨rfl, hw2⟩
    subst hw2
    go_wp2
    go_ret
    exact ⟨by simp, HB.out _⟩

def newS (S m : Nat) : SvI := ⟨S, m, .slice none 0 0, 0, false, false, .pointer none, .slice none 0 0, []⟩
theorem SvOk.new {W : World} {S m : Nat} (hS : W.heap[S]? = some (svO false 0 m (.slice none 0 0) 0 false false (.pointer none) (.slice none 0 0))) (hm : W.heap[m]? = some (.map #[] 0)) : SvOk W (newS S m) ⟨0, []⟩ :=
  ⟨hS, ⟨#[], 0, hm, rfl⟩, fun p hp => (by simp [newS] at hp), fun p hp => (by simp [newS] at hp), .inl rfl, BldRow.nil _⟩
theorem SvsAt.snoc {W W' : World} {vs : List SvI} {ss : List SrvS} (h : SvsAt W vs ss) (k : ∀ b ∈ feetV vs, W'.heap[b]? = W.heap[b]?) {v : SvI} {s : SrvS} (hn : SvOk W' v s) (hf : ∀ b ∈ v.foot, W.heap.size ≤ b) : SvsAt W' (vs ++ [v]) (ss ++ [s]) := by
  have h' := h.keep k
  have hcut : ∀ (j : Nat) (u : SvI), (vs ++ [v])[j]? = some u → (j < vs.length ∧ vs[j]? = some u) ∨ (j = vs.length ∧ u = v) := fun j u hu => by
    by_cases hj : j < vs.length
    · rw [List.getElem?_append_left hj] at hu
      exact .inl ⟨hj, hu⟩
    · have hj2 := (List.getElem?_eq_some_iff.1 hu).1
      simp at hj2
      have hj3 : j = vs.length := by omega
      subst hj3
      rw [List.getElem?_append_right (Nat.le_refl _)] at hu
      simp at hu
      exact .inr ⟨rfl, hu.symm⟩
  refine ⟨by simp [h.len], fun j u s' hu hs => ?_, fun i j u1 u2 hij h1 h2 b hb1 hb2 => ?_⟩
  · rcases hcut j u hu with ⟨hj, hu'⟩ | ⟨hj, rfl⟩
    · rw [List.getElem?_append_left (by rw [← h.len]; exact hj)] at hs
      exact h'.ok j u s' hu' hs
    · rw [hj, h.len, List.getElem?_append_right (Nat.le_refl _)] at hs
      simp at hs
      rw [← hs]
      exact hn
  · rcases hcut i u1 h1 with ⟨hi, h1'⟩ | ⟨hi, rfl⟩
    · rcases hcut j u2 h2 with ⟨hj, h2'⟩ | ⟨hj, rfl⟩
      · exact h.ap i j u1 u2 hij h1' h2' b hb1 hb2
      · have a1 := h.old b (mem_feetV.2 ⟨i, u1, h1', hb1⟩)
        have a2 := hf b hb2
        omega
    · rcases hcut j u2 h2 with ⟨hj, h2'⟩ | ⟨hj, rfl⟩
      · have a1 := h.old b (mem_feetV.2 ⟨j, u2, h2', hb2⟩)
        have a2 := hf b hb1
        omega
      · omega
/-- A junction under way. -/
structure MakeAt (w0 W : World) (X : Nat) (sv pt win : Int) (j : Nat) (rv : Value) (vs : List SvI) : Prop where
  blk : W.heap[X]? = some (juO sv pt win (.slice none 0 0) rv)
  row : W.ownsRow 0 137 1 rv j (vs.map (fun v => ptrV v.S))
  len : vs.length = j
  srv : SvsAt W vs (List.replicate j ⟨0, []⟩)
  bel : Below w0.heap.size w0 W
  ge : w0.heap.size ≤ X
  gr : ∀ b, rv.ownBlock = some b → w0.heap.size ≤ b
  gs : ∀ b ∈ feetV vs, w0.heap.size ≤ b
theorem info137 : ∃ i, Tryz.prog.info? 137 = some i ∧ i.zero = some (.pointer none) ∧ i.size = 1 ∧ i.bytes = 8 := by
  have h : (Tryz.prog.info? 137).map (fun i => (i.zero, i.size, i.bytes)) = some (some (.pointer none), 1, 8) := by kernel_rfl
  obtain ⟨i, hi, hz⟩ := Option.map_eq_some_iff.1 h
  simp only [Prod.mk.injEq] at hz
  exact ⟨i, hi, hz.1, hz.2.1, hz.2.2⟩
/-- A server more. -/
theorem MakeAt.more {w0 W W3 Wa : World} {X j g2 cap2 : Nat} {sv pt win : Int} {rv : Value} {vs : List SvI} (h : MakeAt w0 W X sv pt win j rv vs) (hw3 : W3 = (W.drew.alloc (.map #[] 0)).alloc (svO false 0 W.heap.size (.slice none 0 0) 0 false false (.pointer none) (.slice none 0 0)))
    (hown : Wa.ownsRow 0 137 1 (.slice (some ⟨g2, 0, none⟩) (j + 1) cap2) (j + 1) (vs.map (fun v => ptrV v.S) ++ [.pointer (some ⟨W.heap.size + 1, 0, none⟩)])) (hgrow : (W3.alloc (.cells #[.pointer (some ⟨W.heap.size + 1, 0, none⟩)] 137)).grownBy Wa rv.ownBlock) (hat : rv.ownBlock = some g2 ∨ g2 = (W3.alloc (.cells #[.pointer (some ⟨W.heap.size + 1, 0, none⟩)] 137)).heap.size) :
    MakeAt w0 (Wa.setCell ⟨X, 4, none⟩ (.slice (some ⟨g2, 0, none⟩) (j + 1) cap2)) X sv pt win (j + 1) (.slice (some ⟨g2, 0, none⟩) (j + 1) cap2) (vs ++ [newS (W.heap.size + 1) W.heap.size]) := by
  have hb3 : Below W.heap.size W W3 := by rw [hw3]; exact ((Below.refl _ W).drew.alloc (Nat.le_refl _) _).alloc (by simp) _
  have hb4 : Below W.heap.size W (W3.alloc (.cells #[.pointer (some ⟨W.heap.size + 1, 0, none⟩)] 137)) := hb3.alloc hb3.size _
  have sz3 := hb3.size
  have hlX := blkLt h.blk
  have hcv : ∀ b, rv.ownBlock = some b → b < W.heap.size := fun b e => by
    obtain ⟨cur, hc⟩ := ownsRow_blk h.row e
    exact blkLt hc
  have nX : rv.ownBlock ≠ some X := fun e => by
    obtain ⟨cur, hc⟩ := ownsRow_blk h.row e
    have hb := h.blk
    unfold juO at hb
    rw [hb] at hc
    cases hc
  have keep : ∀ b, b < W.heap.size → rv.ownBlock ≠ some b → b ≠ X → (Wa.setCell ⟨X, 4, none⟩ (.slice (some ⟨g2, 0, none⟩) (j + 1) cap2)).heap[b]? = W.heap[b]? := fun b hb h1 h2 => (Below.heap_setCell Wa ⟨X, 4, none⟩ _ b h2).trans ((hgrow.block b (by rw [World.size_alloc]; omega) (fun e => h1 e.symm)).trans (hb4.block b hb))
  have keep3 : ∀ (b : Nat) (o : Obj), W3.heap[b]? = some o → W.heap.size ≤ b → (Wa.setCell ⟨X, 4, none⟩ (.slice (some ⟨g2, 0, none⟩) (j + 1) cap2)).heap[b]? = some o := fun b o hb hle => (Below.heap_setCell Wa ⟨X, 4, none⟩ _ b (by show b ≠ X; omega)).trans ((hgrow.block b (by rw [World.size_alloc]; have := blkLt hb; omega) (fun e => by have := hcv b e.symm; omega)).trans ((Below.heap_alloc _ _ _ (blkLt hb)).trans hb))
  have hXa : Wa.heap[X]? = some (juO sv pt win (.slice none 0 0) rv) := (hgrow.block X (by rw [World.size_alloc]; omega) (fun e => nX e.symm)).trans ((hb4.block X hlX).trans h.blk)
  have hm3 : W3.heap[W.heap.size]? = some (.map #[] 0) := by
    rw [hw3, Below.heap_alloc _ _ _ (by simp)]
    exact blkNew W.drew _
  have hS3 : W3.heap[W.heap.size + 1]? = some (svO false 0 W.heap.size (.slice none 0 0) 0 false false (.pointer none) (.slice none 0 0)) := by
    rw [hw3]
    exact hs_new (by simp)
  have hnf : ∀ b ∈ (newS (W.heap.size + 1) W.heap.size).foot, W.heap.size ≤ b := fun b hb => by
    simp [SvI.foot, newS, Value.ownBlock] at hb
    omega
  have sz0 := h.bel.size
  refine ⟨blkSet (i := 4) hXa _, ?_, by simp [h.len], ?_, ?_, h.ge, fun b hb => ?_, fun b hb => ?_⟩
  · rw [List.map_append]
    exact ownsRow_other hown (fun gg hg => by
      cases hg
      refine Below.heap_setCell Wa ⟨X, 4, none⟩ _ g2 (fun e => ?_)
      obtain ⟨cur, hc⟩ := ownsRow_blk hown rfl
      rw [show g2 = X from e, hXa] at hc
      unfold juO at hc
      cases hc)
  · rw [List.replicate_succ']
    refine h.srv.snoc (fun b hb => keep b (h.srv.old b hb) (fun e => ?_) (fun e => ?_)) (SvOk.new (keep3 _ _ hS3 (by omega)) (keep3 _ _ hm3 (Nat.le_refl _))) hnf
    · obtain ⟨cur, hc⟩ := ownsRow_blk h.row e
      exact h.srv.apart hc (by decide) (by decide) hb
    · have hb' := h.blk
      unfold juO at hb'
      exact h.srv.apart hb' (by decide) (by decide) (by rw [← e]; exact hb)
  · have k : Chg (X :: rv.ownBlock.toList) W (Wa.setCell ⟨X, 4, none⟩ (.slice (some ⟨g2, 0, none⟩) (j + 1) cap2)) := ((Chg.of_below hb4).grown hgrow (fun b e => .inl (by simp [e]))).set (.inl (by simp)) _
    exact ⟨k.os.trans h.bel.os, k.tape.trans h.bel.tape, k.output.trans h.bel.output, Nat.le_trans sz0 k.size, fun b hb => (k.block b (by omega) (fun hm => by
      rcases List.mem_cons.1 hm with e | e
      · have := h.ge; omega
      · have := h.gr b (optMem e); omega)).trans (h.bel.block b hb)⟩
  · have e' : g2 = b := by simpa [Value.ownBlock] using hb
    rcases hat with e | e
    · exact h.gr b (by rw [e, e'])
    · rw [World.size_alloc] at e; omega
  · obtain ⟨i, u, hu, hbu⟩ := mem_feetV.1 hb
    by_cases hi : i < vs.length
    · rw [List.getElem?_append_left hi] at hu
      exact h.gs b (mem_feetV.2 ⟨i, u, hu, hbu⟩)
    · rw [List.getElem?_append_right (by omega)] at hu
      have hu' := List.mem_of_getElem? hu
      simp at hu'
      rw [hu'] at hbu
      have := hnf b hbu
      omega
end Go.Proofs.YtlonjggfnleolaaGreatDoor


/-
  New: the walk.
-/

namespace Go.Proofs.YtlonjggfnleolaaGreatDoor
open Go.RowKit Go.Shelf Go.Conc
set_option linter.unusedVariables false

set_option maxHeartbeats 1000000 in
set_option maxRecDepth 100000 in
theorem new_no (sv pt win : Int) (w : World) (hc : configB sv pt win = false) :
    Calls Tryz.prog 53 #[.agg #[.int .i64 sv, .int .i64 pt, .int .i64 win]] w fun e w' => e = .returned (.tuple #[.pointer none, .int .i64 1]) ∧ Below w.heap.size w w' := by
  have HC : Hid (∀ W, Calls Tryz.prog 84 #[.agg #[.int .i64 sv, .int .i64 pt, .int .i64 win]] W fun e w' => e = .returned (.bool false) ∧ Below W.heap.size W w') := fun W => by rw [← hc]; exact config_any sv pt win W
  have HB : Hid (∀ o W, Below (w.alloc o).heap.size (w.alloc o) W → Below w.heap.size w W) := fun o W h => ((Below.refl _ _).alloc (Nat.le_refl _) o).trans (h.mono (by simp))
  go_enter Tryz.func53, Tryz.ntmps53
  go_wp2_with fail
  go_at_call 84
  refine (HC.out _).mono ?_
  rintro e w1 ⟨rfl, hb⟩
  have HB1 := hide' (HB.out _ _ hb)
  clear hb
  go_wp2
  go_ret2
  exact ⟨rfl, HB1.out⟩
theorem MakeAt.done {w0 W : World} {X sv pt win : Nat} {rv : Value} {vs : List SvI} (h : MakeAt w0 W X sv pt win sv rv vs) (h1 : 1 ≤ sv) (h4 : sv ≤ 4) (hp : pt ≤ 16) : ∃ g sc, JunAt W X sv pt win g sc (.slice none 0 0) [] [] vs (List.replicate sv ⟨0, []⟩) ∧ w0.heap.size ≤ g ∧ ∀ b ∈ footJ X (.slice none 0 0) [] vs, w0.heap.size ≤ b := by
  rcases h.row.2 with ⟨_, h0⟩ | ⟨g, sc, cur, rfl, _, c1, c2, _, c4, c5⟩
  · omega
  · refine ⟨g, sc, ⟨h.blk, ⟨cur, c1, fun j u hu => ?_⟩, h.len, h1, h4, c2, hp, World.ownsRow_nil _ _ _ _, rfl, fun i v s hv _ => (by simp at hv), fun i j v u _ hv _ => (by simp at hv), h.srv, fun i v hv => (by simp at hv)⟩, h.gr g rfl, fun b hb => ?_⟩
    · have hj := (List.getElem?_eq_some_iff.1 hu).1
      rw [h.len] at hj
      have h6 : (cur.toList.take (sv * 1))[j]? = (vs.map (fun v => ptrV v.S))[j]? := by rw [c5]
      rw [List.getElem?_take_of_lt (by omega), List.getElem?_map, hu] at h6
      simpa [ptrV] using h6
    · unfold footJ at hb
      simp [Value.ownBlock] at hb
      rcases hb with e | e
      · rw [e]; exact h.ge
      · exact h.gs b e

set_option maxHeartbeats 1000000 in
set_option maxRecDepth 100000 in
theorem new_yes (sv pt win : Nat) (w : World) (hc : configB sv pt win = true) (h1 : 1 ≤ sv) (h4 : sv ≤ 4) (hp : pt ≤ 16) :
    Calls Tryz.prog 53 #[.agg #[.int .i64 (sv : Int), .int .i64 (pt : Int), .int .i64 (win : Int)]] w fun e w' => ∃ X g sc vs, e = .returned (.tuple #[.pointer (some ⟨X, 0, none⟩), .int .i64 0]) ∧ JunAt w' X sv pt win g sc (.slice none 0 0) [] [] vs (List.replicate sv ⟨0, []⟩) ∧ Below w.heap.size w w' ∧ w.heap.size ≤ g ∧ ∀ b ∈ footJ X (.slice none 0 0) [] vs, w.heap.size ≤ b := by
  have HC : Hid (∀ W, Calls Tryz.prog 84 #[.agg #[.int .i64 (sv : Int), .int .i64 (pt : Int), .int .i64 (win : Int)]] W fun e w' => e = .returned (.bool true) ∧ Below W.heap.size W w') := fun W => by rw [← hc]; exact config_any sv pt win W
  have HNew : Hid (∀ W, Calls Tryz.prog 85 #[] W fun e w' => e = .returned (.pointer (some ⟨W.heap.size + 1, 0, none⟩)) ∧ w' = (W.alloc (.map #[] 0)).alloc (svO false 0 W.heap.size (.slice none 0 0) 0 false false (.pointer none) (.slice none 0 0))) := fun W => newServer_any W
  obtain ⟨i1, hi, hz0, hz1, hz2⟩ := info137
  have HI := hide' (And.intro hi (And.intro hz0 (And.intro hz1 hz2)))
  clear hc hi hz0 hz1 hz2
  go_enter Tryz.func53, Tryz.ntmps53
  go_wp2_with fail
  go_at_call 84
  refine (HC.out _).mono ?_
  rintro e w1 ⟨rfl, hb⟩
  have p0 : w1.cell? ⟨w.heap.size, 0, none⟩ = some (.int .i64 (sv : Int)) := (hb.cell (p := ⟨w.heap.size, 0, none⟩) (by simp)).trans (blkCell (blkNew w _) 0)
  have p1 : w1.cell? ⟨w.heap.size, 1, none⟩ = some (.int .i64 (pt : Int)) := (hb.cell (p := ⟨w.heap.size, 1, none⟩) (by simp)).trans (blkCell (blkNew w _) 1)
  have p2 : w1.cell? ⟨w.heap.size, 2, none⟩ = some (.int .i64 (win : Int)) := (hb.cell (p := ⟨w.heap.size, 2, none⟩) (by simp)).trans (blkCell (blkNew w _) 2)
  have hlw : w.heap.size < w1.heap.size := Nat.lt_of_lt_of_le (by simp) hb.size
  have hne : ¬ w.heap.size = w1.heap.size := by omega
  have hne2 : ¬ w1.heap.size = w.heap.size := by omega
  have hb1 : Below w.heap.size w w1 := ((Below.refl _ _).alloc (Nat.le_refl _) _).trans (hb.mono (by simp))
  have hmk : MakeAt w (w1.alloc (juO sv pt win (.slice none 0 0) (.slice none 0 0))) w1.heap.size sv pt win 0 (.slice none 0 0) [] :=
    ⟨blkNew w1 _, World.ownsRow_nil _ _ _ _, rfl, ⟨rfl, fun j v s hv _ => (by simp at hv), fun i j v u _ hv _ => (by simp at hv)⟩, hb1.alloc (by omega) _, by omega, fun b hb => (by cases hb), fun b hb => (by simp [feetV] at hb)⟩
  have HMk := hide' hmk
  have HB1 := hide' hb1
  clear hb hb1 hmk
  unfold juO at HMk
  go_wp2_with fail
  generalize w1.heap.size = X at *
  generalize w1.alloc (.cells #[.int .i64 (sv : Int), .int .i64 (pt : Int), .int .i64 (win : Int), .slice none 0 0, .slice none 0 0] 129) = w2 at *
  go_loopw [13] (fun i wr => ∃ (j : Nat) (rv : Value) (vs : List SvI), j ≤ sv ∧ i = .int .i64 (j : Int) ∧ Hid (MakeAt w wr X sv pt win j rv vs)) (fun i _ => sv - (intOf i).toNat)
  case atStart => exact ⟨0, _, [], Nat.zero_le _, rfl, HMk⟩
  case round =>
    obtain ⟨j, rv, vs, hj, rfl, HJ⟩ := hrel
    by_cases hlt : j < sv
    · have hlt' : (j : Int) < (sv : Int) := by omega
      obtain ⟨ra, rc, rfl⟩ : ∃ a c, rv = .slice a j c := by
        rcases HJ.out.row.2 with ⟨e, h0⟩ | ⟨g', cap, cur, e, _⟩
        · exact ⟨_, _, by rw [e, h0]⟩
        · exact ⟨_, _, e⟩
      have c4 := (juCells HJ.out.blk).2.2.2.2.1
      have cf := (juCells HJ.out.blk).2.2.2.2.2 4
      have hlX := blkLt HJ.out.blk
      have hXg : (Value.slice ra j rc).ownBlock ≠ some X := fun e => by
        obtain ⟨cur, hc⟩ := ownsRow_blk HJ.out.row e
        have hb := HJ.out.blk
        unfold juO at hb
        rw [hb] at hc
        cases hc
      have HXG := hide' hXg
      have HRow : Hid (∀ W, Below wr.heap.size wr W → W.ownsRow 0 137 1 (.slice ra j rc) j (vs.map (fun v => ptrV v.S))) := fun W hW => ownsRow_other HJ.out.row (fun gg hg => by obtain ⟨cur, hc⟩ := ownsRow_blk HJ.out.row hg; exact hW.block gg (blkLt hc))
      have wrj : IntKind.i64.wrap ((j : Int) + 1) = (j : Int) + 1 := wrap_small _ (by omega) (by omega)
      clear hXg p0 p1 p2
      go_wp2_with fail
      go_region_law (first
        | (go_simp; go_at_call 85; refine (HNew.out _).mono ?_; rintro e w3 ⟨rfl, hw3⟩; have hb3 : Below wr.heap.size wr w3 := (by rw [hw3]; exact ((Below.refl _ wr).drew.alloc (Nat.le_refl _) _).alloc (by simp) _); have HW3 := hide' (And.intro hw3 hb3); have e4 := (hb3.cell (p := ⟨X, 4, none⟩) hlX).trans c4; have ef := (hb3.frozen (p := ⟨X, 4, none⟩) hlX).trans cf; have hlt3 := Nat.lt_of_lt_of_le hlX hb3.size; clear hw3 hb3)
        | (refine step_append_lies _ (by rfl) _ _ _ (by rfl) 0 137 i1 (.pointer none) 1 8 Tryz.underlying127 HI.out.1 HI.out.2.1 HI.out.2.2.1 HI.out.2.2.2 (by rfl) (by omega) (.slice ra j rc) j (vs.map (fun v => ptrV v.S)) (by rfl) (HRow.out _ (HW3.out.2.alloc HW3.out.2.size _)) ⟨w3.heap.size, 0, none⟩ 1 1 [.pointer (some ⟨wr.heap.size + 1, 0, none⟩)] (by rfl) (by rfl) (World.news_of_block (cs := #[.pointer (some ⟨wr.heap.size + 1, 0, none⟩)]) (blkNew w3 _)) (fun u hu => by simp at hu; subst hu; rfl) (by omega) (by unfold maxLen; omega) (by omega) (Nat.zero_le _) _ rfl ?_; intro g2 cap2 wa hown hgrow hat hlta; have hcA : wa.cell? ⟨X, 4, none⟩ = some (.slice ra j rc) := (hgrow.cell_far ⟨X, 4, none⟩ (by simp; omega) (fun e => HXG.out e.symm)).trans ((World.cell?_of_block (w := w3) (Below.heap_alloc w3 _ _ hlt3)).trans e4); have hfA : wa.frozen? ⟨X, 4, none⟩ = false := (hgrow.frozen_far ⟨X, 4, none⟩ (by simp; omega) (fun e => HXG.out e.symm)).trans ((World.frozen?_of_block (w := w3) (Below.heap_alloc w3 _ _ hlt3)).trans ef); have HG := hide' (And.intro hown (And.intro hgrow (And.intro hat hlta))); clear hown hgrow hat)
        | fail)
      all_goals
        have HF := hide' (HJ.out.more HW3.out.1 HG.out.1 HG.out.2.1 HG.out.2.2.1)
        clear hcA hfA
        generalize wa.setCell ⟨X, 4, none⟩ (.slice (some ⟨g2, 0, none⟩) (j + 1) cap2) = wf at *
        go_wp2
        go_roundw
        case rel => exact ⟨j + 1, _, _, by omega, by go_num, HF⟩
        case measure => simp [intOf]; omega
    · have hje : j = sv := by omega
      subst hje
      have hlt' : ¬ (j : Int) < (j : Int) := by omega
      obtain ⟨g, sc, f1, f2, f3⟩ := HJ.out.done h1 h4 hp
      have HF := hide' (And.intro f1 (And.intro HJ.out.bel (And.intro f2 f3)))
      clear f1 f2 f3
      go_wp2
      go_ret2
      exact ⟨X, rfl, g, sc, vs, HF.out⟩
end Go.Proofs.YtlonjggfnleolaaGreatDoor


/-
  decoded: one reader more; pick.
-/

namespace Go.Proofs.YtlonjggfnleolaaGreatDoor
open Go.RowKit Go.Shelf
set_option linter.unusedVariables false

theorem lawnum (n : Int) (w : World) : Calls Tryz.prog 99 #[.int .i64 n] w fun e w' => e = .returned (.int .i64 n) ∧ w' = w := by
  go_enter Tryz.func99, Tryz.ntmps99
  go_wp2
  go_ret
  exact ⟨rfl, rfl⟩
end Go.Proofs.YtlonjggfnleolaaGreatDoor


/-
  read: Feed of one reader, the program's and the reference's.
-/

namespace Go.Proofs.YtlonjggfnleolaaGreatDoor
open Go.RowKit Go.Shelf
set_option linter.unusedVariables false

/-- The one that a step speaks of. -/
def pickI (k : Int) (n : Nat) : Nat := if k < 0 ∨ (n : Int) ≤ k then 0 else k.toNat
theorem pickI_lt (k : Int) {n : Nat} (hn : 0 < n) : pickI k n < n := by
  unfold pickI; split <;> omega
theorem pick_law (k : Int) (n : Nat) (w : World) :
    Calls Tryz.prog 69 #[.int .i64 k, .int .i64 (n : Int)] w fun e w' => e = .returned (.int .i64 ((pickI k n : Nat) : Int)) ∧ w' = w := by
  by_cases h1 : k < 0
  · have e : pickI k n = 0 := by unfold pickI; rw [if_pos (.inl h1)]
    rw [e]
    go_enter Tryz.func69, Tryz.ntmps69
    go_wp2
    go_ret
    exact ⟨rfl, rfl⟩
  · by_cases h2 : (n : Int) ≤ k
    · have e : pickI k n = 0 := by unfold pickI; rw [if_pos (.inr h2)]
      rw [e]
      go_enter Tryz.func69, Tryz.ntmps69
      go_wp2
      go_ret
      exact ⟨rfl, rfl⟩
    · have e : ((pickI k n : Nat) : Int) = k := by unfold pickI; rw [if_neg (by omega)]; omega
      rw [e]
      go_enter Tryz.func69, Tryz.ntmps69
      go_wp2
      go_ret
      exact ⟨rfl, rfl⟩
end Go.Proofs.YtlonjggfnleolaaGreatDoor


/-
  The reference's New.
-/

namespace Go.Proofs.YtlonjggfnleolaaGreatDoor
open Go.RowKit Go.Shelf
set_option linter.unusedVariables false

structure RMakeAt (w0 W : World) (X : Nat) (sv pt win : Int) (j : Nat) (rv : Value) (vs : List Nat) : Prop where
  blk : W.heap[X]? = some (rjO sv pt win (.slice none 0 0) rv)
  row : W.ownsRow 0 241 1 rv j (vs.map ptrV)
  len : vs.length = j
  srv : ∀ (i S : Nat), vs[i]? = some S → W.heap[S]? = some (rsO true 0 ⟨#[]⟩ [])
  bel : Below w0.heap.size w0 W
  ge : w0.heap.size ≤ X
  gr : ∀ b, rv.ownBlock = some b → w0.heap.size ≤ b
  gs : ∀ b ∈ vs, w0.heap.size ≤ b
  nd : vs.Nodup
theorem info241 : ∃ i, Tryz.prog.info? 241 = some i ∧ i.zero = some (.pointer none) ∧ i.size = 1 ∧ i.bytes = 8 := by
  have h : (Tryz.prog.info? 241).map (fun i => (i.zero, i.size, i.bytes)) = some (some (.pointer none), 1, 8) := by kernel_rfl
  obtain ⟨i, hi, hz⟩ := Option.map_eq_some_iff.1 h
  simp only [Prod.mk.injEq] at hz
  exact ⟨i, hi, hz.1, hz.2.1, hz.2.2⟩
theorem RMakeAt.more {w0 W Wa : World} {X j g2 cap2 : Nat} {sv pt win : Int} {rv : Value} {vs : List Nat} (h : RMakeAt w0 W X sv pt win j rv vs)
    (hown : Wa.ownsRow 0 241 1 (.slice (some ⟨g2, 0, none⟩) (j + 1) cap2) (j + 1) (vs.map ptrV ++ [.pointer (some ⟨W.heap.size, 0, none⟩)])) (hgrow : ((W.alloc (rsO true 0 ⟨#[]⟩ [])).alloc (.cells #[.pointer (some ⟨W.heap.size, 0, none⟩)] 241)).grownBy Wa rv.ownBlock) (hat : rv.ownBlock = some g2 ∨ g2 = ((W.alloc (rsO true 0 ⟨#[]⟩ [])).alloc (.cells #[.pointer (some ⟨W.heap.size, 0, none⟩)] 241)).heap.size) :
    RMakeAt w0 (Wa.setCell ⟨X, 4, none⟩ (.slice (some ⟨g2, 0, none⟩) (j + 1) cap2)) X sv pt win (j + 1) (.slice (some ⟨g2, 0, none⟩) (j + 1) cap2) (vs ++ [W.heap.size]) := by
  have hb3 : Below W.heap.size W (W.alloc (rsO true 0 ⟨#[]⟩ [])) := (Below.refl _ W).alloc (Nat.le_refl _) _
  have hb4 : Below W.heap.size W ((W.alloc (rsO true 0 ⟨#[]⟩ [])).alloc (.cells #[.pointer (some ⟨W.heap.size, 0, none⟩)] 241)) := hb3.alloc hb3.size _
  have hlX := blkLt h.blk
  have hcv : ∀ b, rv.ownBlock = some b → b < W.heap.size := fun b e => by
    obtain ⟨cur, hc⟩ := ownsRow_blk h.row e
    exact blkLt hc
  have nX : rv.ownBlock ≠ some X := fun e => by
    obtain ⟨cur, hc⟩ := ownsRow_blk h.row e
    have hb := h.blk
    unfold rjO at hb
    rw [hb] at hc
    cases hc
  have keep : ∀ b, b < W.heap.size → rv.ownBlock ≠ some b → b ≠ X → (Wa.setCell ⟨X, 4, none⟩ (.slice (some ⟨g2, 0, none⟩) (j + 1) cap2)).heap[b]? = W.heap[b]? := fun b hb h1 h2 => (Below.heap_setCell Wa ⟨X, 4, none⟩ _ b h2).trans ((hgrow.block b (by rw [World.size_alloc, World.size_alloc]; omega) (fun e => h1 e.symm)).trans (hb4.block b hb))
  have hXa : Wa.heap[X]? = some (rjO sv pt win (.slice none 0 0) rv) := (hgrow.block X (by rw [World.size_alloc, World.size_alloc]; omega) (fun e => nX e.symm)).trans ((hb4.block X hlX).trans h.blk)
  have hS : (Wa.setCell ⟨X, 4, none⟩ (.slice (some ⟨g2, 0, none⟩) (j + 1) cap2)).heap[W.heap.size]? = some (rsO true 0 ⟨#[]⟩ []) := (Below.heap_setCell Wa ⟨X, 4, none⟩ _ W.heap.size (by show W.heap.size ≠ X; omega)).trans ((hgrow.block W.heap.size (by rw [World.size_alloc, World.size_alloc]; omega) (fun e => by have := hcv W.heap.size e.symm; omega)).trans ((Below.heap_alloc _ _ _ (by rw [World.size_alloc]; omega)).trans (blkNew W _)))
  have sz0 := h.bel.size
  refine ⟨blkSet (i := 4) hXa _, ?_, by simp [h.len], fun i S hi => ?_, ?_, h.ge, fun b hb => ?_, fun b hb => ?_, ?_⟩
  · rw [List.map_append]
    exact ownsRow_other hown (fun gg hg => by
      cases hg
      refine Below.heap_setCell Wa ⟨X, 4, none⟩ _ g2 (fun e => ?_)
      obtain ⟨cur, hc⟩ := ownsRow_blk hown rfl
      rw [show g2 = X from e, hXa] at hc
      unfold rjO at hc
      cases hc)
  · by_cases hil : i < vs.length
    · rw [List.getElem?_append_left hil] at hi
      have h1 := h.srv i S hi
      refine (keep S (blkLt h1) (fun e => ?_) (fun e => ?_)).trans h1
      · obtain ⟨cur, hc⟩ := ownsRow_blk h.row e
        unfold rsO at h1
        rw [h1] at hc
        cases hc
      · have hb := h.blk
        unfold rjO at hb
        unfold rsO at h1
        rw [← e, h1] at hb
        cases hb
    · rw [List.getElem?_append_right (by omega)] at hi
      have hu' := List.mem_of_getElem? hi
      simp at hu'
      rw [hu']
      exact hS
  · have k : Chg (X :: rv.ownBlock.toList) W (Wa.setCell ⟨X, 4, none⟩ (.slice (some ⟨g2, 0, none⟩) (j + 1) cap2)) := ((Chg.of_below hb4).grown hgrow (fun b e => .inl (by simp [e]))).set (.inl (by simp)) _
    exact ⟨k.os.trans h.bel.os, k.tape.trans h.bel.tape, k.output.trans h.bel.output, Nat.le_trans sz0 k.size, fun b hb => (k.block b (by omega) (fun hm => by
      rcases List.mem_cons.1 hm with e | e
      · have := h.ge; omega
      · have := h.gr b (optMem e); omega)).trans (h.bel.block b hb)⟩
  · have e' : g2 = b := by simpa [Value.ownBlock] using hb
    rcases hat with e | e
    · exact h.gr b (by rw [e, e'])
    · rw [World.size_alloc, World.size_alloc] at e; omega
  · rcases List.mem_append.1 hb with hb | hb
    · exact h.gs b hb
    · simp at hb; omega
  · refine List.nodup_append.2 ⟨h.nd, by simp, fun a ha b hb e => ?_⟩
    simp at hb
    obtain ⟨i, hi, e2⟩ := List.mem_iff_getElem.1 ha
    have := blkLt (h.srv i a (by rw [List.getElem?_eq_getElem hi, e2]))
    omega
theorem RMakeAt.done {w0 W : World} {X sv pt win : Nat} {rv : Value} {vs : List Nat} (h : RMakeAt w0 W X sv pt win sv rv vs) (h1 : 1 ≤ sv) (h4 : sv ≤ 4) (hp : pt ≤ 16) : RJunAt W X sv pt win (.slice none 0 0) rv [] [] vs (List.replicate sv ⟨0, []⟩) :=
  ⟨h.blk, World.ownsRow_nil _ _ _ _, by rw [h.len]; exact h.row, h.len, by simp, h1, h4, hp, rfl, fun i v s hv _ => (by simp at hv), fun j S s hS hs => by
    have hs' := List.mem_of_getElem? hs
    rw [List.mem_replicate] at hs'
    rw [hs'.2]
    exact ⟨_, h.srv j S hS⟩⟩
end Go.Proofs.YtlonjggfnleolaaGreatDoor


/-
  The reference's New: the walk.
-/

namespace Go.Proofs.YtlonjggfnleolaaGreatDoor
open Go.RowKit Go.Shelf
set_option linter.unusedVariables false

set_option maxHeartbeats 1000000 in
set_option maxRecDepth 100000 in
theorem rnew_no (sv pt win : Int) (w : World) (hc : configB sv pt win = false) :
    Calls Tryz.prog 111 #[.agg #[.int .i64 sv, .int .i64 pt, .int .i64 win]] w fun e w' => e = .returned (.tuple #[.pointer none, .int .i64 1]) ∧ Below w.heap.size w w' := by
  have HB : Hid (∀ o, Below w.heap.size w (w.alloc o)) := fun o => (Below.refl _ _).alloc (Nat.le_refl _) o
  have hcases : sv < 1 ∨ (¬ sv < 1 ∧ 4 < sv) ∨ (¬ sv < 1 ∧ ¬ 4 < sv ∧ pt < 1) ∨ (¬ sv < 1 ∧ ¬ 4 < sv ∧ ¬ pt < 1 ∧ 16 < pt) ∨ (¬ sv < 1 ∧ ¬ 4 < sv ∧ ¬ pt < 1 ∧ ¬ 16 < pt ∧ win < 1) ∨ (¬ sv < 1 ∧ ¬ 4 < sv ∧ ¬ pt < 1 ∧ ¬ 16 < pt ∧ ¬ win < 1 ∧ 6 < win) := by
    simp only [configB, ringB, withinB, Bool.and_eq_false_iff, decide_eq_false_iff_not] at hc
    omega
  clear hc
  rcases hcases with h | ⟨h1, h⟩ | ⟨h1, h2, h⟩ | ⟨h1, h2, h3, h⟩ | ⟨h1, h2, h3, h4, h⟩ | ⟨h1, h2, h3, h4, h5, h⟩
  all_goals
    go_enter Tryz.func111, Tryz.ntmps111
    go_wp2
    go_ret2
    exact ⟨rfl, HB.out _⟩

set_option maxHeartbeats 1000000 in
set_option maxRecDepth 100000 in
theorem rnew_yes (sv pt win : Nat) (w : World) (hc : configB sv pt win = true) :
    Calls Tryz.prog 111 #[.agg #[.int .i64 (sv : Int), .int .i64 (pt : Int), .int .i64 (win : Int)]] w fun e w' => ∃ X rv vs, e = .returned (.tuple #[.pointer (some ⟨X, 0, none⟩), .int .i64 0]) ∧ RMakeAt w w' X sv pt win sv rv vs ∧ RJunAt w' X sv pt win (.slice none 0 0) rv [] [] vs (List.replicate sv ⟨0, []⟩) := by
  simp only [configB, ringB, withinB, Bool.and_eq_true, decide_eq_true_eq] at hc
  obtain ⟨⟨⟨a1, a2⟩, a3, a4⟩, a5, a6⟩ := hc
  have b1 : ¬ (sv : Int) < 1 := by omega
  have b2 : ¬ (4 : Int) < sv := by omega
  have b3 : ¬ (pt : Int) < 1 := by omega
  have b4 : ¬ (16 : Int) < pt := by omega
  have b5 : ¬ (win : Int) < 1 := by omega
  have b6 : ¬ (6 : Int) < win := by omega
  obtain ⟨i1, hi, hz0, hz1, hz2⟩ := info241
  have HI := hide' (And.intro hi (And.intro hz0 (And.intro hz1 hz2)))
  have hb1 : Below w.heap.size w (w.alloc (.cells #[.int .i64 (sv : Int), .int .i64 (pt : Int), .int .i64 (win : Int)] 93)) := (Below.refl _ _).alloc (Nat.le_refl _) _
  have hmk : RMakeAt w ((w.alloc (.cells #[.int .i64 (sv : Int), .int .i64 (pt : Int), .int .i64 (win : Int)] 93)).alloc (rjO sv pt win (.slice none 0 0) (.slice none 0 0))) (w.heap.size + 1) sv pt win 0 (.slice none 0 0) [] :=
    ⟨hs_new (by simp), World.ownsRow_nil _ _ _ _, rfl, fun i S hS => (by simp at hS), hb1.alloc (by simp) _, by omega, fun b hb => (by cases hb), fun b hb => (by simp at hb), List.nodup_nil⟩
  have HMk := hide' hmk
  have HP : Hid (((w.alloc (.cells #[.int .i64 (sv : Int), .int .i64 (pt : Int), .int .i64 (win : Int)] 93)).alloc (rjO sv pt win (.slice none 0 0) (.slice none 0 0))).heap[w.heap.size]? = some (.cells #[.int .i64 (sv : Int), .int .i64 (pt : Int), .int .i64 (win : Int)] 93 (0, 0))) := (Below.heap_alloc _ _ _ (by simp)).trans (blkNew w _)
  clear hb1 hmk hi hz0 hz1 hz2
  unfold rjO at HMk HP
  go_enter Tryz.func111, Tryz.ntmps111
  go_wp2_with fail
  generalize (w.alloc (.cells #[.int .i64 (sv : Int), .int .i64 (pt : Int), .int .i64 (win : Int)] 93)).alloc (.cells #[.int .i64 (sv : Int), .int .i64 (pt : Int), .int .i64 (win : Int), .slice none 0 0, .slice none 0 0] 240) = w2 at *
  go_loopw [5] (fun i wr => ∃ (j : Nat) (rv : Value) (vs : List Nat), j ≤ sv ∧ i = .int .i64 (j : Int) ∧ Hid (RMakeAt w wr (w.heap.size + 1) sv pt win j rv vs ∧ wr.heap[w.heap.size]? = some (.cells #[.int .i64 (sv : Int), .int .i64 (pt : Int), .int .i64 (win : Int)] 93 (0, 0)))) (fun i _ => sv - (intOf i).toNat)
  case atStart => exact ⟨0, _, [], Nat.zero_le _, rfl, HMk.out, HP.out⟩
  case round =>
    obtain ⟨j, rv, vs, hj, rfl, HJ⟩ := hrel
    have p0 := blkCell HJ.out.2 0
    simp at p0
    have hpl := blkLt HJ.out.2
    by_cases hlt : j < sv
    · have hlt' : (j : Int) < (sv : Int) := by omega
      obtain ⟨ra, rc, rfl⟩ := row_form HJ.out.1.row
      have hb := HJ.out.1.blk
      unfold rjO at hb
      have c4 := blkCell hb 4
      simp at c4
      have cf := blkFree hb 4
      have hlX := blkLt hb
      have hXg : (Value.slice ra j rc).ownBlock ≠ some (w.heap.size + 1) := fun e => by
        obtain ⟨cur, hc⟩ := ownsRow_blk HJ.out.1.row e
        rw [hb] at hc
        cases hc
      have hPg : (Value.slice ra j rc).ownBlock ≠ some w.heap.size := fun e => by
        obtain ⟨cur, hc⟩ := ownsRow_blk HJ.out.1.row e
        rw [HJ.out.2] at hc
        cases hc
      have HXG := hide' (And.intro hXg hPg)
      have HRow : Hid (((wr.alloc (rsO true 0 ⟨#[]⟩ [])).alloc (.cells #[.pointer (some ⟨wr.heap.size, 0, none⟩)] 241)).ownsRow 0 241 1 (.slice ra j rc) j (vs.map ptrV)) := World.ownsRow.alloc (World.ownsRow.alloc HJ.out.1.row _) _
      have HNw := hide' (show ∀ (k : Nat) (u : Value), [Value.pointer (some ⟨wr.heap.size, 0, none⟩)][k]? = some u → ((wr.alloc (rsO true 0 ⟨#[]⟩ [])).alloc (.cells #[.pointer (some ⟨wr.heap.size, 0, none⟩)] 241)).cell? ((⟨wr.heap.size + 1, 0, none⟩ : Addr).add k) = some u from World.news_of_block (cs := #[.pointer (some ⟨wr.heap.size, 0, none⟩)]) (hs_new (by simp)))
      have wrj : IntKind.i64.wrap ((j : Int) + 1) = (j : Int) + 1 := wrap_small _ (by omega) (by omega)
      have HMore := hide' (fun (g2 cap2 : Nat) (Wa : World) => HJ.out.1.more (g2 := g2) (cap2 := cap2) (Wa := Wa))
      unfold rsO mkB at HRow HNw HMore
      clear hb hXg hPg
      go_wp2_with (first
        | (at_builtin; refine wpList_append_lies _ rfl _ _ _ rfl 0 241 i1 (.pointer none) 1 8 Tryz.underlying238 HI.out.1 HI.out.2.1 HI.out.2.2.1 HI.out.2.2.2 rfl (by omega) (.slice ra j rc) j (vs.map ptrV) rfl HRow.out ⟨wr.heap.size + 1, 0, none⟩ 1 1 [.pointer (some ⟨wr.heap.size, 0, none⟩)] rfl rfl HNw.out (by simp [Value.oneCell']) (by omega) (by unfold maxLen; omega) (by omega) (Nat.zero_le _) _ rfl ?_; intro g2 cap2 wa hown hgrow hat hlta; have hcA : wa.cell? ⟨w.heap.size + 1, 4, none⟩ = some (.slice ra j rc) := (hgrow.cell_far ⟨w.heap.size + 1, 4, none⟩ (by simp; omega) (fun e => HXG.out.1 e.symm)).trans ((World.cell?_of_block ((Below.heap_alloc _ _ _ (by simp; omega)).trans (Below.heap_alloc wr _ _ hlX))).trans c4); have hfA : wa.frozen? ⟨w.heap.size + 1, 4, none⟩ = false := (hgrow.frozen_far ⟨w.heap.size + 1, 4, none⟩ (by simp; omega) (fun e => HXG.out.1 e.symm)).trans ((World.frozen?_of_block ((Below.heap_alloc _ _ _ (by simp; omega)).trans (Below.heap_alloc wr _ _ hlX))).trans cf); have hlxa : w.heap.size + 1 < wa.heap.size := Nat.lt_of_lt_of_le (by simp; omega) hgrow.size; have HG := hide' (And.intro hown (And.intro hgrow hat)); clear hown hgrow hat)
        | fail)
      have hPa : wa.heap[w.heap.size]? = some (.cells #[.int .i64 (sv : Int), .int .i64 (pt : Int), .int .i64 (win : Int)] 93 (0, 0)) := (HG.out.2.1.block w.heap.size (by simp; omega) (fun e => HXG.out.2 e.symm)).trans ((Below.heap_alloc _ _ _ (by simp; omega)).trans ((Below.heap_alloc wr _ _ hpl).trans HJ.out.2))
      refine ⟨⟨j + 1, _, _, by omega, by go_num, HMore.out _ _ _ HG.out.1 HG.out.2.1 HG.out.2.2, (Below.heap_setCell wa ⟨w.heap.size + 1, 4, none⟩ _ w.heap.size (by show w.heap.size ≠ w.heap.size + 1; omega)).trans hPa⟩, ?_⟩
      simp [intOf]
      omega
    · have hje : j = sv := by omega
      subst hje
      have hlt' : ¬ (j : Int) < (j : Int) := by omega
      have HF := hide' (And.intro HJ.out.1 (HJ.out.1.done (by omega) (by omega) (by omega)))
      go_wp2
      go_ret2
      exact ⟨_, rfl, _, _, HF.out⟩
end Go.Proofs.YtlonjggfnleolaaGreatDoor


/-
  The reference's Open.
-/

namespace Go.Proofs.YtlonjggfnleolaaGreatDoor
open Go.RowKit Go.Shelf
set_option linter.unusedVariables false

set_option maxHeartbeats 1000000 in
set_option maxRecDepth 100000 in
theorem ropen_no {w : World} {X sv pt win : Nat} {cv rv : Value} {cis : List RCliI} {cs : List CliS} {vs : List Nat} {ss : List SrvS} (h : RJunAt w X sv pt win cv rv cis cs vs ss) (d : Int) (hd : (d < 1 ∨ 3 < d) ∨ cis.length = 4) :
    Calls Tryz.prog 112 #[.pointer (some ⟨X, 0, none⟩), .int .i64 d] w fun e w' => e = .returned (.tuple #[.int .i64 0, .int .i64 1]) ∧ w' = w := by
  obtain ⟨a, c, rfl⟩ := row_form h.crow
  have hb := h.blk
  unfold rjO at hb
  have c3 := blkCell hb 3
  simp at c3
  have hlt := blkLt hb
  clear h hb
  by_cases h0 : d < 1
  · go_enter Tryz.func112, Tryz.ntmps112
    go_wp2
    go_ret2
    exact ⟨rfl, rfl⟩
  by_cases h1 : 3 < d
  · go_enter Tryz.func112, Tryz.ntmps112
    go_wp2
    go_ret2
    exact ⟨rfl, rfl⟩
  have h4 : cis.length = 4 := by
    rcases hd with h | h
    · omega
    · exact h
  rw [h4] at c3
  clear hd h4
  go_enter Tryz.func112, Tryz.ntmps112
  go_wp2
  go_ret2
  exact ⟨rfl, rfl⟩
theorem info244 : ∃ i, Tryz.prog.info? 244 = some i ∧ i.zero = some (.pointer none) ∧ i.size = 1 ∧ i.bytes = 8 := by
  have h : (Tryz.prog.info? 244).map (fun i => (i.zero, i.size, i.bytes)) = some (some (.pointer none), 1, 8) := by kernel_rfl
  obtain ⟨i, hi, hz⟩ := Option.map_eq_some_iff.1 h
  simp only [Prod.mk.injEq] at hz
  exact ⟨i, hi, hz.1, hz.2.1, hz.2.2⟩
theorem RJunAt.opened {w W : World} {X sv pt win : Nat} {cv rv cv' : Value} {cis : List RCliI} {cs : List CliS} {vs : List Nat} {ss : List SrvS} (h : RJunAt w X sv pt win cv rv cis cs vs ss) {K Y : Nat} {d : Int}
    (k : KeepT [241, 243, 247, 195, 263, 266, 249, 253] w W) (hX : W.heap[X]? = some (rjO sv pt win cv' rv)) (hrow : W.ownsRow 0 244 1 cv' (cis.length + 1) (cis.map (fun v => ptrV v.K) ++ [ptrV K])) (hY : W.heap[Y]? = some (refO d st0)) (hK : W.heap[K]? = some (rcO d Y (.slice none 0 0) [])) :
    RJunAt W X sv pt win cv' rv (cis ++ [⟨K, Y, .slice none 0 0, []⟩]) (cs ++ [newC d]) vs ss := by
  refine ⟨hX, ?_, k.row (by simp) h.srow, h.len, h.sl, h.s1, h.s4, h.pt_, by simp [h.cl], fun i v s hv hs => ?_, fun j S s hS hs => ?_⟩
  · rw [List.length_append, List.length_singleton, List.map_append]
    exact hrow
  · by_cases hi : i < cis.length
    · rw [List.getElem?_append_left hi] at hv
      rw [List.getElem?_append_left (by rw [← h.cl]; exact hi)] at hs
      exact (h.cli i v s hv hs).keepT (k.sub (by simp))
    · have hj2 := (List.getElem?_eq_some_iff.1 hv).1
      simp at hj2
      have hj3 : i = cis.length := by omega
      subst hj3
      rw [List.getElem?_append_right (Nat.le_refl _)] at hv
      rw [h.cl, List.getElem?_append_right (Nat.le_refl _)] at hs
      simp at hv hs
      rw [← hv, ← hs]
      exact ⟨hK, ⟨hY, st0_ok⟩, .inl ⟨rfl, rfl⟩, rfl, fun i u c hu _ => (by simp at hu)⟩
  · obtain ⟨inn, h1⟩ := h.srv j S s hS hs
    have h2 := h1
    unfold rsO at h2
    exact ⟨inn, (k _ _ _ _ h2 (by simp)).trans h1⟩
end Go.Proofs.YtlonjggfnleolaaGreatDoor


/-
  The reference's Open: a client more.
-/

namespace Go.Proofs.YtlonjggfnleolaaGreatDoor
open Go.RowKit Go.Shelf
set_option linter.unusedVariables false

/-- A client more. -/
def ROpenTo (w w' : World) (X sv pt win : Nat) (cv rv : Value) (cis : List RCliI) (cs : List CliS) (vs : List Nat) (ss : List SrvS) (d : Int) : Prop := ∃ (cv' : Value) (v : RCliI), RJunAt w' X sv pt win cv' rv (cis ++ [v]) (cs ++ [newC d]) vs ss ∧ Chg (X :: cv.ownBlock.toList) w w' ∧ (cv'.ownBlock = cv.ownBlock ∨ ∃ g, cv'.ownBlock = some g ∧ w.heap.size ≤ g) ∧ w.heap.size ≤ v.K ∧ w.heap.size ≤ v.Y ∧ v.wv.ownBlock = none
set_option maxHeartbeats 1000000 in
set_option maxRecDepth 100000 in
theorem ropen_yes {w : World} {X sv pt win : Nat} {cv rv : Value} {cis : List RCliI} {cs : List CliS} {vs : List Nat} {ss : List SrvS} (h : RJunAt w X sv pt win cv rv cis cs vs ss) (d : Int) (hd : d = 1 ∨ d = 2 ∨ d = 3) (hn : cis.length < 4) :
    Calls Tryz.prog 112 #[.pointer (some ⟨X, 0, none⟩), .int .i64 d] w fun e w' => e = .returned (.tuple #[.int .i64 (cis.length : Int), .int .i64 0]) ∧ ROpenTo w w' X sv pt win cv rv cis cs vs ss d := by
  obtain ⟨a, c, rfl⟩ := row_form h.crow
  have hb := h.blk
  unfold rjO at hb
  have c3 := blkCell hb 3
  simp at c3
  have cf := blkFree hb 3
  have hlt := blkLt hb
  have hXg : (Value.slice a cis.length c).ownBlock ≠ some X := fun e => by
    obtain ⟨cur, hc⟩ := ownsRow_blk h.crow e
    rw [hb] at hc
    cases hc
  have HXG := hide' hXg
  have h1 : ¬ d < 1 := by omega
  have h2 : ¬ 3 < d := by omega
  have h3 : ¬ (4 : Int) ≤ (cis.length : Int) := by omega
  have HRow : Hid ((((w.alloc (refO d st0)).alloc (rcO d w.heap.size (.slice none 0 0) [])).alloc (.cells #[.pointer (some ⟨w.heap.size + 1, 0, none⟩)] 244)).ownsRow 0 244 1 (.slice a cis.length c) cis.length (cis.map (fun v => ptrV v.K))) := World.ownsRow.alloc (World.ownsRow.alloc (World.ownsRow.alloc h.crow _) _) _
  have HNw := hide' (show ∀ (k : Nat) (u : Value), [Value.pointer (some ⟨w.heap.size + 1, 0, none⟩)][k]? = some u → (((w.alloc (refO d st0)).alloc (rcO d w.heap.size (.slice none 0 0) [])).alloc (.cells #[.pointer (some ⟨w.heap.size + 1, 0, none⟩)] 244)).cell? ((⟨w.heap.size + 2, 0, none⟩ : Addr).add k) = some u from World.news_of_block (cs := #[.pointer (some ⟨w.heap.size + 1, 0, none⟩)]) (hs_new (by simp)))
  obtain ⟨i1, hi, hz0, hz1, hz2⟩ := info244
  have HI := hide' (And.intro hi (And.intro hz0 (And.intro hz1 hz2)))
  have HFin : Hid (∀ (g2 cap2 : Nat) (wa : World), wa.ownsRow 0 244 1 (.slice (some ⟨g2, 0, none⟩) (cis.length + 1) cap2) (cis.length + 1) (cis.map (fun v => ptrV v.K) ++ [.pointer (some ⟨w.heap.size + 1, 0, none⟩)]) → (((w.alloc (refO d st0)).alloc (rcO d w.heap.size (.slice none 0 0) [])).alloc (.cells #[.pointer (some ⟨w.heap.size + 1, 0, none⟩)] 244)).grownBy wa (Value.slice a cis.length c).ownBlock → ((Value.slice a cis.length c).ownBlock = some g2 ∨ g2 = (((w.alloc (refO d st0)).alloc (rcO d w.heap.size (.slice none 0 0) [])).alloc (.cells #[.pointer (some ⟨w.heap.size + 1, 0, none⟩)] 244)).heap.size) → RJunAt (wa.setCell ⟨X, 3, none⟩ (.slice (some ⟨g2, 0, none⟩) (cis.length + 1) cap2)) X sv pt win (.slice (some ⟨g2, 0, none⟩) (cis.length + 1) cap2) rv (cis ++ [⟨w.heap.size + 1, w.heap.size, .slice none 0 0, []⟩]) (cs ++ [newC d]) vs ss ∧ Chg (X :: (Value.slice a cis.length c).ownBlock.toList) w (wa.setCell ⟨X, 3, none⟩ (.slice (some ⟨g2, 0, none⟩) (cis.length + 1) cap2)) ∧ ((Value.slice (some ⟨g2, 0, none⟩) (cis.length + 1) cap2).ownBlock = (Value.slice a cis.length c).ownBlock ∨ ∃ g, (Value.slice (some ⟨g2, 0, none⟩) (cis.length + 1) cap2).ownBlock = some g ∧ w.heap.size ≤ g)) := fun g2 cap2 wa hown hgrow hat => by
    have hb3 : Below w.heap.size w (((w.alloc (refO d st0)).alloc (rcO d w.heap.size (.slice none 0 0) [])).alloc (.cells #[.pointer (some ⟨w.heap.size + 1, 0, none⟩)] 244)) := (((Below.refl _ w).alloc (Nat.le_refl _) _).alloc (by simp) _).alloc (by simp; omega) _
    have hk : Chg (X :: (Value.slice a cis.length c).ownBlock.toList) w (wa.setCell ⟨X, 3, none⟩ (.slice (some ⟨g2, 0, none⟩) (cis.length + 1) cap2)) := ((Chg.of_below hb3).grown hgrow (fun b e => .inl (by simp [e]))).set (.inl (by simp)) _
    have hcv : ∀ b, (Value.slice a cis.length c).ownBlock = some b → b < w.heap.size := fun b e => by
      obtain ⟨cur, hc⟩ := ownsRow_blk h.crow e
      exact blkLt hc
    have hXa : wa.heap[X]? = some (rjO sv pt win (.slice a cis.length c) rv) := (hgrow.block X (by simp; omega) (fun e => hXg e.symm)).trans ((hb3.block X hlt).trans h.blk)
    have keep3 : ∀ (b : Nat) (o : Obj), (((w.alloc (refO d st0)).alloc (rcO d w.heap.size (.slice none 0 0) [])).alloc (.cells #[.pointer (some ⟨w.heap.size + 1, 0, none⟩)] 244)).heap[b]? = some o → w.heap.size ≤ b → (wa.setCell ⟨X, 3, none⟩ (.slice (some ⟨g2, 0, none⟩) (cis.length + 1) cap2)).heap[b]? = some o := fun b o hb' hle => (Below.heap_setCell wa ⟨X, 3, none⟩ _ b (by show b ≠ X; omega)).trans ((hgrow.block b (blkLt hb') (fun e => by have := hcv b e.symm; omega)).trans hb')
    refine ⟨h.opened (K := w.heap.size + 1) (Y := w.heap.size) (KeepT.chg hk (fun b T Z f hm hZ hT => ?_)) (blkSet (i := 3) hXa _) ?_ (keep3 _ _ ((Below.heap_alloc _ _ _ (by simp; omega)).trans ((Below.heap_alloc _ _ _ (by simp)).trans (blkNew w _))) (Nat.le_refl _)) (keep3 _ _ ((Below.heap_alloc _ _ _ (by simp)).trans (hs_new (by simp))) (by omega)), hk, ?_⟩
    · rcases List.mem_cons.1 hm with e | e
      · rw [e, hb] at hZ
        simp at hZ
        rw [← hZ.2.1] at hT
        simp at hT
      · obtain ⟨cur, hc⟩ := ownsRow_blk h.crow (optMem e)
        rw [hc] at hZ
        simp at hZ
        rw [← hZ.2.1] at hT
        simp at hT
    · exact ownsRow_other hown (fun gg hg => by
        cases hg
        refine Below.heap_setCell wa ⟨X, 3, none⟩ _ g2 (fun e => ?_)
        obtain ⟨cur, hc⟩ := ownsRow_blk hown rfl
        rw [show g2 = X from e, hXa] at hc
        unfold rjO at hc
        cases hc)
    · rcases hat with e | e
      · exact .inl e.symm
      · exact .inr ⟨g2, rfl, by simp at e; omega⟩
  unfold refO rcO mkB st0 at HRow HNw HFin
  clear h hb hi hz0 hz1 hz2 hXg hd
  go_enter Tryz.func112, Tryz.ntmps112
  go_wp2_with (first
    | (at_builtin; refine wpList_append_lies _ rfl _ _ _ rfl 0 244 i1 (.pointer none) 1 8 Tryz.underlying237 HI.out.1 HI.out.2.1 HI.out.2.2.1 HI.out.2.2.2 rfl (by omega) (.slice a cis.length c) cis.length (cis.map (fun v => ptrV v.K)) rfl HRow.out ⟨w.heap.size + 2, 0, none⟩ 1 1 [.pointer (some ⟨w.heap.size + 1, 0, none⟩)] rfl rfl HNw.out (by simp [Value.oneCell']) (by omega) (by unfold maxLen; omega) (by omega) (Nat.zero_le _) _ rfl ?_; intro g2 cap2 wa hown hgrow hat hlta; have hcA : wa.cell? ⟨X, 3, none⟩ = some (.slice a cis.length c) := (hgrow.cell_far ⟨X, 3, none⟩ (by simp; omega) (fun e => HXG.out e.symm)).trans ((World.cell?_of_block ((Below.heap_alloc _ _ _ (by simp; omega)).trans ((Below.heap_alloc _ _ _ (by simp; omega)).trans (Below.heap_alloc w _ _ hlt)))).trans c3); have hfA : wa.frozen? ⟨X, 3, none⟩ = false := (hgrow.frozen_far ⟨X, 3, none⟩ (by simp; omega) (fun e => HXG.out e.symm)).trans ((World.frozen?_of_block ((Below.heap_alloc _ _ _ (by simp; omega)).trans ((Below.heap_alloc _ _ _ (by simp; omega)).trans (Below.heap_alloc w _ _ hlt)))).trans cf); have hlxa : X < wa.heap.size := Nat.lt_of_lt_of_le (by simp; omega) hgrow.size; have HG := hide' (HFin.out g2 cap2 wa hown hgrow hat); clear hown hgrow hat)
    | fail)
  go_ret2
  exact ⟨by simp, _, _, HG.out.1, HG.out.2.1, HG.out.2.2, Nat.le_succ _, Nat.le_refl _, rfl⟩
end Go.Proofs.YtlonjggfnleolaaGreatDoor


/-
  The junctions of the law, while nothing comes from servers: the program's and the reference's side by side.
-/

namespace Go.Proofs.YtlonjggfnleolaaGreatDoor
open Go.RowKit Go.Shelf
set_option linter.unusedVariables false

theorem mem_footJ {X : Nat} {cv : Value} {cis : List CliI} {vs : List SvI} {b : Nat} : b ∈ footJ X cv cis vs ↔ b = X ∨ cv.ownBlock = some b ∨ (∃ (i : Nat) (v : CliI), cis[i]? = some v ∧ b ∈ v.foot) ∨ b ∈ feetV vs := by
  unfold footJ
  rw [List.mem_cons, List.mem_append, List.mem_append, mem_cis]
  constructor
  · rintro (h | h | h | h)
    · exact .inl h
    · exact .inr (.inl (mem_own h))
    · exact .inr (.inr (.inl h))
    · exact .inr (.inr (.inr h))
  · rintro (h | h | h | h)
    · exact .inl h
    · exact .inr (.inl (by rw [h]; simp))
    · exact .inr (.inr (.inl h))
    · exact .inr (.inr (.inr h))
theorem JunAt.keep {W W' : World} {X sv pt win g sc : Nat} {cv : Value} {cis : List CliI} {cs : List CliS} {vs : List SvI} {ss : List SrvS} (h : JunAt W X sv pt win g sc cv cis cs vs ss) (k : ∀ b ∈ footJ X cv cis vs, W'.heap[b]? = W.heap[b]?) (k2 : KeepT [137, 216, 9] W W') : JunAt W' X sv pt win g sc cv cis cs vs ss := by
  obtain ⟨Zg, h1, h2⟩ := h.gb
  exact ⟨(k _ (mem_footJ.2 (.inl rfl))).trans h.blk, ⟨Zg, (k2 _ _ _ _ h1 (by simp)).trans h1, h2⟩, h.len, h.s1, h.s4, h.sc_, h.pt_, ownsRow_other h.row (fun g hg => k g (mem_footJ.2 (.inr (.inl hg)))), h.cl, fun i v s hv hs => (h.cli i v s hv hs).keep (fun b hb => k b (mem_footJ.2 (.inr (.inr (.inl ⟨i, v, hv, hb⟩))))) (fun b T Z f hZ hT => k2 b T Z f hZ (by rcases hT with e | e <;> simp [e])), h.cap, h.srv.keep (fun b hb => k b (mem_footJ.2 (.inr (.inr (.inr hb))))), h.ap⟩
theorem JunAt.old {W : World} {X sv pt win g sc : Nat} {cv : Value} {cis : List CliI} {cs : List CliS} {vs : List SvI} {ss : List SrvS} (h : JunAt W X sv pt win g sc cv cis cs vs ss) {b : Nat} (hb : b ∈ footJ X cv cis vs) : b < W.heap.size := by
  rcases mem_footJ.1 hb with e | e | ⟨i, v, hv, e⟩ | e
  · rw [e]; exact blkLt h.blk
  · obtain ⟨cur, hc⟩ := ownsRow_blk h.row e
    exact blkLt hc
  · obtain ⟨s, hs, hok⟩ := h.get hv
    exact hok.old b e
  · exact h.srv.old b e
theorem JunAt.below {W W' : World} {X sv pt win g sc : Nat} {cv : Value} {cis : List CliI} {cs : List CliS} {vs : List SvI} {ss : List SrvS} (h : JunAt W X sv pt win g sc cv cis cs vs ss) (hb : Below W.heap.size W W') : JunAt W' X sv pt win g sc cv cis cs vs ss := h.keep (fun b hm => hb.block b (h.old hm)) (KeepT.below hb)
/-- The types of what the program's junctions turn. -/
def tysP : List Nat := [129, 116, 125, 134, 5, 175, 143]
def tysQ : List Nat := [240, 244, 247, 195, 263, 243]
theorem JunAt.types {W : World} {X sv pt win g sc : Nat} {cv : Value} {cis : List CliI} {cs : List CliS} {vs : List SvI} {ss : List SrvS} (h : JunAt W X sv pt win g sc cv cis cs vs ss) {b : Nat} (hb : b ∈ footJ X cv cis vs) {Z : Array Value} {T : Nat} {f : Nat × Nat} (hZ : W.heap[b]? = some (.cells Z T f)) : T ∈ tysP := by
  unfold tysP
  rcases mem_footJ.1 hb with e | e | ⟨i, v, hv, e⟩ | e
  · have h1 := h.blk
    unfold juO at h1
    rw [← e, hZ] at h1
    simp at h1
    simp [h1]
  · obtain ⟨cur, hc⟩ := ownsRow_blk h.row e
    rw [hZ] at hc
    simp at hc
    simp [hc]
  · obtain ⟨s, hs, hok⟩ := h.get hv
    refine Classical.byContradiction fun hn => ?_
    simp at hn
    exact hok.apart hZ ⟨by omega, by omega, by omega, by omega⟩ e
  · refine Classical.byContradiction fun hn => ?_
    simp at hn
    exact h.srv.apart hZ (by omega) (by omega) e
theorem RJunAt.typesQ {W : World} {X sv pt win : Nat} {cv rv : Value} {cis : List RCliI} {cs : List CliS} {vs : List Nat} {ss : List SrvS} (h : RJunAt W X sv pt win cv rv cis cs vs ss) {b : Nat} (hb : b ∈ footR X cv cis vs) {Z : Array Value} {T : Nat} {f : Nat × Nat} (hZ : W.heap[b]? = some (.cells Z T f)) : T ∈ tysQ := by
  obtain ⟨Z', T', h1, h2⟩ := h.types hb
  rw [hZ] at h1
  simp at h1
  unfold tysQ
  rw [h1.2.1]
  simp
  omega

/-- A junction of the law: where it lies, and what it is. -/
structure JntI where
  D : Nat
  X : Nat
  Xr : Nat
  sv : Nat
  pt : Nat
  win : Nat
  g : Nat
  sc : Nat
  cv : Value
  cis : List CliI
  vs : List SvI
  rcv : Value
  rrv : Value
  rcis : List RCliI
  rvs : List Nat
  cs : List CliS
  ss : List SrvS
def JntI.footP (d : JntI) : List Nat := footJ d.X d.cv d.cis d.vs
def JntI.footQ (d : JntI) : List Nat := footR d.Xr d.rcv d.rcis d.rvs
def JntI.foot (d : JntI) : List Nat := d.footP ++ d.footQ
/-- What parts may still come of what is read. -/
def roomC (win : Nat) : List CliS → Nat
  | [] => 0
  | s :: cs => 4 * (win - rightN s.waits) + roomC win cs
theorem roomC_set (win : Nat) : ∀ (cs : List CliS) (i : Nat) (s s' : CliS), cs[i]? = some s → roomC win (cs.set i s') + 4 * (win - rightN s.waits) = roomC win cs + 4 * (win - rightN s'.waits) := by
  intro cs
  induction cs with
  | nil => intro i s s' h; simp at h
  | cons a cs ih =>
    intro i s s' h
    cases i with
    | zero =>
      simp at h
      subst h
      simp only [List.set_cons_zero, roomC]
      omega
    | succ i =>
      simp at h
      simp only [List.set_cons_succ, roomC]
      have := ih i s s' h
      omega
theorem roomC_snoc (win : Nat) (s : CliS) : ∀ (cs : List CliS), roomC win (cs ++ [s]) = roomC win cs + 4 * (win - rightN s.waits) := by
  intro cs
  induction cs with
  | nil => simp [roomC]
  | cons a cs ih => simp only [List.cons_append, roomC, ih]; omega
theorem roomC_le (win : Nat) : ∀ (cs : List CliS) (i : Nat) (s : CliS), cs[i]? = some s → 4 * (win - rightN s.waits) ≤ roomC win cs := by
  intro cs
  induction cs with
  | nil => intro i s h; simp at h
  | cons a cs ih =>
    intro i s h
    cases i with
    | zero => simp at h; subst h; simp only [roomC]; omega
    | succ i => simp at h; have := ih i s h; simp only [roomC]; omega
/-- How far a junction has grown, T: in bytes told or held. -/
structure JntB (T : Nat) (d : JntI) : Prop where
  pt1 : 1 ≤ d.pt
  w6 : d.win ≤ 6
  c4 : d.cs.length ≤ 4
  cli : ∀ s ∈ d.cs, WaitsOk s ∧ (s.d = 1 ∨ s.d = 2 ∨ s.d = 3) ∧ s.waits.length ≤ d.win ∧ s.told.length + 1000 * (s.waits.length + s.st.held.length) ≤ T
  srv : ∀ u ∈ d.ss, u.sent.length ≤ 1000 * u.next ∧ u.next + roomC d.win d.cs + 4 * d.win * (4 - d.cs.length) ≤ 96
theorem JntB.more {T T' : Nat} {d : JntI} (h : JntB T d) (hT : T ≤ T') : JntB T' d := ⟨h.pt1, h.w6, h.c4, fun s hs => ⟨(h.cli s hs).1, (h.cli s hs).2.1, (h.cli s hs).2.2.1, Nat.le_trans (h.cli s hs).2.2.2 hT⟩, h.srv⟩
structure JntOk (w : World) (lo : Nat) (d : JntI) : Prop where
  blk : w.heap[d.D]? = some (.cells #[ptrV d.X, ptrV d.Xr] 201 (0, 0))
  jun : JunAt w d.X d.sv d.pt d.win d.g d.sc d.cv d.cis d.cs d.vs d.ss
  ref : RJunAt w d.Xr d.sv d.pt d.win d.rcv d.rrv d.rcis d.cs d.rvs d.ss
  rap : RApart d.rcis d.rvs
  ge : ∀ b ∈ d.foot, lo ≤ b
theorem JntOk.old {w : World} {lo : Nat} {d : JntI} (h : JntOk w lo d) {b : Nat} (hb : b ∈ d.foot) : b < w.heap.size := by
  rcases List.mem_append.1 hb with e | e
  · exact h.jun.old e
  · exact h.ref.old e
theorem JntOk.types {w : World} {lo : Nat} {d : JntI} (h : JntOk w lo d) {b : Nat} (hb : b ∈ d.foot) {Z : Array Value} {T : Nat} {f : Nat × Nat} (hZ : w.heap[b]? = some (.cells Z T f)) : T ∈ tysP ++ tysQ := by
  rcases List.mem_append.1 hb with e | e
  · exact List.mem_append.2 (.inl (h.jun.types e hZ))
  · exact List.mem_append.2 (.inr (h.ref.typesQ e hZ))
/-- What a junction turns is of these types. -/
theorem keepTys {w w' : World} {M Ts Us : List Nat} (k : Chg M w w') (hM : ∀ b ∈ M, ∀ (Z : Array Value) (T : Nat) (f : Nat × Nat), w.heap[b]? = some (.cells Z T f) → T ∈ Us) (hd : ∀ t ∈ Ts, t ∉ Us) : KeepT Ts w w' := KeepT.chg k (fun b T Z f hm hZ hT => hd T hT (hM b hm Z T f hZ))
theorem JntOk.keep {w w' : World} {lo : Nat} {d : JntI} (h : JntOk w lo d) (k : ∀ b ∈ d.foot, w'.heap[b]? = w.heap[b]?) (k2 : KeepT [201, 137, 216, 9, 241, 266, 249, 253] w w') : JntOk w' lo d :=
  ⟨(k2 _ _ _ _ h.blk (by simp)).trans h.blk, h.jun.keep (fun b hb => k b (List.mem_append.2 (.inl hb))) (k2.sub (by simp)), h.ref.keep (fun b hb => k b (List.mem_append.2 (.inr hb))) (k2.sub (by simp)), h.rap, h.ge⟩
theorem JntOk.below {w w' : World} {lo : Nat} {d : JntI} (h : JntOk w lo d) (hb : Below w.heap.size w w') : JntOk w' lo d := h.keep (fun b hm => hb.block b (h.old hm)) (KeepT.below hb)

def jwO (jv : Value) : Obj := .cells #[.slice none 0 0, jv, .slice none 0 0, .slice none 0 0, .slice none 0 0, .slice none 0 0, .int .i64 0] 87 (0, 0)
/-- The law's memory and its junctions. -/
structure JwAt (w : World) (lo B : Nat) (jv : Value) (ds : List JntI) (T : Nat) : Prop where
  wd : w.heap[B]? = some (jwO jv)
  ge : lo ≤ B
  row : Row w lo 154 1 jv ds.length (ds.map fun d => ptrV d.D)
  all : ∀ d ∈ ds, JntOk w lo d ∧ JntB T d
  ap : ∀ (i j : Nat) (d e : JntI), i ≠ j → ds[i]? = some d → ds[j]? = some e → ∀ b ∈ d.foot, b ∉ e.foot
theorem JwAt.below {w w' : World} {lo B T : Nat} {jv : Value} {ds : List JntI} (h : JwAt w lo B jv ds T) (hb : Below w.heap.size w w') : JwAt w' lo B jv ds T :=
  ⟨(hb.block B (blkLt h.wd)).trans h.wd, h.ge, h.row.other (fun g Z _ hZ _ => hb.block g (blkLt hZ)), fun d hd => ⟨(h.all d hd).1.below hb, (h.all d hd).2⟩, h.ap⟩
theorem JwAt.more {w : World} {lo B T T' : Nat} {jv : Value} {ds : List JntI} (h : JwAt w lo B jv ds T) (hT : T ≤ T') : JwAt w lo B jv ds T' := ⟨h.wd, h.ge, h.row, fun d hd => ⟨(h.all d hd).1, (h.all d hd).2.more hT⟩, h.ap⟩
/-- One junction was turned. -/
theorem JwAt.step {w w' : World} {lo B T T' : Nat} {jv : Value} {ds : List JntI} (h : JwAt w lo B jv ds T) (hT : T ≤ T') (hlo : lo ≤ w.heap.size) {i : Nat} {d d' : JntI} (hd : ds[i]? = some d) (k : Chg d.foot w w') (hl : Later w d.foot d'.foot) (hD : d'.D = d.D)
    (hblk : w'.heap[d.D]? = w.heap[d.D]? → JntOk w' lo d') (hb : JntB T' d') : JwAt w' lo B jv (ds.set i d') T' ∧ Below lo w w' ∧ Kept95 w w' := by
  have hil := (List.getElem?_eq_some_iff.1 hd).1
  obtain ⟨hok, _⟩ := h.all d (List.mem_of_getElem? hd)
  have kT : ∀ Ts : List Nat, (∀ t ∈ Ts, t ∉ tysP ++ tysQ) → KeepT Ts w w' := fun Ts hTs => keepTys k (fun b hb Z T f hZ => hok.types hb hZ) hTs
  have hok' : JntOk w' lo d' := hblk (by have := hok.blk; exact (kT [201] (by decide)) _ _ _ _ this (by simp))
  have hwd := h.wd
  unfold jwO at hwd
  have hmap : (ds.set i d').map (fun d => ptrV d.D) = ds.map (fun d => ptrV d.D) := by
    apply List.ext_getElem?
    intro j
    rw [List.getElem?_map, List.getElem?_map, List.getElem?_set]
    split
    · rename_i e
      subst e
      rw [hd]
      simp [hD]
    · rfl
  have old : ∀ (j : Nat) (e : JntI), ds[j]? = some e → ∀ b ∈ e.foot, b < w.heap.size := fun j e he b hb => (h.all e (List.mem_of_getElem? he)).1.old hb
  refine ⟨⟨((kT [87] (by decide)) _ _ _ _ hwd (by simp)).trans hwd, h.ge, ?_, fun e he => ?_, fun a j u1 u2 hij h1 h2 b hb1 hb2 => ?_⟩, ⟨k.os, k.tape, k.output, k.size, fun b hb => k.block b (by omega) (fun hm => by have := hok.ge b hm; omega)⟩, fun b Z hZ => ((kT [95] (by decide)) _ _ _ _ hZ (by simp)).trans hZ⟩
  · rw [hmap, List.length_set]
    exact h.row.other (fun g Z _ hZ _ => (kT [154] (by decide)) _ _ _ _ hZ (by simp))
  · obtain ⟨j, hj, e1⟩ := List.mem_iff_getElem.1 he
    have he2 : (ds.set i d')[j]? = some e := by rw [List.getElem?_eq_getElem hj, e1]
    rw [List.getElem?_set] at he2
    split at he2
    · simp at he2
      rw [← he2]
      exact ⟨hok', hb⟩
    · rename_i hne
      have h1 := h.all e (List.mem_of_getElem? he2)
      exact ⟨h1.1.keep (fun b hb => k.block b (old j e he2 b hb) (h.ap j i e d (fun e => hne e.symm) he2 hd b hb)) (kT _ (by decide)), h1.2.more hT⟩
  · rw [List.getElem?_set] at h1 h2
    split at h1
    · rename_i e1
      subst e1
      split at h2
      · rename_i e2; exact hij e2
      · simp at h1
        obtain ⟨_, rfl⟩ := h1
        rcases hl b hb1 with h3 | h3
        · exact h.ap i j d u2 hij hd h2 b h3 hb2
        · have := old j u2 h2 b hb2; omega
    · split at h2
      · rename_i e2
        subst e2
        simp at h2
        obtain ⟨_, rfl⟩ := h2
        rcases hl b hb2 with h3 | h3
        · exact h.ap a i u1 d hij h1 hd b hb1 h3
        · have := old a u1 h1 b hb1; omega
      · exact h.ap a j u1 u2 hij h1 h2 b hb1 hb2
end Go.Proofs.YtlonjggfnleolaaGreatDoor
