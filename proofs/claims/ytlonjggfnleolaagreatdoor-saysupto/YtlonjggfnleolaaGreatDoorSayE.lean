/-
  made: one junction more.
-/
import Derived.Test.YtlonjggfnleolaaGreatDoorSayA
import Derived.Test.YtlonjggfnleolaaGreatDoorSayB
import Derived.Test.YtlonjggfnleolaaGreatDoorRjM
import Derived.Deep.MidRow
import Derived.Test.YtlonjggfnleolaaGreatDoorLawK

namespace Go.Proofs.YtlonjggfnleolaaGreatDoor
open Go.RowKit Go.Shelf
set_option linter.unusedVariables false

set_option maxRecDepth 20000 in
set_option maxHeartbeats 2000000 in
theorem made_no (p : Value) (sv pt win : Int) (w : World) (hc : configB sv pt win = false) :
    Calls Tryz.prog 70 #[p, .agg #[.int .i64 sv, .int .i64 pt, .int .i64 win]] w fun e w' => e = .returned (.bool true) ∧ Below w.heap.size w w' := by
  have H1 := hide' (fun W => new_no sv pt win W hc)
  have H2 := hide' (fun W => rnew_no sv pt win W hc)
  have HB : Hid (∀ o W, Below (w.alloc o).heap.size (w.alloc o) W → Below w.heap.size w W) := fun o W h => ((Below.refl _ _).alloc (Nat.le_refl _) o).trans (h.mono (by simp))
  clear hc
  go_enter Tryz.func70, Tryz.ntmps70
  go_wp2_with fail
  go_at_call 53
  refine (H1.out _).mono ?_
  rintro e w1 ⟨rfl, hb1⟩
  have p0 : w1.cell? ⟨w.heap.size, 0, none⟩ = some (.int .i64 sv) := (hb1.cell (p := ⟨w.heap.size, 0, none⟩) (by simp)).trans (blkCell (blkNew w _) 0)
  have p1 : w1.cell? ⟨w.heap.size, 1, none⟩ = some (.int .i64 pt) := (hb1.cell (p := ⟨w.heap.size, 1, none⟩) (by simp)).trans (blkCell (blkNew w _) 1)
  have p2 : w1.cell? ⟨w.heap.size, 2, none⟩ = some (.int .i64 win) := (hb1.cell (p := ⟨w.heap.size, 2, none⟩) (by simp)).trans (blkCell (blkNew w _) 2)
  have HB1 := hide' (HB.out _ _ hb1)
  clear hb1 HB
  go_wp2_with fail
  go_at_call 111
  refine (H2.out _).mono ?_
  rintro e w2 ⟨rfl, hb2⟩
  have HB2 := hide' (HB1.out.trans (hb2.mono HB1.out.size))
  clear hb2 p0 p1 p2
  go_wp2_with (first | (go_at_call 99; refine (lawnum _ _).mono ?_; rintro e w3 ⟨rfl, hw3⟩; subst hw3) | fail)
  all_goals go_ret
  all_goals exact ⟨rfl, HB2.out⟩

theorem info154 : ∃ i, Tryz.prog.info? 154 = some i ∧ i.zero = some (.pointer none) ∧ i.size = 1 ∧ i.bytes = 8 := by
  have h : (Tryz.prog.info? 154).map (fun i => (i.zero, i.size, i.bytes)) = some (some (.pointer none), 1, 8) := by kernel_rfl
  obtain ⟨i, hi, hz⟩ := Option.map_eq_some_iff.1 h
  simp only [Prod.mk.injEq] at hz
  exact ⟨i, hi, hz.1, hz.2.1, hz.2.2⟩
/-- One junction more. -/
theorem jw_snoc {w W2 W5 : World} {lo B T : Nat} {jv jv' : Value} {ds : List JntI} {A : Obj} (h : JwAt w lo B jv ds T) (hlo : lo ≤ w.heap.size) (hb : Below w.heap.size w W2) {X Xr sv pt win g sc : Nat} {rrv : Value} {vs : List SvI} {rvs : List Nat}
    (hj : JunAt W2 X sv pt win g sc (.slice none 0 0) [] [] vs (List.replicate sv ⟨0, []⟩)) (hr : RJunAt W2 Xr sv pt win (.slice none 0 0) rrv [] [] rvs (List.replicate sv ⟨0, []⟩)) (fP : ∀ b ∈ footJ X (.slice none 0 0) [] vs, w.heap.size ≤ b) (fQ : ∀ b ∈ footR Xr (.slice none 0 0) [] rvs, w.heap.size ≤ b) (nd : rvs.Nodup) (hp1 : 1 ≤ pt) (hw6 : win ≤ 6)
    (hrow : Row W5 lo 154 1 jv' (ds.length + 1) ((ds.map fun d => ptrV d.D) ++ [.pointer (some ⟨W2.heap.size, 0, none⟩)])) (hg : ((W2.alloc (.cells #[.pointer (some ⟨X, 0, none⟩), .pointer (some ⟨Xr, 0, none⟩)] 201)).alloc A).grownBy W5 jv.ownBlock) :
    (∃ d', JwAt (W5.setCell ⟨B, 1, none⟩ jv') lo B jv' (ds ++ [d']) T) ∧ Below lo w (W5.setCell ⟨B, 1, none⟩ jv') ∧ Kept95 w (W5.setCell ⟨B, 1, none⟩ jv') ∧ W5.heap[B]? = some (jwO jv) := by
  obtain ⟨J, hJ⟩ : ∃ J, J = Obj.cells #[.pointer (some ⟨X, 0, none⟩), .pointer (some ⟨Xr, 0, none⟩)] 201 := ⟨_, rfl⟩
  rw [← hJ] at hg
  have b24 : Below W2.heap.size W2 ((W2.alloc J).alloc A) := ((Below.refl _ _).alloc (Nat.le_refl _) _).alloc (by simp) _
  have hB4 : Below w.heap.size w ((W2.alloc J).alloc A) := hb.trans (b24.mono hb.size)
  have nD : ((W2.alloc J).alloc A).heap[W2.heap.size]? = some (.cells #[.pointer (some ⟨X, 0, none⟩), .pointer (some ⟨Xr, 0, none⟩)] 201 (0, 0)) := by
    have h1 : ((W2.alloc J).alloc A).heap[W2.heap.size]? = some J := (Below.heap_alloc _ _ _ (by simp)).trans (blkNew W2 J)
    rw [h1, hJ]
  have h4 := h.below hB4
  have hj4 := hj.below b24
  have hr4 := hr.below b24
  have sz2 := hb.size
  have sz4 := hB4.size
  generalize (W2.alloc J).alloc A = W4 at *
  have hok' : JntOk W4 lo ⟨W2.heap.size, X, Xr, sv, pt, win, g, sc, .slice none 0 0, [], vs, .slice none 0 0, rrv, [], rvs, [], List.replicate sv ⟨0, []⟩⟩ := ⟨nD, hj4, hr4, ⟨fun i j v u _ hv => (by simp at hv), nd⟩, fun b hb => by
    rcases List.mem_append.1 hb with e | e
    · exact Nat.le_trans hlo (fP b e)
    · exact Nat.le_trans hlo (fQ b e)⟩
  have hB' : JntB T ⟨W2.heap.size, X, Xr, sv, pt, win, g, sc, .slice none 0 0, [], vs, .slice none 0 0, rrv, [], rvs, [], List.replicate sv ⟨0, []⟩⟩ := ⟨hp1, hw6, Nat.zero_le _, fun s hs => (by cases hs), fun u hu => by
    rw [List.mem_replicate] at hu
    rw [hu.2]
    refine ⟨Nat.zero_le _, ?_⟩
    show 0 + 0 + 4 * win * (4 - 0) ≤ 96
    omega⟩
  have fN : ∀ b ∈ (JntI.mk W2.heap.size X Xr sv pt win g sc (.slice none 0 0) [] vs (.slice none 0 0) rrv [] rvs [] (List.replicate sv ⟨0, []⟩)).foot, w.heap.size ≤ b := fun b hb => by
    rcases List.mem_append.1 hb with e | e
    · exact fP b e
    · exact fQ b e
  have hall : ∀ d ∈ ds ++ [JntI.mk W2.heap.size X Xr sv pt win g sc (.slice none 0 0) [] vs (.slice none 0 0) rrv [] rvs [] (List.replicate sv ⟨0, []⟩)], JntOk W4 lo d ∧ JntB T d := fun d hd => by
    rcases List.mem_append.1 hd with e | e
    · exact h4.all d e
    · simp at e
      rw [e]
      exact ⟨hok', hB'⟩
  have eD : (JntI.mk W2.heap.size X Xr sv pt win g sc (.slice none 0 0) [] vs (.slice none 0 0) rrv [] rvs [] (List.replicate sv ⟨0, []⟩)).D = W2.heap.size := rfl
  generalize (JntI.mk W2.heap.size X Xr sv pt win g sc (.slice none 0 0) [] vs (.slice none 0 0) rrv [] rvs [] (List.replicate sv ⟨0, []⟩)) = d' at *
  have k5 : ∀ (b : Nat) (Z : Array Value) (Ty : Nat), W4.heap[b]? = some (.cells Z Ty (0, 0)) → Ty ≠ 154 → W5.heap[b]? = some (.cells Z Ty (0, 0)) := fun b Z Ty hb hT => (hg.block b (blkLt hb) (row_ne h4.row hb hT)).trans hb
  have wB5 := k5 B _ 87 h4.wd (by decide)
  have ch : Chg (B :: jv.ownBlock.toList) W4 (W5.setCell ⟨B, 1, none⟩ jv') := ((Chg.refl _ W4).grown hg (fun b e => .inl (by simp [e]))).set (.inl (by simp)) _
  have kT : ∀ Ts : List Nat, 87 ∉ Ts → 154 ∉ Ts → KeepT Ts W4 (W5.setCell ⟨B, 1, none⟩ jv') := fun Ts h1 h2 => KeepT.chg ch (fun b Ty Z f hm hZ hT => by
    rcases List.mem_cons.1 hm with e | e
    · have hwd := h4.wd
      unfold jwO at hwd
      rw [e, hwd] at hZ
      simp at hZ
      rw [← hZ.2.1] at hT
      exact h1 hT
    · obtain ⟨Z', hZ', _⟩ := h4.row.blk (mem_own e)
      rw [hZ'] at hZ
      simp at hZ
      rw [← hZ.2.1] at hT
      exact h2 hT)
  refine ⟨⟨d', (blkSet (i := 1) wB5 _).trans rfl, h.ge, ?_, fun d hd => ⟨(hall d hd).1.keep (fun b hb => ch.block b ((hall d hd).1.old hb) (fun hm => ?_)) (kT _ (by decide) (by decide)), (hall d hd).2⟩, fun i j d1 d2 hij h1 h2 b hb1 hb2 => ?_⟩, ?_, fun b Z hZ => ?_, wB5⟩
  · rw [List.length_append, List.map_append]
    rw [show List.map (fun d => ptrV d.D) [d'] = [.pointer (some ⟨W2.heap.size, 0, none⟩)] from by simp [eD, ptrV]]
    exact hrow.other (fun g Z _ hZ _ => Below.heap_setCell _ _ _ _ (fun e => by rw [show g = B from e, wB5] at hZ; cases hZ))
  · rcases List.mem_cons.1 hm with e | e
    · have hwd := h4.wd
      unfold jwO at hwd
      rw [← e] at hwd
      have := (hall d hd).1.types hb hwd
      revert this
      decide
    · obtain ⟨Z', hZ', _⟩ := h4.row.blk (mem_own e)
      have := (hall d hd).1.types hb hZ'
      revert this
      decide
  · have look : ∀ (a : Nat) (u : JntI), (ds ++ [d'])[a]? = some u → ds[a]? = some u ∨ (a = ds.length ∧ u = d') := fun a u ha => by
      by_cases hl : a < ds.length
      · rw [List.getElem?_append_left hl] at ha; exact .inl ha
      · have h2 := (List.getElem?_eq_some_iff.1 ha).1
        simp at h2
        rw [List.getElem?_append_right (by omega)] at ha
        have := List.mem_of_getElem? ha
        simp at this
        exact .inr ⟨by omega, this⟩
    have old : ∀ (j : Nat) (e : JntI), ds[j]? = some e → ∀ b ∈ e.foot, b < w.heap.size := fun j e he b hb => (h.all e (List.mem_of_getElem? he)).1.old hb
    rcases look i d1 h1 with e1 | ⟨e1, e1'⟩
    · rcases look j d2 h2 with e2 | ⟨e2, e2'⟩
      · exact h.ap i j d1 d2 hij e1 e2 b hb1 hb2
      · subst e2'
        have := old i d1 e1 b hb1
        have := fN b hb2
        omega
    · subst e1'
      rcases look j d2 h2 with e2 | ⟨e2, e2'⟩
      · have := old j d2 e2 b hb2
        have := fN b hb1
        omega
      · omega
  · refine ⟨ch.os.trans hB4.os, ch.tape.trans hB4.tape, ch.output.trans hB4.output, Nat.le_trans sz4 ch.size, fun b hb => (ch.block b (by omega) (fun hm => ?_)).trans (hB4.block b (by omega))⟩
    rcases List.mem_cons.1 hm with e | e
    · have := h.ge; omega
    · obtain ⟨Z', hZ', h6, _⟩ := h4.row.blk (mem_own e)
      omega
  · have hZ4 := (hB4.block b (blkLt hZ)).trans hZ
    exact ((kT [95] (by decide) (by decide)) _ _ _ _ hZ4 (by simp)).trans hZ4

set_option maxRecDepth 20000 in
set_option maxHeartbeats 4000000 in
theorem made_yes (B lo T : Nat) (jv : Value) (ds : List JntI) (sv pt win : Nat) (w : World) (h : JwAt w lo B jv ds T) (hlo : lo ≤ w.heap.size) (hn : ds.length ≤ 1000000000000) (hc : configB sv pt win = true) :
    Calls Tryz.prog 70 #[.pointer (some ⟨B, 0, none⟩), .agg #[.int .i64 (sv : Int), .int .i64 (pt : Int), .int .i64 (win : Int)]] w fun e w' => e = .returned (.bool true) ∧ ∃ jv' d', JwAt w' lo B jv' (ds ++ [d']) T ∧ Below lo w w' ∧ Kept95 w w' := by
  have hc' := hc
  simp only [configB, ringB, withinB, Bool.and_eq_true, decide_eq_true_eq] at hc'
  obtain ⟨⟨⟨a1, a2⟩, a3, a4⟩, a5, a6⟩ := hc'
  have H1 := hide' (fun W => new_yes sv pt win W hc (by omega) (by omega) (by omega))
  have H2 := hide' (fun W => rnew_yes sv pt win W hc)
  have HB : Hid (∀ o W, Below (w.alloc o).heap.size (w.alloc o) W → Below w.heap.size w W) := fun o W h => ((Below.refl _ _).alloc (Nat.le_refl _) o).trans (h.mono (by simp))
  have HS := hide' (fun (W2 W5 : World) (jv' : Value) (A : Obj) (X Xr g sc : Nat) (rrv : Value) (vs : List SvI) (rvs : List Nat) hb hj hr fP fQ nd => jw_snoc (W2 := W2) (W5 := W5) (jv' := jv') (A := A) (X := X) (Xr := Xr) (sv := sv) (pt := pt) (win := win) (g := g) (sc := sc) (rrv := rrv) (vs := vs) (rvs := rvs) h hlo hb hj hr fP fQ nd (by omega) (by omega))
  have HRow : Hid (∀ W, Below w.heap.size w W → Row W lo 154 1 jv ds.length (ds.map fun d => ptrV d.D)) := fun W hb => (h.below hb).row
  have HWd : Hid (∀ W, Below w.heap.size w W → W.heap[B]? = some (jwO jv)) := fun W hb => (h.below hb).wd
  have hBl := blkLt h.wd
  obtain ⟨i154, hi1, hi2, hi3, hi4⟩ := info154
  have HI := hide' (And.intro hi1 (And.intro hi2 (And.intro hi3 hi4)))
  clear h hi1 hi2 hi3 hi4 hc
  go_enter Tryz.func70, Tryz.ntmps70
  go_wp2_with fail
  go_at_call 53
  refine (H1.out _).mono ?_
  rintro e w1 ⟨X, g, sc, vs, rfl, hj1, hb1, hg1, hf1⟩
  have p0 : w1.cell? ⟨w.heap.size, 0, none⟩ = some (.int .i64 (sv : Int)) := (hb1.cell (p := ⟨w.heap.size, 0, none⟩) (by simp)).trans (blkCell (blkNew w _) 0)
  have p1 : w1.cell? ⟨w.heap.size, 1, none⟩ = some (.int .i64 (pt : Int)) := (hb1.cell (p := ⟨w.heap.size, 1, none⟩) (by simp)).trans (blkCell (blkNew w _) 1)
  have p2 : w1.cell? ⟨w.heap.size, 2, none⟩ = some (.int .i64 (win : Int)) := (hb1.cell (p := ⟨w.heap.size, 2, none⟩) (by simp)).trans (blkCell (blkNew w _) 2)
  have hf1' : ∀ b ∈ footJ X (.slice none 0 0) [] vs, w.heap.size ≤ b := fun b hb => Nat.le_trans (by simp) (hf1 b hb)
  have HJ1 := hide' (And.intro hj1 (And.intro (HB.out _ _ hb1) hf1'))
  clear hj1 hb1 hg1 hf1 hf1' HB H1
  go_wp2_with fail
  go_at_call 111
  refine (H2.out _).mono ?_
  rintro e w2 ⟨Xr, rrv, rvs, rfl, hm2, hr2⟩
  have hb2 : Below w.heap.size w w2 := HJ1.out.2.1.trans (hm2.bel.mono HJ1.out.2.1.size)
  have hsz1 := HJ1.out.2.1.size
  have hsz2 := hb2.size
  have fQ : ∀ b ∈ footR Xr (.slice none 0 0) [] rvs, w.heap.size ≤ b := fun b hb => by
    rcases mem_footR.1 hb with e | e | ⟨i, v, hv, _⟩ | e
    · rw [e]; exact Nat.le_trans hsz1 hm2.ge
    · cases e
    · simp at hv
    · exact Nat.le_trans hsz1 (hm2.gs b e)
  have HFin : Hid (∀ (W5 : World) (jv' : Value) (A : Obj), Row W5 lo 154 1 jv' (ds.length + 1) ((ds.map fun d => ptrV d.D) ++ [.pointer (some ⟨w2.heap.size, 0, none⟩)]) → ((w2.alloc (.cells #[.pointer (some ⟨X, 0, none⟩), .pointer (some ⟨Xr, 0, none⟩)] 201)).alloc A).grownBy W5 jv.ownBlock → (∃ d', JwAt (W5.setCell ⟨B, 1, none⟩ jv') lo B jv' (ds ++ [d']) T) ∧ Below lo w (W5.setCell ⟨B, 1, none⟩ jv') ∧ Kept95 w (W5.setCell ⟨B, 1, none⟩ jv') ∧ W5.heap[B]? = some (jwO jv)) := fun W5 jv' A h1 h2 => HS.out w2 W5 jv' A X Xr g sc rrv vs rvs hb2 (HJ1.out.1.below hm2.bel) hr2 HJ1.out.2.2 fQ hm2.nd h1 h2
  have wB2 := HWd.out w2 hb2
  unfold jwO at wB2
  have c1 := blkCell wB2 1
  have cf := blkFree wB2
  simp at c1
  have hBl2 := blkLt wB2
  have hrow : Hid (∀ A, Row ((w2.alloc (.cells #[.pointer (some ⟨X, 0, none⟩), .pointer (some ⟨Xr, 0, none⟩)] 201)).alloc A) lo 154 1 jv ds.length (ds.map fun d => ptrV d.D)) := fun A => HRow.out _ ((hb2.alloc hb2.size _).alloc (Nat.le_trans hb2.size (by simp)) _)
  clear hm2 hr2 fQ hb2 wB2 HS HJ1 H2 HRow HWd p0 p1 p2
  generalize hdn : ds.length = dn at *
  have HDN := hide' hdn
  clear hdn
  have hBn1 : ¬ B = w2.heap.size := by omega
  have hBn2 : ¬ B = w2.heap.size + 1 := by omega
  have hBl3 : B < w2.heap.size + 1 := by omega
  go_wp2_with (first
    | (go_at_call 99; refine (lawnum _ _).mono ?_; rintro e w3 ⟨rfl, hw3⟩; have hw4 := hw3.symm; clear hw3; subst hw4)
    | (at_builtin; refine wpList_append_row _ rfl _ _ _ rfl lo 154 i154 (.pointer none) 1 8 Tryz.underlying83 HI.out.1 HI.out.2.1 HI.out.2.2.1 HI.out.2.2.2 rfl (by omega) jv dn (ds.map fun d => ptrV d.D) rfl (by exact hrow.out _) ⟨w2.heap.size + 1, 0, none⟩ 1 1 [.pointer (some ⟨w2.heap.size, 0, none⟩)] rfl rfl (World.news_of_block (hs_new (by simp))) (by simp [Value.oneCell']) (by omega) (by unfold maxLen; omega) (by omega) (by simp; omega) ?_; intro rv' w9 hrow9 hg hat hall; obtain ⟨ua, uc, huf⟩ := hrow9.form; subst huf; have hfin := HFin.out w9 _ _ hrow9 hg; have HF2 := hide' hfin; have wB9 := hfin.2.2.2; unfold jwO at wB9; clear c1 cf; have c1 := blkCell wB9 1; have cf := blkFree wB9; simp at c1; have hBl9 := blkLt wB9; clear hrow9 hg hat hall hfin wB9)
    | fail)
  go_ret
  obtain ⟨⟨d', hd'⟩, f2, f3, _⟩ := HF2.out
  exact ⟨rfl, _, d', hd', f2, f3⟩
end Go.Proofs.YtlonjggfnleolaaGreatDoor


/-
  joined, by kind: Open, Say, Told, Sent.
-/

namespace Go.Proofs.YtlonjggfnleolaaGreatDoor
open Go.RowKit Go.Shelf
set_option linter.unusedVariables false

/-- A junction behind a step. -/
def JntTo (w w' : World) (lo : Nat) (d : JntI) (T : Nat) (OB : Obj) : Prop :=
  ∃ d', JntOk w' lo d' ∧ JntB T d' ∧ d'.D = d.D ∧ Chg d.foot w w' ∧ Later w d.foot d'.foot ∧ w'.heap[w.heap.size]? = some OB ∧ w'.heap[d.D]? = some (.cells #[ptrV d.X, ptrV d.Xr] 201 (0, 0))
def opO (k0 at' ck : Int) (kv : Value) (val cw : ByteArray) (ft : Bool) (cid ak : Int) (fv vv : Value) (wd : ByteArray) (g0 g1 g2 : Int) (s : ByteArray) (x y : Int) : Obj := .cells #[.int .i64 k0, .int .i64 at', .int .i64 ck, kv, .string val, .string cw, .bool ft, .int .i64 cid, .int .i64 ak, fv, vv, .string wd, .int .i64 g0, .int .i64 g1, .int .i64 g2, .string s, .int .i64 x, .int .i64 y] 95
theorem Half.same {w w1 w2 : World} {lo T : Nat} {d : JntI} {OB : Obj} {cv : Value} {cis : List CliI} {vs : List SvI} (h : Half w w1 lo d OB cv cis d.cs vs d.ss) (h0 : JntOk w lo d) (hB : JntB T d) (hlo : lo ≤ w.heap.size) (hb : Below w1.heap.size w1 w2) : JntTo w w2 lo d T OB := by
  obtain ⟨a1, a2, a3, a4, a5⟩ := h.whole h0 hlo (h.ref.below hb) h0.rap (Chg.of_below hb) (Later.refl _ _)
  exact ⟨_, a1, ⟨hB.pt1, hB.w6, hB.c4, hB.cli, hB.srv⟩, rfl, a2, a3, a4, a5⟩
theorem below_drew (w : World) : Below w.heap.size w w.drew := (Below.refl _ _).drew
theorem below_ob (w : World) (OB : Obj) : Below w.heap.size w (w.alloc OB).drew := ((Below.refl _ _).alloc (Nat.le_refl _) _).drew
theorem ob_there (w : World) (OB : Obj) : (w.alloc OB).drew.heap[w.heap.size]? = some OB := blkNew w OB

theorem joined9 (lo T : Nat) (d : JntI) (at' ck : Int) (kv : Value) (val cw : ByteArray) (ft : Bool) (cid ak : Int) (fv vv : Value) (wd : ByteArray) (g0 g1 g2 : Int) (s : ByteArray) (x y : Int) (w : World) (h : JntOk w lo d) (hB : JntB T d) (hlo : lo ≤ w.heap.size) :
    Calls Tryz.prog 71 #[ptrV d.D, Value.agg #[.int .i64 9, .int .i64 at', .int .i64 ck, kv, .string val, .string cw, .bool ft, .int .i64 cid, .int .i64 ak, fv, vv, .string wd, .int .i64 g0, .int .i64 g1, .int .i64 g2, .string s, .int .i64 x, .int .i64 y]] w fun e w' => e = .returned (.bool true) ∧ JntTo w w' lo d T (opO 9 at' ck kv val cw ft cid ak fv vv wd g0 g1 g2 s x y) := by
  generalize hOB : opO 9 at' ck kv val cw ft cid ak fv vv wd g0 g1 g2 s x y = OB
  have hb0 := below_ob w OB
  have hO := ob_there w OB
  have hcl := h.jun.cl
  have hrl := h.ref.cl
  by_cases hx : (x < 1 ∨ 3 < x) ∨ d.cs.length = 4
  · refine joined_open d.D d.X d.Xr at' ck kv val cw ft cid ak fv vv wd g0 g1 g2 s x y w 0 1 OB (fun w1 => Half w w1 lo d OB d.cv d.cis d.cs d.vs d.ss) (fun w2 => JntTo w w2 lo d T OB) hOB.symm h.blk ?_ ?_ (fun w1 h1 => ⟨h1.blk, h1.ob⟩) (fun w2 h2 => ?_)
    · refine (open_no (h.jun.below hb0) x (by rw [hcl]; exact hx)).mono ?_
      rintro e w1 ⟨rfl, hb⟩
      exact ⟨rfl, h.half hb0 hO ((h.jun.below hb0).below hb) (Chg.of_below hb) (Later.refl _ _)⟩
    · intro w1 h1
      refine (ropen_no (h1.ref.below (below_drew w1)) x (by rw [hrl]; exact hx)).mono ?_
      rintro e w2 ⟨rfl, rfl⟩
      exact ⟨rfl, h1.same h hB hlo (below_drew w1)⟩
    · obtain ⟨d', _, _, _, _, _, a1, a2⟩ := h2
      exact ⟨a2, a1⟩
  · have hx3 : x = 1 ∨ x = 2 ∨ x = 3 := by omega
    have hc4 := hB.c4
    have hlt : d.cs.length < 4 := by omega
    refine joined_open d.D d.X d.Xr at' ck kv val cw ft cid ak fv vv wd g0 g1 g2 s x y w (d.cs.length : Int) 0 OB (fun w1 => ∃ cv' v, Half w w1 lo d OB cv' (d.cis ++ [v]) (d.cs ++ [newC x]) d.vs d.ss) (fun w2 => JntTo w w2 lo d T OB) hOB.symm h.blk ?_ ?_ (fun w1 h1 => ?_) (fun w2 h2 => ?_)
    · refine (open_yes (h.jun.below hb0) x hx3 (by omega) hB.w6).mono ?_
      rintro e w1 ⟨rfl, cv', v, h1, h2, h3⟩
      exact ⟨by rw [hcl], cv', v, h.half hb0 hO h1 h2 h3⟩
    · rintro w1 ⟨cv', v, h1⟩
      refine (ropen_yes (h1.ref.below (below_drew w1)) x hx3 (by omega)).mono ?_
      rintro e w2 ⟨rfl, rcv', v', r1, r2, r3, r4, r5, r6⟩
      refine ⟨by rw [hrl], ?_⟩
      have k : Chg d.footQ w1 w2 := ((Chg.of_below (below_drew w1)).trans r2 (Later.refl _ _)).more (fun b hb => by
        rcases List.mem_cons.1 hb with e | e
        · exact mem_footR.2 (.inl e)
        · exact mem_footR.2 (.inr (.inl (mem_own e))))
      have l : Later w1 d.footQ (footR d.Xr rcv' (d.rcis ++ [v']) d.rvs) := fun b hb => by
        rcases mem_footR.1 hb with e | e | ⟨i, u, hu, e⟩ | e
        · exact .inl (mem_footR.2 (.inl e))
        · rcases r3 with r3 | ⟨g, r3, hg⟩
          · exact .inl (mem_footR.2 (.inr (.inl (r3.symm.trans e))))
          · rw [r3] at e; cases e; exact .inr hg
        · by_cases hi : i < d.rcis.length
          · rw [List.getElem?_append_left hi] at hu
            exact .inl (mem_footR.2 (.inr (.inr (.inl ⟨i, u, hu, e⟩))))
          · rw [List.getElem?_append_right (by omega)] at hu
            have hu2 := List.mem_of_getElem? hu
            simp at hu2
            subst hu2
            unfold RCliI.foot at e
            rw [r6] at e
            simp at e
            rcases e with e | e
            · rw [e]; exact .inr r4
            · rw [e]; exact .inr r5
        · exact .inl (mem_footR.2 (.inr (.inr (.inr e))))
      have hfr : ∀ b ∈ v'.foot, w1.heap.size ≤ b := fun b e => by
        unfold RCliI.foot at e
        rw [r6] at e
        simp at e
        rcases e with e | e
        · rw [e]; exact r4
        · rw [e]; exact r5
      have oldR : ∀ (i : Nat) (u : RCliI), d.rcis[i]? = some u → ∀ b ∈ u.foot, b < w1.heap.size := fun i u hu b hb => h1.ref.old (mem_footR.2 (.inr (.inr (.inl ⟨i, u, hu, hb⟩))))
      have look : ∀ (a : Nat) (u : RCliI), (d.rcis ++ [v'])[a]? = some u → d.rcis[a]? = some u ∨ (a = d.rcis.length ∧ u = v') := fun a u ha => by
        by_cases hl : a < d.rcis.length
        · rw [List.getElem?_append_left hl] at ha; exact .inl ha
        · have h2 := (List.getElem?_eq_some_iff.1 ha).1
          simp at h2
          rw [List.getElem?_append_right (by omega)] at ha
          have := List.mem_of_getElem? ha
          simp at this
          exact .inr ⟨by omega, this⟩
      have ra : RApart (d.rcis ++ [v']) d.rvs := ⟨fun i j u1 u2 hij h1' h2' b hb1 hb2 => by
        rcases look i u1 h1' with e1 | ⟨e1, e1'⟩
        · rcases look j u2 h2' with e2 | ⟨e2, e2'⟩
          · exact h.rap.cap i j u1 u2 hij e1 e2 b hb1 hb2
          · subst e2'
            have := oldR i u1 e1 b hb1
            have := hfr b hb2
            omega
        · subst e1'
          rcases look j u2 h2' with e2 | ⟨e2, e2'⟩
          · have := oldR j u2 e2 b hb2
            have := hfr b hb1
            omega
          · omega, h.rap.sap⟩
      obtain ⟨a1, a2, a3, a4, a5⟩ := h1.whole h hlo r1 ra k l
      refine ⟨_, a1, ⟨hB.pt1, hB.w6, by simp; omega, fun s' hs' => ?_, fun u hu => ?_⟩, rfl, a2, a3, a4, a5⟩
      · rcases List.mem_append.1 hs' with e | e
        · exact hB.cli s' e
        · simp at e
          rw [e]
          exact ⟨fun c hc => (by cases hc), hx3, Nat.zero_le _, Nat.zero_le _⟩
      · have h3 := hB.srv u hu
        refine ⟨h3.1, ?_⟩
        show u.next + roomC d.win (d.cs ++ [newC x]) + 4 * d.win * (4 - (d.cs ++ [newC x]).length) ≤ 96
        rw [roomC_snoc, List.length_append, List.length_singleton]
        have e0 : rightN (newC x).waits = 0 := rfl
        rw [e0]
        have h4 := h3.2
        obtain ⟨m, hm⟩ : ∃ m, 4 - d.cs.length = m + 1 := ⟨4 - d.cs.length - 1, by omega⟩
        rw [hm, Nat.mul_succ] at h4
        rw [show 4 - (d.cs.length + 1) = m by omega]
        omega
    · obtain ⟨cv', v, h1⟩ := h1
      exact ⟨h1.blk, h1.ob⟩
    · obtain ⟨d', _, _, _, _, _, a1, a2⟩ := h2
      exact ⟨a2, a1⟩
theorem JntTo.more {w w' : World} {lo : Nat} {d : JntI} {T T' : Nat} {OB : Obj} (h : JntTo w w' lo d T OB) (hT : T ≤ T') : JntTo w w' lo d T' OB := by
  obtain ⟨d', a1, a2, a3⟩ := h
  exact ⟨d', a1, a2.more hT, a3⟩
theorem getNat {α : Type} {l : List α} {x : Int} (h : ¬ (x < 0 ∨ (l.length : Int) ≤ x)) : ∃ (i : Nat) (a : α), x = (i : Int) ∧ l[i]? = some a := by
  have hi : x.toNat < l.length := by omega
  exact ⟨x.toNat, _, by omega, List.getElem?_eq_getElem hi⟩

theorem joined11 (lo T : Nat) (d : JntI) (at' ck : Int) (kv : Value) (val cw : ByteArray) (ft : Bool) (cid ak : Int) (fv vv : Value) (wd : ByteArray) (g0 g1 g2 : Int) (s : ByteArray) (x y : Int) (w : World) (h : JntOk w lo d) (hB : JntB T d) (hlo : lo ≤ w.heap.size) :
    Calls Tryz.prog 71 #[ptrV d.D, Value.agg #[.int .i64 11, .int .i64 at', .int .i64 ck, kv, .string val, .string cw, .bool ft, .int .i64 cid, .int .i64 ak, fv, vv, .string wd, .int .i64 g0, .int .i64 g1, .int .i64 g2, .string s, .int .i64 x, .int .i64 y]] w fun e w' => e = .returned (.bool true) ∧ JntTo w w' lo d T (opO 11 at' ck kv val cw ft cid ak fv vv wd g0 g1 g2 s x y) := by
  generalize hOB : opO 11 at' ck kv val cw ft cid ak fv vv wd g0 g1 g2 s x y = OB
  have hb0 := below_ob w OB
  have hO := ob_there w OB
  have hcl := h.jun.cl
  have hrl := h.ref.cl
  have hc4 := hB.c4
  by_cases hx : x < 0 ∨ (d.cs.length : Int) ≤ x
  · refine joined_told d.D d.X d.Xr at' ck kv val cw ft cid ak fv vv wd g0 g1 g2 s x y w ⟨#[]⟩ 1 OB (fun w1 => Half w w1 lo d OB d.cv d.cis d.cs d.vs d.ss) (fun w2 => JntTo w w2 lo d T OB) hOB.symm h.blk ?_ ?_ (fun w1 h1 => ⟨h1.blk, h1.ob⟩) (fun w2 h2 => ?_)
    · refine (told_no (h.jun.below hb0) (by omega) x (by rw [hcl]; exact hx)).mono ?_
      rintro e w1 ⟨rfl, rfl⟩
      exact ⟨rfl, h.half hb0 hO (h.jun.below hb0) (Chg.refl _ _) (Later.refl _ _)⟩
    · intro w1 h1
      refine (rtold_no (h1.ref.below (below_drew w1)) (by omega) x (by rw [hrl]; exact hx)).mono ?_
      rintro e w2 ⟨rfl, rfl⟩
      exact ⟨rfl, h1.same h hB hlo (below_drew w1)⟩
    · obtain ⟨d', _, _, _, _, _, a1, a2⟩ := h2
      exact ⟨a2, a1⟩
  · obtain ⟨i, s1, rfl, hs1⟩ := getNat hx
    have hil := (List.getElem?_eq_some_iff.1 hs1).1
    obtain ⟨v, hv⟩ : ∃ v, d.cis[i]? = some v := ⟨_, List.getElem?_eq_getElem (by omega)⟩
    obtain ⟨rv, hrv⟩ : ∃ v, d.rcis[i]? = some v := ⟨_, List.getElem?_eq_getElem (by omega)⟩
    refine joined_told d.D d.X d.Xr at' ck kv val cw ft cid ak fv vv wd g0 g1 g2 s (i : Int) y w (mkB s1.told) 0 OB (fun w1 => Half w w1 lo d OB d.cv d.cis d.cs d.vs d.ss) (fun w2 => JntTo w w2 lo d T OB) hOB.symm h.blk ?_ ?_ (fun w1 h1 => ⟨h1.blk, h1.ob⟩) (fun w2 h2 => ?_)
    · refine (told_yes (h.jun.below hb0) (by omega) hv hs1).mono ?_
      rintro e w1 ⟨rfl, h1, h2⟩
      exact ⟨rfl, h.half hb0 hO h1 h2 (Later.refl _ _)⟩
    · intro w1 h1
      refine (rtold_yes (h1.ref.below (below_drew w1)) (by omega) hrv hs1).mono ?_
      rintro e w2 ⟨rfl, rfl⟩
      exact ⟨rfl, h1.same h hB hlo (below_drew w1)⟩
    · obtain ⟨d', _, _, _, _, _, a1, a2⟩ := h2
      exact ⟨a2, a1⟩
theorem joined12 (lo T : Nat) (d : JntI) (at' ck : Int) (kv : Value) (val cw : ByteArray) (ft : Bool) (cid ak : Int) (fv vv : Value) (wd : ByteArray) (g0 g1 g2 : Int) (s : ByteArray) (x y : Int) (w : World) (h : JntOk w lo d) (hB : JntB T d) (hlo : lo ≤ w.heap.size) :
    Calls Tryz.prog 71 #[ptrV d.D, Value.agg #[.int .i64 12, .int .i64 at', .int .i64 ck, kv, .string val, .string cw, .bool ft, .int .i64 cid, .int .i64 ak, fv, vv, .string wd, .int .i64 g0, .int .i64 g1, .int .i64 g2, .string s, .int .i64 x, .int .i64 y]] w fun e w' => e = .returned (.bool true) ∧ JntTo w w' lo d T (opO 12 at' ck kv val cw ft cid ak fv vv wd g0 g1 g2 s x y) := by
  generalize hOB : opO 12 at' ck kv val cw ft cid ak fv vv wd g0 g1 g2 s x y = OB
  have hb0 := below_ob w OB
  have hO := ob_there w OB
  have hsl := h.ref.sl
  have hvl := h.jun.len
  have hrl := h.ref.len
  by_cases hx : x < 0 ∨ (d.ss.length : Int) ≤ x
  · refine joined_sent d.D d.X d.Xr at' ck kv val cw ft cid ak fv vv wd g0 g1 g2 s x y w ⟨#[]⟩ 1 OB (fun w1 => Half w w1 lo d OB d.cv d.cis d.cs d.vs d.ss) (fun w2 => JntTo w w2 lo d T OB) hOB.symm h.blk ?_ ?_ (fun w1 h1 => ⟨h1.blk, h1.ob⟩) (fun w2 h2 => ?_)
    · refine (sent_no (h.jun.below hb0) x (by rw [← hsl]; exact hx)).mono ?_
      rintro e w1 ⟨rfl, rfl⟩
      exact ⟨rfl, h.half hb0 hO (h.jun.below hb0) (Chg.refl _ _) (Later.refl _ _)⟩
    · intro w1 h1
      refine (rsent_no (h1.ref.below (below_drew w1)) x (by rw [← hsl]; exact hx)).mono ?_
      rintro e w2 ⟨rfl, rfl⟩
      exact ⟨rfl, h1.same h hB hlo (below_drew w1)⟩
    · obtain ⟨d', _, _, _, _, _, a1, a2⟩ := h2
      exact ⟨a2, a1⟩
  · obtain ⟨i, s1, rfl, hs1⟩ := getNat hx
    have hil := (List.getElem?_eq_some_iff.1 hs1).1
    obtain ⟨v, hv⟩ : ∃ v, d.vs[i]? = some v := ⟨_, List.getElem?_eq_getElem (by omega)⟩
    obtain ⟨rv, hrv⟩ : ∃ v, d.rvs[i]? = some v := ⟨_, List.getElem?_eq_getElem (by omega)⟩
    refine joined_sent d.D d.X d.Xr at' ck kv val cw ft cid ak fv vv wd g0 g1 g2 s (i : Int) y w (mkB s1.sent) 0 OB (fun w1 => Half w w1 lo d OB d.cv d.cis d.cs d.vs d.ss) (fun w2 => JntTo w w2 lo d T OB) hOB.symm h.blk ?_ ?_ (fun w1 h1 => ⟨h1.blk, h1.ob⟩) (fun w2 h2 => ?_)
    · refine (sent_yes (h.jun.below hb0) hv hs1).mono ?_
      rintro e w1 ⟨rfl, h1, h2⟩
      exact ⟨rfl, h.half hb0 hO h1 h2 (Later.refl _ _)⟩
    · intro w1 h1
      refine (rsent_yes (h1.ref.below (below_drew w1)) hrv hs1).mono ?_
      rintro e w2 ⟨rfl, rfl⟩
      exact ⟨rfl, h1.same h hB hlo (below_drew w1)⟩
    · obtain ⟨d', _, _, _, _, _, a1, a2⟩ := h2
      exact ⟨a2, a1⟩

theorem serveF_d (sv pt win : Nat) : ∀ (f : Nat) (s : CliS) (ss : List SrvS), (serveF sv pt win f s ss).1.d = s.d := by
  intro f
  induction f with
  | zero => intro s ss; rfl
  | succ f ih =>
    intro s ss
    unfold serveF
    split
    · split
      · rfl
      · rw [ih]; rfl
    · rfl
theorem saidS_d {sv pt win : Nat} {s : CliS} {ss : List SrvS} {piece : List UInt8} : (saidS sv pt win s ss piece).1.d = s.d := by
  unfold saidS serveS
  rw [serveF_d]
  rfl
theorem joined10 (lo T : Nat) (d : JntI) (at' ck : Int) (kv : Value) (val cw : ByteArray) (ft : Bool) (cid ak : Int) (fv vv : Value) (wd : ByteArray) (g0 g1 g2 : Int) (s : ByteArray) (x y : Int) (w : World) (h : JntOk w lo d) (hB : JntB T d) (hlo : lo ≤ w.heap.size) (hT : T + 1000 * s.size ≤ 100000000000) :
    Calls Tryz.prog 71 #[ptrV d.D, Value.agg #[.int .i64 10, .int .i64 at', .int .i64 ck, kv, .string val, .string cw, .bool ft, .int .i64 cid, .int .i64 ak, fv, vv, .string wd, .int .i64 g0, .int .i64 g1, .int .i64 g2, .string s, .int .i64 x, .int .i64 y]] w fun e w' => e = .returned (.bool true) ∧ JntTo w w' lo d (T + 1000 * s.size) (opO 10 at' ck kv val cw ft cid ak fv vv wd g0 g1 g2 s x y) := by
  generalize hOB : opO 10 at' ck kv val cw ft cid ak fv vv wd g0 g1 g2 s x y = OB
  have hb0 := below_ob w OB
  have hO := ob_there w OB
  have hcl := h.jun.cl
  have hrl := h.ref.cl
  have hc4 := hB.c4
  by_cases hx : x < 0 ∨ (d.cs.length : Int) ≤ x
  · refine joined_say d.D d.X d.Xr at' ck kv val cw ft cid ak fv vv wd g0 g1 g2 s x y w 1 OB (fun w1 => Half w w1 lo d OB d.cv d.cis d.cs d.vs d.ss) (fun w2 => JntTo w w2 lo d (T + 1000 * s.size) OB) hOB.symm h.blk ?_ ?_ (fun w1 h1 => ⟨h1.blk, h1.ob⟩) (fun w2 h2 => ?_)
    · refine (say_no (h.jun.below hb0) (by omega) x s (by rw [hcl]; exact hx)).mono ?_
      rintro e w1 ⟨rfl, rfl⟩
      exact ⟨rfl, h.half hb0 hO (h.jun.below hb0) (Chg.refl _ _) (Later.refl _ _)⟩
    · intro w1 h1
      refine (rsay_no (h1.ref.below (below_drew w1)) (by omega) x s (by rw [hrl]; exact hx)).mono ?_
      rintro e w2 ⟨rfl, rfl⟩
      exact ⟨rfl, (h1.same h hB hlo (below_drew w1)).more (by omega)⟩
    · obtain ⟨d', _, _, _, _, _, a1, a2⟩ := h2
      exact ⟨a2, a1⟩
  · obtain ⟨i, s1, rfl, hs1⟩ := getNat hx
    have hil := (List.getElem?_eq_some_iff.1 hs1).1
    obtain ⟨v, hv⟩ : ∃ v, d.cis[i]? = some v := ⟨_, List.getElem?_eq_getElem (by omega)⟩
    obtain ⟨rv, hrv⟩ : ∃ v, d.rcis[i]? = some v := ⟨_, List.getElem?_eq_getElem (by omega)⟩
    obtain ⟨c1, c2, c3, c4⟩ := hB.cli s1 (List.mem_of_getElem? hs1)
    have hroom := roomC_le d.win d.cs i s1 hs1
    obtain ⟨N, hN⟩ : ∃ N, N = 96 - (roomC d.win d.cs - 4 * (d.win - rightN s1.waits) + 4 * d.win * (4 - d.cs.length)) := ⟨_, rfl⟩
    have hrest : roomC d.win d.cs + 4 * d.win * (4 - d.cs.length) ≤ 96 := by
      have hs1' := h.ref.s1
      have hsl := h.ref.sl
      have := (hB.srv (d.ss[0]'(by omega)) (List.getElem_mem _)).2
      omega
    have htk := takeS_len s1.st s.data.toList
    rw [len_size] at htk
    have hbd : Bd d.win N (T + 1000 * s.size) (tookC s1 s.data.toList) d.ss := by
      refine ⟨?_, c3, fun u hu => ?_⟩
      · show s1.told.length + 1000 * (s1.waits.length + (takeS s1.st s.data.toList).held.length) ≤ T + 1000 * s.size
        omega
      · have h3 := hB.srv u hu
        refine ⟨h3.1, ?_⟩
        show u.next + 4 * (d.win - rightN s1.waits) ≤ N
        omega
    have hw6 := hB.w6
    have hwo : ∀ s' ∈ d.cs, WaitsOk s' ∧ s'.waits.length ≤ 1000 := fun s' hs' => ⟨(hB.cli s' hs').1, by have := (hB.cli s' hs').2.2.1; omega⟩
    have hSd := saidS_d (sv := d.sv) (pt := d.pt) (win := d.win) (s := s1) (ss := d.ss) (piece := s.data.toList)
    have hSw := saidS_waits (sv := d.sv) (pt := d.pt) (win := d.win) (s := s1) (ss := d.ss) (piece := s.data.toList) c1
    generalize hsd : saidS d.sv d.pt d.win s1 d.ss s.data.toList = sd at *
    refine joined_say d.D d.X d.Xr at' ck kv val cw ft cid ak fv vv wd g0 g1 g2 s (i : Int) y w 0 OB (fun w1 => (∃ v' vs', Half w w1 lo d OB d.cv (d.cis.set i v') (d.cs.set i sd.1) vs' sd.2) ∧ Bd d.win N (T + 1000 * s.size) sd.1 sd.2) (fun w2 => JntTo w w2 lo d (T + 1000 * s.size) OB) hOB.symm h.blk ?_ ?_ (fun w1 h1 => ?_) (fun w2 h2 => ?_)
    · refine (say_yes (h.jun.below hb0) (by omega) hv hs1 s (N := N) (T := T + 1000 * s.size) (by omega) hT (by omega) hbd (by omega)).mono ?_
      rw [hsd]
      rintro e w1 ⟨rfl, v', vs', h1, h2, h3, h4⟩
      exact ⟨rfl, ⟨v', vs', h.half hb0 hO h1 h3 h4⟩, h2⟩
    · rintro w1 ⟨⟨v', vs', h1⟩, hbd2⟩
      refine (rsay_yes (h1.ref.below (below_drew w1)) h.rap (by omega) hrv hs1 s (N := N) (T := T + 1000 * s.size) (by omega) hT (by omega) hB.pt1 c2 hwo hbd (by omega)).mono ?_
      rw [hsd]
      rintro e w2 ⟨rfl, rv', r1, r2, r3, r4⟩
      refine ⟨rfl, ?_⟩
      have k : Chg d.footQ w1 w2 := (Chg.of_below (below_drew w1)).trans r3 (Later.refl _ _)
      obtain ⟨a1, a2, a3, a4, a5⟩ := h1.whole h hlo r1 r2 k r4
      refine ⟨_, a1, ⟨hB.pt1, hB.w6, by simp; omega, fun s' hs' => ?_, fun u hu => ?_⟩, rfl, a2, a3, a4, a5⟩
      · rcases List.mem_or_eq_of_mem_set hs' with e | e
        · have h3 := hB.cli s' e
          exact ⟨h3.1, h3.2.1, h3.2.2.1, by have := h3.2.2.2; omega⟩
        · rw [e]
          exact ⟨hSw, by rw [hSd]; exact c2, hbd2.wl, hbd2.told⟩
      · have h3 := hbd2.srv u hu
        refine ⟨h3.1, ?_⟩
        show u.next + roomC d.win (d.cs.set i sd.1) + 4 * d.win * (4 - (d.cs.set i sd.1).length) ≤ 96
        rw [List.length_set]
        have h4 := roomC_set d.win d.cs i s1 sd.1 hs1
        have h5 := h3.2
        omega
    · obtain ⟨⟨v', vs', h1⟩, _⟩ := h1
      exact ⟨h1.blk, h1.ob⟩
    · obtain ⟨d', _, _, _, _, _, a1, a2⟩ := h2
      exact ⟨a2, a1⟩
theorem joined_law (k0 : Int) (h9 : 9 ≤ k0) (h12 : k0 ≤ 12) (lo T : Nat) (d : JntI) (at' ck : Int) (kv : Value) (val cw : ByteArray) (ft : Bool) (cid ak : Int) (fv vv : Value) (wd : ByteArray) (g0 g1 g2 : Int) (s : ByteArray) (x y : Int) (w : World) (h : JntOk w lo d) (hB : JntB T d) (hlo : lo ≤ w.heap.size) (hT : T + 1000 * s.size ≤ 100000000000) :
    Calls Tryz.prog 71 #[ptrV d.D, Value.agg #[.int .i64 k0, .int .i64 at', .int .i64 ck, kv, .string val, .string cw, .bool ft, .int .i64 cid, .int .i64 ak, fv, vv, .string wd, .int .i64 g0, .int .i64 g1, .int .i64 g2, .string s, .int .i64 x, .int .i64 y]] w fun e w' => e = .returned (.bool true) ∧ JntTo w w' lo d (T + 1000 * s.size) (opO k0 at' ck kv val cw ft cid ak fv vv wd g0 g1 g2 s x y) := by
  rcases (show k0 = 9 ∨ k0 = 10 ∨ k0 = 11 ∨ k0 = 12 by omega) with rfl | rfl | rfl | rfl
  · exact (joined9 lo T d at' ck kv val cw ft cid ak fv vv wd g0 g1 g2 s x y w h hB hlo).mono (fun e w' hw => ⟨hw.1, hw.2.more (by omega)⟩)
  · exact joined10 lo T d at' ck kv val cw ft cid ak fv vv wd g0 g1 g2 s x y w h hB hlo hT
  · exact (joined11 lo T d at' ck kv val cw ft cid ak fv vv wd g0 g1 g2 s x y w h hB hlo).mono (fun e w' hw => ⟨hw.1, hw.2.more (by omega)⟩)
  · exact (joined12 lo T d at' ck kv val cw ft cid ak fv vv wd g0 g1 g2 s x y w h hB hlo).mono (fun e w' hw => ⟨hw.1, hw.2.more (by omega)⟩)
end Go.Proofs.YtlonjggfnleolaaGreatDoor


/-
  step: a junction's.
-/

namespace Go.Proofs.YtlonjggfnleolaaGreatDoor
open Go.RowKit Go.Shelf
set_option linter.unusedVariables false

set_option maxRecDepth 20000 in
set_option maxHeartbeats 4000000 in
theorem step_join (k : Int) (hk9 : 9 ≤ k) (hk15 : k ≤ 15) (at' ck : Int) (kv : Value) (val cw : ByteArray) (ft : Bool) (cid ak : Int) (fv vv : Value) (wd : ByteArray) (g0 g1 g2 : Int) (s : ByteArray) (x y : Int) (w : World) (B g rn rc : Nat) (Pj : Value) (cB : w.cell? ⟨B, 1, none⟩ = some (.slice (some ⟨g, 0, none⟩) rn rc)) (hrn : 0 < rn) (hcap : rn ≤ rc) (hrm : rn ≤ 1000000000000) (hel : w.cell? ⟨g, pickI at' rn, none⟩ = some Pj) (Post : World → Prop)
    (hRead : Calls Tryz.prog 71 #[Pj, Value.agg #[.int .i64 k, .int .i64 at', .int .i64 ck, kv, .string val, .string cw, .bool ft, .int .i64 cid, .int .i64 ak, fv, vv, .string wd, .int .i64 g0, .int .i64 g1, .int .i64 g2, .string s, .int .i64 x, .int .i64 y]] (w.alloc (.cells #[.int .i64 k, .int .i64 at', .int .i64 ck, kv, .string val, .string cw, .bool ft, .int .i64 cid, .int .i64 ak, fv, vv, .string wd, .int .i64 g0, .int .i64 g1, .int .i64 g2, .string s, .int .i64 x, .int .i64 y] 95)).drew fun e w' => e = .returned (.bool true) ∧ Post w')
    (hPost : ∀ w', Post w' → w'.cell? ⟨B, 1, none⟩ = some (.slice (some ⟨g, 0, none⟩) rn rc) ∧ w'.cell? ⟨g, pickI at' rn, none⟩ = some Pj ∧ w'.heap[w.heap.size]? = some (.cells #[.int .i64 k, .int .i64 at', .int .i64 ck, kv, .string val, .string cw, .bool ft, .int .i64 cid, .int .i64 ak, fv, vv, .string wd, .int .i64 g0, .int .i64 g1, .int .i64 g2, .string s, .int .i64 x, .int .i64 y] 95 (0, 0))) :
    Calls Tryz.prog 40 #[.pointer (some ⟨B, 0, none⟩), Value.agg #[.int .i64 k, .int .i64 at', .int .i64 ck, kv, .string val, .string cw, .bool ft, .int .i64 cid, .int .i64 ak, fv, vv, .string wd, .int .i64 g0, .int .i64 g1, .int .i64 g2, .string s, .int .i64 x, .int .i64 y]] w fun e w' => e = .returned (.bool true) ∧ Post w' := by
  have HR := hide' hRead
  have HP := hide' hPost
  have hj := pickI_lt at' hrn
  have HPk := hide' (fun W => pick_law at' rn W)
  have hk1 : ¬ k ≤ 3 := by omega
  have hk1' : 1 ≤ k := by omega
  have hk4 : ¬ k = 4 := by omega
  have hk5 : 5 ≤ k := by omega
  have hk7 : ¬ k ≤ 7 := by omega
  have hk8 : ¬ k = 8 := by omega
  have hBl : B < w.heap.size := World.block_lt_of_cell? w ⟨B, 1, none⟩ cB
  have hgl : g < w.heap.size := World.block_lt_of_cell? w ⟨g, _, none⟩ hel
  have hBn : ¬ B = w.heap.size := by omega
  have hgn : ¬ g = w.heap.size := by omega
  have hrn' : (0 : Int) < (rn : Int) := by omega
  generalize hpk : pickI at' rn = j at *
  have HPK := hide' hpk
  clear hRead hPost hpk
  go_enter Tryz.func40, Tryz.ntmps40
  go_wp2_with fail
  have hj0 : (0 : Int) ≤ (j : Int) := by omega
  have hj1 : (j : Int) < (rn : Int) := by omega
  obtain ⟨CS, hCS⟩ : ∃ CS : List Value, CS = [.int .i64 k, .int .i64 at', .int .i64 ck, kv, .string val, .string cw, .bool ft, .int .i64 cid, .int .i64 ak, fv, vv, .string wd, .int .i64 g0, .int .i64 g1, .int .i64 g2, .string s, .int .i64 x, .int .i64 y] := ⟨_, rfl⟩
  have HI : Hid ((Tryz.prog.info? 95).map (·.size) = some CS.length) := by rw [hCS]; exact (show (Tryz.prog.info? 95).map (·.size) = some 18 by kernel_rfl)
  have HAg := hide' (show Value.agg CS.toArray = Value.agg #[.int .i64 k, .int .i64 at', .int .i64 ck, kv, .string val, .string cw, .bool ft, .int .i64 cid, .int .i64 ak, fv, vv, .string wd, .int .i64 g0, .int .i64 g1, .int .i64 g2, .string s, .int .i64 x, .int .i64 y] by rw [hCS])
  have HRg : Hid (∀ W : World, W.heap[w.heap.size]? = some (.cells #[.int .i64 k, .int .i64 at', .int .i64 ck, kv, .string val, .string cw, .bool ft, .int .i64 cid, .int .i64 ak, fv, vv, .string wd, .int .i64 g0, .int .i64 g1, .int .i64 g2, .string s, .int .i64 x, .int .i64 y] 95 (0, 0)) → W.rangeAt w.heap.size 0 CS ∧ W.cell? ⟨w.heap.size, 1, none⟩ = some (.int .i64 at')) := fun W hW => ⟨by rw [hCS]; intro m v hv; rw [Nat.zero_add]; refine (blkCell hW m).trans ?_; rw [List.getElem?_toArray]; exact hv, blkCell hW 1⟩
  have hx0 := HRg.out _ (blkNew w _)
  have cB0 := (Below.heap_alloc w (.cells #[.int .i64 k, .int .i64 at', .int .i64 ck, kv, .string val, .string cw, .bool ft, .int .i64 cid, .int .i64 ak, fv, vv, .string wd, .int .i64 g0, .int .i64 g1, .int .i64 g2, .string s, .int .i64 x, .int .i64 y] 95) B hBl)
  have cB1 := (World.cell?_of_block (a := ⟨B, 1, none⟩) cB0).trans cB
  have cg0 := (Below.heap_alloc w (.cells #[.int .i64 k, .int .i64 at', .int .i64 ck, kv, .string val, .string cw, .bool ft, .int .i64 cid, .int .i64 ak, fv, vv, .string wd, .int .i64 g0, .int .i64 g1, .int .i64 g2, .string s, .int .i64 x, .int .i64 y] 95) g hgl)
  have cg1 := (World.cell?_of_block (a := ⟨g, j, none⟩) cg0).trans hel
  clear hCS cB0 cg0
  generalize w.alloc (.cells #[.int .i64 k, .int .i64 at', .int .i64 ck, kv, .string val, .string cw, .bool ft, .int .i64 cid, .int .i64 ak, fv, vv, .string wd, .int .i64 g0, .int .i64 g1, .int .i64 g2, .string s, .int .i64 x, .int .i64 y] 95) = w0 at *
  refine wp_region_held_drew (S := fun W' => W'.cell? ⟨B, 1, none⟩ = some (.slice (some ⟨g, 0, none⟩) rn rc) ∧ W'.cell? ⟨w.heap.size, 1, none⟩ = some (.int .i64 at') ∧ W'.cell? ⟨g, j, none⟩ = some Pj ∧ Hid (W'.rangeAt w.heap.size 0 CS)) (by kernel_rfl) ⟨cB1, hx0.2, cg1, hx0.1⟩ (fun hHeld => ?_)
  refine wpAnyH_take (i := 0) (oi := { dst := some 83, op := Op.move (Operand.tmp 0), type := 81, pos := "law.go:326", after := #[], guard := none }) (v := ?_) rfl (by kernel_rfl) (by kernel_rfl) (by kernel_rfl) (fun _ _ _ h => h) (Or.inl ⟨by rfl, ?_⟩) (by assumption) ?_
  rotate_left 1
  · (intro w hSw; (try dsimp only at hSw); obtain ⟨sw0, sw1, sw2, sw3⟩ := hSw; go_simp; try with_reducible rfl)
  try simp only [Act.put, List.setIfInBounds_toArray, List.set_cons_zero, List.set_cons_succ]
  refine wpAnyH_take (i := 1) (oi := { dst := some 84, op := Op.nilCheck (Operand.tmp 83), type := 0, pos := "law.go:326", after := #[{ on := 0, ground := Ground.data }], guard := none }) (v := ?_) rfl (by kernel_rfl) (by kernel_rfl) (by kernel_rfl) (fun _ _ _ h => h) (Or.inl ⟨by rfl, ?_⟩) (by assumption) ?_
  rotate_left 1
  · (intro w hSw; (try dsimp only at hSw); obtain ⟨sw0, sw1, sw2, sw3⟩ := hSw; go_simp; try with_reducible rfl)
  try simp only [Act.put, List.setIfInBounds_toArray, List.set_cons_zero, List.set_cons_succ]
  refine wpAnyH_take (i := 2) (oi := { dst := some 85, op := Op.fieldAddr 87 (Operand.tmp 84) 1, type := 0, pos := "law.go:326", after := #[{ on := 1, ground := Ground.data }], guard := none }) (v := ?_) rfl (by kernel_rfl) (by kernel_rfl) (by kernel_rfl) (fun _ _ _ h => h) (Or.inl ⟨by rfl, ?_⟩) (by assumption) ?_
  rotate_left 1
  · (intro w hSw; (try dsimp only at hSw); obtain ⟨sw0, sw1, sw2, sw3⟩ := hSw; go_simp; try with_reducible rfl)
  try simp only [Act.put, List.setIfInBounds_toArray, List.set_cons_zero, List.set_cons_succ]
  refine wpAnyH_take (i := 3) (oi := { dst := some 86, op := Op.load 83 (Operand.tmp 85), type := 83, pos := "law.go:326", after := #[{ on := 2, ground := Ground.data }], guard := none }) (v := ?_) rfl (by kernel_rfl) (by kernel_rfl) (by kernel_rfl) (fun _ _ _ h => h) (Or.inl ⟨by rfl, ?_⟩) (by assumption) ?_
  rotate_left 1
  · (intro w hSw; (try dsimp only at hSw); obtain ⟨sw0, sw1, sw2, sw3⟩ := hSw; go_simp; try with_reducible rfl)
  try simp only [Act.put, List.setIfInBounds_toArray, List.set_cons_zero, List.set_cons_succ]
  refine wpAnyH_take (i := 4) (oi := { dst := some 87, op := Op.fieldAddr 95 (Operand.tmp 3) 1, type := 0, pos := "law.go:326", after := #[], guard := none }) (v := ?_) rfl (by kernel_rfl) (by kernel_rfl) (by kernel_rfl) (fun _ _ _ h => h) (Or.inl ⟨by rfl, ?_⟩) (by assumption) ?_
  rotate_left 1
  · (intro w hSw; (try dsimp only at hSw); obtain ⟨sw0, sw1, sw2, sw3⟩ := hSw; go_simp; try with_reducible rfl)
  try simp only [Act.put, List.setIfInBounds_toArray, List.set_cons_zero, List.set_cons_succ]
  refine wpAnyH_take (i := 5) (oi := { dst := some 88, op := Op.load 3 (Operand.tmp 87), type := 3, pos := "law.go:326", after := #[{ on := 4, ground := Ground.data }], guard := none }) (v := ?_) rfl (by kernel_rfl) (by kernel_rfl) (by kernel_rfl) (fun _ _ _ h => h) (Or.inl ⟨by rfl, ?_⟩) (by assumption) ?_
  rotate_left 1
  · (intro w hSw; (try dsimp only at hSw); obtain ⟨sw0, sw1, sw2, sw3⟩ := hSw; go_simp; try with_reducible rfl)
  try simp only [Act.put, List.setIfInBounds_toArray, List.set_cons_zero, List.set_cons_succ]
  refine wpAnyH_take (i := 6) (oi := { dst := some 89, op := Op.move (Operand.tmp 0), type := 81, pos := "law.go:326", after := #[], guard := none }) (v := ?_) rfl (by kernel_rfl) (by kernel_rfl) (by kernel_rfl) (fun _ _ _ h => h) (Or.inl ⟨by rfl, ?_⟩) (by assumption) ?_
  rotate_left 1
  · (intro w hSw; (try dsimp only at hSw); obtain ⟨sw0, sw1, sw2, sw3⟩ := hSw; go_simp; try with_reducible rfl)
  try simp only [Act.put, List.setIfInBounds_toArray, List.set_cons_zero, List.set_cons_succ]
  refine wpAnyH_take (i := 7) (oi := { dst := some 90, op := Op.nilCheck (Operand.tmp 89), type := 0, pos := "law.go:326", after := #[{ on := 6, ground := Ground.data }], guard := none }) (v := ?_) rfl (by kernel_rfl) (by kernel_rfl) (by kernel_rfl) (fun _ _ _ h => h) (Or.inl ⟨by rfl, ?_⟩) (by assumption) ?_
  rotate_left 1
  · (intro w hSw; (try dsimp only at hSw); obtain ⟨sw0, sw1, sw2, sw3⟩ := hSw; go_simp; try with_reducible rfl)
  try simp only [Act.put, List.setIfInBounds_toArray, List.set_cons_zero, List.set_cons_succ]
  refine wpAnyH_take (i := 8) (oi := { dst := some 91, op := Op.fieldAddr 87 (Operand.tmp 90) 1, type := 0, pos := "law.go:326", after := #[{ on := 7, ground := Ground.data }], guard := none }) (v := ?_) rfl (by kernel_rfl) (by kernel_rfl) (by kernel_rfl) (fun _ _ _ h => h) (Or.inl ⟨by rfl, ?_⟩) (by assumption) ?_
  rotate_left 1
  · (intro w hSw; (try dsimp only at hSw); obtain ⟨sw0, sw1, sw2, sw3⟩ := hSw; go_simp; try with_reducible rfl)
  try simp only [Act.put, List.setIfInBounds_toArray, List.set_cons_zero, List.set_cons_succ]
  refine wpAnyH_take (i := 9) (oi := { dst := some 92, op := Op.load 83 (Operand.tmp 91), type := 83, pos := "law.go:326", after := #[{ on := 8, ground := Ground.data }], guard := none }) (v := ?_) rfl (by kernel_rfl) (by kernel_rfl) (by kernel_rfl) (fun _ _ _ h => h) (Or.inl ⟨by rfl, ?_⟩) (by assumption) ?_
  rotate_left 1
  · (intro w hSw; (try dsimp only at hSw); obtain ⟨sw0, sw1, sw2, sw3⟩ := hSw; go_simp; try with_reducible rfl)
  try simp only [Act.put, List.setIfInBounds_toArray, List.set_cons_zero, List.set_cons_succ]
  refine wpAnyH_take (i := 10) (oi := { dst := some 93, op := Op.call { callee := Callee.builtin Builtin.len, args := #[Operand.tmp 92], argTypes := #[83] }, type := 3, pos := "law.go:326", after := #[{ on := 9, ground := Ground.data }], guard := none }) (v := ?_) rfl (by kernel_rfl) (by kernel_rfl) (by kernel_rfl) (fun _ _ _ h => h) (Or.inl ⟨by rfl, ?_⟩) (by assumption) ?_
  rotate_left 1
  · (intro w hSw; (try dsimp only at hSw); obtain ⟨sw0, sw1, sw2, sw3⟩ := hSw; go_simp; try with_reducible rfl)
  try simp only [Act.put, List.setIfInBounds_toArray, List.set_cons_zero, List.set_cons_succ]
  refine wpAnyH_take (i := 14) (oi := { dst := some 97, op := Op.load 95 (Operand.tmp 3), type := 95, pos := "law.go:326", after := #[], guard := none }) (v := _) rfl (by kernel_rfl) (by kernel_rfl) (by kernel_rfl) (fun _ _ _ h => h) (yieldsIf_load_mid (by rfl) 95 _ rfl w.heap.size 0 rfl CS _ (fun w' hSw => hSw.2.2.2.out) Tryz.underlying95 rfl HI.out) (by assumption) ?_
  try simp only [Act.put, List.setIfInBounds_toArray, List.set_cons_zero, List.set_cons_succ]
  refine wpAnyH_ready (rs := [11]) (by kernel_rfl) (by simp) ?_
  refine AllReadyH.cons (o := { dst := some 94, op := Op.call { callee := Callee.value (Operand.func 69), args := #[Operand.tmp 88, Operand.tmp 93], argTypes := #[3, 3] }, type := 3, pos := "law.go:326", after := #[{ on := 5, ground := Ground.data }, { on := 10, ground := Ground.data }], guard := none }) rfl (fun K hK => ?_) AllReadyH.nil
  go_simp
  go_at_call 69
  refine (HPk.out _).mono ?_
  rintro e w' ⟨rfl, rfl⟩
  go_wp2_with fail
  refine hK.out _ _ hHeld (fun hHeld2 => ?_)
  clear hK K hHeld
  have hHeld := hHeld2
  clear hHeld2
  try simp only [Act.put, List.setIfInBounds_toArray, List.set_cons_zero, List.set_cons_succ]
  refine wpAnyH_take (i := 12) (oi := { dst := some 95, op := Op.indexAddr 83 (Operand.tmp 86) (Operand.tmp 94), type := 0, pos := "law.go:326", after := #[{ on := 3, ground := Ground.data }, { on := 11, ground := Ground.data }], guard := none }) (v := ?_) rfl (by kernel_rfl) (by kernel_rfl) (by kernel_rfl) (fun _ _ _ h => h) (Or.inl ⟨by rfl, ?_⟩) (by assumption) ?_
  rotate_left 1
  · (intro w hSw; (try dsimp only at hSw); obtain ⟨sw0, sw1, sw2, sw3⟩ := hSw; go_simp; try with_reducible rfl)
  try simp only [Act.put, List.setIfInBounds_toArray, List.set_cons_zero, List.set_cons_succ]
  refine wpAnyH_take (i := 13) (oi := { dst := some 96, op := Op.load 154 (Operand.tmp 95), type := 154, pos := "law.go:326", after := #[{ on := 12, ground := Ground.data }], guard := none }) (v := ?_) rfl (by kernel_rfl) (by kernel_rfl) (by kernel_rfl) (fun _ _ _ h => h) (Or.inl ⟨by rfl, ?_⟩) (by assumption) ?_
  rotate_left 1
  · (intro w hSw; (try dsimp only at hSw); obtain ⟨sw0, sw1, sw2, sw3⟩ := hSw; go_simp; try with_reducible rfl)
  try simp only [Act.put, List.setIfInBounds_toArray, List.set_cons_zero, List.set_cons_succ]
  refine wpAnyH_ready (rs := [15]) (by kernel_rfl) (by simp) ?_
  refine AllReadyH.cons (o := { dst := some 98, op := Op.call { callee := Callee.value (Operand.func 71), args := #[Operand.tmp 96, Operand.tmp 97], argTypes := #[154, 95] }, type := 4, pos := "law.go:326", after := #[{ on := 13, ground := Ground.data }, { on := 14, ground := Ground.data }, { on := 11, ground := Ground.chain }], guard := none }) rfl (fun K hK => ?_) AllReadyH.nil
  go_simp
  rw [HAg.out]
  go_at_call 71
  refine HR.out.mono ?_
  rintro e w1 ⟨rfl, hp⟩
  have hq := HP.out w1 hp
  have HPo := hide' hp
  clear hp
  go_wp2_with fail
  refine hK.out _ _ ⟨hq.1, (HRg.out _ hq.2.2).2, hq.2.1, (HRg.out _ hq.2.2).1⟩ (fun hHeld2 => ?_)
  clear hK K hHeld
  have hHeld := hHeld2
  clear hHeld2
  try simp only [Act.put, List.setIfInBounds_toArray, List.set_cons_zero, List.set_cons_succ]
  refine wpAnyH_ready (rs := [16]) (by kernel_rfl) (by simp) ?_
  refine AllReadyH.cons (o := { dst := some 4, op := Op.assign (Operand.tmp 98), type := 4, pos := "law.go:326", after := #[{ on := 15, ground := Ground.data }, { on := 15, ground := Ground.chain }, { on := 0, ground := Ground.phase }, { on := 1, ground := Ground.phase }, { on := 2, ground := Ground.phase }, { on := 3, ground := Ground.phase }, { on := 4, ground := Ground.phase }, { on := 5, ground := Ground.phase }, { on := 6, ground := Ground.phase }, { on := 7, ground := Ground.phase }, { on := 8, ground := Ground.phase }, { on := 9, ground := Ground.phase }, { on := 10, ground := Ground.phase }, { on := 11, ground := Ground.phase }, { on := 12, ground := Ground.phase }, { on := 13, ground := Ground.phase }, { on := 14, ground := Ground.phase }, { on := 15, ground := Ground.phase }], guard := none }) rfl (fun K hK => ?_) AllReadyH.nil
  go_simp
  refine hK.out _ _ hHeld (fun hHeld2 => ?_)
  clear hK K hHeld
  have hHeld := hHeld2
  clear hHeld2
  try simp only [Act.put, List.setIfInBounds_toArray, List.set_cons_zero, List.set_cons_succ]
  refine wpAnyH_done (by kernel_rfl) ?_ _
  go_wp2
  go_ret
  exact ⟨rfl, HPo.out⟩
end Go.Proofs.YtlonjggfnleolaaGreatDoor


/-
  The law's world behind some steps; one step more.
-/

namespace Go.Proofs.YtlonjggfnleolaaGreatDoor
open Go.RowKit Go.Shelf
set_option linter.unusedVariables false

/-- The pointers' row: its cell. -/
theorem row_cell {w : World} {lo e n j : Nat} {v u : Value} {xs : List Value} (h : Row w lo e 1 v n xs) (hj : xs[j]? = some u) : ∃ g c, v = .slice (some ⟨g, 0, none⟩) n c ∧ n ≤ c ∧ w.cell? ⟨g, j, none⟩ = some u := by
  obtain ⟨hl, ⟨_, h0⟩ | ⟨g, cap, cur, hv, _, hg, hnc, _, ht⟩⟩ := h
  · have := (List.getElem?_eq_some_iff.1 hj).1; omega
  · refine ⟨g, cap, hv, hnc, (blkCell hg j).trans ?_⟩
    have hlt : j < n * 1 := by have := (List.getElem?_eq_some_iff.1 hj).1; omega
    rw [← ht, List.getElem?_take_of_lt hlt] at hj
    simpa using hj

end Go.Proofs.YtlonjggfnleolaaGreatDoor


/-
  ends: the Rest of every reader; looks: every list reads as its owner wrote it.
-/

namespace Go.Proofs.YtlonjggfnleolaaGreatDoor
open Go.RowKit Go.Shelf
set_option linter.unusedVariables false

theorem row_any {w : World} {lo e size n j : Nat} {v u : Value} {xs : List Value} (h : Row w lo e size v n xs) (hj : xs[j]? = some u) : ∃ g c, v = .slice (some ⟨g, 0, none⟩) n c ∧ n ≤ c ∧ g < w.heap.size ∧ w.cell? ⟨g, j, none⟩ = some u := by
  have hl := h.1
  have hlt : j < n * size := by have := (List.getElem?_eq_some_iff.1 hj).1; omega
  obtain ⟨_, ⟨_, h0⟩ | ⟨g, cap, cur, hv, _, hg, hnc, _, ht⟩⟩ := h
  · rw [h0] at hlt; omega
  · refine ⟨g, cap, hv, hnc, blkLt hg, (blkCell hg j).trans ?_⟩
    rw [← ht, List.getElem?_take_of_lt hlt] at hj
    simpa using hj

end Go.Proofs.YtlonjggfnleolaaGreatDoor


/-
  A script of readers' steps: given, plays.
-/

namespace Go.Proofs.YtlonjggfnleolaaGreatDoor
open Go.RowKit Go.Shelf
set_option linter.unusedVariables false

/-- The sum of the first n. -/
def sumTo (f : Nat → Nat) : Nat → Nat
  | 0 => 0
  | n + 1 => sumTo f n + f n
theorem sumTo_mono (f : Nat → Nat) : ∀ {a b : Nat}, a ≤ b → sumTo f a ≤ sumTo f b := by
  intro a b h
  induction b with
  | zero => rw [Nat.le_zero.1 h]; exact Nat.le_refl _
  | succ b ih =>
    rcases Nat.lt_or_eq_of_le h with h | h
    · have := ih (by omega)
      show sumTo f a ≤ sumTo f b + f b
      omega
    · rw [h]; exact Nat.le_refl _

/-- A script with the size of each step. -/
structure ScriptB (w : World) (b o N : Nat) (kf : Nat → Int) (csf : Nat → List Value) (bk : Nat → Nat) : Prop where
  lt : b < w.heap.size
  ops : ∀ j, j < N → (csf j).length = 18 ∧ w.cell? ⟨b, o + j * 18, none⟩ = some (.int .i64 (kf j)) ∧ w.rangeAt b (o + j * 18) (csf j) ∧ OpIn w (kf j) (.agg (csf j).toArray)
  sz : ∀ j, j < N → ∃ s : ByteArray, (csf j)[15]? = some (.string s) ∧ s.size ≤ bk j

end Go.Proofs.YtlonjggfnleolaaGreatDoor


/-
  A script of junctions' steps: step, ends, looks, given, plays.
-/

namespace Go.Proofs.YtlonjggfnleolaaGreatDoor
open Go.RowKit Go.Shelf
set_option linter.unusedVariables false

/-- The law's world behind k steps, T bytes told or held. -/
def Jw (w : World) (lo B k T : Nat) : Prop := ∃ jv ds, JwAt w lo B jv ds T ∧ ds.length ≤ k
theorem Jw.below {w w' : World} {lo B k T : Nat} (h : Jw w lo B k T) (hb : Below w.heap.size w w') : Jw w' lo B k T := by
  obtain ⟨jv, ds, h1, h2⟩ := h
  exact ⟨jv, ds, h1.below hb, h2⟩
theorem Jw.more {w : World} {lo B k k' T T' : Nat} (h : Jw w lo B k T) (hk : k ≤ k') (hT : T ≤ T') : Jw w lo B k' T' := by
  obtain ⟨jv, ds, h1, h2⟩ := h
  exact ⟨jv, ds, h1.more hT, by omega⟩
def JwS (w w' : World) (lo B k T : Nat) : Prop := Jw w' lo B k T ∧ Below lo w w' ∧ Kept95 w w'
theorem JwS.of_below {w w' : World} {lo B k k' T T' : Nat} (h : Jw w lo B k T) (hb : Below w.heap.size w w') (hlo : lo ≤ w.heap.size) (hk : k ≤ k') (hT : T ≤ T') : JwS w w' lo B k' T' := ⟨(h.below hb).more hk hT, hb.mono hlo, Kept95.of_below hb⟩

set_option maxRecDepth 20000 in
set_option maxHeartbeats 1000000 in
theorem step_made (p : Value) (at' ck : Int) (kv : Value) (val cw : ByteArray) (ft : Bool) (cid ak : Int) (fv vv : Value) (wd : ByteArray) (g0 g1 g2 : Int) (s : ByteArray) (x y : Int) (w : World) (Post : World → Prop)
    (hMd : Calls Tryz.prog 70 #[p, .agg #[.int .i64 g0, .int .i64 g1, .int .i64 g2]] (w.alloc (.cells #[.int .i64 8, .int .i64 at', .int .i64 ck, kv, .string val, .string cw, .bool ft, .int .i64 cid, .int .i64 ak, fv, vv, .string wd, .int .i64 g0, .int .i64 g1, .int .i64 g2, .string s, .int .i64 x, .int .i64 y] 95)) fun e w' => e = .returned (.bool true) ∧ Post w') :
    Calls Tryz.prog 40 #[p, Value.agg #[.int .i64 8, .int .i64 at', .int .i64 ck, kv, .string val, .string cw, .bool ft, .int .i64 cid, .int .i64 ak, fv, vv, .string wd, .int .i64 g0, .int .i64 g1, .int .i64 g2, .string s, .int .i64 x, .int .i64 y]] w fun e w' => e = .returned (.bool true) ∧ Post w' := by
  have HR := hide' hMd
  clear hMd
  go_enter Tryz.func40, Tryz.ntmps40
  go_wp2_with fail
  go_at_call 70
  refine HR.out.mono ?_
  rintro e w1 ⟨rfl, hp⟩
  have HP := hide' hp
  clear hp
  go_wp2
  go_ret
  exact ⟨rfl, HP.out⟩
set_option maxRecDepth 20000 in
set_option maxHeartbeats 1000000 in
/-- Where there is no junction. -/
theorem step_nojoint (k : Int) (hk9 : 9 ≤ k) (hk15 : k ≤ 15) (at' ck : Int) (kv : Value) (val cw : ByteArray) (ft : Bool) (cid ak : Int) (fv vv : Value) (wd : ByteArray) (g0 g1 g2 : Int) (s : ByteArray) (x y : Int) (w : World) (B c : Nat) (a : Option Addr) (cB : w.cell? ⟨B, 1, none⟩ = some (.slice a 0 c)) :
    Calls Tryz.prog 40 #[.pointer (some ⟨B, 0, none⟩), Value.agg #[.int .i64 k, .int .i64 at', .int .i64 ck, kv, .string val, .string cw, .bool ft, .int .i64 cid, .int .i64 ak, fv, vv, .string wd, .int .i64 g0, .int .i64 g1, .int .i64 g2, .string s, .int .i64 x, .int .i64 y]] w fun e w' => e = .returned (.bool true) ∧ Below w.heap.size w w' := by
  have HB : Hid (∀ o, Below w.heap.size w (w.alloc o)) := fun o => (Below.refl _ _).alloc (Nat.le_refl _) o
  have hk1 : ¬ k ≤ 3 := by omega
  have hk1' : 1 ≤ k := by omega
  have hk4 : ¬ k = 4 := by omega
  have hk5 : 5 ≤ k := by omega
  have hk7 : ¬ k ≤ 7 := by omega
  have hk8 : ¬ k = 8 := by omega
  have hBl : B < w.heap.size := World.block_lt_of_cell? w ⟨B, 1, none⟩ cB
  have hBn : ¬ B = w.heap.size := by omega
  go_enter Tryz.func40, Tryz.ntmps40
  go_wp2
  go_ret
  exact ⟨rfl, HB.out _⟩

theorem step_say (k0 : Int) (h8 : 8 ≤ k0) (h12 : k0 ≤ 12) (B lo k T : Nat) (at' ck : Int) (kv : Value) (val cw : ByteArray) (ft : Bool) (cid ak : Int) (fv vv : Value) (wd : ByteArray) (g0 g1 g2 : Int) (s : ByteArray) (x y : Int) (w : World) (h : Jw w lo B k T) (hlo : lo ≤ w.heap.size) (hk : k ≤ 1048600) (hT : T + 1000 * s.size ≤ 100000000000) :
    Calls Tryz.prog 40 #[.pointer (some ⟨B, 0, none⟩), Value.agg #[.int .i64 k0, .int .i64 at', .int .i64 ck, kv, .string val, .string cw, .bool ft, .int .i64 cid, .int .i64 ak, fv, vv, .string wd, .int .i64 g0, .int .i64 g1, .int .i64 g2, .string s, .int .i64 x, .int .i64 y]] w fun e w' => e = .returned (.bool true) ∧ JwS w w' lo B (k + 1) (T + 1000 * s.size) := by
  have hL := h
  obtain ⟨jv, ds, h1, h2⟩ := h
  have hb0 : ∀ o, Below w.heap.size w (w.alloc o) := fun o => (Below.refl _ _).alloc (Nat.le_refl _) o
  by_cases hk8 : k0 = 8
  · subst hk8
    refine step_made _ at' ck kv val cw ft cid ak fv vv wd g0 g1 g2 s x y w _ ?_
    cases hc : configB g0 g1 g2 with
    | false =>
      refine (made_no _ g0 g1 g2 _ hc).mono ?_
      rintro e w' ⟨rfl, hb⟩
      exact ⟨rfl, JwS.of_below hL ((hb0 _).trans (hb.mono (hb0 _).size)) hlo (by omega) (by omega)⟩
    | true =>
      have hc' := hc
      simp only [configB, ringB, withinB, Bool.and_eq_true, decide_eq_true_eq] at hc'
      obtain ⟨n0, rfl⟩ : ∃ n : Nat, g0 = (n : Int) := ⟨g0.toNat, by omega⟩
      obtain ⟨n1, rfl⟩ : ∃ n : Nat, g1 = (n : Int) := ⟨g1.toNat, by omega⟩
      obtain ⟨n2, rfl⟩ : ∃ n : Nat, g2 = (n : Int) := ⟨g2.toNat, by omega⟩
      refine (made_yes B lo T jv ds n0 n1 n2 _ (h1.below (hb0 _)) (Nat.le_trans hlo (hb0 _).size) (by omega) hc).mono ?_
      rintro e w' ⟨rfl, jv', d', hJ, hb, hK⟩
      exact ⟨rfl, ⟨jv', ds ++ [d'], hJ.more (by omega), by simp; omega⟩, ((hb0 _).mono hlo).trans hb, (Kept95.of_below (hb0 _)).trans hK⟩
  · have h9 : 9 ≤ k0 := by omega
    have cB : w.cell? ⟨B, 1, none⟩ = some jv := blkCell h1.wd 1
    by_cases hne : 0 < ds.length
    · obtain ⟨j, hj⟩ : ∃ j, pickI at' ds.length = j := ⟨_, rfl⟩
      have hjl : j < ds.length := by rw [← hj]; exact pickI_lt at' hne
      obtain ⟨d, hd⟩ : ∃ d, ds[j]? = some d := ⟨_, List.getElem?_eq_getElem hjl⟩
      obtain ⟨g, c, rfl, hgc, hcell⟩ := row_cell (j := j) (u := ptrV d.D) h1.row (by rw [List.getElem?_map, hd]; rfl)
      obtain ⟨hok, hB⟩ := h1.all d (List.mem_of_getElem? hd)
      have hb1 : ∀ o, Below w.heap.size w (w.alloc o).drew := fun o => (hb0 o).drew
      refine (step_join k0 h9 (by omega) at' ck kv val cw ft cid ak fv vv wd g0 g1 g2 s x y w B g ds.length c (ptrV d.D) cB hne hgc (by omega) (by rw [hj]; exact hcell)
        (fun w' => JwS w w' lo B (k + 1) (T + 1000 * s.size) ∧ w'.cell? ⟨B, 1, none⟩ = some (.slice (some ⟨g, 0, none⟩) ds.length c) ∧ w'.cell? ⟨g, pickI at' ds.length, none⟩ = some (ptrV d.D) ∧ w'.heap[w.heap.size]? = some (.cells #[.int .i64 k0, .int .i64 at', .int .i64 ck, kv, .string val, .string cw, .bool ft, .int .i64 cid, .int .i64 ak, fv, vv, .string wd, .int .i64 g0, .int .i64 g1, .int .i64 g2, .string s, .int .i64 x, .int .i64 y] 95 (0, 0)))
        ((joined_law k0 h9 h12 lo T d at' ck kv val cw ft cid ak fv vv wd g0 g1 g2 s x y _ (hok.below (hb1 _)) hB (Nat.le_trans hlo (hb1 _).size) hT).mono ?_)
        (fun w' hw' => hw'.2)).mono (fun e w' hw' => ⟨hw'.1, hw'.2.1⟩)
      rintro e w' ⟨rfl, d', a1, a2, a3, a4, a5, a6, a7⟩
      obtain ⟨b1, b2, b3⟩ := (h1.below (hb1 _)).step (T' := T + 1000 * s.size) (by omega) (Nat.le_trans hlo (hb1 _).size) hd a4 a5 a3 (fun _ => a1) a2
      refine ⟨rfl, ⟨⟨_, _, b1, by rw [List.length_set]; omega⟩, ((hb1 _).mono hlo).trans b2, (Kept95.of_below (hb1 _)).trans b3⟩, blkCell b1.wd 1, ?_, b3 _ _ (blkNew w _)⟩
      obtain ⟨g', c', hv, _, hc2⟩ := row_cell (j := j) (u := ptrV d.D) b1.row (by rw [List.getElem?_map, List.getElem?_set]; simp [hjl, a3])
      rw [List.length_set] at hv
      cases hv
      rw [hj]
      exact hc2
    · have h0 : ds.length = 0 := by omega
      obtain ⟨a, c, hjv⟩ := h1.row.form
      rw [hjv, h0] at cB
      refine (step_nojoint k0 h9 (by omega) at' ck kv val cw ft cid ak fv vv wd g0 g1 g2 s x y w B c a cB).mono ?_
      rintro e w' ⟨rfl, hb⟩
      exact ⟨rfl, JwS.of_below hL hb hlo (by omega) (by omega)⟩

set_option maxRecDepth 20000 in
set_option maxHeartbeats 2000000 in
theorem ends_say (B lo T : Nat) (jv : Value) (ds : List JntI) (l h : Int) (hh : 12 ≤ h) (w : World) (hJ : JwAt w lo B jv ds T) (hlo : lo ≤ w.heap.size) (hn : ds.length ≤ 1000000000000) (hT : T ≤ 100000000000) :
    Calls Tryz.prog 41 #[.pointer (some ⟨B, 0, none⟩), .int .i64 l, .int .i64 h] w fun e w' => e = .returned (.bool true) ∧ Jw w' lo B ds.length T ∧ Below lo w w' := by
  have c0 : w.cell? ⟨B, 0, none⟩ = some (.slice none 0 0) := blkCell hJ.wd 0
  have HC : Hid (∀ (wr : World) (ds' : List JntI), JwAt wr lo B jv ds' T → wr.cell? ⟨B, 0, none⟩ = some (.slice none 0 0) ∧ wr.cell? ⟨B, 1, none⟩ = some jv ∧ B < wr.heap.size) := fun wr ds' h' => ⟨blkCell h'.wd 0, blkCell h'.wd 1, blkLt h'.wd⟩
  obtain ⟨a, c, rfl⟩ := hJ.row.form
  have HJd : Hid (∀ (k0 : Int), 9 ≤ k0 → k0 ≤ 12 → ∀ (n : Int) (wr : World) (ds' : List JntI) (i : Nat) (d : JntI), JwAt wr lo B (.slice a ds.length c) ds' T → lo ≤ wr.heap.size → ds'[i]? = some d → ds'.length = ds.length → Calls Tryz.prog 71 #[ptrV d.D, Value.agg #[.int .i64 k0, .int .i64 0, .int .i64 0, .slice none 0 0, .string ⟨#[]⟩, .string ⟨#[]⟩, .bool false, .int .i64 0, .int .i64 0, .slice none 0 0, .slice none 0 0, .string ⟨#[]⟩, .int .i64 0, .int .i64 0, .int .i64 0, .string ⟨#[]⟩, .int .i64 n, .int .i64 0]] wr fun e w' => e = .returned (.bool true) ∧ ∃ ds'', JwAt w' lo B (.slice a ds.length c) ds'' T ∧ ds''.length = ds.length ∧ Below lo wr w') := fun k0 h9 h12 n wr ds' i d hW hl hd hlen => by
    obtain ⟨hok, hB⟩ := hW.all d (List.mem_of_getElem? hd)
    refine (joined_law k0 h9 h12 lo T d 0 0 _ _ _ _ 0 0 _ _ _ 0 0 0 ⟨#[]⟩ n 0 wr hok hB hl (by show T + 1000 * 0 ≤ _; omega)).mono ?_
    rintro e w' ⟨rfl, d', a1, a2, a3, a4, a5, a6, a7⟩
    obtain ⟨b1, b2, b3⟩ := hW.step (T' := T) (Nat.le_refl _) hl hd a4 a5 a3 (fun _ => a1) a2
    exact ⟨rfl, _, b1, by rw [List.length_set]; exact hlen, b2⟩
  have HRow : Hid (∀ (wr : World) (ds' : List JntI) (i : Nat) (d : JntI), JwAt wr lo B (.slice a ds.length c) ds' T → ds'[i]? = some d → ds'.length = ds.length → ∃ g c', Value.slice a ds.length c = .slice (some ⟨g, 0, none⟩) ds.length c' ∧ ds.length ≤ c' ∧ g < wr.heap.size ∧ wr.cell? ⟨g, i, none⟩ = some (.pointer (some ⟨d.D, 0, none⟩))) := fun wr ds' i d hW hd hlen => by
    have h1 := hW.row
    rw [hlen] at h1
    exact row_any h1 (by rw [List.getElem?_map, hd]; rfl)
  have H0 := hide' hJ
  clear hJ
  generalize hdn : ds.length = n at *
  have HDN := hide' hdn
  clear hdn
  obtain ⟨_, c1, hBl⟩ := HC.out w ds H0.out
  unfold ptrV at HJd
  go_enter Tryz.func41, Tryz.ntmps41
  go_wp2
  go_loop [7, 8] (fun i _ => i = .int .i64 0) (fun _ _ => 0)
  case atStart => rfl
  case round =>
    subst hrel
    go_wp2
    clear c0 c1 hBl
    go_loopw [9, 10, 11, 12] (fun i _ _ _ wr => ∃ (j : Nat) (ds' : List JntI), i = .int .i64 (j : Int) ∧ j ≤ n ∧ Hid (JwAt wr lo B (.slice a n c) ds' T ∧ ds'.length = n ∧ Below lo w wr)) (fun i _ _ _ _ => n - (intOf i).toNat)
    case atStart => exact ⟨0, ds, rfl, Nat.zero_le _, H0.out, HDN.out, Below.refl _ _⟩
    case round =>
      obtain ⟨j, ds', rfl, hj, HJ⟩ := hrel
      obtain ⟨c0, c1, hBl⟩ := HC.out wr ds' HJ.out.1
      by_cases hlt : j < n
      · have hlt' : (j : Int) < (n : Int) := by omega
        go_wp2
        clear c0 c1 hBl
        go_loopw [10, 11, 12] (fun q _ _ w2 => ∃ (m : Int) (ds' : List JntI), q = .int .i64 m ∧ -1 ≤ m ∧ m ≤ 5 ∧ Hid (JwAt w2 lo B (.slice a n c) ds' T ∧ ds'.length = n ∧ Below lo w w2)) (fun q _ _ _ => (5 - intOf q).toNat)
        case atStart => exact ⟨-1, ds', rfl, by omega, by omega, HJ⟩
        case round =>
          obtain ⟨m, dq, rfl, hm1, hm5, HQ⟩ := hrel
          obtain ⟨c0, c1, hBl⟩ := HC.out wr dq HQ.out.1
          by_cases hm : m ≤ 4
          · obtain ⟨d, hd⟩ : ∃ d, dq[j]? = some d := ⟨_, List.getElem?_eq_getElem (by have := HQ.out.2.1; omega)⟩
            obtain ⟨g, c', hv, hgc, hgl, hcell⟩ := HRow.out wr dq j d HQ.out.1 hd HQ.out.2.1
            cases hv
            have HX := hide' (HJd.out 11 (by omega) (by omega) m wr dq j d HQ.out.1 (Nat.le_trans hlo HQ.out.2.2.size) hd HQ.out.2.1)
            clear hd
            go_wp2_with fail
            go_at_call 71
            refine HX.out.mono ?_
            rintro e w1 ⟨rfl, d1, hJ1, hl1, hb1⟩
            have HQ1 : Hid (JwAt w1 lo B (.slice (some ⟨g, 0, none⟩) n c) d1 T ∧ d1.length = n ∧ Below lo w w1) := ⟨hJ1, hl1, HQ.out.2.2.trans hb1⟩
            clear hJ1 hl1 hb1 HX c0 c1 hBl hcell hgl hgc
            obtain ⟨c0, c1, hBl⟩ := HC.out w1 d1 HQ1.out.1
            obtain ⟨d, hd⟩ : ∃ d, d1[j]? = some d := ⟨_, List.getElem?_eq_getElem (by have := HQ1.out.2.1; omega)⟩
            obtain ⟨g', c'', hv, hgc, hgl, hcell⟩ := HRow.out w1 d1 j d HQ1.out.1 hd HQ1.out.2.1
            cases hv
            have HX := hide' (HJd.out 12 (by omega) (by omega) m w1 d1 j d HQ1.out.1 (Nat.le_trans hlo HQ1.out.2.2.size) hd HQ1.out.2.1)
            clear hd
            go_wp2_with fail
            go_at_call 71
            refine HX.out.mono ?_
            rintro e w2 ⟨rfl, d2, hJ2, hl2, hb2⟩
            have HQ2 : Hid (JwAt w2 lo B (.slice (some ⟨g, 0, none⟩) n c) d2 T ∧ d2.length = n ∧ Below lo w w2) := ⟨hJ2, hl2, HQ1.out.2.2.trans hb2⟩
            clear hJ2 hl2 hb2 HX c0 c1 hBl hcell hgl hgc
            go_wp2
            go_roundw
            case rel => exact ⟨m + 1, d2, by go_num, by omega, by omega, HQ2⟩
            case measure => simp [intOf]; omega
          · go_wp2
            go_roundw
            case rel => exact ⟨j + 1, dq, by go_num, by omega, HQ⟩
            case measure => simp [intOf]; omega
      · have hlt' : ¬ (j : Int) < (n : Int) := by omega
        go_wp2
        go_ret
        exact ⟨rfl, ⟨_, ds', HJ.out.1, by rw [HJ.out.2.1]; exact Nat.le_refl _⟩, HJ.out.2.2⟩
set_option maxRecDepth 20000 in
set_option maxHeartbeats 2000000 in
theorem looks_say (B lo T k : Nat) (w : World) (hJ : Jw w lo B k T) :
    Calls Tryz.prog 42 #[.pointer (some ⟨B, 0, none⟩)] w fun e w' => e = .returned (.bool true) ∧ Below w.heap.size w w' := by
  obtain ⟨jv, ds, h1, _⟩ := hJ
  have c2 : w.cell? ⟨B, 2, none⟩ = some (.slice none 0 0) := blkCell h1.wd 2
  have c4 : w.cell? ⟨B, 4, none⟩ = some (.slice none 0 0) := blkCell h1.wd 4
  have hBl := blkLt h1.wd
  clear h1
  go_enter Tryz.func42, Tryz.ntmps42
  go_wp2
  go_loop [3, 4] (fun i _ => i = .int .i64 0) (fun _ _ => 0)
  case atStart => rfl
  case round =>
    subst hrel
    go_wp2
    go_loop [5, 6, 7] (fun i _ _ => i = .int .i64 0) (fun _ _ _ => 0)
    case atStart => rfl
    case round =>
      subst hrel
      go_wp2
      go_ret
      exact ⟨rfl, Below.refl _ _⟩

def gS (j : Nat) : Nat := if j ≤ 9 then 0 else 16000
theorem gS_mono (j : Nat) : gS j ≤ gS (j + 1) := by
  unfold gS
  split <;> split <;> omega
theorem given_say_step (b j : Nat) (h5 : 5 ≤ j) (h9 : j ≤ 9) : ∃ (k0 g0 g1 g2 : Int) (s : ByteArray) (x : Int), givenCs b j = [.int .i64 k0, .int .i64 0, .int .i64 0, .slice none 0 0, .string ⟨#[]⟩, .string ⟨#[]⟩, .bool false, .int .i64 0, .int .i64 0, .slice none 0 0, .slice none 0 0, .string ⟨#[]⟩, .int .i64 g0, .int .i64 g1, .int .i64 g2, .string s, .int .i64 x, .int .i64 0] ∧ 8 ≤ k0 ∧ k0 ≤ 12 ∧ gS j + 1000 * s.size = gS (j + 1) := by
  match j, h5, h9 with
  | 5, _, _ => exact ⟨8, 3, 5, 2, ⟨#[]⟩, 0, rfl, by decide, by decide, rfl⟩
  | 6, _, _ => exact ⟨9, 0, 0, 0, ⟨#[]⟩, 1, rfl, by decide, by decide, rfl⟩
  | 7, _, _ => exact ⟨9, 0, 0, 0, ⟨#[]⟩, 2, rfl, by decide, by decide, rfl⟩
  | 8, _, _ => exact ⟨9, 0, 0, 0, ⟨#[]⟩, 3, rfl, by decide, by decide, rfl⟩
  | 9, _, _ => exact ⟨10, 0, 0, 0, ⟨#[103, 101, 116, 32, 97, 10, 115, 101, 116, 32, 98, 32, 49, 10, 120, 10]⟩, 0, rfl, by decide, by decide, rfl⟩
theorem given_say_in (j : Nat) (hj : j < 10) (h1 : 8 ≤ givenK.getD j 0) : 5 ≤ j ∧ j ≤ 9 := by
  match j, hj with
  | 0, _ => exact absurd h1 (by decide)
  | 1, _ => exact absurd h1 (by decide)
  | 2, _ => exact absurd h1 (by decide)
  | 3, _ => exact absurd h1 (by decide)
  | 4, _ => exact absurd h1 (by decide)
  | 5, _ => omega
  | 6, _ => omega
  | 7, _ => omega
  | 8, _ => omega
  | 9, _ => omega
theorem given_say (B lo : Nat) (w : World) (hL : Jw w lo B 0 0) (hlo : lo ≤ w.heap.size) :
    Calls Tryz.prog 39 #[.pointer (some ⟨B, 0, none⟩), .int .i64 8, .int .i64 12] w fun e w' => e = .returned (.bool true) ∧ Jw w' lo B 10 16000 ∧ Below lo w w' := by
  refine given_gen _ 8 12 w (fun j W => Jw W lo B j (gS j) ∧ Below lo w W) ?_ ?_ ?_
  · have hb : Below w.heap.size w ((w.alloc (.cells #[.string ⟨#[97]⟩] 9)).alloc (.cells (givenG w.heap.size) 95)) := ((Below.refl _ _).alloc (Nat.le_refl _) _).alloc (by simp) _
    exact ⟨hL.below hb, hb.mono hlo⟩
  · intro j hj h1 h2 W hI
    obtain ⟨hj1, hj4⟩ := given_say_in j hj h1
    obtain ⟨k0, g0, g1, g2, s, x, e, hk4, hk5, hs⟩ := given_say_step w.heap.size j hj1 hj4
    rw [e]
    have hg : gS (j + 1) ≤ 16000 := by unfold gS; split <;> omega
    refine (step_say k0 hk4 hk5 B lo j (gS j) 0 0 (.slice none 0 0) ⟨#[]⟩ ⟨#[]⟩ false 0 0 (.slice none 0 0) (.slice none 0 0) ⟨#[]⟩ g0 g1 g2 s x 0 W hI.1 (Nat.le_trans hlo hI.2.size) (by omega) (by omega)).mono ?_
    rintro e w' ⟨rfl, hL', hb', hk'⟩
    rw [hs] at hL'
    exact ⟨rfl, ⟨hL', hI.2.trans hb'⟩, hk'⟩
  · intro j hj hn W hI
    exact ⟨hI.1.more (by omega) (gS_mono j), hI.2⟩
theorem Jw.start (w : World) : Jw (w.alloc (.cells #[.slice none 0 0, .slice none 0 0, .slice none 0 0, .slice none 0 0, .slice none 0 0, .slice none 0 0, .int .i64 0] 87)) w.heap.size w.heap.size 0 0 :=
  ⟨.slice none 0 0, [], ⟨blkNew w _, Nat.le_refl _, Row.nil _ _ _ _, fun d hd => (by cases hd), fun i j d e _ h => (by cases h)⟩, Nat.le_refl _⟩
theorem ends_jw (B lo k T : Nat) (W : World) (hL : Jw W lo B k T) (hlo : lo ≤ W.heap.size) (hk : k ≤ 1048600) (hT : T ≤ 100000000000) :
    Calls Tryz.prog 41 #[.pointer (some ⟨B, 0, none⟩), .int .i64 8, .int .i64 12] W fun e W' => e = .returned (.bool true) ∧ Jw W' lo B k T ∧ Below lo W W' := by
  obtain ⟨jv, ds, h1, h2⟩ := hL
  refine (ends_say B lo T jv ds 8 12 (by omega) W h1 hlo (by omega) hT).mono ?_
  rintro e w' ⟨rfl, h3, hb⟩
  exact ⟨rfl, h3.more h2 (Nat.le_refl _), hb⟩

theorem plays_say (b o N c : Nat) (kf : Nat → Int) (csf : Nat → List Value) (bk : Nat → Nat) (w : World) (hS : ScriptB w b o N kf csf bk) (hN : N ≤ c) (hN2 : N ≤ 1048576) (hbk : sumTo bk N ≤ 1048576) :
    Calls Tryz.prog 15 #[.slice (some ⟨b, o, none⟩) N c, .int .i64 8, .int .i64 12, .int .i64 0] w fun e w' => e = .returned (.bool true) ∧ Below w.heap.size w w' := by
  have hb0 : Below w.heap.size w (w.alloc (.cells #[.slice none 0 0, .slice none 0 0, .slice none 0 0, .slice none 0 0, .slice none 0 0, .slice none 0 0, .int .i64 0] 87)) := (Below.refl _ _).alloc (Nat.le_refl _) _
  refine plays_gen b o N c 8 12 0 w kf csf (fun j W => Jw W w.heap.size w.heap.size (10 + j) (16000 + 1000 * sumTo bk j) ∧ Below w.heap.size w W) (fun W => Jw W w.heap.size w.heap.size (10 + N) (16000 + 1000 * sumTo bk N) ∧ Below w.heap.size w W) hS.lt hN (by omega) (fun j hj => ⟨(hS.ops j hj).1, (hS.ops j hj).2.1, (hS.ops j hj).2.2.1⟩) ?_ (fun j W h => h.2) ?_ ?_ ?_ ?_
  · refine (given_say _ _ _ (Jw.start w) (by simp)).mono ?_
    rintro e w' ⟨rfl, h1, h2⟩
    exact ⟨rfl, h1, hb0.trans h2⟩
  · intro j hj hk4 hkh hkn W hI
    obtain ⟨hl, _, _, at', ck, a, n', c', ss, val, cw, ft, cid, ak, fa, va, fn, fc, vn, vc, bs, vs, wd, g0, g1, g2, s, x, y, hv, _⟩ := hS.ops j hj
    obtain ⟨s', hs', hsz⟩ := hS.sz j hj
    have hss : s' = s := by
      have hv' : (csf j).toArray = #[.int .i64 (kf j), .int .i64 at', .int .i64 ck, .slice a n' c', .string val, .string cw, .bool ft, .int .i64 cid, .int .i64 ak, .slice fa fn fc, .slice va vn vc, .string wd, .int .i64 g0, .int .i64 g1, .int .i64 g2, .string s, .int .i64 x, .int .i64 y] := by
        unfold opV at hv
        exact Value.agg.inj hv
      have : (csf j).toArray[15]? = some (.string s) := by rw [hv']; rfl
      rw [List.getElem?_toArray, hs'] at this
      cases this
      rfl
    subst hss
    rw [hv]
    have hsum : sumTo bk (j + 1) ≤ sumTo bk N := sumTo_mono bk hj
    have hsum2 : sumTo bk (j + 1) = sumTo bk j + bk j := rfl
    refine (step_say (kf j) hk4 hkh w.heap.size w.heap.size (10 + j) (16000 + 1000 * sumTo bk j) at' ck _ val cw ft cid ak _ _ wd g0 g1 g2 s' x y W hI.1 hI.2.size (by omega) (by omega)).mono ?_
    rintro e w' ⟨rfl, hL', hb', hk'⟩
    exact ⟨rfl, hL'.more (by omega) (by omega), hI.2.trans hb'⟩
  · intro j hj _ W hI
    have hsum2 : sumTo bk (j + 1) = sumTo bk j + bk j := rfl
    exact ⟨hI.1.more (by omega) (by omega), hI.2⟩
  · intro W hI
    refine (ends_jw _ _ _ _ W hI.1 hI.2.size (by omega) (by omega)).mono ?_
    rintro e w' ⟨rfl, hL', hb'⟩
    exact ⟨rfl, hL', hI.2.trans hb'⟩
  · intro W hI
    refine (looks_say _ _ _ _ W hI.1).mono ?_
    rintro e w' ⟨rfl, hb'⟩
    exact ⟨rfl, hI.2.trans (hb'.mono hI.2.size)⟩

theorem plays_say_nil (w : World) :
    Calls Tryz.prog 15 #[.slice none 0 0, .int .i64 8, .int .i64 12, .int .i64 0] w fun e w' => e = .returned (.bool true) ∧ Below w.heap.size w w' := by
  have hb0 : Below w.heap.size w (w.alloc (.cells #[.slice none 0 0, .slice none 0 0, .slice none 0 0, .slice none 0 0, .slice none 0 0, .slice none 0 0, .int .i64 0] 87)) := (Below.refl _ _).alloc (Nat.le_refl _) _
  refine plays_gen_nil 8 12 0 w (fun W => Jw W w.heap.size w.heap.size 10 16000 ∧ Below w.heap.size w W) (fun W => Jw W w.heap.size w.heap.size 10 16000 ∧ Below w.heap.size w W) ?_ ?_ ?_
  · refine (given_say _ _ _ (Jw.start w) (by simp)).mono ?_
    rintro e w' ⟨rfl, h1, h2⟩
    exact ⟨rfl, h1, hb0.trans h2⟩
  · intro W hI
    refine (ends_jw _ _ _ _ W hI.1 hI.2.size (by omega) (by omega)).mono ?_
    rintro e w' ⟨rfl, hL', hb'⟩
    exact ⟨rfl, hL', hI.2.trans hb'⟩
  · intro W hI
    refine (looks_say _ _ _ _ W hI.1).mono ?_
    rintro e w' ⟨rfl, hb'⟩
    exact ⟨rfl, hI.2.trans (hb'.mono hI.2.size)⟩

set_option maxRecDepth 20000 in
theorem says_some (b o N c : Nat) (kf : Nat → Int) (csf : Nat → List Value) (bk : Nat → Nat) (w : World) (hS : ScriptB w b o N kf csf bk) (hN : N ≤ c) (hN2 : N ≤ 1048576) (hbk : sumTo bk N ≤ 1048576) :
    Calls Tryz.prog 9 #[.slice (some ⟨b, o, none⟩) N c] w fun e w' => e = .returned (.bool true) ∧ Below w.heap.size w w' := by
  have HP := hide' (plays_say b o N c kf csf bk w hS hN hN2 hbk)
  clear hS hbk
  go_enter Tryz.func9, Tryz.ntmps9
  go_wp2_with fail
  go_at_call 15
  refine HP.out.mono ?_
  rintro e w1 ⟨rfl, hb⟩
  have HB := hide' hb
  clear hb
  go_wp2
  go_ret
  exact ⟨rfl, HB.out⟩
set_option maxRecDepth 20000 in
theorem says_nil (w : World) :
    Calls Tryz.prog 9 #[.slice none 0 0] w fun e w' => e = .returned (.bool true) ∧ Below w.heap.size w w' := by
  have HP := hide' (plays_say_nil w)
  go_enter Tryz.func9, Tryz.ntmps9
  go_wp2_with fail
  go_at_call 15
  refine HP.out.mono ?_
  rintro e w1 ⟨rfl, hb⟩
  have HB := hide' hb
  clear hb
  go_wp2
  go_ret
  exact ⟨rfl, HB.out⟩
end Go.Proofs.YtlonjggfnleolaaGreatDoor
