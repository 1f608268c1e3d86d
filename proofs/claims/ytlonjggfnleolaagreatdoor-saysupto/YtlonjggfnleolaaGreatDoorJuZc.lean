/-
  Open of a junction: a client more.
-/
import Derived.Test.YtlonjggfnleolaaGreatDoorJuZb
namespace Go.Proofs.YtlonjggfnleolaaGreatDoor
open Go.RowKit Go.Shelf Go.Conc
set_option linter.unusedVariables false

set_option maxHeartbeats 1000000 in
set_option maxRecDepth 100000 in
theorem open_yes {w : World} {X sv pt win g sc : Nat} {cv : Value} {cis : List CliI} {cs : List CliS} {vs : List SvI} {ss : List SrvS} (h : JunAt w X sv pt win g sc cv cis cs vs ss) (d : Int) (hd : d = 1 ∨ d = 2 ∨ d = 3) (hn : cis.length < 4) (hwin : win ≤ 6) :
    Calls Tryz.prog 54 #[.pointer (some ⟨X, 0, none⟩), .int .i64 d] w fun e w' => e = .returned (.tuple #[.int .i64 (cis.length : Int), .int .i64 0]) ∧ ∃ (cv' : Value) (v : CliI), JunAt w' X sv pt win g sc cv' (cis ++ [v]) (cs ++ [newC d]) vs ss ∧ Chg (footJ X cv cis vs) w w' ∧ Later w (footJ X cv cis vs) (footJ X cv' (cis ++ [v]) vs) := by
  obtain ⟨a, c, rfl⟩ := h.cvLen
  obtain ⟨_, _, c2, c3, _, cf⟩ := juCells h.blk
  have hlt := blkLt h.blk
  have HN := hide' (decoder_any d w hd)
  have HD := hide' (dT_ty hd)
  have hB : Below w.heap.size w (w.alloc (rdO (tyOf d) (.slice none 0 0) 0 false false)) := (Below.refl _ _).alloc (Nat.le_refl _) _
  have d3 := (hB.cell (p := ⟨X, 3, none⟩) hlt).trans c3
  have d2 := (hB.cell (p := ⟨X, 2, none⟩) hlt).trans c2
  have df := (hB.frozen (p := ⟨X, 3, none⟩) hlt).trans (cf 3)
  have hlt1 : X < (w.alloc (rdO (tyOf d) (.slice none 0 0) 0 false false)).heap.size := Nat.lt_of_lt_of_le hlt hB.size
  have hn4 : ¬ (cis.length : Int) = 4 := by omega
  have HRow : Hid (∀ W, Below w.heap.size w W → W.ownsRow 0 116 1 (.slice a cis.length c) cis.length (cis.map (fun v => ptrV v.C))) := fun W hW => ownsRow_other h.row (fun gg hg => by obtain ⟨cur, hc⟩ := ownsRow_blk h.row hg; exact hW.block gg (blkLt hc))
  have HNew : Hid (∀ W, Calls Tryz.prog 86 #[.pointer (some ⟨w.heap.size, 0, none⟩), .int .i64 (win : Int)] W fun e w' => e = .returned (.pointer (some ⟨W.heap.size + 1, 0, none⟩)) ∧ w' = (W.alloc (.chan win #[] false 0 0 false)).alloc (clO w.heap.size W.heap.size (.slice none 0 0) (.pointer none) (.slice none 0 0))) := fun W => newClient_any w.heap.size win W hwin
  obtain ⟨i1, hi, hz0, hz1, hz2⟩ := info116
  have HI := hide' (And.intro hi (And.intro hz0 (And.intro hz1 hz2)))
  have HB := hide' hB
  have HH := hide' h
  have hXg : (Value.slice a cis.length c).ownBlock ≠ some X := fun e => by
    obtain ⟨cur, hc⟩ := ownsRow_blk h.row e
    have hb := h.blk
    unfold juO at hb
    rw [hb] at hc
    cases hc
  have HXG := hide' hXg
  clear hB c3 c2 cf h hi hz0 hz1 hz2 hd hXg
  generalize hw1 : w.alloc (rdO (tyOf d) (.slice none 0 0) 0 false false) = w1 at *
  have HW1 := hide' hw1
  clear hw1
  go_enter Tryz.func54, Tryz.ntmps54
  go_wp2_with fail
  go_at_call 43
  refine HN.out.mono ?_
  rintro e w2 ⟨rfl, hw2⟩
  subst hw2
  go_wp2_with fail
  go_region_law (first
    | (go_simp; go_at_call 86; refine (HNew.out _).mono ?_; rintro e w3 ⟨rfl, hw3⟩; have hb3 : Below w2.heap.size w2 w3 := (by rw [hw3]; exact ((Below.refl _ w2).drew.alloc (Nat.le_refl _) _).alloc (by simp) _); have HW3 := hide' (And.intro hw3 hb3); have e3 := (hb3.cell (p := ⟨X, 3, none⟩) hlt1).trans d3; have e2 := (hb3.cell (p := ⟨X, 2, none⟩) hlt1).trans d2; have ef := (hb3.frozen (p := ⟨X, 3, none⟩) hlt1).trans df; have hlt3 := Nat.lt_of_lt_of_le hlt1 hb3.size; clear hw3 hb3)
    | (refine step_append_lies _ (by rfl) _ _ _ (by rfl) 0 116 i1 (.pointer none) 1 8 Tryz.underlying126 HI.out.1 HI.out.2.1 HI.out.2.2.1 HI.out.2.2.2 (by rfl) (by omega) (.slice a cis.length c) cis.length (cis.map (fun v => ptrV v.C)) (by rfl) (HRow.out _ ((HB.out.trans (HW3.out.2.mono HB.out.size)).alloc (Nat.le_trans HB.out.size HW3.out.2.size) _)) ⟨w3.heap.size, 0, none⟩ 1 1 [.pointer (some ⟨w2.heap.size + 1, 0, none⟩)] (by rfl) (by rfl) (World.news_of_block (cs := #[.pointer (some ⟨w2.heap.size + 1, 0, none⟩)]) (blkNew w3 _)) (fun u hu => by simp at hu; subst hu; rfl) (by omega) (by unfold maxLen; omega) (by omega) (Nat.zero_le _) _ rfl ?_; intro g2 cap2 wa hown hgrow hat hlta; have hcA : wa.cell? ⟨X, 3, none⟩ = some (.slice a cis.length c) := (hgrow.cell_far ⟨X, 3, none⟩ (by simp; omega) (fun e => HXG.out e.symm)).trans ((World.cell?_of_block (w := w3) (Below.heap_alloc w3 _ _ hlt3)).trans e3); have hfA : wa.frozen? ⟨X, 3, none⟩ = false := (hgrow.frozen_far ⟨X, 3, none⟩ (by simp; omega) (fun e => HXG.out e.symm)).trans ((World.frozen?_of_block (w := w3) (Below.heap_alloc w3 _ _ hlt3)).trans ef); have HG := hide' (And.intro hown (And.intro hgrow (And.intro hat hlta))); clear hown hgrow hat)
    | fail)
  all_goals
    have hX3 : w3.heap[X]? = some (juO sv pt win (.slice a cis.length c) (.slice (some ⟨g, 0, none⟩) sv sc)) := (HW3.out.2.block X hlt1).trans ((HB.out.block X hlt).trans HH.out.blk)
    have keep : ∀ (b : Nat) (o : Obj), w3.heap[b]? = some o → (Value.slice a cis.length c).ownBlock ≠ some b → wa.heap[b]? = some o := fun b o hb hn => (HG.out.2.1.block b (by rw [World.size_alloc]; have := blkLt hb; omega) (fun e => hn e.symm)).trans ((Below.heap_alloc _ _ _ (blkLt hb)).trans hb)
    have hXa := keep X _ hX3 HXG.out
    have hXf := blkSet (i := 3) hXa (.slice (some ⟨g2, 0, none⟩) (cis.length + 1) cap2)
    have hcv : ∀ b, (Value.slice a cis.length c).ownBlock = some b → b < w.heap.size := fun b e => by
      obtain ⟨cur, hc⟩ := ownsRow_blk HH.out.row e
      exact blkLt hc
    have keep2 : ∀ (b : Nat) (o : Obj), w3.heap[b]? = some o → w.heap.size ≤ b → (wa.setCell ⟨X, 3, none⟩ (.slice (some ⟨g2, 0, none⟩) (cis.length + 1) cap2)).heap[b]? = some o := fun b o hb hle => (Below.heap_setCell wa ⟨X, 3, none⟩ _ b (by show b ≠ X; omega)).trans (keep b o hb (fun e => by have := hcv b e; omega))
    have hw2s : w2.heap.size = w.heap.size + 1 := by rw [← HW1.out]; simp
    have hR2 : w2.heap[w.heap.size]? = some (rdO (tyOf d) (.slice none 0 0) 0 false false) := by rw [← HW1.out]; exact blkNew w _
    have hR3 := (HW3.out.2.block w.heap.size (by omega)).trans hR2
    have hch3 : w3.heap[w2.heap.size]? = some (.chan win #[] false 0 0 false) := by
      rw [HW3.out.1, Below.heap_alloc _ _ _ (by simp)]
      exact blkNew w2.drew _
    have hC3 : w3.heap[w2.heap.size + 1]? = some (clO w.heap.size w2.heap.size (.slice none 0 0) (.pointer none) (.slice none 0 0)) := by
      rw [HW3.out.1]
      exact hs_new (by simp)
    have hk3 : Chg (X :: (Value.slice a cis.length c).ownBlock.toList) w (w3.alloc (.cells #[.pointer (some ⟨w2.heap.size + 1, 0, none⟩)] 116)) := Chg.of_below ((HB.out.trans (HW3.out.2.mono HB.out.size)).alloc (Nat.le_trans HB.out.size HW3.out.2.size) _)
    have hkf : Chg (X :: (Value.slice a cis.length c).ownBlock.toList) w (wa.setCell ⟨X, 3, none⟩ (.slice (some ⟨g2, 0, none⟩) (cis.length + 1) cap2)) := (hk3.grown HG.out.2.1 (fun b e => .inl (by simp [e]))).set (.inl (by simp)) _
    have sz3 := HW3.out.2.size
    have hrowf : (wa.setCell ⟨X, 3, none⟩ (.slice (some ⟨g2, 0, none⟩) (cis.length + 1) cap2)).ownsRow 0 116 1 (.slice (some ⟨g2, 0, none⟩) (cis.length + 1) cap2) (cis.length + 1) (cis.map (fun v => ptrV v.C) ++ [.pointer (some ⟨w2.heap.size + 1, 0, none⟩)]) := ownsRow_other HG.out.1 (fun gg hg => by
      cases hg
      refine Below.heap_setCell wa ⟨X, 3, none⟩ _ g2 (fun e => ?_)
      obtain ⟨cur, hc⟩ := ownsRow_blk HG.out.1 rfl
      rw [show g2 = X from e, hXa] at hc
      unfold juO at hc
      cases hc)
    have hfin := HH.out.opened HD.out hkf hXf hrowf (by
      rcases HG.out.2.2.1 with e | e
      · exact .inl e
      · rw [World.size_alloc] at e; exact .inr (by omega)) (by omega) (Nat.le_refl _) (by omega) (keep2 _ _ hR3 (Nat.le_refl _)) (keep2 _ _ hch3 (by omega)) (keep2 _ _ hC3 (by omega))
    have HF := hide' hfin
    have f3 := (juCells (cv := .slice (some ⟨g2, 0, none⟩) (cis.length + 1) cap2) hXf).2.2.2.1
    have hlf := blkLt hXf
    clear hfin hXf hcA hfA
    generalize wa.setCell ⟨X, 3, none⟩ (.slice (some ⟨g2, 0, none⟩) (cis.length + 1) cap2) = wf at *
    clear hrowf hkf hk3 hC3 hch3 hR3 hR2 hw2s keep2 hcv hXa keep hX3
    go_wp2
    go_ret2
    exact ⟨by simp, _, _, HF.out⟩
end Go.Proofs.YtlonjggfnleolaaGreatDoor
