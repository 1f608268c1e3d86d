/-
  ownTexts: a list of texts that came out is written full, and grows.
-/
import Derived.Test.YtlonjggfnleolaaGreatDoorOwnD

namespace Go.Proofs.YtlonjggfnleolaaGreatDoor
open Go.RowKit Go.Shelf
set_option linter.unusedVariables false

theorem info34 : ∃ i, Tryz.prog.info? 34 = some i ∧ i.zero = some (.slice none 0 0) ∧ i.size = 1 ∧ i.bytes = 24 := by
  have h : (Tryz.prog.info? 34).map (fun i => (i.zero, i.size, i.bytes)) = some (some (.slice none 0 0), 1, 24) := by kernel_rfl
  cases hi : Tryz.prog.info? 34 with
  | none => rw [hi] at h; cases h
  | some i =>
    rw [hi] at h
    simp only [Option.map_some, Option.some.injEq, Prod.mk.injEq] at h
    exact ⟨i, rfl, h.1, h.2.1, h.2.2⟩
theorem Row.put {w : World} {lo e n j g c : Nat} {ys : List Value} (h : Row w lo e 1 (.slice (some ⟨g, 0, none⟩) n c) n ys) (hj : j < n) (v : Value) : Row (w.setCell ⟨g, j, none⟩ v) lo e 1 (.slice (some ⟨g, 0, none⟩) n c) n (ys.set j v) := by
  obtain ⟨h1, ⟨h2, _⟩ | ⟨g', cap, cur, e1, hb, hh, hn, hs, ht⟩⟩ := h
  · cases h2
  · cases e1
    refine ⟨by simpa using h1, .inr ⟨g, c, cur.setIfInBounds j v, rfl, hb, blkSet (i := j) hh v, hn, by simpa using hs, ?_⟩⟩
    rw [Array.toList_setIfInBounds, ← ht, Nat.mul_one, List.take_set]
theorem set_grown (w : World) (g j : Nat) (v : Value) : w.grownBy (w.setCell ⟨g, j, none⟩ v) (some g) := ⟨rfl, rfl, rfl, by simp, fun k hk hn => Below.heap_setCell w ⟨g, j, none⟩ v k (fun e => hn (by rw [show k = g from e]))⟩
theorem repl_step {j n : Nat} (v : Value) (xs : List Value) (hx : xs.length = n) (hj : j < n) : (List.replicate j v ++ xs.drop j).set j v = List.replicate (j + 1) v ++ xs.drop (j + 1) := by
  have e : xs.drop j = xs[j] :: xs.drop (j + 1) := List.drop_eq_getElem_cons (by omega)
  rw [e, List.set_append_right _ _ (by simp)]
  simp only [List.length_replicate, Nat.sub_self, List.set_cons_zero]
  rw [List.replicate_succ']
  simp

/-- On the way: j texts of l are written. -/
structure TxL (W W' : World) (lo B : Nat) (S : Nat → Prop) (rv : Value) (M : List TxM) (N : List CmM) (nx : Nat) (csv cmv ssv smv l : Value) (n : Nat) (ys : List Value) : Prop where
  own : OwnW W' lo B S rv M N nx csv cmv ssv smv
  row : Row W' lo 9 1 l n ys
  kept : ∀ (b : Nat) (o : Obj), W.heap[b]? = some o → b ≠ B → l.ownBlock ≠ some b → W'.heap[b]? = some o
  below : Below lo W W'
theorem OwnW.count {W : World} {lo B nx : Nat} {S : Nat → Prop} {rv csv cmv ssv smv : Value} {M : List TxM} {N : List CmM} (h : OwnW W lo B S rv M N nx csv cmv ssv smv) (k : Nat) : OwnW (W.setCell ⟨B, 6, none⟩ (.int .i64 (k : Int))) lo B S rv M N k csv cmv ssv smv := by
  have hk : ∀ (b : Nat) (Z : Array Value) (T : Nat), W.heap[b]? = some (.cells Z T (0, 0)) → T ≠ 87 → (W.setCell ⟨B, 6, none⟩ (.int .i64 (k : Int))).heap[b]? = W.heap[b]? := fun b Z T hZ hT => Below.heap_setCell _ _ _ _ (fun e => by rw [show b = B from e, h.wd] at hZ; cases hZ; exact hT rfl)
  exact ⟨(blkSet (i := 6) h.wd _).trans rfl, h.ge, h.cs.other (fun g Z _ hZ _ => hk g Z 28 hZ (by decide)), h.cm.other (fun g Z _ hZ _ => hk g Z 3 hZ (by decide)), h.ss.other (fun g Z _ hZ _ => hk g Z 34 hZ (by decide)), h.sm.other (fun g Z _ hZ _ => hk g Z 9 hZ (by decide)),
    fun e he => ⟨(h.tk e he).1.other (fun g Z _ hZ _ => hk g Z 9 hZ (by decide)), (h.tk e he).2⟩, fun e he => ⟨(h.nk e he).1.other (fun g Z _ hZ _ => hk g Z 36 hZ (by decide)), (h.nk e he).2⟩, h.smS⟩
theorem txl_start {W : World} {lo B nx n : Nat} {S : Nat → Prop} {rv csv cmv ssv smv l : Value} {M : List TxM} {N : List CmM} {ys : List Value} (h : OwnW W lo B S rv M N nx csv cmv ssv smv) (hl : Row W lo 9 1 l n ys) (hlo : lo ≤ W.heap.size) (A : Obj) : TxL W ((W.setCell ⟨B, 6, none⟩ (.int .i64 ((nx : Int) + 1))).alloc A).drew lo B S rv M N (nx + 1) csv cmv ssv smv l n ys := by
  have h1 := h.count (nx + 1)
  have e : (((nx + 1 : Nat) : Int)) = (nx : Int) + 1 := by omega
  rw [e] at h1
  have hsz : (W.setCell ⟨B, 6, none⟩ (.int .i64 ((nx : Int) + 1))).heap.size = W.heap.size := by simp
  have hl1 : Row (W.setCell ⟨B, 6, none⟩ (.int .i64 ((nx : Int) + 1))) lo 9 1 l n ys := hl.other (fun g Z _ hZ _ => Below.heap_setCell _ _ _ _ (fun e => by rw [show g = B from e, h.wd] at hZ; cases hZ))
  have hk1 : ∀ (b : Nat) (o : Obj), W.heap[b]? = some o → b ≠ B → (W.setCell ⟨B, 6, none⟩ (.int .i64 ((nx : Int) + 1))).heap[b]? = some o := fun b o hb hn => hs_set hb hn
  have hb1 : Below lo W (W.setCell ⟨B, 6, none⟩ (.int .i64 ((nx : Int) + 1))) := (Below.refl _ _).setCell (p := ⟨B, 6, none⟩) h.ge _
  generalize W.setCell ⟨B, 6, none⟩ (.int .i64 ((nx : Int) + 1)) = W1 at *
  have hB : Below W1.heap.size W1 (W1.alloc A).drew := ((Below.refl _ _).alloc (Nat.le_refl _) _).drew
  exact ⟨h1.below hB, hl1.other (fun g Z _ hZ _ => hB.block g (blkLt hZ)), fun b o hb hn _ => (hB.block b (blkLt (hk1 b o hb hn))).trans (hk1 b o hb hn), hb1.trans (hB.mono (by omega))⟩
theorem TxL.put {W W' : World} {lo B nx n g c j : Nat} {S : Nat → Prop} {rv csv cmv ssv smv : Value} {M : List TxM} {N : List CmM} {ys : List Value} (h : TxL W W' lo B S rv M N nx csv cmv ssv smv (.slice (some ⟨g, 0, none⟩) n c) n ys) (hlS : ¬ S g) (hj : j < n) (v : Value) : TxL W (W'.setCell ⟨g, j, none⟩ v) lo B S rv M N nx csv cmv ssv smv (.slice (some ⟨g, 0, none⟩) n c) n (ys.set j v) := by
  obtain ⟨cur, hc, hge, hlt⟩ := h.row.blk (g := g) rfl
  exact ⟨h.own.grown h.row (.inl rfl) (fun g' e => by cases e; exact hlS) (set_grown W' g j v), h.row.put hj v, fun b o hb hn hl => hs_set (h.kept b o hb hn hl) (fun e => hl (by rw [show b = g from e]; rfl)), h.below.setCell (p := ⟨g, j, none⟩) hge _⟩
theorem TxL.at_ {W W' : World} {lo B nx n : Nat} {S : Nat → Prop} {rv csv cmv ssv smv l : Value} {M : List TxM} {N : List CmM} {m : ByteArray} (h : TxL W W' lo B S rv M N nx csv cmv ssv smv l n (List.replicate n (.string m))) : TxAt W W' lo B S rv M N nx csv cmv ssv smv l n m [] :=
  ⟨h.own, h.row, (fun e he => by cases he), h.kept, h.below⟩

theorem fin_wB {W W2 W3 : World} {lo B nx n : Nat} {S : Nat → Prop} {rv csv cmv ssv smv l : Value} {M : List TxM} {N : List CmM} {m : ByteArray} {G : List (Value × Nat)} {A : Obj} (h : TxAt W W2 lo B S rv M N nx csv cmv ssv smv l n m G) (hg3 : (W2.alloc A).grownBy W3 ssv.ownBlock) : W3.heap[B]? = some (.cells #[rv, .slice none 0 0, csv, cmv, ssv, smv, .int .i64 (nx : Int)] 87 (0, 0)) := by
  have hBa : Below W2.heap.size W2 (W2.alloc A) := (Below.refl _ _).alloc (Nat.le_refl _) _
  exact (hg3.block B (by rw [World.size_alloc]; have := blkLt h.own.wd; omega) (row_ne h.own.ss h.own.wd (by decide))).trans ((hBa.block B (blkLt h.own.wd)).trans h.own.wd)
theorem fin_sm {W W2 W3 : World} {lo B nx n : Nat} {S : Nat → Prop} {rv csv cmv ssv smv ssv' l : Value} {M : List TxM} {N : List CmM} {m : ByteArray} {G : List (Value × Nat)} {A A' : Obj} (h : TxAt W W2 lo B S rv M N nx csv cmv ssv smv l n m G) (hlo : lo ≤ W.heap.size) (hg3 : (W2.alloc A).grownBy W3 ssv.ownBlock) : Row ((W3.setCell ⟨B, 4, none⟩ ssv').alloc A') lo 9 1 smv M.length (M.map fun e => Value.string e.m) := by
  have hBa : Below W2.heap.size W2 (W2.alloc A) := (Below.refl _ _).alloc (Nat.le_refl _) _
  have hszA : (W2.alloc A).heap.size = W2.heap.size + 1 := World.size_alloc _ _
  exact h.own.sm.other (fun g Z hg hZ _ => (hs_alloc (hs_set ((hg3.block g (by rw [hszA]; have := blkLt hZ; omega) (row_ne h.own.ss hZ (by decide))).trans ((hBa.block g (blkLt hZ)).trans hZ)) (fun e => by rw [show g = B from e, h.own.wd] at hZ; cases hZ)) _).trans hZ.symm)
theorem fin_wB2 {W W2 W3 W5 : World} {lo B nx n : Nat} {S : Nat → Prop} {rv csv cmv ssv smv ssv' l : Value} {M : List TxM} {N : List CmM} {m : ByteArray} {G : List (Value × Nat)} {A A' : Obj} (h : TxAt W W2 lo B S rv M N nx csv cmv ssv smv l n m G) (hlo : lo ≤ W.heap.size) (hg3 : (W2.alloc A).grownBy W3 ssv.ownBlock) (hg5 : ((W3.setCell ⟨B, 4, none⟩ ssv').alloc A').grownBy W5 smv.ownBlock) : W5.heap[B]? = some (.cells #[rv, .slice none 0 0, csv, cmv, ssv', smv, .int .i64 (nx : Int)] 87 (0, 0)) := by
  have hb := blkSet (i := 4) (fin_wB h hg3) ssv'
  have hrow := fin_sm (A' := A') (ssv' := ssv') h hlo hg3
  have hb2 : ((W3.setCell ⟨B, 4, none⟩ ssv').alloc A').heap[B]? = some (.cells #[rv, .slice none 0 0, csv, cmv, ssv', smv, .int .i64 (nx : Int)] 87 (0, 0)) := hs_alloc (hb.trans rfl) _
  generalize (W3.setCell ⟨B, 4, none⟩ ssv').alloc A' = W4 at *
  exact (hg5.block B (blkLt hb2) (row_ne hrow hb2 (by decide))).trans hb2
set_option maxRecDepth 20000 in
set_option maxHeartbeats 8000000 in
theorem ownTexts_any (B nx n lo : Nat) (S : Nat → Prop) (rv csv cmv ssv smv : Value) (M : List TxM) (N : List CmM) (la : Option Addr) (lc : Nat) (xs : List Value) (W : World) (h : OwnW W lo B S rv M N nx csv cmv ssv smv) (hl : Row W lo 9 1 (.slice la n lc) n xs) (hlS : ∀ g, (Value.slice la n lc).ownBlock = some g → ¬ S g) (hlo : lo ≤ W.heap.size) (hn : n ≤ 1000000) (hM : M.length ≤ 5000000000000) (hnx : nx ≤ 1000000000000000) :
    Calls Tryz.prog 150 #[.pointer (some ⟨B, 0, none⟩), .slice la n lc] W fun e w' => e = .returned (.tuple #[]) ∧ ∃ m g1 g2 g3 ssv' smv', OwnW w' lo B (fun g => S g ∨ (Value.slice la n lc).ownBlock = some g ∨ W.heap.size ≤ g) rv (M ++ [⟨.slice la n lc, n, m, by omega⟩, ⟨g1, n + 1, m, by omega⟩, ⟨g2, n + 2, m, by omega⟩, ⟨g3, n + 3, m, by omega⟩]) N (nx + 1) csv cmv ssv' smv' ∧ TxTo W w' lo B S (.slice la n lc) := by
  have c6 := blkCell h.wd 6
  have cf := blkFree h.wd
  simp at c6
  have hBl := blkLt h.wd
  have hcv := conv3 W B ((nx : Int) + 1)
  have hms := mkNum_size ((nx : Int) + 1)
  have HS := hide' (fun A => txl_start h hl hlo A)
  have hxl : xs.length = n := by simpa using hl.1
  have HXL := hide' hxl
  have HL9 : Hid (∀ g, (Value.slice la n lc).ownBlock = some g → ¬ S g ∧ ∃ Z, W.heap[g]? = some (.cells Z 9 (0, 0))) := fun g hg => ⟨hlS g hg, (hl.blk hg).imp (fun Z hZ => hZ.1)⟩
  obtain ⟨i9, hi, hz0, hz1, hz2⟩ := info9
  have HI := hide' (And.intro hi (And.intro hz0 (And.intro hz1 hz2)))
  obtain ⟨i34, hi', hz0', hz1', hz2'⟩ := info34
  have HJ := hide' (And.intro hi' (And.intro hz0' (And.intro hz1' hz2')))
  have hSW : ∀ g, smv.ownBlock = some g → g < W.heap.size := fun g hg => (h.sm.blk hg).choose_spec.2.2
  have HLS := hide' (And.intro hlS hSW)
  clear h hl hlS hSW hxl hi hz0 hz1 hz2 hi' hz0' hz1' hz2'
  generalize mkNum ((nx : Int) + 1) = mn at *
  go_enter Tryz.func150, Tryz.ntmps150
  go_upto_region 1 with fail
  go_cut [4] (fun s4 W' => ∃ m : ByteArray, s4 = .string m ∧ Hid (TxL W W' lo B S rv M N (nx + 1) csv cmv ssv smv (.slice la n lc) n xs))
  case first =>
    go_big_region
    all_goals go_wp2_with fail
    all_goals go_meet
    case rel => exact ⟨_, rfl, HS.out _⟩
  case rest =>
    clear c6 cf hcv hms HS
    obtain ⟨m, rfl, HT⟩ := hcut
    go_wp2_with fail
    go_loopw [5] (fun i wr => ∃ j : Nat, i = .int .i64 (j : Int) ∧ j ≤ n ∧ Hid (TxL W wr lo B S rv M N (nx + 1) csv cmv ssv smv (.slice la n lc) n (List.replicate j (.string m) ++ xs.drop j))) (fun i _ => n - (intOf i).toNat)
    case atStart => exact ⟨0, rfl, Nat.zero_le _, by show TxL _ _ _ _ _ _ _ _ _ _ _ _ _ _ _ _; simpa using HT.out⟩
    case round =>
      clear HT
      obtain ⟨j, rfl, hj, HT⟩ := hrel
      by_cases hjn : j < n
      · obtain ⟨_, ⟨_, h0⟩ | ⟨g, cap, cur, e1, hge, hh, hnc, hcs, ht⟩⟩ := HT.out.row
        · omega
        · cases e1
          have hcur : j < cur.size := by omega
          have cj : wr.cell? ⟨g, j, none⟩ = some cur[j] := by rw [blkCell hh j]; exact Array.getElem?_eq_getElem hcur
          have cfj := blkFree hh
          have hgl := blkLt hh
          have HP := hide' (HT.out.put (HLS.out.1 g rfl) hjn (.string m))
          rw [repl_step (.string m) xs HXL.out hjn] at HP
          clear hh ht
          go_wp2
          go_roundw
          case rel => exact ⟨j + 1, by go_num, by omega, HP⟩
          case measure => simp [intOf]; omega
      · have hjn2 : j = n := by omega
        subst hjn2
        have hT := HT.out
        rw [List.drop_eq_nil_of_le (by rw [HXL.out]; exact Nat.le_refl _), List.append_nil] at hT
        have HA := hide' hT.at_
        clear HT hT
        go_upto_region 7 with (first
          | (at_builtin; refine wpList_append_row _ rfl _ _ _ rfl lo 9 i9 (.string ⟨#[]⟩) 1 16 Tryz.underlying34 HI.out.1 HI.out.2.1 HI.out.2.2.1 HI.out.2.2.2 rfl (by omega) (.slice la j lc) j (List.replicate j (.string m)) rfl (HA.out.alloc hlo _).row ⟨_, 0, none⟩ 1 1 [.string m] rfl rfl (World.news_of_block (hs_new rfl)) (by simp [Value.oneCell']) (by omega) (by unfold maxLen; omega) (by omega) (by have := HA.out.below.size; simp; omega) ?_; intro v' wg1 hrow hg hat hall; obtain ⟨ug1a, ug1c, huf⟩ := hrow.form; subst huf; have Hg1 := hide' ((HA.out.alloc hlo _).grow (k := 1) hlo HLS.out.1 (by simp) hrow hg hat hall); clear hrow hg hat hall)
          | fail)
        clear HA
        go_upto_region 8 with (first
          | (at_builtin; refine wpList_append_row _ rfl _ _ _ rfl lo 9 i9 (.string ⟨#[]⟩) 1 16 Tryz.underlying34 HI.out.1 HI.out.2.1 HI.out.2.2.1 HI.out.2.2.2 rfl (by omega) (.slice la j lc) j (List.replicate j (.string m)) rfl (Hg1.out.alloc hlo _).row ⟨_, 0, none⟩ 2 2 [.string m, .string m] rfl rfl (World.news_of_block (hs_new rfl)) (by simp [Value.oneCell']) (by omega) (by unfold maxLen; omega) (by omega) (by have := Hg1.out.below.size; simp; omega) ?_; intro v' wg2 hrow hg hat hall; obtain ⟨ug2a, ug2c, huf⟩ := hrow.form; subst huf; have Hg2 := hide' ((Hg1.out.alloc hlo _).grow (k := 2) hlo HLS.out.1 (by simp) hrow hg hat hall); clear hrow hg hat hall)
          | fail)
        clear Hg1
        go_upto_region 9 with (first
          | (at_builtin; refine wpList_append_row _ rfl _ _ _ rfl lo 9 i9 (.string ⟨#[]⟩) 1 16 Tryz.underlying34 HI.out.1 HI.out.2.1 HI.out.2.2.1 HI.out.2.2.2 rfl (by omega) (.slice la j lc) j (List.replicate j (.string m)) rfl (Hg2.out.alloc hlo _).row ⟨_, 0, none⟩ 3 3 [.string m, .string m, .string m] rfl rfl (World.news_of_block (hs_new rfl)) (by simp [Value.oneCell']) (by omega) (by unfold maxLen; omega) (by omega) (by have := Hg2.out.below.size; simp; omega) ?_; intro v' wg3 hrow hg hat hall; obtain ⟨ug3a, ug3c, huf⟩ := hrow.form; subst huf; have Hg3 := hide' ((Hg2.out.alloc hlo _).grow (k := 3) hlo HLS.out.1 (by simp) hrow hg hat hall); clear hrow hg hat hall)
          | fail)
        clear Hg2
        have c4 := blkCell Hg3.out.own.wd 4
        have c5 := blkCell Hg3.out.own.wd 5
        have cf := blkFree Hg3.out.own.wd
        simp at c4 c5
        have hBl3 := blkLt Hg3.out.own.wd
        have hlo3 : lo ≤ wg3.heap.size := by have := Hg3.out.below.size; omega
        generalize hMl : M.length = ml at *
        have HML := hide' hMl
        clear hMl
        go_upto_region 10 with (first
          | (at_builtin; refine wpList_append_row _ rfl _ _ _ rfl lo 34 i34 (.slice none 0 0) 1 24 Tryz.underlying85 HJ.out.1 HJ.out.2.1 HJ.out.2.2.1 HJ.out.2.2.2 rfl (by omega) ssv ml (M.map (·.v)) rfl (by have hr := (Hg3.out.alloc hlo (.cells #[.slice la j lc, .slice ug1a (j + 1) ug1c, .slice ug2a (j + 2) ug2c, .slice ug3a (j + 3) ug3c] 34)).own.ss; rw [HML.out] at hr; exact hr) ⟨_, 0, none⟩ 4 4 [.slice la j lc, .slice ug1a (j + 1) ug1c, .slice ug2a (j + 2) ug2c, .slice ug3a (j + 3) ug3c] rfl rfl (World.news_of_block (hs_new rfl)) (by simp [Value.oneCell']) (by omega) (by unfold maxLen; omega) (by omega) (by simp; omega) ?_; intro ssv' w10 hrow hg hat hall; obtain ⟨ta, tc, huf⟩ := hrow.form; subst huf; have HR1 := hide' (And.intro hrow hg); have hs10 := hg.size; have wB10 := fin_wB Hg3.out hg; clear c4 c5 cf; have c4 := blkCell wB10 4; have c5 := blkCell wB10 5; have cf := blkFree wB10; simp at c4 c5; have hBl10 := blkLt wB10; clear hrow hg hat hall wB10)
          | fail)
        have hlo10 : lo ≤ w10.heap.size := by rw [World.size_alloc] at hs10; omega
        have hsmr := fin_sm Hg3.out hlo HR1.out.2 (A' := .cells #[.string m, .string m, .string m, .string m] 9) (ssv' := .slice ta (ml + 4) tc)
        rw [HML.out] at hsmr
        have HSMR := hide' hsmr
        clear hsmr
        go_wp2_with (first
          | (at_builtin; refine wpList_append_row _ rfl _ _ _ rfl lo 9 i9 (.string ⟨#[]⟩) 1 16 Tryz.underlying34 HI.out.1 HI.out.2.1 HI.out.2.2.1 HI.out.2.2.2 rfl (by omega) smv ml (M.map fun e => .string e.m) rfl HSMR.out ⟨w10.heap.size, 0, none⟩ 4 4 [.string m, .string m, .string m, .string m] rfl rfl (World.news_of_block (cs := #[.string m, .string m, .string m, .string m]) (hs_new (by simp))) (by simp [Value.oneCell']) (by omega) (by unfold maxLen; omega) (by omega) (by simp; omega) ?_; intro smv' w11 hrow hg hat hall; obtain ⟨sa, sc, huf⟩ := hrow.form; subst huf; have HR2 := hide' (And.intro hrow (And.intro hg hat)); have wB11 := fin_wB2 Hg3.out hlo HR1.out.2 hg; clear c4 c5 cf; have c5 := blkCell wB11 5; have cf := blkFree wB11; simp at c5; have hBl11 := blkLt wB11; clear hrow hg hat hall wB11)
          | fail)
        go_end0
        have hr1 := HR1.out.1
        have hr2 := HR2.out.1
        have hfin := TxAt.fin Hg3.out (by omega) hlo HL9.out HLS.out.2 (by rw [HML.out]; exact hr1) HR1.out.2 (by rw [HML.out]; exact hr2) HR2.out.2.1 HR2.out.2.2
        exact ⟨rfl, m, _, _, _, _, _, hfin.1, hfin.2⟩
end Go.Proofs.YtlonjggfnleolaaGreatDoor


/-
  A list of commands that came out: what the law then keeps.
-/

namespace Go.Proofs.YtlonjggfnleolaaGreatDoor
open Go.RowKit Go.Shelf
set_option linter.unusedVariables false

theorem step_append_row {P : Program} (w : World) {ops : Array Oper} {o : Oper} {a : Act} {K : Act → World → Prop} {Q : Exit → Act → World → Prop} {E : Prop} (hgd : o.guard = none) (s x : Operand) (t : TypeId)
    (ho : o.op = .call { callee := .builtin .append, args := #[s, x], argTypes := #[t, t] })
    (lo : Nat) (e : TypeId) (i : TypeInfo) (z : Value) (size bytes : Nat) (ht : P.underlying t = some (.slice e)) (hi : P.info? e = some i) (hz : i.zero = some z)
    (hsize : i.size = size) (hby : i.bytes = bytes) (hzs : z.cells.size = size) (hsz : 0 < size)
    (v : Value) (n : Nat) (xs : List Value) (hs : a.eval s = v) (hrow : Row w lo e size v n xs)
    (ad : Addr) (m c : Nat) (news : List Value) (hx : a.eval x = .slice (some ad) m c) (hl : news.length = m * size) (hnews : ∀ j u, news[j]? = some u → w.cell? (ad.add j) = some u) (h1 : ∀ u ∈ news, u.oneCell' = true)
    (hm : 0 < m) (h63 : n + m ≤ maxLen) (hbytes : (n + m) * bytes ≤ 140737488355328) (hlo : lo ≤ w.heap.size)
    (h : ∀ va vc w', Row w' lo e size (.slice va (n + m) vc) (n + m) (xs ++ news) → w.grownBy w' v.ownBlock → K (a.put o.dst (.slice va (n + m) vc)) w') :
    if Region.wanted o (yielded ops a.tmps) = true then Oper.wp P o a w K Q else E := by
  have hw : Region.wanted o (yielded ops a.tmps) = true := by simp [Region.wanted, hgd]
  rw [if_pos hw]
  obtain ⟨v', w', hr, h2, h3, h4, h5⟩ := run_append_row (P := P) w lo t o.type e i z size bytes ht hi hz hsize hby hzs hsz v n xs hrow ad m c news hl hnews h1 hm h63 hbytes hlo
  obtain ⟨va, vc, hv⟩ := h2.form
  subst hv
  unfold Oper.wp execOp
  simp only [ho, resolve, invoke, builtin, Sem.run_bind, Sem.run_pure, Result.andThen_ok, List.map_toArray, List.map_cons, List.map_nil, hs, hx, hr]
  exact h va vc w' h2 h3

theorem marks_add (n k : Nat) (id : Int) : marks n id ++ marks k id = marks (n + k) id := by
  unfold marks
  rw [← List.replicate_append_replicate, List.flatten_append]
theorem marks_take (j n : Nat) (id : Int) (h : j ≤ n) : (marks n id).take (j * 6) = marks j id := by
  obtain ⟨k, rfl⟩ : ∃ k, n = j + k := ⟨n - j, by omega⟩
  rw [← marks_add, ← marks_len j id, List.take_left]

structure CmAt (W W' : World) (lo B : Nat) (S : Nat → Prop) (rv : Value) (M : List TxM) (N : List CmM) (nx : Nat) (csv cmv ssv smv l : Value) (n : Nat) (id : Int) (G : List (Value × Nat)) : Prop where
  own : OwnW W' lo B S rv M N nx csv cmv ssv smv
  row : Row W' lo 36 6 l n (marks n id)
  gs : ∀ e ∈ G, Row W' lo 36 6 e.1 e.2 (marks e.2 id)
  kept : ∀ (b : Nat) (o : Obj), W.heap[b]? = some o → b ≠ B → l.ownBlock ≠ some b → W'.heap[b]? = some o
  below : Below lo W W'
theorem CmAt.alloc {W W' : World} {lo B nx n : Nat} {S : Nat → Prop} {rv csv cmv ssv smv l : Value} {M : List TxM} {N : List CmM} {id : Int} {G : List (Value × Nat)} (h : CmAt W W' lo B S rv M N nx csv cmv ssv smv l n id G) (hlo : lo ≤ W.heap.size) (A : Obj) : CmAt W (W'.alloc A) lo B S rv M N nx csv cmv ssv smv l n id G := by
  have hB : Below W'.heap.size W' (W'.alloc A) := (Below.refl _ _).alloc (Nat.le_refl _) _
  have hs := h.below.size
  exact ⟨h.own.below hB, h.row.other (fun g Z _ hZ _ => hB.block g (blkLt hZ)), fun e he => (h.gs e he).other (fun g Z _ hZ _ => hB.block g (blkLt hZ)), fun b o ho hb hl => hs_alloc (h.kept b o ho hb hl) _, h.below.alloc (by omega) _⟩
theorem CmAt.grow {W W1 W2 : World} {lo B nx n k : Nat} {S : Nat → Prop} {rv csv cmv ssv smv l v' : Value} {M : List TxM} {N : List CmM} {id : Int} {G : List (Value × Nat)} (h : CmAt W W1 lo B S rv M N nx csv cmv ssv smv l n id G) (hlo : lo ≤ W.heap.size) (hlS : ∀ g, l.ownBlock = some g → ¬ S g) (hG : ∀ e ∈ G, e.2 ≤ n + k)
    (hrow : Row W2 lo 36 6 v' (n + k) (marks n id ++ marks k id)) (hg : W1.grownBy W2 l.ownBlock)
    (hall : ∀ u j ys, Row W1 lo 36 6 u j ys → (u.ownBlock = l.ownBlock → j ≤ n + k ∧ ys = (marks n id ++ marks k id).take (j * 6)) → Row W2 lo 36 6 u j ys) :
    CmAt W W2 lo B S rv M N nx csv cmv ssv smv l n id (G ++ [(v', n + k)]) := by
  have hs := h.below.size
  have htk : ∀ j, j ≤ n + k → marks j id = (marks n id ++ marks k id).take (j * 6) := by
    intro j hj
    rw [marks_add, marks_take j (n + k) id hj]
  refine ⟨h.own.grown h.row (.inr rfl) hlS hg, hall _ _ _ h.row (fun _ => ⟨by omega, htk n (by omega)⟩), fun e he => ?_, fun b o ho hb hl => (hg.block b (blkLt (h.kept b o ho hb hl)) (fun e => hl e.symm)).trans (h.kept b o ho hb hl), ?_⟩
  · rcases List.mem_append.1 he with he | he
    · exact hall _ _ _ (h.gs e he) (fun _ => ⟨hG e he, htk e.2 (hG e he)⟩)
    · rw [List.mem_singleton] at he
      subst he
      rw [marks_add] at hrow
      exact hrow
  · refine h.below.trans ⟨hg.os, hg.tape, hg.output, hg.size, fun b hb => hg.block b (by omega) (fun e => ?_)⟩
    obtain ⟨_, _, hge, _⟩ := h.row.blk e.symm
    omega

/-- What a list of commands' marking leaves as it was. -/
structure CmTo (W W' : World) (lo : Nat) : Prop where
  below : Below lo W W'
  kept : ∀ (b : Nat) (Z : Array Value) (T : Nat) (f : Nat × Nat), W.heap[b]? = some (.cells Z T f) → T ≠ 87 → T ≠ 34 → T ≠ 9 → T ≠ 36 → T ≠ 28 → T ≠ 3 → W'.heap[b]? = some (.cells Z T f)
  other : ∀ (b : Nat) (o : Obj), W.heap[b]? = some o → (∀ Z T f, o ≠ .cells Z T f) → W'.heap[b]? = some o
theorem CmTo.trans {A B C : World} {lo : Nat} (h : CmTo A B lo) (k : CmTo B C lo) : CmTo A C lo :=
  ⟨h.below.trans k.below, fun b Z T f hb h1 h2 h3 h4 h5 h6 => k.kept b Z T f (h.kept b Z T f hb h1 h2 h3 h4 h5 h6) h1 h2 h3 h4 h5 h6, fun b o hb ho => k.other b o (h.other b o hb ho) ho⟩

theorem CmAt.fin {W W2 W3 W5 : World} {lo B nx n : Nat} {S : Nat → Prop} {rv csv cmv ssv smv csv' cmv' l g1 g2 g3 : Value} {M : List TxM} {N : List CmM} {id : Int} {A A' : Obj}
    (h : CmAt W W2 lo B S rv M N nx csv cmv ssv smv l n id [(g1, n + 1), (g2, n + 2), (g3, n + 3)]) (hn3 : n ≤ 2000000) (hlo : lo ≤ W.heap.size)
    (hl36 : ∀ b, l.ownBlock = some b → ∃ Z, W.heap[b]? = some (.cells Z 36 (0, 0))) (hWB : ∃ Z, W.heap[B]? = some (.cells Z 87 (0, 0)))
    (hcs : Row W3 lo 28 1 csv' (N.length + 4) (N.map (·.v) ++ [l, g1, g2, g3])) (hg3 : (W2.alloc A).grownBy W3 csv.ownBlock)
    (hcm : Row W5 lo 3 1 cmv' (N.length + 4) ((N.map fun e => Value.int .i64 e.id) ++ [.int .i64 id, .int .i64 id, .int .i64 id, .int .i64 id])) (hg5 : ((W3.setCell ⟨B, 2, none⟩ csv').alloc A').grownBy W5 cmv.ownBlock) :
    OwnW (W5.setCell ⟨B, 3, none⟩ cmv') lo B (fun g => g < (W5.setCell ⟨B, 3, none⟩ cmv').heap.size) rv M (N ++ [⟨l, n, id, by omega⟩, ⟨g1, n + 1, id, by omega⟩, ⟨g2, n + 2, id, by omega⟩, ⟨g3, n + 3, id, by omega⟩]) nx csv' cmv' ssv smv ∧ CmTo W (W5.setCell ⟨B, 3, none⟩ cmv') lo := by
  have hsz2 := h.below.size
  have hBa : Below W2.heap.size W2 (W2.alloc A) := (Below.refl _ _).alloc (Nat.le_refl _) _
  have hcsA : Row (W2.alloc A) lo 28 1 csv N.length (N.map (·.v)) := h.own.cs.other (fun g Z _ hZ _ => hBa.block g (blkLt hZ))
  have hszA : (W2.alloc A).heap.size = W2.heap.size + 1 := World.size_alloc _ _
  have k3 : ∀ (b : Nat) (o : Obj), W2.heap[b]? = some o → some b ≠ csv.ownBlock → W3.heap[b]? = some o := fun b o hb hn => (hg3.block b (by rw [hszA]; have := blkLt hb; omega) hn).trans ((hBa.block b (blkLt hb)).trans hb)
  have wB3 := k3 B _ h.own.wd (row_ne h.own.cs h.own.wd (by decide))
  have wB4 := blkSet (i := 2) wB3 csv'
  have hsz3 := hg3.size
  have k4 : ∀ (b : Nat) (o : Obj), W2.heap[b]? = some o → b ≠ B → some b ≠ csv.ownBlock → (W3.setCell ⟨B, 2, none⟩ csv').heap[b]? = some o := fun b o hb hn hs => hs_set (k3 b o hb hs) hn
  have hcs4 : Row (W3.setCell ⟨B, 2, none⟩ csv') lo 28 1 csv' (N.length + 4) (N.map (·.v) ++ [l, g1, g2, g3]) := hcs.other (fun g Z _ hZ _ => Below.heap_setCell _ _ _ _ (fun e => by rw [show g = B from e, wB3] at hZ; cases hZ))
  have hsz4 : (W3.setCell ⟨B, 2, none⟩ csv').heap.size = W3.heap.size := by simp
  have hcm4 : Row (W3.setCell ⟨B, 2, none⟩ csv') lo 3 1 cmv N.length (N.map fun e => Value.int .i64 e.id) := h.own.cm.other (fun g Z hg hZ _ => (k4 g _ hZ (fun e => by rw [e, h.own.wd] at hZ; cases hZ) (row_ne h.own.cs hZ (by decide))).trans hZ.symm)
  have hB4 : Below lo W2 (W3.setCell ⟨B, 2, none⟩ csv') := ((hBa.mono (by omega)).trans (row_below hcsA hg3 (by rw [hszA]; omega))).setCell (p := ⟨B, 2, none⟩) h.own.ge _
  generalize W3.setCell ⟨B, 2, none⟩ csv' = W4 at *
  have hBb : Below W4.heap.size W4 (W4.alloc A') := (Below.refl _ _).alloc (Nat.le_refl _) _
  have hszB : (W4.alloc A').heap.size = W4.heap.size + 1 := World.size_alloc _ _
  have hcmB : Row (W4.alloc A') lo 3 1 cmv N.length (N.map fun e => Value.int .i64 e.id) := hcm4.other (fun g Z _ hZ _ => hBb.block g (blkLt hZ))
  have k5 : ∀ (b : Nat) (o : Obj), W4.heap[b]? = some o → some b ≠ cmv.ownBlock → W5.heap[b]? = some o := fun b o hb hn => (hg5.block b (by rw [hszB]; have := blkLt hb; omega) hn).trans ((hBb.block b (blkLt hb)).trans hb)
  have wB5 := k5 B _ wB4 (row_ne hcm4 wB4 (by decide))
  have wB6 := blkSet (i := 3) wB5 cmv'
  have hB5 : Below lo W4 W5 := (hBb.mono (by omega)).trans (row_below hcmB hg5 (by rw [hszB]; omega))
  have k6 : ∀ (b : Nat) (o : Obj), W4.heap[b]? = some o → b ≠ B → some b ≠ cmv.ownBlock → (W5.setCell ⟨B, 3, none⟩ cmv').heap[b]? = some o := fun b o hb hn hs => hs_set (k5 b o hb hs) hn
  have hB6 : Below lo W4 (W5.setCell ⟨B, 3, none⟩ cmv') := hB5.setCell (p := ⟨B, 3, none⟩) h.own.ge _
  have hcm6 : Row (W5.setCell ⟨B, 3, none⟩ cmv') lo 3 1 cmv' (N.length + 4) ((N.map fun e => Value.int .i64 e.id) ++ [.int .i64 id, .int .i64 id, .int .i64 id, .int .i64 id]) := hcm.other (fun g Z _ hZ _ => Below.heap_setCell _ _ _ _ (fun e => by rw [show g = B from e, wB5] at hZ; cases hZ))
  generalize W5.setCell ⟨B, 3, none⟩ cmv' = W6 at *
  have k26 : ∀ (b T : Nat) (Z : Array Value), W2.heap[b]? = some (.cells Z T (0, 0)) → T ≠ 28 → T ≠ 87 → T ≠ 3 → W6.heap[b]? = W2.heap[b]? := fun b T Z hb h1 h2 h3 => by
    have hbB : b ≠ B := fun e => by rw [e, h.own.wd] at hb; cases hb; exact h2 rfl
    have hb4 := k4 b _ hb hbB (row_ne h.own.cs hb h1)
    exact (k6 b _ hb4 hbB (row_ne hcm4 hb4 h3)).trans hb.symm
  have own6 : OwnW W6 lo B (fun g => S g ∨ True) rv M (N ++ [⟨l, n, id, by omega⟩, ⟨g1, n + 1, id, by omega⟩, ⟨g2, n + 2, id, by omega⟩, ⟨g3, n + 3, id, by omega⟩]) nx csv' cmv' ssv smv := by
    refine ⟨wB6.trans rfl, h.own.ge, ?_, ?_, h.own.ss.other (fun g Z _ hZ _ => k26 g 34 Z hZ (by decide) (by decide) (by decide)), h.own.sm.other (fun g Z _ hZ _ => k26 g 9 Z hZ (by decide) (by decide) (by decide)), ?_, ?_, fun _ _ => .inr trivial⟩
    · have := hcs4.other (w' := W6) (fun g Z _ hZ _ => (k6 g _ hZ (fun e => by rw [e, wB4] at hZ; cases hZ) (row_ne hcm4 hZ (by decide))).trans hZ.symm)
      rw [List.length_append, List.map_append]
      exact this
    · rw [List.length_append, List.map_append]
      exact hcm6
    · intro e he
      obtain ⟨r1, r2⟩ := h.own.tk e he
      exact ⟨r1.other (fun g Z _ hZ _ => k26 g 9 Z hZ (by decide) (by decide) (by decide)), fun g hg => ⟨.inr trivial, (r2 g hg).2⟩⟩
    · intro e he
      have key : ∀ (v : Value) (j : Nat) (x : Int), Row W2 lo 36 6 v j (marks j x) → Row W6 lo 36 6 v j (marks j x) := fun v j x hv => hv.other (fun g Z _ hZ _ => k26 g 36 Z hZ (by decide) (by decide) (by decide))
      rcases List.mem_append.1 he with he | he
      · exact ⟨key _ _ _ (h.own.nk e he).1, fun _ _ => .inr trivial⟩
      · simp only [List.mem_cons, List.not_mem_nil, or_false] at he
        rcases he with rfl | rfl | rfl | rfl
        · exact ⟨key _ _ _ h.row, fun _ _ => .inr trivial⟩
        · exact ⟨key _ _ _ (h.gs (g1, n + 1) (by simp)), fun _ _ => .inr trivial⟩
        · exact ⟨key _ _ _ (h.gs (g2, n + 2) (by simp)), fun _ _ => .inr trivial⟩
        · exact ⟨key _ _ _ (h.gs (g3, n + 3) (by simp)), fun _ _ => .inr trivial⟩
  have hoth : ∀ (b : Nat) (o : Obj), W.heap[b]? = some o → (∀ Z T f, o ≠ .cells Z T f) → W6.heap[b]? = some o := fun b o hb ho => by
    have ne : ∀ {V : World} {e size j : Nat} {v : Value} {xs : List Value}, Row V lo e size v j xs → V.heap[b]? = some o → some b ≠ v.ownBlock := fun hv hVb hvb => by
      obtain ⟨Z, hZ, _⟩ := hv.blk hvb.symm
      rw [hVb] at hZ
      exact ho _ _ _ (Option.some.inj hZ)
    have hbB : b ≠ B := fun e => by
      obtain ⟨Z', hZ'⟩ := hWB
      rw [e, hZ'] at hb
      exact ho _ _ _ (Option.some.inj hb).symm
    have hl : l.ownBlock ≠ some b := fun e => by
      obtain ⟨Z', hZ'⟩ := hl36 b e
      rw [hb] at hZ'
      exact ho _ _ _ (Option.some.inj hZ')
    have hb2 := h.kept b _ hb hbB hl
    have hb4 := k4 b _ hb2 hbB (ne h.own.cs hb2)
    exact k6 b _ hb4 hbB (ne hcm4 hb4)
  refine ⟨own6.take, ⟨h.below.trans (hB4.trans hB6), fun b Z T f hb h1 h2 h3 h4 h5 h6 => ?_, hoth⟩⟩
  have hbB : b ≠ B := fun e => by
    obtain ⟨Z', hZ'⟩ := hWB
    rw [e, hZ'] at hb
    cases hb
    exact h1 rfl
  have hl : l.ownBlock ≠ some b := fun e => by
    obtain ⟨Z', hZ'⟩ := hl36 b e
    rw [hb] at hZ'
    cases hZ'
    exact h4 rfl
  have hb2 := h.kept b _ hb hbB hl
  have hb4 := k4 b _ hb2 hbB (row_ne h.own.cs hb2 h5)
  exact k6 b _ hb4 hbB (row_ne hcm4 hb4 h6)
end Go.Proofs.YtlonjggfnleolaaGreatDoor


/-
  ownCommands: the keys of each command that came out.
-/

namespace Go.Proofs.YtlonjggfnleolaaGreatDoor
open Go.RowKit Go.Shelf
set_option linter.unusedVariables false

theorem keys_row {W : World} {lo : Nat} {kv : Value} {ss : List ByteArray} (h : KeysIn W lo kv ss) : ∃ a c xs, kv = .slice a ss.length c ∧ Row W lo 9 1 kv ss.length xs := by
  rcases h with ⟨rfl, rfl⟩ | ⟨b, c, rfl, hl, Z, hZ, hs, hn, _⟩
  · exact ⟨none, 0, [], rfl, Row.nil _ _ _ _⟩
  · refine ⟨some ⟨b, 0, none⟩, c, Z.toList.take ss.length, rfl, ?_, .inr ⟨b, c, Z, rfl, hl, hZ, hn, by omega, by rw [Nat.mul_one]⟩⟩
    have h1 : Z.toList.length = c := by simpa using hs
    rw [List.length_take, h1, Nat.mul_one]
    exact Nat.min_eq_left hn
/-- The blocks that are taken when the keys of k commands are marked. -/
def takenK (lo2 hs : Nat) (kvs : List Value) (k g : Nat) : Prop := g < lo2 ∨ (∃ i kv, i < k ∧ kvs[i]? = some kv ∧ kv.ownBlock = some g) ∨ hs ≤ g
structure CmK (W wr : World) (lo lo2 B : Nat) (rv : Value) (ml nx : Nat) (N : List CmM) (csv cmv l : Value) (cs : List Cmd) (kvs : List Value) (k : Nat) (M' : List TxM) (ssv smv : Value) : Prop where
  own : OwnW wr lo B (takenK lo2 W.heap.size kvs k) rv M' N (nx + k) csv cmv ssv smv
  len : M'.length = ml + 4 * k
  row : Row wr lo 36 6 l cs.length (cmdCells cs kvs)
  keys : ∀ (i : Nat) (c : Cmd) (kv : Value), k ≤ i → cs[i]? = some c → kvs[i]? = some kv → KeysIn wr lo2 kv c.keys
  kept : CmTo W wr lo
theorem CmK.not {W wr : World} {lo lo2 B ml nx k hi : Nat} {rv csv cmv l ssv smv : Value} {N : List CmM} {cs : List Cmd} {kvs : List Value} {M' : List TxM} (h : CmK W wr lo lo2 B rv ml nx N csv cmv l cs kvs k M' ssv smv) (h5 : ∀ kv ∈ kvs, ∀ b, kv.ownBlock = some b → b < hi) (hhi : hi ≤ W.heap.size) (h6 : ∀ (i j : Nat) (kv kv' : Value) (b : Nat), i < j → kvs[i]? = some kv → kvs[j]? = some kv' → kv.ownBlock = some b → kv'.ownBlock ≠ some b)
    {i : Nat} {c : Cmd} {kv : Value} (hi' : k ≤ i) (hc : cs[i]? = some c) (hkv : kvs[i]? = some kv) {g : Nat} (hg : kv.ownBlock = some g) : ¬ takenK lo2 W.heap.size kvs k g := by
  rintro (h1 | ⟨j, kv', hj, hkv', hg'⟩ | h1)
  · have := (keys_lt (h.keys i c kv hi' hc hkv) hg).1; omega
  · exact h6 j i kv' kv g (by omega) hkv' hkv hg' hg
  · have := h5 kv (List.mem_of_getElem? hkv) g hg; omega
theorem CmK.step {W wr w' : World} {lo lo2 B ml nx k hi : Nat} {rv csv cmv l ssv smv ssv' smv' kv : Value} {N : List CmM} {cs : List Cmd} {kvs : List Value} {M' M2 : List TxM} {c : Cmd} (h : CmK W wr lo lo2 B rv ml nx N csv cmv l cs kvs k M' ssv smv) (h5 : ∀ kv ∈ kvs, ∀ b, kv.ownBlock = some b → b < hi) (hhi : hi ≤ W.heap.size) (h6 : ∀ (i j : Nat) (kv kv' : Value) (b : Nat), i < j → kvs[i]? = some kv → kvs[j]? = some kv' → kv.ownBlock = some b → kv'.ownBlock ≠ some b) (hlo : lo ≤ W.heap.size)
    (hkv : kvs[k]? = some kv) (hown : OwnW w' lo B (fun g => takenK lo2 W.heap.size kvs k g ∨ kv.ownBlock = some g ∨ wr.heap.size ≤ g) rv M2 N (nx + k + 1) csv cmv ssv' smv') (hM : M2.length = M'.length + 4) (hto : TxTo wr w' lo B (takenK lo2 W.heap.size kvs k) kv) : CmK W w' lo lo2 B rv ml nx N csv cmv l cs kvs (k + 1) M2 ssv' smv' := by
  have hsz := h.kept.below.size
  have neB : ∀ (b : Nat) (Z : Array Value) (T : Nat) (f : Nat × Nat), wr.heap[b]? = some (.cells Z T f) → T ≠ 87 → b ≠ B := fun b Z T f hb hT e => by rw [e, h.own.wd] at hb; cases hb; exact hT rfl
  refine ⟨hown.more (fun g hg => ?_), by rw [hM, h.len]; omega, h.row.other (fun g Z _ hZ _ => ?_), fun i c kv' hi' hc hkv' => ?_, h.kept.trans ⟨hto.below, fun b Z T f hb h1 h2 h3 h4 h5 h6 => ?_, fun b o hb ho => hto.kept b o hb (fun e => by rw [e, h.own.wd] at hb; exact ho _ _ _ (Option.some.inj hb).symm) (fun Z f => ho Z _ f) (fun Z f e => absurd e (ho Z _ f))⟩⟩
  · rcases hg with (h1 | ⟨i, kv', hi, h1, h2⟩ | h1) | h1 | h1
    · exact .inl h1
    · exact .inr (.inl ⟨i, kv', by omega, h1, h2⟩)
    · exact .inr (.inr h1)
    · exact .inr (.inl ⟨k, kv, by omega, hkv, h1⟩)
    · exact .inr (.inr (by omega))
  · exact (hto.kept g _ hZ (neB g Z 36 _ hZ (by decide)) (fun Z f e => by cases e) (fun Z f e => by cases e)).trans hZ.symm
  · have hk := h.keys i c kv' (by omega) hc hkv'
    rcases hk with hk | ⟨b, cc, e1, e2, Z, hZ, hz, h3⟩
    · exact .inl hk
    have hb : kv'.ownBlock = some b := by rw [e1]; rfl
    refine .inr ⟨b, cc, e1, e2, Z, ?_, hz, h3⟩
    refine (hto.kept b _ hZ (neB b Z 9 _ hZ (by decide)) (fun Z f e => by cases e) (fun Z' f _ => ⟨h.not h5 hhi h6 (by omega) hc hkv' hb, fun e => ?_⟩))
    exact h6 k i kv kv' b (by omega) hkv hkv' e hb
  · exact hto.kept b _ hb (neB b Z T f hb h1) (fun Z f e => by cases e; exact h2 rfl) (fun Z f e => by cases e; exact absurd rfl h3)
end Go.Proofs.YtlonjggfnleolaaGreatDoor
