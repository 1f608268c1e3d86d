/-
  What Feed tells of the example: one command, a Get of a.
-/
import Derived.Test.YtlonjggfnleolaaGreatDoorNextOne
namespace Go.Proofs.YtlonjggfnleolaaGreatDoor
open Go.RowKit Go.Shelf
set_option linter.unusedVariables false
attribute [local go_sem] Oper.semAt_some

/-- What lies behind the one round: the list of one command. -/
structure Got (D : Nat) (w W : World) (v : Value) : Prop where
  ex : ∃ A C kb kc, v = .slice (some ⟨A, 0, none⟩) 1 C ∧ w.heap.size ≤ A ∧ A < W.heap.size ∧ W.cell? ⟨A, 0, none⟩ = some (.int .i64 1) ∧ W.cell? ⟨A, 1, none⟩ = some (.slice (some ⟨kb, 0, none⟩) 1 kc) ∧ w.heap.size ≤ kb ∧ kb < W.heap.size ∧ W.cell? ⟨kb, 0, none⟩ = some (.string ⟨#[97]⟩)
  turn : Turn D w W

theorem Got.later {D : Nat} {w W W' : World} {v : Value} (h : Got D w W v) (hb : Below W.heap.size W W') : Got D w W' v := by
  obtain ⟨⟨A, C, kb, kc, e, h1, h2, h3, h4, h5, h6, h7⟩, t⟩ := h
  exact ⟨⟨A, C, kb, kc, e, h1, Nat.lt_of_lt_of_le h2 hb.size, (hb.cell (p := ⟨A, 0, none⟩) h2).trans h3, (hb.cell (p := ⟨A, 1, none⟩) h2).trans h4, h5, Nat.lt_of_lt_of_le h6 hb.size, (hb.cell (p := ⟨kb, 0, none⟩) h6).trans h7⟩, t.trans (.of_below hb)⟩

theorem Got.put {D l : Nat} {w W : World} {v : Value} {r : Loop} (h : Got D w W v) (hl : w.heap.size ≤ l) (hr : W.heap[l]? = some (.loop r)) (o : Obj) : Got D w (W.putObj l o) v := by
  obtain ⟨⟨A, C, kb, kc, e, h1, h2, h3, h4, h5, h6, h7⟩, t⟩ := h
  have nA : A ≠ l := by rintro rfl; simp [World.cell?, hr] at h3
  have nk : kb ≠ l := by rintro rfl; simp [World.cell?, hr] at h7
  refine ⟨⟨A, C, kb, kc, e, h1, by simpa using h2, ?_, ?_, h5, by simpa using h6, ?_⟩, ?_⟩
  · exact (World.cell?_of_block (w := W) (World.putObj_heap_other nA)).trans h3
  · exact (World.cell?_of_block (w := W) (World.putObj_heap_other nA)).trans h4
  · exact (World.cell?_of_block (w := W) (World.putObj_heap_other nk)).trans h7
  · exact ⟨t.os, t.tape, t.output, by simpa using t.size, fun k hk hn => (World.putObj_heap_other (by omega)).trans (t.block k hk hn)⟩

theorem Turn.put {D r : Nat} {a w : World} (h : Turn D a w) (hr : a.heap.size ≤ r) (o : Obj) : Turn D a (w.putObj r o) :=
  ⟨h.os, h.tape, h.output, by simpa using h.size, fun k hk hn => (World.putObj_heap_other (by omega)).trans (h.block k hk hn)⟩

set_option maxRecDepth 20000 in
set_option maxHeartbeats 2000000 in
theorem appendSeq_ex (X D g c : Nat) (w : World) (hX : w.heap[X]? = some (boxR D)) (hXD : X ≠ D) (hD : w.heap[D]? = some (rd3 (.slice (some ⟨g, 0, none⟩) 15 c) 0)) (hc : 15 ≤ c) (hg : g < w.heap.size) (hgD : g ≠ D)
    (hb : ∀ (i : Nat) (b : UInt8), exL[i]? = some b → w.cell? ⟨g, 0 + i, none⟩ = some (.int .u8 (b.toNat : Int))) :
    Calls Tryz.prog 119 #[.slice none 0 0, .func (.func 120) #[] #[.pointer (some ⟨X, 0, none⟩)]] w fun e w' => ∃ v, e = .returned v ∧ Got D w w' v := by
  refine (callsIn_wide (n := 9)).1 ?_
  refine callsIn_of_wp_marks Tryz.func119 rfl trivial ?_ rfl
  simp only [Tryz.ntmps119, List.size_toArray, List.length_cons, List.length_nil, Nat.reduceAdd, Nat.reduceSub, Array.replicate_succ, Array.replicate_zero, List.push_toArray, List.append_toArray, List.nil_append, List.cons_append]
  gi_wp2
  generalize hw1 : w.alloc (Obj.cells #[Value.slice none 0 0] 28) = w1
  have hs1 : w1.heap.size = w.heap.size + 1 := by rw [← hw1]; simp
  have hSB1 : w1.heap[w.heap.size]? = some (.cells #[.slice none 0 0] 28 (0, 0)) := by rw [← hw1]; exact blkNew w _
  have hB1 : Below w.heap.size w w1 := by rw [← hw1]; exact (Below.refl _ _).alloc (Nat.le_refl _) _
  clear hw1
  refine wpIn_rangeFunc ?_
  intro fn hfn
  generalize hrec : (fun (st : LoopState) (pe : Option Code) => ({ state := st, pending := pe, fn := fn, tmps := #[Value.slice none 0 0, Value.func (Fn.func 120) #[] #[Value.pointer (some { block := X, off := 0 })], Value.pointer (some { block := w.heap.size, off := 0 }), undef, Value.slice none 0 0, undef, Value.func (Fn.func 120) #[] #[Value.pointer (some { block := X, off := 0 })], undef, undef, undef, undef, undef, undef], params := #[7], assign := (Code.region 2 #[{ dst := some 5, op := Op.alloc 36, type := 0, pos := "iter.go:51", after := #[], guard := none }, { dst := none, op := Op.store 36 (Operand.tmp 5) (Operand.tmp 7), type := 0, pos := "iter.go:51", after := #[{ on := 0, ground := Ground.data }, { on := 0, ground := Ground.phase }], guard := none }] false), body := (Code.block 1 (Code.region 3 #[{ dst := some 8, op := Op.load 28 (Operand.tmp 2), type := 28, pos := "iter.go:52", after := #[], guard := none }, { dst := some 9, op := Op.load 36 (Operand.tmp 5), type := 36, pos := "iter.go:52", after := #[], guard := none }, { dst := some 10, op := Op.buildSlice 28 1 #[(0, Operand.tmp 9)], type := 28, pos := "iter.go:52", after := #[{ on := 1, ground := Ground.data }], guard := none }, { dst := some 11, op := Op.call { callee := Callee.builtin Builtin.append, args := #[Operand.tmp 8, Operand.tmp 10], argTypes := #[28, 28] }, type := 28, pos := "iter.go:52", after := #[{ on := 0, ground := Ground.data }, { on := 2, ground := Ground.data }], guard := none }, { dst := none, op := Op.store 28 (Operand.tmp 2) (Operand.tmp 11), type := 0, pos := "iter.go:52", after := #[{ on := 3, ground := Ground.data }, { on := 3, ground := Ground.chain }, { on := 0, ground := Ground.phase }, { on := 1, ground := Ground.phase }, { on := 2, ground := Ground.phase }, { on := 3, ground := Ground.phase }], guard := none }] false)), defers := w1.heap.size } : Loop)) = rec
  generalize hW1 : (w1.alloc (.deferred (some []))).alloc (.loop (rec .ready none)) = W1
  have hsW : W1.heap.size = w.heap.size + 3 := by rw [← hW1]; simp; omega
  have hL1 : W1.heap[w1.heap.size + 1]? = some (.loop (rec .ready none)) := by
    rw [← hW1]; have := blkNew (w1.alloc (.deferred (some []))) (.loop (rec .ready none)); rwa [World.size_alloc] at this
  have hK1 : W1.heap[w1.heap.size]? = some (.deferred (some [])) := by
    rw [← hW1]; exact (Below.heap_alloc _ _ _ (by simp)).trans (blkNew w1 _)
  have hBW : Below w1.heap.size w1 W1 := by
    rw [← hW1]; exact (((Below.refl _ w1).alloc (Nat.le_refl _) _).alloc (by simp) _)
  refine ⟨w1.heap.size + 1, [{ target := .collected w1.heap.size, args := #[] }], W1, { target := .fn (.func 120) #[.pointer (some ⟨X, 0, none⟩)], args := #[.func (.yield (w1.heap.size + 1)) #[] #[]] }, W1, 120,
    #[.func (.yield (w1.heap.size + 1)) #[] #[], .pointer (some ⟨X, 0, none⟩)], W1, ?_, ?_, ?_, ?_, fun _ => by omega, ?_⟩
  · rw [← hW1, ← hrec]; exact run_enterLoop_outer _ _ _ _ _
  · simp [resolve, go_sem]
  · intro f' hf'; trivial
  · have eg := enters_of Tryz.func120 (by kernel_rfl) rfl
    simp [invoke, go_sem]
  · have lX := blkLt hX
    have lD := blkLt hD
    have hBw : Below w.heap.size w W1 := hB1.trans (hBW.mono (by omega))
    have hX1 := (hBw.block X lX).trans hX
    have hD1 := (hBw.block D lD).trans hD
    have hb1 : ∀ (i : Nat) (b : UInt8), exL[i]? = some b → W1.cell? ⟨g, 0 + i, none⟩ = some (.int .u8 (b.toNat : Int)) := fun i b h => (hBw.cell (p := ⟨g, 0 + i, none⟩) hg).trans (hb i b h)
    have hSB : W1.heap[w.heap.size]? = some (.cells #[.slice none 0 0] 28 (0, 0)) := (hBW.block w.heap.size (by omega)).trans hSB1
    clear hW1
    refine (next1_ex 8 (w1.heap.size + 1) X D g c W1 hX1 hXD hD1 hc (by omega) hgD hb1
      (fun W' => W'.heap[w1.heap.size + 1]? = some (.loop (rec .ready none)) ∧ W'.heap[w1.heap.size]? = some (.deferred (some [])) ∧ ∃ v, W'.heap[w.heap.size]? = some (.cells #[v] 28 (0, 0)) ∧ Got D w W' v) ?hY ?hR).mono ?hdone
    case hR =>
      rintro A B ⟨h1, h2, v, h3, h4⟩ hAB
      exact ⟨(hAB.block _ (blkLt h1)).trans h1, (hAB.block _ (blkLt h2)).trans h2, v, (hAB.block _ (blkLt h3)).trans h3, h4.later hAB⟩
    case hY =>
      intro W2 kb kc T2 hD2 hk1 hk2 hk3
      have l2 : W2.heap[w1.heap.size + 1]? = some (.loop (rec .ready none)) := (T2.block _ (blkLt hL1) (by omega)).trans hL1
      have k2 : W2.heap[w1.heap.size]? = some (.deferred (some [])) := (T2.block _ (blkLt hK1) (by omega)).trans hK1
      have s2 : W2.heap[w.heap.size]? = some (.cells #[.slice none 0 0] 28 (0, 0)) := (T2.block _ (by omega) (by omega)).trans hSB
      have TW : Turn D w W2 := (Turn.of_below hBw).trans T2
      have hX2 := (T2.block X (by omega) hXD).trans hX1
      have sz2 := T2.size
      clear T2 hL1 hK1 hSB hX1 hD1 hb1 hb hD hX hBw hBW hSB1 hB1
      have hyr := run_yield (P := Tryz.prog) (args := #[cmdV kb kc]) l2 (by rw [← hrec]; rfl)
      have hbr := run_beginRound (P := Tryz.prog) l2 (by rw [← hrec])
      rw [← hrec] at hyr
      refine ⟨fn, _, _, _, hyr, roundIn_of_wpIn hfn ?_⟩
      have HL2 := hide' l2
      have HS2 := hide' s2
      have HK2 := hide' k2
      clear hyr hbr l2 s2 k2
      dsimp only
      unfold cmdV
      gi_wp2
      generalize hW3 : W2.alloc (Obj.cells #[Value.int IntKind.i64 1, Value.slice (some { block := kb, off := 0 }) 1 kc, Value.string { data := #[] }, Value.string { data := #[] }, Value.bool false, Value.int IntKind.i64 0] 36) = W3
      have sz3 : W3.heap.size = W2.heap.size + 1 := by rw [← hW3]; simp
      have hB3 : Below W2.heap.size W2 W3 := by rw [← hW3]; exact (Below.refl _ _).alloc (Nat.le_refl _) _
      have hV3 : W3.heap[W2.heap.size]? = some (.cells #[Value.int IntKind.i64 1, Value.slice (some { block := kb, off := 0 }) 1 kc, Value.string { data := #[] }, Value.string { data := #[] }, Value.bool false, Value.int IntKind.i64 0] 36 (0, 0)) := by rw [← hW3]; exact blkNew W2 _
      have hl3 := (hB3.block _ (blkLt HL2.out)).trans HL2.out
      have hs3 := (hB3.block _ (blkLt HS2.out)).trans HS2.out
      have hk3' := (hB3.block _ (blkLt HK2.out)).trans HK2.out
      have hD3 := (hB3.block _ (blkLt hD2)).trans hD2
      have hX3 := (hB3.block _ (blkLt hX2)).trans hX2
      have hc3 := (hB3.cell (p := ⟨kb, 0, none⟩) hk2).trans hk3
      have T3 : Turn D w W3 := TW.trans (.of_below hB3)
      have lSB := blkLt HS2.out
      clear hW3 HL2 HS2 HK2 hD2 hX2 TW hB3 hk3
      refine ⟨_, run_beginRound hl3 (by rw [← hrec]), ?_⟩
      have hlt3 := blkLt hl3
      generalize hW4 : W3.putObj (w1.heap.size + 1) (.loop { rec .ready none with state := .busy }) = W4
      have oth : ∀ k, k ≠ w1.heap.size + 1 → W4.heap[k]? = W3.heap[k]? := fun k hk => by rw [← hW4]; exact World.putObj_heap_other hk
      have hl4 : W4.heap[w1.heap.size + 1]? = some (.loop { rec .ready none with state := .busy }) := by rw [← hW4]; exact World.putObj_heap_same hlt3
      have sz4 : W4.heap.size = W3.heap.size := by rw [← hW4]; simp [World.putObj]
      have T4 : Turn D w W4 := by rw [← hW4]; exact T3.put (by omega) _
      have hs4 := (oth _ (show w.heap.size ≠ w1.heap.size + 1 by omega)).trans hs3
      have hk4 := (oth _ (show w1.heap.size ≠ w1.heap.size + 1 by omega)).trans hk3'
      have hD4 := (oth D (by omega)).trans hD3
      have hX4 := (oth X (by omega)).trans hX3
      have hV4 := (oth W2.heap.size (by have := blkLt hl3; omega)).trans hV3
      have hc4 : W4.cell? ⟨kb, 0, none⟩ = some (.string ⟨#[97]⟩) := (World.cell?_of_block (w := W3) (oth kb (by omega))).trans hc3
      have q0 := blkCell hs4 0
      have qf := blkFree hs4
      have v0 := blkCell hV4 0
      have v1 := blkCell hV4 1
      have v2 := blkCell hV4 2
      have v3 := blkCell hV4 3
      have v4 := blkCell hV4 4
      have v5 := blkCell hV4 5
      simp at q0 v0 v1 v2 v3 v4 v5
      have Hl := hide' hl4
      have Hs := hide' hs4
      have Hk := hide' hk4
      have HD4 := hide' hD4
      have HX4 := hide' hX4
      have Hc := hide' hc4
      have HT := hide' T4
      have lt4 : w.heap.size < W4.heap.size := by omega
      have lt5 : w.heap.size < W4.heap.size + 1 := by omega
      have ltV : W2.heap.size < W4.heap.size := by omega
      have HZ := hide' (show W4.heap.size = W2.heap.size + 1 by omega)
      have HZ1 := hide' hs1
      have HZ2 := hide' sz2
      have HZW := hide' hsW
      clear hl4 hs4 hk4 hD4 hX4 hc4 T4 T3 hc3 hX3 hD3 hk3' hs3 hl3 hV3 hV4 oth hW4 sz4 sz3 hs1 sz2 hsW hlt3 lSB
      gi_wp2
      generalize (Question.appendCap 1 0 36).cut (W4.tape W4.drawn (Question.appendCap 1 0 36)) = C
      generalize hZ : (#[Value.int IntKind.i64 1, Value.slice (some { block := kb, off := 0 }) 1 kc, Value.string { data := #[] }, Value.string { data := #[] }, Value.bool false, Value.int IntKind.i64 0] ++ Builtin.zeroCells #[Value.int IntKind.i64 0, Value.slice none 0 0, Value.string { data := #[] }, Value.string { data := #[] }, Value.bool false, Value.int IntKind.i64 0] (C - 1)) = Z
      have hZ0 : Z[0]? = some (.int .i64 1) := by rw [← hZ, Array.getElem?_append_left (by simp)]; rfl
      have hZ1 : Z[1]? = some (.slice (some ⟨kb, 0, none⟩) 1 kc) := by rw [← hZ, Array.getElem?_append_left (by simp)]; rfl
      clear hZ
      have zz := HZ.out
      have z1 := HZ1.out
      have z2 := HZ2.out
      have z3 := HZW.out
      have es := blkSet (i := 0) Hs.out (.slice (some ⟨W4.heap.size + 1, 0, none⟩) 1 C)
      generalize hS5 : W4.setCell { block := w.heap.size, off := 0 } (Value.slice (some { block := W4.heap.size + 1, off := 0 }) 1 C) = S5 at *
      have szS : S5.heap.size = W4.heap.size := by rw [← hS5]; simp
      have TS : Turn D w S5 := by rw [← hS5]; exact HT.out.setNew (p := ⟨w.heap.size, 0, none⟩) (Nat.le_refl _) _
      have oS : ∀ k, k ≠ w.heap.size → S5.heap[k]? = W4.heap[k]? := fun k hk => by rw [← hS5]; exact Below.heap_setCell W4 ⟨w.heap.size, 0, none⟩ _ k hk
      clear hS5
      generalize hW5 : ((S5.alloc (Obj.cells #[Value.int IntKind.i64 1, Value.slice (some { block := kb, off := 0 }) 1 kc, Value.string { data := #[] }, Value.string { data := #[] }, Value.bool false, Value.int IntKind.i64 0] 36)).alloc (Obj.cells Z 36)).drew = W5
      have B5 : Below S5.heap.size S5 W5 := by rw [← hW5]; exact (((Below.refl _ _).alloc (Nat.le_refl _) _).alloc (by simp) _).drew
      have hA5 : W5.heap[W4.heap.size + 1]? = some (.cells Z 36 (0, 0)) := by
        rw [← hW5]
        have := blkNew (S5.alloc (Obj.cells #[Value.int IntKind.i64 1, Value.slice (some { block := kb, off := 0 }) 1 kc, Value.string { data := #[] }, Value.string { data := #[] }, Value.bool false, Value.int IntKind.i64 0] 36)) (.cells Z 36 (0, 0))
        rw [World.size_alloc, szS] at this
        exact this
      clear hW5
      have o5 : ∀ k, k < W4.heap.size → k ≠ w.heap.size → W5.heap[k]? = W4.heap[k]? := fun k hk hn => (B5.block k (by omega)).trans (oS k hn)
      have hl5 := (o5 _ (blkLt Hl.out) (by omega)).trans Hl.out
      have hk5 := (o5 _ (blkLt Hk.out) (by omega)).trans Hk.out
      have hD5 := (o5 _ (blkLt HD4.out) (by omega)).trans HD4.out
      have hX5 := (o5 _ (blkLt HX4.out) (by omega)).trans HX4.out
      have hs5 : W5.heap[w.heap.size]? = some (.cells #[.slice (some ⟨W4.heap.size + 1, 0, none⟩) 1 C] 28 (0, 0)) := (B5.block _ (by omega)).trans es
      have hc5 : W5.cell? ⟨kb, 0, none⟩ = some (.string ⟨#[97]⟩) := (World.cell?_of_block (w := W4) (o5 kb (by omega) (by omega))).trans Hc.out
      have T5 : Turn D w W5 := TS.trans (.of_below B5)
      have s5 := B5.size
      have lA := blkLt hA5
      have lk5 := blkLt hl5
      refine ⟨_, _, run_endRound (P := Tryz.prog) none hl5, rfl, ?_, ?_, ?_, ?_, .slice (some ⟨W4.heap.size + 1, 0, none⟩) 1 C, ?_, ?_⟩
      · exact (World.putObj_heap_other (by omega)).trans hD5
      · exact (World.putObj_heap_other (by omega)).trans hX5
      · rw [World.putObj_heap_same lk5, ← hrec]; rfl
      · exact (World.putObj_heap_other (by omega)).trans hk5
      · exact (World.putObj_heap_other (by omega)).trans hs5
      · refine ⟨⟨W4.heap.size + 1, C, kb, kc, rfl, by omega, by simpa using lA, ?_, ?_, by omega, ?_, ?_⟩, T5.put (by omega) _⟩
        · rw [blkCell ((World.putObj_heap_other (by omega)).trans hA5)]; exact hZ0
        · rw [blkCell ((World.putObj_heap_other (by omega)).trans hA5)]; exact hZ1
        · rw [World.putObj_size]; omega
        · exact (World.cell?_of_block (w := W5) (World.putObj_heap_other (show kb ≠ w1.heap.size + 1 by omega))).trans hc5
    case hdone =>
      rintro e W6 ⟨⟨rv, rfl⟩, hl6, hk6, v, hs6, G⟩
      have hp : (rec .ready none).pending = none := by rw [← hrec]
      obtain ⟨o7, hend⟩ : ∃ o, (Instr.endLoop (w1.heap.size + 1)).run Tryz.prog W6 = .ok none (W6.putObj (w1.heap.size + 1) o) := by
        have := run_endLoop (P := Tryz.prog) hl6 (by rw [← hrec]; simp)
        rw [hp] at this
        exact ⟨_, this⟩
      refine ⟨none, _, hend, ?_⟩
      have G7 := G.put (l := w1.heap.size + 1) (by omega) hl6 o7
      have hs7 := (World.putObj_heap_other (w := W6) (r := w1.heap.size + 1) (o := o7) (show w.heap.size ≠ w1.heap.size + 1 by omega)).trans hs6
      have hk7 := (World.putObj_heap_other (w := W6) (r := w1.heap.size + 1) (o := o7) (show w1.heap.size ≠ w1.heap.size + 1 by omega)).trans hk6
      generalize W6.putObj (w1.heap.size + 1) o7 = W7 at *
      have c7 := blkCell hs7 0
      simp at c7
      have HG := hide' G7
      have HS7 := hide' hs7
      have HK7 := hide' hk7
      have H1 := hide' hs1
      clear G7 hs7 hk7 hs1 hend hl6 hk6 hs6 G hp hL1 hK1 hX1 hD1 hb1 hSB hBw hBW hSB1 hB1 hX hD hb hrec
      dsimp only
      gi_wp2
      refine ⟨by simp, .inl ⟨_, _, rfl, run_takeDeferred HK7.out, ?_⟩⟩
      refine ⟨_, results_tmp rfl _ _ _, v, rfl, ?_⟩
      obtain ⟨⟨A, C, kb, kc, e, h1, h2, h3, h4, h5, h6, h7⟩, t⟩ := HG.out
      have hk := HK7.out
      have z1 := H1.out
      have nA : A ≠ w1.heap.size := by rintro rfl; simp [World.cell?, hk] at h3
      have nk : kb ≠ w1.heap.size := by rintro rfl; simp [World.cell?, hk] at h7
      refine ⟨⟨A, C, kb, kc, e, h1, by simpa using h2, ?_, ?_, h5, by simpa using h6, ?_⟩, t.put (by omega) _⟩
      · exact (World.cell?_of_block (w := W7) (World.putObj_heap_other nA)).trans h3
      · exact (World.cell?_of_block (w := W7) (World.putObj_heap_other nA)).trans h4
      · exact (World.cell?_of_block (w := W7) (World.putObj_heap_other nk)).trans h7

set_option maxRecDepth 20000 in
set_option maxHeartbeats 1000000 in
theorem collect_ex (X D g c : Nat) (w : World) (hX : w.heap[X]? = some (boxR D)) (hXD : X ≠ D) (hD : w.heap[D]? = some (rd3 (.slice (some ⟨g, 0, none⟩) 15 c) 0)) (hc : 15 ≤ c) (hg : g < w.heap.size) (hgD : g ≠ D)
    (hb : ∀ (i : Nat) (b : UInt8), exL[i]? = some b → w.cell? ⟨g, 0 + i, none⟩ = some (.int .u8 (b.toNat : Int))) :
    Calls Tryz.prog 72 #[.func (.func 120) #[] #[.pointer (some ⟨X, 0, none⟩)]] w fun e w' => ∃ v, e = .returned v ∧ Got D w w' v := by
  have H := hide' (appendSeq_ex X D g c w hX hXD hD hc hg hgD hb)
  clear hX hD hb
  go_enter Tryz.func72, Tryz.ntmps72
  go_wp2_with fail
  go_at_call 119
  refine H.out.mono ?_
  rintro e w1 ⟨v, rfl, G⟩
  have HG := hide' G
  clear G
  go_wp2
  go_ret
  exact ⟨v, rfl, HG.out⟩

set_option maxRecDepth 20000 in
set_option maxHeartbeats 1000000 in
theorem next_ex (D : Nat) (w : World) (hD : w.heap[D]? = some (rd3 (.slice none 0 0) 0)) :
    Calls Tryz.prog 73 #[.pointer (some ⟨D, 0, none⟩), .string ⟨#[42, 50, 10, 36, 51, 10, 103, 101, 116, 10, 36, 49, 10, 97, 10]⟩] w fun e w' =>
      e = .returned (.func (.func 120) #[] #[.pointer (some ⟨w.heap.size, 0, none⟩)]) ∧ w'.heap[w.heap.size]? = some (boxR D) ∧
      (∃ g c, 15 ≤ c ∧ w'.heap[D]? = some (rd3 (.slice (some ⟨g, 0, none⟩) 15 c) 0) ∧ g < w'.heap.size ∧ g ≠ D ∧
        (∀ (i : Nat) (b : UInt8), exL[i]? = some b → w'.cell? ⟨g, 0 + i, none⟩ = some (.int .u8 (b.toNat : Int)))) ∧ Turn D w w' := by
  have hlt := blkLt hD
  have hD1 := (Below.heap_alloc w (boxR D) D hlt).trans hD
  have H := hide' (take_ex D (w.alloc (boxR D)) hD1)
  have HD := hide' hD
  clear hD hD1
  go_enter Tryz.func73, Tryz.ntmps73
  go_wp2_with fail
  go_at_call 58
  refine H.out.mono ?_
  rintro e w1 ⟨rfl, ⟨c, hc, h1⟩, h2, h3, T⟩
  have hb1 := (T.block w.heap.size (by simp) (by omega)).trans (blkNew w (boxR D))
  have HH := hide' (And.intro h1 (And.intro h2 (And.intro h3 (And.intro T hb1))))
  clear h1 h2 h3 T hb1
  go_wp2
  go_ret
  obtain ⟨h1, h2, h3, T, hb1⟩ := HH.out
  rw [World.size_alloc] at h1 h2 h3
  refine ⟨rfl, hb1, ⟨w.heap.size + 1, c, hc, h1, h2, by omega, h3⟩, ?_⟩
  exact (Turn.of_below ((Below.refl _ _).alloc (Nat.le_refl _) _)).trans T

set_option maxRecDepth 20000 in
set_option maxHeartbeats 1000000 in
theorem feed_ex (D : Nat) (w : World) (hD : w.heap[D]? = some (rd3 (.slice none 0 0) 0)) :
    Calls Tryz.prog 44 #[.pointer (some ⟨D, 0, none⟩), .string ⟨#[42, 50, 10, 36, 51, 10, 103, 101, 116, 10, 36, 49, 10, 97, 10]⟩] w fun e w' =>
      ∃ v, e = .returned v ∧ Got D w w' v := by
  have hlt := blkLt hD
  have H := hide' (next_ex D w hD)
  clear hD
  go_enter Tryz.func44, Tryz.ntmps44
  go_wp2_with fail
  go_at_call 73
  refine H.out.mono ?_
  rintro e w1 ⟨rfl, hX, ⟨g, c, hc, hD1, hg, hgD, hb⟩, T⟩
  have H2 := hide' (collect_ex w.heap.size D g c w1 hX (by omega) hD1 hc hg hgD hb)
  have HT := hide' T
  clear hX hD1 hb T
  go_wp2_with fail
  go_at_call 72
  refine H2.out.mono ?_
  rintro e w2 ⟨v, rfl, G⟩
  have HG := hide' G
  clear G
  go_wp2
  go_ret
  refine ⟨v, rfl, ?_⟩
  obtain ⟨⟨A, C, kb, kc, e, h1, h2, h3, h4, h5, h6, h7⟩, t⟩ := HG.out
  have := HT.out.size
  exact ⟨⟨A, C, kb, kc, e, by omega, h2, h3, h4, by omega, h6, h7⟩, HT.out.trans t⟩
end Go.Proofs.YtlonjggfnleolaaGreatDoor
