/-
  The steps of a script, as they came in.
-/
import Derived.Test.YtlonjggfnleolaaGreatDoorOpA
import Derived.Deep.Slices
import Derived.SizedLaws
import Derived.ChangeArms
import Derived.Test.YtlonjggfnleolaaGreatDoorRows
import Derived.Test.YtlonjggfnleolaaGreatDoorSayE

namespace Go.Proofs.YtlonjggfnleolaaGreatDoor
open Go.RowKit Go.Deep
set_option linter.unusedVariables false

theorem cell_addr {w : World} {a : Addr} {v : Value} (h : w.cell? a = some v) : a = ⟨a.block, a.off, none⟩ ∧ a.block < w.heap.size := by
  unfold World.cell? at h
  split at h
  · rename_i c t f hb
    split at h
    · cases h
    · rename_i hs
      have hs' : a.spot = none := by simpa using hs
      refine ⟨?_, (Array.getElem?_eq_some_iff.1 hb).1⟩
      cases a
      simp at hs'
      subst hs'
      rfl
  · cases h
theorem add_plain (b o i : Nat) : (⟨b, o, none⟩ : Addr).add i = ⟨b, o + i, none⟩ := by
  unfold Addr.add
  split
  · subst_vars; rfl
  · rfl

def strOf' : Value → ByteArray
  | .string s => s
  | _ => ⟨#[]⟩
def boolOf' : Value → Bool
  | .bool s => s
  | _ => false

section
variable {H : Type} {enc : TypeId × Value → H} {W : World}

theorem strs_open {fuel : Nat} {v : Value} {x : DataW H × List MemPlace} (h : DataW.trod enc Tryz.prog W 0 (fun _ => true) true fuel 34 [v] = some x) (hw : ∀ k ∈ DataW.weights Tryz.prog 34 x.1, k ≤ reachBytes) :
    ∃ a n c ss, v = .slice a n c ∧ StrsIn W a n c ss ∧ n ≤ 8796093022208 := by
  rcases open_slice1 Tryz.underlying34 (by kernel_rfl) h with ⟨hcs, hx⟩ | ⟨a, len, cap, m, n, V, D, Pl, hcs, hb, hl, hm, hmm, hx, hel⟩
  · simp at hcs
    subst hcs
    exact ⟨none, 0, 0, [], rfl, ⟨rfl, Nat.le_refl _, by simp, by simp, .inr ⟨rfl, rfl⟩⟩, by omega⟩
  · simp at hcs hmm
    subst hcs
    subst hmm
    have hwt : m * 16 ≤ 140737488351232 := by
      have e : Tryz.prog.bytesOf 9 = 16 := by kernel_rfl
      have := hw ((len + (m - len)) * 16) (by rw [hx]; simp [DataW.weights, Tryz.underlying34, e])
      unfold reachBytes at this
      omega
    have each : ∀ i, i < m → ∃ s : ByteArray, V i = .string s ∧ s.size ≤ maxLen ∧ W.cell? (a.add i) = some (.string s) := fun i hi => by
      obtain ⟨h1, h2⟩ := hel i hi
      obtain ⟨s, e1, _, e3⟩ := DataW.trod_string Tryz.underlying9 h2
      simp at e1
      exact ⟨s, e1, e3, by rw [h1, e1]⟩
    refine ⟨some a, len, m, (List.range len).map fun i => strOf' (V i), rfl, ⟨by simp, hl, by simp; omega, ?_, ?_⟩, by omega⟩
    · intro s hs
      obtain ⟨i, hi, rfl⟩ := List.mem_map.1 hs
      have hi := List.mem_range.1 hi
      obtain ⟨s, e1, e2, _⟩ := each i (by omega)
      rw [e1]; exact e2
    · by_cases h0 : m = 0
      · right
        have : len = 0 := by omega
        subst this
        exact ⟨rfl, h0⟩
      · left
        obtain ⟨s0, _, _, c0⟩ := each 0 (by omega)
        have ea : a.add 0 = a := by simp [Addr.add]
        rw [ea] at c0
        obtain ⟨e1, e2⟩ := cell_addr c0
        refine ⟨a.block, a.off, by rw [← e1], e2, ?_⟩
        intro i s hs
        rw [List.getElem?_map] at hs
        by_cases hi : i < len
        · rw [List.getElem?_range hi] at hs
          simp at hs
          obtain ⟨s', f1, _, f3⟩ := each i (by omega)
          rw [f1] at hs
          have hs : s' = s := hs
          rw [e1, add_plain] at f3
          rw [← hs]
          exact f3
        · rw [List.getElem?_eq_none (by simp; omega)] at hs
          cases hs

theorem bools_open {fuel : Nat} {v : Value} {x : DataW H × List MemPlace} (h : DataW.trod enc Tryz.prog W 0 (fun _ => true) true fuel 89 [v] = some x) (hw : ∀ k ∈ DataW.weights Tryz.prog 89 x.1, k ≤ reachBytes) :
    ∃ a n c ss, v = .slice a n c ∧ BoolsIn W a n c ss ∧ n ≤ 140737488355328 := by
  rcases open_slice1 Tryz.underlying89 (by kernel_rfl) h with ⟨hcs, hx⟩ | ⟨a, len, cap, m, n, V, D, Pl, hcs, hb, hl, hm, hmm, hx, hel⟩
  · simp at hcs
    subst hcs
    exact ⟨none, 0, 0, [], rfl, ⟨rfl, Nat.le_refl _, by simp, .inr ⟨rfl, rfl⟩⟩, by omega⟩
  · simp at hcs hmm
    subst hcs
    subst hmm
    have hwt : m * 1 ≤ 140737488351232 := by
      have e : Tryz.prog.bytesOf 4 = 1 := by kernel_rfl
      have := hw ((len + (m - len)) * 1) (by rw [hx]; simp [DataW.weights, Tryz.underlying89, e])
      unfold reachBytes at this
      omega
    have each : ∀ i, i < m → ∃ s : Bool, V i = .bool s ∧ W.cell? (a.add i) = some (.bool s) := fun i hi => by
      obtain ⟨h1, h2⟩ := hel i hi
      obtain ⟨s, e1, _⟩ := DataW.trod_bool Tryz.underlying4 h2
      simp at e1
      exact ⟨s, e1, by rw [h1, e1]⟩
    refine ⟨some a, len, m, (List.range len).map fun i => boolOf' (V i), rfl, ⟨by simp, hl, by simp; omega, ?_⟩, by omega⟩
    by_cases h0 : m = 0
    · right
      have : len = 0 := by omega
      subst this
      exact ⟨rfl, h0⟩
    · left
      obtain ⟨s0, _, c0⟩ := each 0 (by omega)
      have ea : a.add 0 = a := by simp [Addr.add]
      rw [ea] at c0
      obtain ⟨e1, e2⟩ := cell_addr c0
      refine ⟨a.block, a.off, by rw [← e1], e2, ?_⟩
      intro i s hs
      rw [List.getElem?_map] at hs
      by_cases hi : i < len
      · rw [List.getElem?_range hi] at hs
        simp at hs
        obtain ⟨s', f1, f3⟩ := each i (by omega)
        rw [f1] at hs
        have hs : s' = s := hs
        rw [e1, add_plain] at f3
        rw [← hs]
        exact f3
      · rw [List.getElem?_eq_none (by simp; omega)] at hs
        cases hs

theorem int_open {fuel : Nat} {v : Value} {x : DataW H × List MemPlace} (h : DataW.trod enc Tryz.prog W 0 (fun _ => true) true fuel 3 [v] = some x) : ∃ n : Int, v = .int .i64 n := by
  obtain ⟨n, e, _⟩ := DataW.trod_int Tryz.underlying3 h
  exact ⟨n, by simpa using e⟩
theorem bool_open {fuel : Nat} {v : Value} {x : DataW H × List MemPlace} (h : DataW.trod enc Tryz.prog W 0 (fun _ => true) true fuel 4 [v] = some x) : ∃ n : Bool, v = .bool n := by
  obtain ⟨n, e, _⟩ := DataW.trod_bool Tryz.underlying4 h
  exact ⟨n, by simpa using e⟩
theorem str_open {fuel : Nat} {v : Value} {x : DataW H × List MemPlace} (h : DataW.trod enc Tryz.prog W 0 (fun _ => true) true fuel 9 [v] = some x) : ∃ n : ByteArray, v = .string n ∧ n.size ≤ maxLen := by
  obtain ⟨n, e, _, e2⟩ := DataW.trod_string Tryz.underlying9 h
  exact ⟨n, by simpa using e, e2⟩

theorem each_mem {ts : List TypeId} {xs : List (DataW H × List MemPlace)} {i : Nat} {t : TypeId} {y : DataW H × List MemPlace} (hw : ∀ k ∈ DataW.weightsEach Tryz.prog ts (xs.map (·.1)), k ≤ reachBytes) (ht : ts[i]? = some t) (hy : xs[i]? = some y) : ∀ k ∈ DataW.weights Tryz.prog t y.1, k ≤ reachBytes :=
  fun k hk => hw k (DataW.weights_mem_each ht (by rw [List.getElem?_map, hy]; rfl) k hk)

theorem list18 {α : Type} {l : List α} (h : l.length = 18) : ∃ c0 c1 c2 c3 c4 c5 c6 c7 c8 c9 c10 c11 c12 c13 c14 c15 c16 c17, l = [c0, c1, c2, c3, c4, c5, c6, c7, c8, c9, c10, c11, c12, c13, c14, c15, c16, c17] := by
  match l, h with
  | [c0, c1, c2, c3, c4, c5, c6, c7, c8, c9, c10, c11, c12, c13, c14, c15, c16, c17], _ => exact ⟨c0, c1, c2, c3, c4, c5, c6, c7, c8, c9, c10, c11, c12, c13, c14, c15, c16, c17, rfl⟩

theorem field_at {fs : Array Field} {xs : List (DataW H × List MemPlace)} {n : Nat} {cs : List Value} (hf : ∀ (i : Nat) (f : Field), fs[i]? = some f → DataW.trod enc Tryz.prog W 0 (fun _ => true) true n f.type ((cs.drop f.offset).take (Tryz.prog.cellsOf f.type)) = xs[i]?) (i : Nat) (f : Field) (hi : fs[i]? = some f) (t : TypeId) (o sz : Nat) (ht : f.type = t) (ho : f.offset = o) (hs : Tryz.prog.cellsOf t = sz) {y : DataW H × List MemPlace} (hy : xs[i]? = some y) (cs' : List Value) (hc : (cs.drop o).take sz = cs') : DataW.trod enc Tryz.prog W 0 (fun _ => true) true n t cs' = some y := by
  subst ht ho hs hc
  exact (hf i f hi).trans hy

set_option maxRecDepth 20000 in
theorem op_open {fuel : Nat} {cs : List Value} {x : DataW H × List MemPlace} (h : DataW.trod enc Tryz.prog W 0 (fun _ => true) true fuel 95 cs = some x) (hw : ∀ k ∈ DataW.weights Tryz.prog 95 x.1, k ≤ reachBytes) :
    ∃ k : Int, cs.length = 18 ∧ cs[0]? = some (.int .i64 k) ∧ OpIn W k (.agg cs.toArray) := by
  obtain ⟨xs, n, _, rfl, hl, hxl, hf⟩ := DataW.trod_struct Tryz.underlying95 h
  have e18 : Tryz.prog.cellsOf 95 = 18 := by kernel_rfl
  rw [e18] at hl
  have hw1 : ∀ k ∈ DataW.weightsEach Tryz.prog [3, 3, 36, 91, 93, 9, 3, 3] (xs.map (·.1)), k ≤ reachBytes := by
    intro k hk
    refine hw k ?_
    simp only [DataW.weights, Tryz.underlying95]
    exact hk
  have get : ∀ (l : List (DataW H × List MemPlace)) (m i : Nat), l.length = m → i < m → ∃ y, l[i]? = some y := fun l m i a b => ⟨l[i]'(by omega), List.getElem?_eq_getElem _⟩
  have hxl : xs.length = 8 := hxl
  obtain ⟨c0, c1, c2, c3, c4, c5, c6, c7, c8, c9, c10, c11, c12, c13, c14, c15, c16, c17, rfl⟩ := list18 hl
  have s3 : Tryz.prog.cellsOf 3 = 1 := by kernel_rfl
  have s4 : Tryz.prog.cellsOf 4 = 1 := by kernel_rfl
  have s9 : Tryz.prog.cellsOf 9 = 1 := by kernel_rfl
  have s34 : Tryz.prog.cellsOf 34 = 1 := by kernel_rfl
  have s54 : Tryz.prog.cellsOf 89 = 1 := by kernel_rfl
  have s36 : Tryz.prog.cellsOf 36 = 6 := by kernel_rfl
  have s56 : Tryz.prog.cellsOf 91 = 4 := by kernel_rfl
  have s58 : Tryz.prog.cellsOf 93 = 3 := by kernel_rfl
  obtain ⟨y0, g0⟩ := get xs 8 0 hxl (by omega)
  obtain ⟨y1, g1⟩ := get xs 8 1 hxl (by omega)
  obtain ⟨y2, g2⟩ := get xs 8 2 hxl (by omega)
  obtain ⟨y3, g3⟩ := get xs 8 3 hxl (by omega)
  obtain ⟨y4, g4⟩ := get xs 8 4 hxl (by omega)
  obtain ⟨y5, g5⟩ := get xs 8 5 hxl (by omega)
  obtain ⟨y6, g6⟩ := get xs 8 6 hxl (by omega)
  obtain ⟨y7, g7⟩ := get xs 8 7 hxl (by omega)
  have f0 := field_at hf 0 _ rfl 3 0 1 rfl rfl s3 g0 [c0] rfl
  have f1 := field_at hf 1 _ rfl 3 1 1 rfl rfl s3 g1 [c1] rfl
  have f2 := field_at hf 2 _ rfl 36 2 6 rfl rfl s36 g2 [c2, c3, c4, c5, c6, c7] rfl
  have f3 := field_at hf 3 _ rfl 91 8 4 rfl rfl s56 g3 [c8, c9, c10, c11] rfl
  have f4 := field_at hf 4 _ rfl 93 12 3 rfl rfl s58 g4 [c12, c13, c14] rfl
  have f5 := field_at hf 5 _ rfl 9 15 1 rfl rfl s9 g5 [c15] rfl
  have f6 := field_at hf 6 _ rfl 3 16 1 rfl rfl s3 g6 [c16] rfl
  have f7 := field_at hf 7 _ rfl 3 17 1 rfl rfl s3 g7 [c17] rfl
  have w2 := each_mem hw1 (i := 2) rfl g2
  have w3 := each_mem hw1 (i := 3) rfl g3
  obtain ⟨k, rfl⟩ := int_open f0
  obtain ⟨at', rfl⟩ := int_open f1
  obtain ⟨s, rfl, hs⟩ := str_open f5
  obtain ⟨x, rfl⟩ := int_open f6
  obtain ⟨y, rfl⟩ := int_open f7
  -- the command
  obtain ⟨xc, nc, _, rfl, _, hcl, hcf⟩ := DataW.trod_struct Tryz.underlying36 f2
  have hcl : xc.length = 6 := hcl
  have wc : ∀ k ∈ DataW.weightsEach Tryz.prog [3, 34, 9, 9, 4, 3] (xc.map (·.1)), k ≤ reachBytes := by
    intro k hk
    refine w2 k ?_
    simp only [DataW.weights, Tryz.underlying36]
    exact hk
  obtain ⟨z0, q0⟩ := get xc 6 0 hcl (by omega)
  obtain ⟨z1, q1⟩ := get xc 6 1 hcl (by omega)
  obtain ⟨z2, q2⟩ := get xc 6 2 hcl (by omega)
  obtain ⟨z3, q3⟩ := get xc 6 3 hcl (by omega)
  obtain ⟨z4, q4⟩ := get xc 6 4 hcl (by omega)
  obtain ⟨z5, q5⟩ := get xc 6 5 hcl (by omega)
  have p0 := field_at hcf 0 _ rfl 3 0 1 rfl rfl s3 q0 [c2] rfl
  have p1 := field_at hcf 1 _ rfl 34 1 1 rfl rfl s34 q1 [c3] rfl
  have p2 := field_at hcf 2 _ rfl 9 2 1 rfl rfl s9 q2 [c4] rfl
  have p3 := field_at hcf 3 _ rfl 9 3 1 rfl rfl s9 q3 [c5] rfl
  have p4 := field_at hcf 4 _ rfl 4 4 1 rfl rfl s4 q4 [c6] rfl
  have p5 := field_at hcf 5 _ rfl 3 5 1 rfl rfl s3 q5 [c7] rfl
  obtain ⟨ck, rfl⟩ := int_open p0
  obtain ⟨a, n', c, ss, rfl, hS, hn⟩ := strs_open p1 (each_mem wc (i := 1) rfl q1)
  obtain ⟨val, rfl, hval⟩ := str_open p2
  obtain ⟨cw, rfl, _⟩ := str_open p3
  obtain ⟨ft, rfl⟩ := bool_open p4
  obtain ⟨cid, rfl⟩ := int_open p5
  -- the answer
  obtain ⟨xa, na, _, rfl, _, hal, haf⟩ := DataW.trod_struct Tryz.underlying91 f3
  have hal : xa.length = 4 := hal
  have wa : ∀ k ∈ DataW.weightsEach Tryz.prog [3, 89, 34, 9] (xa.map (·.1)), k ≤ reachBytes := by
    intro k hk
    refine w3 k ?_
    simp only [DataW.weights, Tryz.underlying91]
    exact hk
  obtain ⟨u0, r0⟩ := get xa 4 0 hal (by omega)
  obtain ⟨u1, r1⟩ := get xa 4 1 hal (by omega)
  obtain ⟨u2, r2⟩ := get xa 4 2 hal (by omega)
  obtain ⟨u3, r3⟩ := get xa 4 3 hal (by omega)
  have t0 := field_at haf 0 _ rfl 3 0 1 rfl rfl s3 r0 [c8] rfl
  have t1 := field_at haf 1 _ rfl 89 1 1 rfl rfl s54 r1 [c9] rfl
  have t2 := field_at haf 2 _ rfl 34 2 1 rfl rfl s34 r2 [c10] rfl
  have t3 := field_at haf 3 _ rfl 9 3 1 rfl rfl s9 r3 [c11] rfl
  obtain ⟨ak, rfl⟩ := int_open t0
  obtain ⟨fa, fn, fc, bs, rfl, hF, hfn⟩ := bools_open t1 (each_mem wa (i := 1) rfl r1)
  obtain ⟨va, vn, vc, vs, rfl, hV, hvn⟩ := strs_open t2 (each_mem wa (i := 2) rfl r2)
  obtain ⟨wd, rfl, hwd⟩ := str_open t3
  -- the configuration
  obtain ⟨xg, ng, _, rfl, _, hgl, hgf⟩ := DataW.trod_struct Tryz.underlying93 f4
  have hgl : xg.length = 3 := hgl
  obtain ⟨o0, v0⟩ := get xg 3 0 hgl (by omega)
  obtain ⟨o1, v1⟩ := get xg 3 1 hgl (by omega)
  obtain ⟨o2, v2⟩ := get xg 3 2 hgl (by omega)
  have l0 := field_at hgf 0 _ rfl 3 0 1 rfl rfl s3 v0 [c12] rfl
  have l1 := field_at hgf 1 _ rfl 3 1 1 rfl rfl s3 v1 [c13] rfl
  have l2 := field_at hgf 2 _ rfl 3 2 1 rfl rfl s3 v2 [c14] rfl
  obtain ⟨gg0, rfl⟩ := int_open l0
  obtain ⟨gg1, rfl⟩ := int_open l1
  obtain ⟨gg2, rfl⟩ := int_open l2
  exact ⟨k, rfl, rfl, at', ck, a, n', c, ss, val, cw, ft, cid, ak, fa, va, fn, fc, vn, vc, bs, vs, wd, gg0, gg1, gg2, s, x, y, rfl, hS, hval, hF, hV, hwd, hs, hn, hfn, hvn⟩

theorem weightsAll_mem {e : TypeId} : ∀ {l : List (DataW H)} {d : DataW H}, d ∈ l → ∀ n ∈ d.weights Tryz.prog e, n ∈ DataW.weightsAll Tryz.prog e l
  | x :: l, d, hd, n, hn => by
    unfold DataW.weightsAll
    rw [List.mem_append]
    rcases List.mem_cons.1 hd with rfl | h
    · exact .inl hn
    · exact .inr (weightsAll_mem h n hn)

theorem cells_get {w : World} {a : Addr} {n : Nat} {cs : List Value} (h : w.cells? 0 a n = some cs) : ∀ i, i < n → w.cell? (a.add i) = cs[i]? := by
  intro i hi
  unfold World.cells? at h
  rw [if_pos (Nat.zero_le _)] at h
  exact mapM_some_get h i i (List.getElem?_range hi)

end
end Go.Proofs.YtlonjggfnleolaaGreatDoor


/-
  A script that came in, and its bulk.
-/

namespace Go.Proofs.YtlonjggfnleolaaGreatDoor
open Go.RowKit Go.Deep
set_option linter.unusedVariables false

section
variable {H : Type} {enc : TypeId × Value → H} {W : World}

theorem bulk_mem : ∀ {l : List (DataW H)} {d : DataW H}, d ∈ l → Rows.uptoBulk d ≤ Rows.uptoBulkAll l
  | x :: l, d, hd => by
    simp only [Rows.uptoBulkAll]
    rcases List.mem_cons.1 hd with rfl | h
    · omega
    · have := bulk_mem h; omega
theorem bulk_app : ∀ (l m : List (DataW H)), Rows.uptoBulkAll (l ++ m) = Rows.uptoBulkAll l + Rows.uptoBulkAll m
  | [], m => by simp [Rows.uptoBulkAll]
  | x :: l, m => by
    simp only [List.cons_append, Rows.uptoBulkAll]
    rw [bulk_app l m]
    omega
theorem bulk_range (D : Nat → DataW H) : ∀ n, Rows.uptoBulkAll ((List.range n).map D) = sumTo (fun i => Rows.uptoBulk (D i)) n
  | 0 => by simp [Rows.uptoBulkAll, sumTo]
  | n + 1 => by
    rw [List.range_succ, List.map_append, bulk_app, bulk_range D n]
    simp [Rows.uptoBulkAll, sumTo]

set_option maxRecDepth 20000 in
theorem op_bulk {fuel : Nat} {cs : List Value} {x : DataW H × List MemPlace} (h : DataW.trod enc Tryz.prog W 0 (fun _ => true) true fuel 95 cs = some x) :
    ∃ s : ByteArray, cs[15]? = some (.string s) ∧ s.size + 1 ≤ Rows.uptoBulk x.1 := by
  obtain ⟨xs, n, _, rfl, hl, hxl, hf⟩ := DataW.trod_struct Tryz.underlying95 h
  have e18 : Tryz.prog.cellsOf 95 = 18 := by kernel_rfl
  rw [e18] at hl
  have s9 : Tryz.prog.cellsOf 9 = 1 := by kernel_rfl
  have hxl : xs.length = 8 := hxl
  obtain ⟨c0, c1, c2, c3, c4, c5, c6, c7, c8, c9, c10, c11, c12, c13, c14, c15, c16, c17, rfl⟩ := list18 hl
  obtain ⟨y5, g5⟩ : ∃ y, xs[5]? = some y := ⟨xs[5]'(by omega), List.getElem?_eq_getElem _⟩
  have f5 := field_at hf 5 _ rfl 9 15 1 rfl rfl s9 g5 [c15] rfl
  obtain ⟨s, e1, e2, _⟩ := DataW.trod_string Tryz.underlying9 f5
  have e1 : c15 = .string s := by simpa using e1
  refine ⟨s, by rw [e1]; rfl, ?_⟩
  have hm : y5.1 ∈ xs.map (·.1) := List.mem_map.2 ⟨y5, List.mem_of_getElem? g5, rfl⟩
  have hb := bulk_mem hm
  rw [e2] at hb
  simp only [Rows.uptoBulk] at hb ⊢
  have := len_size' s
  omega

set_option maxRecDepth 20000 in
theorem script_bulk {base fuel : Nat} {v : Value} {x : DataW H × List MemPlace} (h : DataW.trod enc Tryz.prog W 0 (fun _ => true) true fuel 22 [v] = some x) (hok : Value.okWide Tryz.prog W .any base 22 v) (hw : ∀ k ∈ DataW.weights Tryz.prog 22 x.1, k ≤ reachBytes) :
    v = .slice none 0 0 ∨ ∃ b o N c kf csf bk, v = .slice (some ⟨b, o, none⟩) N c ∧ ScriptB W b o N kf csf bk ∧ N ≤ c ∧ N + sumTo bk N ≤ Rows.uptoBulk x.1 := by
  rcases open_slice Tryz.underlying22 h with ⟨hcs, hx⟩ | ⟨a, len, cap, m, n, D, Pl, hcs, hb, hl, hm, hmm, hx, hel⟩
  · left; simpa using hcs
  · right
    simp at hcs hmm
    subst hcs
    subst hmm
    have hhas : a.spot = none ∧ a.block < W.heap.size := by
      simp [Value.okWide, Cell.okWide, Cell.ok, Tryz.underlying22, World.has] at hok
      obtain ⟨_, _, _, hsp, r, c, hsh, _⟩ := hok
      refine ⟨hsp, ?_⟩
      unfold World.shape? at hsh
      split at hsh
      · rename_i hbk
        exact (Array.getElem?_eq_some_iff.1 hbk).1
      · cases hsh
    obtain ⟨b, o, sp⟩ := a
    obtain ⟨hsp, hlt⟩ := hhas
    simp only at hsp hlt
    subst hsp
    have e60 : Tryz.prog.cellsOf 95 = 18 := by kernel_rfl
    rw [e60] at hel
    have each : ∀ j, ∃ (k : Int) (cs : List Value), j < len → cs.length = 18 ∧ W.cell? ⟨b, o + j * 18, none⟩ = some (.int .i64 k) ∧ W.rangeAt b (o + j * 18) cs ∧ OpIn W k (.agg cs.toArray) ∧ ∃ s : ByteArray, cs[15]? = some (.string s) ∧ s.size + 1 ≤ Rows.uptoBulk (D j) := by
      intro j
      by_cases hj : j < len
      · obtain ⟨cs, hc1, hc2⟩ := hel j (by omega)
        obtain ⟨k, hcl, hk0, hO⟩ := op_open hc2 (fun k hk => hw k (by
          rw [hx]
          simp only [DataW.weights, Tryz.underlying22, List.mem_cons, List.mem_append]
          exact .inr (.inl (weightsAll_mem (List.mem_map.2 ⟨j, List.mem_range.2 hj, rfl⟩) k hk))))
        have hg := cells_get hc1
        rw [add_plain] at hg
        have hr : W.rangeAt b (o + j * 18) cs := by
          intro i u hu
          have hi : i < 18 := by rw [← hcl]; exact (List.getElem?_eq_some_iff.1 hu).1
          have := hg i hi
          rw [add_plain] at this
          rw [this, hu]
        refine ⟨k, cs, fun _ => ⟨hcl, ?_, hr, hO, op_bulk hc2⟩⟩
        have := hr 0 _ hk0
        simpa using this
      · exact ⟨0, [], fun h => absurd h hj⟩
    obtain ⟨kf, h1⟩ := Classical.axiomOfChoice each
    obtain ⟨csf, h2⟩ := Classical.axiomOfChoice h1
    have hsum : ∀ n, n ≤ len → n + sumTo (fun i => Rows.uptoBulk (D i) - 1) n ≤ sumTo (fun i => Rows.uptoBulk (D i)) n := by
      intro n
      induction n with
      | zero => intro _; simp [sumTo]
      | succ n ih =>
        intro hn
        have := ih (by omega)
        obtain ⟨_, _, _, _, s, _, hs⟩ := h2 n (by omega)
        simp only [sumTo]
        omega
    refine ⟨b, o, len, m, kf, csf, fun i => Rows.uptoBulk (D i) - 1, rfl, ⟨hlt, fun j hj => ?_, fun j hj => ?_⟩, hl, ?_⟩
    · obtain ⟨a1, a2, a3, a4, _⟩ := h2 j hj
      exact ⟨a1, a2, a3, a4⟩
    · obtain ⟨_, _, _, _, s, e1, e2⟩ := h2 j hj
      exact ⟨s, e1, by omega⟩
    · rw [hx]
      simp only [Rows.uptoBulk]
      rw [bulk_range]
      have := hsum len (Nat.le_refl _)
      omega
end
end Go.Proofs.YtlonjggfnleolaaGreatDoor
