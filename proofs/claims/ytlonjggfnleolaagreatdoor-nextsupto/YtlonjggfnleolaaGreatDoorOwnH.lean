/-
  ownCommands: a list of commands that came out is written full, and grows.
-/
import Derived.Test.YtlonjggfnleolaaGreatDoorOwnG
import Derived.Deep.RegionLaw
namespace Go.Proofs.YtlonjggfnleolaaGreatDoor
open Go.RowKit Go.Shelf
set_option linter.unusedVariables false

theorem CmTo.refl (W : World) (lo : Nat) : CmTo W W lo := ⟨Below.refl _ _, fun _ _ _ _ h _ _ _ _ _ _ => h, fun _ _ h _ => h⟩
theorem Row.cell {w : World} {lo e sz n g c i : Nat} {xs : List Value} {u : Value} (h : Row w lo e sz (.slice (some ⟨g, 0, none⟩) n c) n xs) (hu : xs[i]? = some u) : w.cell? ⟨g, i, none⟩ = some u ∧ g < w.heap.size := by
  obtain ⟨h1, ⟨h2, _⟩ | ⟨g', cap, cur, e1, hb, hh, hn, hs, ht⟩⟩ := h
  · cases h2
  · cases e1
    refine ⟨?_, blkLt hh⟩
    rw [blkCell hh i]
    have hi : i < n * sz := by have := (List.getElem?_eq_some_iff.1 hu).1; rw [h1] at this; exact this
    rw [← ht, List.getElem?_take_of_lt hi] at hu
    simpa using hu
theorem Row.some_ {w : World} {lo e sz n c : Nat} {a : Option Addr} {xs : List Value} (h : Row w lo e sz (.slice a n c) n xs) (hn : 0 < n) : ∃ g, a = some ⟨g, 0, none⟩ := by
  obtain ⟨h1, ⟨_, h2⟩ | ⟨g', cap, cur, e1, _⟩⟩ := h
  · omega
  · cases e1; exact ⟨g', rfl⟩
theorem cmk_start {W : World} {lo lo2 B nx hi : Nat} {rv csv cmv ssv smv l : Value} {M : List TxM} {N : List CmM} {cs : List Cmd} {kvs : List Value} (h : OwnW W lo B (fun g => g < lo2) rv M N nx csv cmv ssv smv) (h2 : W.ownsRow lo2 36 6 l cs.length (cmdCells cs kvs)) (h4 : ∀ (i : Nat) (c : Cmd) (kv : Value), cs[i]? = some c → kvs[i]? = some kv → KeysIn W lo2 kv c.keys) (hlo : lo ≤ lo2) : CmK W W lo lo2 B rv M.length nx N csv cmv l cs kvs 0 M ssv smv :=
  ⟨h.more (fun g hg => .inl hg), by omega, (Row.of_own h2).lower hlo, fun i c kv _ hc hkv => h4 i c kv hc hkv, CmTo.refl _ _⟩

def mkCmd (id : Int) : Array Value := #[.int .i64 0, .slice none 0 0, .string ⟨#[]⟩, .string ⟨#[]⟩, .bool false, .int .i64 id]
theorem Row.set1 {w : World} {lo e sz n g c i : Nat} {ys : List Value} (h : Row w lo e sz (.slice (some ⟨g, 0, none⟩) n c) n ys) (v : Value) : Row (w.setCell ⟨g, i, none⟩ v) lo e sz (.slice (some ⟨g, 0, none⟩) n c) n (ys.set i v) := by
  obtain ⟨h1, ⟨h2, _⟩ | ⟨g', cap, cur, e1, hb, hh, hn, hs, ht⟩⟩ := h
  · cases h2
  · cases e1
    refine ⟨by simpa using h1, .inr ⟨g, c, cur.setIfInBounds i v, rfl, hb, blkSet (i := i) hh v, hn, by simpa using hs, ?_⟩⟩
    rw [Array.toList_setIfInBounds, ← ht, List.take_set]
theorem set6_list (A D : List Value) (b0 b1 b2 b3 b4 b5 a0 a1 a2 a3 a4 a5 : Value) (p : Nat) (hp : A.length = p) :
    ((((((A ++ b0 :: b1 :: b2 :: b3 :: b4 :: b5 :: D).set p a0).set (p + 1) a1).set (p + 2) a2).set (p + 3) a3).set (p + 4) a4).set (p + 5) a5 = A ++ a0 :: a1 :: a2 :: a3 :: a4 :: a5 :: D := by
  subst hp
  rw [List.set_append_right _ _ (by omega), List.set_append_right _ _ (by omega), List.set_append_right _ _ (by omega), List.set_append_right _ _ (by omega), List.set_append_right _ _ (by omega), List.set_append_right _ _ (by omega)]
  simp
theorem marks_put {X : List Value} {n j : Nat} (id : Int) (hX : X.length = n * 6) (hj : j < n) :
    ((((((marks j id ++ X.drop (j * 6)).set (j * 6) (.int .i64 0)).set (j * 6 + 1) (.slice none 0 0)).set (j * 6 + 2) (.string ⟨#[]⟩)).set (j * 6 + 3) (.string ⟨#[]⟩)).set (j * 6 + 4) (.bool false)).set (j * 6 + 5) (.int .i64 id) = marks (j + 1) id ++ X.drop ((j + 1) * 6) := by
  have hl : 6 ≤ (X.drop (j * 6)).length := by rw [List.length_drop]; omega
  have hd : X.drop ((j + 1) * 6) = (X.drop (j * 6)).drop 6 := by rw [List.drop_drop]; congr 1; omega
  rw [hd]
  match X.drop (j * 6), hl with
  | b0 :: b1 :: b2 :: b3 :: b4 :: b5 :: D, _ =>
    rw [set6_list _ _ _ _ _ _ _ _ _ _ _ _ _ _ _ (marks_len j id), ← marks_add j 1]
    simp [marks]
structure CmL (W wr : World) (lo B : Nat) (S : Nat → Prop) (rv : Value) (M : List TxM) (N : List CmM) (nx : Nat) (csv cmv ssv smv l : Value) (n : Nat) (ys : List Value) : Prop where
  own : OwnW wr lo B S rv M N nx csv cmv ssv smv
  row : Row wr lo 36 6 l n ys
  kept : ∀ (b : Nat) (o : Obj), W.heap[b]? = some o → b ≠ B → l.ownBlock ≠ some b → wr.heap[b]? = some o
  below : Below lo W wr
theorem cml_start {wr : World} {lo B nx n : Nat} {S : Nat → Prop} {rv csv cmv ssv smv l : Value} {M : List TxM} {N : List CmM} {ys : List Value} {x : Int} (h : OwnW wr lo B S rv M N nx csv cmv ssv smv) (hl : Row wr lo 36 6 l n ys) (hlo : lo ≤ wr.heap.size) (k : Nat) (hx : x = (k : Int)) (A : Obj) :
    CmL ((wr.setCell ⟨B, 6, none⟩ (.int .i64 x)).alloc A) ((wr.setCell ⟨B, 6, none⟩ (.int .i64 x)).alloc A) lo B S rv M N k csv cmv ssv smv l n ys ∧ ((wr.setCell ⟨B, 6, none⟩ (.int .i64 x)).alloc A).heap[wr.heap.size]? = some A ∧ ((wr.setCell ⟨B, 6, none⟩ (.int .i64 x)).alloc A).heap.size = wr.heap.size + 1 ∧ CmTo wr ((wr.setCell ⟨B, 6, none⟩ (.int .i64 x)).alloc A) lo ∧ ∃ Z, ((wr.setCell ⟨B, 6, none⟩ (.int .i64 x)).alloc A).heap[B]? = some (.cells Z 87 (0, 0)) := by
  have h1 := h.count k
  rw [← hx] at h1
  have hsz : (wr.setCell ⟨B, 6, none⟩ (.int .i64 x)).heap.size = wr.heap.size := by simp
  have hl1 : Row (wr.setCell ⟨B, 6, none⟩ (.int .i64 x)) lo 36 6 l n ys := hl.other (fun g Z _ hZ _ => Below.heap_setCell _ _ _ _ (fun e => by rw [show g = B from e, h.wd] at hZ; cases hZ))
  have hb1 : Below lo wr (wr.setCell ⟨B, 6, none⟩ (.int .i64 x)) := (Below.refl _ _).setCell (p := ⟨B, 6, none⟩) h.ge _
  have hk1 : ∀ (b : Nat) (o : Obj), wr.heap[b]? = some o → b ≠ B → (wr.setCell ⟨B, 6, none⟩ (.int .i64 x)).heap[b]? = some o := fun b o hb hn => hs_set hb hn
  generalize wr.setCell ⟨B, 6, none⟩ (.int .i64 x) = W1 at *
  have hB : Below W1.heap.size W1 (W1.alloc A) := (Below.refl _ _).alloc (Nat.le_refl _) _
  refine ⟨⟨h1.below hB, hl1.other (fun g Z _ hZ _ => hB.block g (blkLt hZ)), fun _ _ h _ _ => h, Below.refl _ _⟩, hs_new hsz.symm, by rw [World.size_alloc, hsz], ⟨hb1.trans (hB.mono (by omega)), fun b Z T f hb h2 _ _ _ _ _ => hs_alloc (hk1 b _ hb (fun e => by rw [e, h.wd] at hb; cases hb; exact h2 rfl)) _, fun b o hb ho => hs_alloc (hk1 b _ hb (fun e => by rw [e, h.wd] at hb; exact ho _ _ _ (Option.some.inj hb).symm)) _⟩, ⟨_, hs_alloc h1.wd _⟩⟩
theorem CmL.put {W W' : World} {lo B nx n g c j : Nat} {S : Nat → Prop} {rv csv cmv ssv smv : Value} {M : List TxM} {N : List CmM} {X : List Value} (id : Int) (h : CmL W W' lo B S rv M N nx csv cmv ssv smv (.slice (some ⟨g, 0, none⟩) n c) n (marks j id ++ X.drop (j * 6))) (hlS : ¬ S g) (hX : X.length = n * 6) (hj : j < n) :
    CmL W ((((((W'.setCell ⟨g, j * 6, none⟩ (.int .i64 0)).setCell ⟨g, j * 6 + 1, none⟩ (.slice none 0 0)).setCell ⟨g, j * 6 + 2, none⟩ (.string ⟨#[]⟩)).setCell ⟨g, j * 6 + 3, none⟩ (.string ⟨#[]⟩)).setCell ⟨g, j * 6 + 4, none⟩ (.bool false)).setCell ⟨g, j * 6 + 5, none⟩ (.int .i64 id)) lo B S rv M N nx csv cmv ssv smv (.slice (some ⟨g, 0, none⟩) n c) n (marks (j + 1) id ++ X.drop ((j + 1) * 6)) := by
  have one : ∀ (W2 : World) (ys : List Value) (i : Nat) (v : Value), CmL W W2 lo B S rv M N nx csv cmv ssv smv (.slice (some ⟨g, 0, none⟩) n c) n ys → CmL W (W2.setCell ⟨g, i, none⟩ v) lo B S rv M N nx csv cmv ssv smv (.slice (some ⟨g, 0, none⟩) n c) n (ys.set i v) := fun W2 ys i v h => by
    obtain ⟨cur, hc, hge, hlt⟩ := h.row.blk (g := g) rfl
    exact ⟨h.own.grown h.row (.inr rfl) (fun g' e => by cases e; exact hlS) (set_grown W2 g i v), h.row.set1 v, fun b o hb hn hl => hs_set (h.kept b o hb hn hl) (fun e => hl (by rw [show b = g from e]; rfl)), h.below.setCell (p := ⟨g, i, none⟩) hge _⟩
  have := one _ _ (j * 6 + 5) (.int .i64 id) (one _ _ (j * 6 + 4) (.bool false) (one _ _ (j * 6 + 3) (.string ⟨#[]⟩) (one _ _ (j * 6 + 2) (.string ⟨#[]⟩) (one _ _ (j * 6 + 1) (.slice none 0 0) (one _ _ (j * 6) (.int .i64 0) h)))))
  rw [marks_put id hX hj] at this
  exact this
theorem CmL.at_ {W W' : World} {lo B nx n : Nat} {S : Nat → Prop} {rv csv cmv ssv smv l : Value} {M : List TxM} {N : List CmM} {id : Int} (h : CmL W W' lo B S rv M N nx csv cmv ssv smv l n (marks n id)) : CmAt W W' lo B S rv M N nx csv cmv ssv smv l n id [] :=
  ⟨h.own, h.row, (fun e he => by cases he), h.kept, h.below⟩

theorem info28 : ∃ i, Tryz.prog.info? 28 = some i ∧ i.zero = some (.slice none 0 0) ∧ i.size = 1 ∧ i.bytes = 24 := by
  have h : (Tryz.prog.info? 28).map (fun i => (i.zero, i.size, i.bytes)) = some (some (.slice none 0 0), 1, 24) := by kernel_rfl
  cases hi : Tryz.prog.info? 28 with
  | none => rw [hi] at h; cases h
  | some i =>
    rw [hi] at h
    simp only [Option.map_some, Option.some.injEq, Prod.mk.injEq] at h
    exact ⟨i, rfl, h.1, h.2.1, h.2.2⟩
theorem info3 : ∃ i, Tryz.prog.info? 3 = some i ∧ i.zero = some (.int .i64 0) ∧ i.size = 1 ∧ i.bytes = 8 := by
  have h : (Tryz.prog.info? 3).map (fun i => (i.zero, i.size, i.bytes)) = some (some (.int .i64 0), 1, 8) := by kernel_rfl
  cases hi : Tryz.prog.info? 3 with
  | none => rw [hi] at h; cases h
  | some i =>
    rw [hi] at h
    simp only [Option.map_some, Option.some.injEq, Prod.mk.injEq] at h
    exact ⟨i, rfl, h.1, h.2.1, h.2.2⟩
theorem cfin_wB {W W2 W3 : World} {lo B nx n : Nat} {S : Nat → Prop} {rv csv cmv ssv smv l : Value} {M : List TxM} {N : List CmM} {id : Int} {G : List (Value × Nat)} {A : Obj} (h : CmAt W W2 lo B S rv M N nx csv cmv ssv smv l n id G) (hg3 : (W2.alloc A).grownBy W3 csv.ownBlock) : W3.heap[B]? = some (.cells #[rv, .slice none 0 0, csv, cmv, ssv, smv, .int .i64 (nx : Int)] 87 (0, 0)) := by
  have hBa : Below W2.heap.size W2 (W2.alloc A) := (Below.refl _ _).alloc (Nat.le_refl _) _
  exact (hg3.block B (by rw [World.size_alloc]; have := blkLt h.own.wd; omega) (row_ne h.own.cs h.own.wd (by decide))).trans ((hBa.block B (blkLt h.own.wd)).trans h.own.wd)
theorem cfin_C {W2 W3 : World} {lo C : Nat} {csv : Value} {n : Nat} {xs : List Value} {Z : Array Value} {A : Obj} (h : Row W2 lo 28 1 csv n xs) (hC : W2.heap[C]? = some (.cells Z 36 (0, 0))) (hg3 : (W2.alloc A).grownBy W3 csv.ownBlock) : W3.heap[C]? = some (.cells Z 36 (0, 0)) := by
  have hBa : Below W2.heap.size W2 (W2.alloc A) := (Below.refl _ _).alloc (Nat.le_refl _) _
  exact (hg3.block C (by rw [World.size_alloc]; have := blkLt hC; omega) (row_ne h hC (by decide))).trans ((hBa.block C (blkLt hC)).trans hC)
theorem cfin_cm {W W2 W3 : World} {lo B nx n : Nat} {S : Nat → Prop} {rv csv cmv ssv smv csv' l : Value} {M : List TxM} {N : List CmM} {id : Int} {G : List (Value × Nat)} {A A' : Obj} (h : CmAt W W2 lo B S rv M N nx csv cmv ssv smv l n id G) (hg3 : (W2.alloc A).grownBy W3 csv.ownBlock) : Row ((W3.setCell ⟨B, 2, none⟩ csv').alloc A') lo 3 1 cmv N.length (N.map fun e => Value.int .i64 e.id) := by
  have hBa : Below W2.heap.size W2 (W2.alloc A) := (Below.refl _ _).alloc (Nat.le_refl _) _
  have hszA : (W2.alloc A).heap.size = W2.heap.size + 1 := World.size_alloc _ _
  exact h.own.cm.other (fun g Z hg hZ _ => (hs_alloc (hs_set ((hg3.block g (by rw [hszA]; have := blkLt hZ; omega) (row_ne h.own.cs hZ (by decide))).trans ((hBa.block g (blkLt hZ)).trans hZ)) (fun e => by rw [show g = B from e, h.own.wd] at hZ; cases hZ)) _).trans hZ.symm)
theorem cfin_wB2 {W W2 W3 W5 : World} {lo B nx n : Nat} {S : Nat → Prop} {rv csv cmv ssv smv csv' l : Value} {M : List TxM} {N : List CmM} {id : Int} {G : List (Value × Nat)} {A A' : Obj} (h : CmAt W W2 lo B S rv M N nx csv cmv ssv smv l n id G) (hg3 : (W2.alloc A).grownBy W3 csv.ownBlock) (hg5 : ((W3.setCell ⟨B, 2, none⟩ csv').alloc A').grownBy W5 cmv.ownBlock) : W5.heap[B]? = some (.cells #[rv, .slice none 0 0, csv', cmv, ssv, smv, .int .i64 (nx : Int)] 87 (0, 0)) := by
  have hb := blkSet (i := 2) (cfin_wB h hg3) csv'
  have hrow := cfin_cm (A' := A') (csv' := csv') h hg3
  have hb2 : ((W3.setCell ⟨B, 2, none⟩ csv').alloc A').heap[B]? = some (.cells #[rv, .slice none 0 0, csv', cmv, ssv, smv, .int .i64 (nx : Int)] 87 (0, 0)) := hs_alloc (hb.trans rfl) _
  generalize (W3.setCell ⟨B, 2, none⟩ csv').alloc A' = W4 at *
  exact (hg5.block B (blkLt hb2) (row_ne hrow hb2 (by decide))).trans hb2
theorem cfin_C2 {W W2 W3 W5 : World} {lo B C nx n : Nat} {S : Nat → Prop} {rv csv cmv ssv smv csv' l : Value} {M : List TxM} {N : List CmM} {id x : Int} {G : List (Value × Nat)} {A A' : Obj} (hC : W2.heap[C]? = some (.cells #[.int .i64 0, .slice none 0 0, .string ⟨#[]⟩, .string ⟨#[]⟩, .bool false, .int .i64 x] 36 (0, 0))) (h : CmAt W W2 lo B S rv M N nx csv cmv ssv smv l n id G) (hg3 : (W2.alloc A).grownBy W3 csv.ownBlock) (hg5 : ((W3.setCell ⟨B, 2, none⟩ csv').alloc A').grownBy W5 cmv.ownBlock) (hCB : C ≠ B) : W5.cell? ⟨C, 5, none⟩ = some (.int .i64 x) := by
  have h3 := cfin_C h.own.cs hC hg3
  have hrow := cfin_cm (A' := A') (csv' := csv') h hg3
  have h4 : ((W3.setCell ⟨B, 2, none⟩ csv').alloc A').heap[C]? = some (.cells #[.int .i64 0, .slice none 0 0, .string ⟨#[]⟩, .string ⟨#[]⟩, .bool false, .int .i64 x] 36 (0, 0)) := hs_alloc (hs_set h3 hCB) _
  generalize (W3.setCell ⟨B, 2, none⟩ csv').alloc A' = W4 at *
  exact blkCell ((hg5.block C (blkLt h4) (row_ne hrow h4 (by decide))).trans h4) 5
theorem Row.heap {w w' : World} {lo e sz n : Nat} {v : Value} {xs : List Value} (h : Row w lo e sz v n xs) (hh : w'.heap = w.heap) : Row w' lo e sz v n xs := h.other (fun _ _ _ _ _ => by rw [hh])

set_option maxRecDepth 20000 in
set_option maxHeartbeats 8000000 in
theorem ownCommands_any (B nx lo lo2 hi : Nat) (rv csv cmv ssv smv : Value) (M : List TxM) (N : List CmM) (la : Option Addr) (lc n : Nat) (cs : List Cmd) (W : World) (h : OwnW W lo B (fun g => g < lo2) rv M N nx csv cmv ssv smv) (hn : cs.length = n) (hl : CmdsAp W lo2 hi (.slice la n lc) cs) (hhi : hi ≤ W.heap.size) (hlo2 : lo ≤ lo2) (hlo3 : lo2 ≤ W.heap.size) (hcs : n ≤ 2000000) (hks : ∀ c ∈ cs, c.keys.length ≤ 1000000) (hM : M.length ≤ 4900000000000) (hN : N.length ≤ 1000000000000) (hnx : nx ≤ 900000000000000) :
    Calls Tryz.prog 110 #[.pointer (some ⟨B, 0, none⟩), .slice la n lc] W fun e w' => e = .returned (.tuple #[]) ∧ ∃ M' N' csv' cmv' ssv' smv', OwnW w' lo B (fun g => g < w'.heap.size) rv M' N' (nx + n + 1) csv' cmv' ssv' smv' ∧ M'.length = M.length + 4 * n ∧ N'.length = N.length + 4 ∧ CmTo W w' lo := by
  obtain ⟨kvs, h1, h2, hf, h4, h5, h6⟩ := hl
  have HK := hide' (cmk_start (hi := hi) h h2 h4 hlo2)
  have HF := hide' (And.intro h1 (And.intro hf (And.intro h5 (And.intro h6 (And.intro hks hn)))))
  have HW : Hid (∃ Z, W.heap[B]? = some (.cells Z 87 (0, 0))) := ⟨_, h.wd⟩
  have HL36 : Hid (∀ b, (Value.slice la n lc).ownBlock = some b → (∃ Z, W.heap[b]? = some (.cells Z 36 (0, 0))) ∧ lo2 ≤ b) := fun b hb => by
    obtain ⟨cur, hc, hge, _⟩ := (Row.of_own h2).blk hb
    exact ⟨⟨cur, hc⟩, hge⟩
  have HKW := hide' h4
  clear h1 hf h5 h6 hks h2 h4 hn
  generalize hml : M.length = ml at *
  have HML := hide' hml
  clear hml h
  go_enter Tryz.func110, Tryz.ntmps110
  go_wp2_with fail
  go_loopw [4] (fun i wr => ∃ (k : Nat) (M' : List TxM) (s1 s2 : Value), i = .int .i64 (k : Int) ∧ k ≤ n ∧ Hid (CmK W wr lo lo2 B rv ml nx N csv cmv (.slice la n lc) cs kvs k M' s1 s2)) (fun i _ => n - (intOf i).toNat)
  case atStart => exact ⟨0, M, ssv, smv, rfl, Nat.zero_le _, HK⟩
  case round =>
    clear HK
    obtain ⟨k, M', s1, s2, rfl, hk, HK⟩ := hrel
    by_cases hkn : k < n
    · have hrow := HK.out.row
      rw [HF.out.2.2.2.2.2] at hrow
      obtain ⟨g, hg⟩ := hrow.some_ (by omega)
      subst hg
      have hc : cs[k]? = some (cs[k]'(by rw [HF.out.2.2.2.2.2]; exact hkn)) := List.getElem?_eq_getElem _
      have hkv : kvs[k]? = some (kvs[k]'(by rw [HF.out.1, HF.out.2.2.2.2.2]; exact hkn)) := List.getElem?_eq_getElem _
      generalize cs[k]'(by rw [HF.out.2.2.2.2.2]; exact hkn) = c at *
      generalize kvs[k]'(by rw [HF.out.1, HF.out.2.2.2.2.2]; exact hkn) = kv at *
      have hcell := cmdCells_get cs kvs k 1 c kv hc hkv (by omega)
      have hkc : (cmdCells cs kvs)[k * 6 + 1]? = some kv := by rw [Nat.mul_comm]; exact hcell
      obtain ⟨ck, hgl⟩ := hrow.cell hkc
      obtain ⟨ka, kc, xs, hkf, hkr⟩ := keys_row (HK.out.keys k c kv (Nat.le_refl _) hc hkv)
      have hkl : c.keys.length ≤ 1000000 := HF.out.2.2.2.2.1 c (List.mem_of_getElem? hc)
      have hnot : ∀ g', kv.ownBlock = some g' → ¬ takenK lo2 W.heap.size kvs k g' := fun g' hg' => HK.out.not HF.out.2.2.1 hhi HF.out.2.2.2.1 (Nat.le_refl _) hc hkv hg'
      have hlen := HK.out.len
      have hsz := HK.out.kept.below.size
      subst hkf
      have HT := hide' (ownTexts_any B (nx + k) c.keys.length lo (takenK lo2 W.heap.size kvs k) rv csv cmv s1 s2 M' N ka kc xs wr HK.out.own (hkr.lower hlo2) hnot (by omega) hkl (by omega) (by omega))
      have HST := hide' (fun w' ssv' smv' M2 (a : OwnW w' lo B (fun g => takenK lo2 W.heap.size kvs k g ∨ (Value.slice ka c.keys.length kc).ownBlock = some g ∨ wr.heap.size ≤ g) rv M2 N (nx + k + 1) csv cmv ssv' smv') (b : M2.length = M'.length + 4) (d : TxTo wr w' lo B (takenK lo2 W.heap.size kvs k) (.slice ka c.keys.length kc)) => HK.out.step (c := c) HF.out.2.2.1 hhi HF.out.2.2.2.1 (by omega) hkv a b d)
      clear hcell hkc hkr hnot hlen hc hkv hrow HK
      generalize c.keys.length = kl at *
      go_wp2_with fail
      go_at_call 150
      refine HT.out.mono ?_
      rintro e w2 ⟨rfl, m, g1, g2, g3, ssv', smv', hO, hTo⟩
      have HN2 := hide' (HST.out w2 ssv' smv' _ hO (by simp) hTo)
      clear hO hTo HT HST
      go_wp2
      go_roundw
      case rel => exact ⟨k + 1, _, _, _, by go_num, by omega, HN2⟩
      case measure => simp [intOf]; omega
    · have hkn2 : n = k := by omega
      subst hkn2
      have hown := HK.out.own
      have hrow := HK.out.row
      have hlen := HK.out.len
      have hCm := HK.out.kept
      rw [HF.out.2.2.2.2.2] at hrow
      have hX : (cmdCells cs kvs).length = n * 6 := hrow.1
      have hnot : ∀ g, (Value.slice la n lc).ownBlock = some g → ¬ takenK lo2 W.heap.size kvs n g := by
        intro g hg
        obtain ⟨⟨Z, hZ⟩, hge⟩ := HL36.out g hg
        rintro (h1 | ⟨i, kv, hi', hkv, hg'⟩ | h1)
        · omega
        · have hi2 : i < cs.length := by rw [HF.out.2.2.2.2.2]; exact hi'
          have hcc : cs[i]? = some cs[i] := List.getElem?_eq_getElem hi2
          have hkk := HKW.out i _ kv hcc hkv
          rcases hkk with ⟨rfl, _⟩ | ⟨b, c, rfl, _, Z', hZ', _⟩
          · cases hg'
          · cases hg'
            rw [hZ] at hZ'
            cases hZ'
        · have := blkLt hZ; omega
      obtain ⟨q, hq⟩ : ∃ q, q = nx + n := ⟨_, rfl⟩
      rw [← hq] at hown
      have c6 := blkCell hown.wd 6
      have cf := blkFree hown.wd
      simp at c6
      have hBl := blkLt hown.wd
      have hszr := hCm.below.size
      obtain ⟨st1, st2, st3, st4, st5⟩ := cml_start (x := (q : Int) + 1) hown hrow (by omega) (q + 1) (by omega) (.cells #[.int .i64 0, .slice none 0 0, .string ⟨#[]⟩, .string ⟨#[]⟩, .bool false, .int .i64 (-((q : Int) + 1))] 36)
      have HS := hide' (And.intro st1 (And.intro st2 (And.intro st3 (And.intro st4 st5))))
      have HQ := hide' (And.intro hq (And.intro hlen (And.intro hX (And.intro hnot hCm))))
      have hrlt : ∀ g, (Value.slice la n lc).ownBlock = some g → g < wr.heap.size := fun g hg => (hrow.blk hg).choose_spec.2.2
      have HRL := hide' hrlt
      have hqb : q ≤ 900000002000000 := by omega
      clear HK hown hrow hlen hCm hX hnot hq st1 st2 st3 st4 st5 hrlt
      go_wp2_with fail
      generalize -((q : Int) + 1) = id at *
      generalize (wr.setCell ⟨B, 6, none⟩ (.int .i64 ((q : Int) + 1))).alloc (.cells #[.int .i64 0, .slice none 0 0, .string ⟨#[]⟩, .string ⟨#[]⟩, .bool false, .int .i64 id] 36) = W1 at *
      generalize wr.heap.size = C at *
      have hCB : C ≠ B := by omega
      have hlC : (Value.slice la n lc).ownBlock ≠ some C := fun e => by have := HRL.out _ e; omega
      have hlo1 : lo ≤ W1.heap.size := by have := HS.out.2.2.1; omega
      have HX := hide' HQ.out.2.2.1
      clear c6 cf
      go_loopw [6] (fun i w2 => ∃ j : Nat, i = .int .i64 (j : Int) ∧ j ≤ n ∧ Hid (CmL W1 w2 lo B (takenK lo2 W.heap.size kvs n) rv M' N (q + 1) csv cmv s1 s2 (.slice la n lc) n (marks j id ++ (cmdCells cs kvs).drop (j * 6)))) (fun i _ => n - (intOf i).toNat)
      case atStart => exact ⟨0, rfl, Nat.zero_le _, by have := HS.out.1; simpa [marks, Hid] using this⟩
      case round =>
        obtain ⟨j, rfl, hj, HL⟩ := hrel
        have hCw := HL.out.kept C _ HS.out.2.1 hCB hlC
        have q0 := blkCell hCw 0
        have q1 := blkCell hCw 1
        have q2 := blkCell hCw 2
        have q3 := blkCell hCw 3
        have q4 := blkCell hCw 4
        have q5 := blkCell hCw 5
        simp at q0 q1 q2 q3 q4 q5
        have hCl := blkLt hCw
        clear hCw
        by_cases hjn : j < n
        · obtain ⟨g, hg⟩ := HL.out.row.some_ (by omega)
          subst hg
          have hgC : ¬ g = C := fun e => hlC (by rw [e]; rfl)
          obtain ⟨_, ⟨_, h0⟩ | ⟨g', cap, cur, e1, hge, hh, hnc, hcs', ht⟩⟩ := HL.out.row
          · omega
          cases e1
          have ce : ∀ i, i < 6 → ∃ u, wr.cell? ⟨g, j * 6 + i, none⟩ = some u := fun i hi => ⟨_, (blkCell hh _).trans (Array.getElem?_eq_getElem (by omega))⟩
          obtain ⟨u0, e0⟩ := ce 0 (by omega)
          obtain ⟨u1, e1⟩ := ce 1 (by omega)
          obtain ⟨u2, e2⟩ := ce 2 (by omega)
          obtain ⟨u3, e3⟩ := ce 3 (by omega)
          obtain ⟨u4, e4⟩ := ce 4 (by omega)
          obtain ⟨u5, e5⟩ := ce 5 (by omega)
          rw [Nat.add_zero] at e0
          have cfg := blkFree hh
          have hgl := blkLt hh
          have HP := hide' (HL.out.put id (HQ.out.2.2.2.1 g rfl) HX.out hjn)
          clear hh ht ce
          go_wp2
          go_roundw
          case rel => exact ⟨j + 1, by go_num, by omega, HP⟩
          case measure => simp [intOf]; omega
        · have hjn2 : j = n := by omega
          subst hjn2
          have hT := HL.out
          rw [List.drop_eq_nil_of_le (by rw [HX.out]; exact Nat.le_refl _), List.append_nil] at hT
          have HA := hide' hT.at_
          clear HL hT
          obtain ⟨i36, z36, hi, hz0, hz1, hz2, hz3⟩ := info36
          have HI := hide' (And.intro hi (And.intro hz0 (And.intro hz1 (And.intro hz2 hz3))))
          clear hi hz0 hz1 hz2 hz3
          go_upto_region 11 with (first
            | (at_builtin; refine wpList_append_row _ rfl _ _ _ rfl lo 36 i36 z36 6 80 Tryz.underlying28 HI.out.1 HI.out.2.1 HI.out.2.2.1 HI.out.2.2.2.1 HI.out.2.2.2.2 (by omega) (.slice la j lc) j (marks j id) rfl (HA.out.alloc hlo1 _).row ⟨_, 0, none⟩ 1 1 [.int .i64 0, .slice none 0 0, .string ⟨#[]⟩, .string ⟨#[]⟩, .bool false, .int .i64 id] rfl rfl (World.news_of_block (hs_new rfl)) (by simp [Value.oneCell']) (by omega) (by unfold maxLen; omega) (by omega) (by have := HA.out.below.size; simp; omega) ?_; intro v' wg1 hrow hg hat hall; obtain ⟨ug1a, ug1c, huf⟩ := hrow.form; subst huf; have Hg1 := hide' ((HA.out.alloc hlo1 _).grow (k := 1) hlo1 HQ.out.2.2.2.1 (by simp) hrow hg hall); clear hrow hg hat hall; have hCg1 := Hg1.out.kept C _ HS.out.2.1 hCB hlC; clear q0 q1 q2 q3 q4 q5 hCl; have q0 := blkCell hCg1 0; have q1 := blkCell hCg1 1; have q2 := blkCell hCg1 2; have q3 := blkCell hCg1 3; have q4 := blkCell hCg1 4; have q5 := blkCell hCg1 5; simp at q0 q1 q2 q3 q4 q5; have hCl := blkLt hCg1; clear hCg1)
            | fail)
          clear HA
          go_upto_region 12 with (first
            | (at_builtin; refine wpList_append_row _ rfl _ _ _ rfl lo 36 i36 z36 6 80 Tryz.underlying28 HI.out.1 HI.out.2.1 HI.out.2.2.1 HI.out.2.2.2.1 HI.out.2.2.2.2 (by omega) (.slice la j lc) j (marks j id) rfl (Hg1.out.alloc hlo1 _).row ⟨_, 0, none⟩ 2 2 [.int .i64 0, .slice none 0 0, .string ⟨#[]⟩, .string ⟨#[]⟩, .bool false, .int .i64 id, .int .i64 0, .slice none 0 0, .string ⟨#[]⟩, .string ⟨#[]⟩, .bool false, .int .i64 id] rfl rfl (World.news_of_block (hs_new rfl)) (by simp [Value.oneCell']) (by omega) (by unfold maxLen; omega) (by omega) (by have := Hg1.out.below.size; simp; omega) ?_; intro v' wg2 hrow hg hat hall; obtain ⟨ug2a, ug2c, huf⟩ := hrow.form; subst huf; have Hg2 := hide' ((Hg1.out.alloc hlo1 _).grow (k := 2) hlo1 HQ.out.2.2.2.1 (by simp) hrow hg hall); clear hrow hg hat hall; have hCg2 := Hg2.out.kept C _ HS.out.2.1 hCB hlC; clear q0 q1 q2 q3 q4 q5 hCl; have q0 := blkCell hCg2 0; have q1 := blkCell hCg2 1; have q2 := blkCell hCg2 2; have q3 := blkCell hCg2 3; have q4 := blkCell hCg2 4; have q5 := blkCell hCg2 5; simp at q0 q1 q2 q3 q4 q5; have hCl := blkLt hCg2; clear hCg2)
            | fail)
          clear Hg1
          go_upto_region 13 with (first
            | (at_builtin; refine wpList_append_row _ rfl _ _ _ rfl lo 36 i36 z36 6 80 Tryz.underlying28 HI.out.1 HI.out.2.1 HI.out.2.2.1 HI.out.2.2.2.1 HI.out.2.2.2.2 (by omega) (.slice la j lc) j (marks j id) rfl (Hg2.out.alloc hlo1 _).row ⟨_, 0, none⟩ 3 3 [.int .i64 0, .slice none 0 0, .string ⟨#[]⟩, .string ⟨#[]⟩, .bool false, .int .i64 id, .int .i64 0, .slice none 0 0, .string ⟨#[]⟩, .string ⟨#[]⟩, .bool false, .int .i64 id, .int .i64 0, .slice none 0 0, .string ⟨#[]⟩, .string ⟨#[]⟩, .bool false, .int .i64 id] rfl rfl (World.news_of_block (hs_new rfl)) (by simp [Value.oneCell']) (by omega) (by unfold maxLen; omega) (by omega) (by have := Hg2.out.below.size; simp; omega) ?_; intro v' wg3 hrow hg hat hall; obtain ⟨ug3a, ug3c, huf⟩ := hrow.form; subst huf; have Hg3 := hide' ((Hg2.out.alloc hlo1 _).grow (k := 3) hlo1 HQ.out.2.2.2.1 (by simp) hrow hg hall); clear hrow hg hat hall; have hCg3 := Hg3.out.kept C _ HS.out.2.1 hCB hlC; clear q0 q1 q2 q3 q4 q5 hCl; have q0 := blkCell hCg3 0; have q1 := blkCell hCg3 1; have q2 := blkCell hCg3 2; have q3 := blkCell hCg3 3; have q4 := blkCell hCg3 4; have q5 := blkCell hCg3 5; simp at q0 q1 q2 q3 q4 q5; have hCl := blkLt hCg3; clear hCg3)
            | fail)
          clear Hg2
          obtain ⟨i28, hj1, hj2, hj3, hj4⟩ := info28
          have HJ := hide' (And.intro hj1 (And.intro hj2 (And.intro hj3 hj4)))
          obtain ⟨i3, hp1, hp2, hp3, hp4⟩ := info3
          have HP3 := hide' (And.intro hp1 (And.intro hp2 (And.intro hp3 hp4)))
          clear hj1 hj2 hj3 hj4 hp1 hp2 hp3 hp4
          have c2 := blkCell Hg3.out.own.wd 2
          have c3 := blkCell Hg3.out.own.wd 3
          have cf := blkFree Hg3.out.own.wd
          simp at c2 c3
          have hBl3 := blkLt Hg3.out.own.wd
          have hlo3' : lo ≤ wg3.heap.size := by have := Hg3.out.below.size; omega
          have HCk := hide' (Hg3.out.kept C _ HS.out.2.1 hCB hlC)
          generalize hNl : N.length = nl at *
          have HNL := hide' hNl
          clear hNl
          go_upto_region 14 with (first
            | (at_builtin; refine wpList_append_row _ rfl _ _ _ rfl lo 28 i28 (.slice none 0 0) 1 24 Tryz.underlying84 HJ.out.1 HJ.out.2.1 HJ.out.2.2.1 HJ.out.2.2.2 rfl (by omega) csv nl (N.map (·.v)) rfl (by have hr := (Hg3.out.alloc hlo1 (.cells #[.slice la j lc, .slice ug1a (j + 1) ug1c, .slice ug2a (j + 2) ug2c, .slice ug3a (j + 3) ug3c] 28)).own.cs; rw [HNL.out] at hr; exact hr) ⟨_, 0, none⟩ 4 4 [.slice la j lc, .slice ug1a (j + 1) ug1c, .slice ug2a (j + 2) ug2c, .slice ug3a (j + 3) ug3c] rfl rfl (World.news_of_block (hs_new rfl)) (by simp [Value.oneCell']) (by omega) (by unfold maxLen; omega) (by omega) (by simp; omega) ?_; intro csv' w10 hrow hg hat hall; obtain ⟨ta, tc, huf⟩ := hrow.form; subst huf; have HR1 := hide' (And.intro hrow hg); have hs10 := hg.size; have wB10 := cfin_wB Hg3.out hg; have wC10 := cfin_C Hg3.out.own.cs HCk.out hg; clear c2 c3 cf q0 q1 q2 q3 q4 q5; have c2 := blkCell wB10 2; have c3 := blkCell wB10 3; have cf := blkFree wB10; simp at c2 c3; have q5 := blkCell wC10 5; simp at q5; have hBl10 := blkLt wB10; have hCl10 := blkLt wC10; clear hrow hg hat hall wB10 wC10)
            | fail)
          have hlo10 : lo ≤ w10.heap.size := by rw [World.size_alloc] at hs10; omega
          have hcmr := cfin_cm (A' := .cells #[.int .i64 id, .int .i64 id, .int .i64 id, .int .i64 id] 3) (csv' := .slice ta (nl + 4) tc) Hg3.out HR1.out.2
          rw [HNL.out] at hcmr
          have HCMR := hide' (show ∀ w', w'.heap = ((w10.setCell ⟨B, 2, none⟩ (.slice ta (nl + 4) tc)).alloc (.cells #[.int .i64 id, .int .i64 id, .int .i64 id, .int .i64 id] 3)).heap → Row w' lo 3 1 cmv nl (N.map fun e => Value.int .i64 e.id) from fun w' hw => hcmr.heap hw)
          clear hcmr
          have hCnB : ¬ C = B := hCB
          have hBnC : ¬ B = C := fun e => hCB e.symm
          refine wp_region_held_drew (S := fun W' => W'.cell? ⟨C, 5, none⟩ = some (.int .i64 id)) (by kernel_rfl) (by (try dsimp only); go_keep) (fun hHeld => ?_)
          refine wpAnyH_take (i := 0) (oi := { dst := some 74, op := Op.move (Operand.tmp 0), type := 81, pos := "law.go:88", after := #[], guard := none }) (v := ?_) rfl (by kernel_rfl) (by kernel_rfl) (by kernel_rfl) (fun _ _ _ h => h) (Or.inl ⟨by rfl, ?_⟩) (by assumption) ?_
          rotate_left 1
          · (intro w hSw; (try dsimp only at hSw); go_simp; try with_reducible rfl)
          try simp only [Act.put, List.setIfInBounds_toArray, List.set_cons_zero, List.set_cons_succ]
          refine wpAnyH_take (i := 1) (oi := { dst := some 75, op := Op.move (Operand.tmp 0), type := 81, pos := "law.go:88", after := #[], guard := none }) (v := ?_) rfl (by kernel_rfl) (by kernel_rfl) (by kernel_rfl) (fun _ _ _ h => h) (Or.inl ⟨by rfl, ?_⟩) (by assumption) ?_
          rotate_left 1
          · (intro w hSw; (try dsimp only at hSw); go_simp; try with_reducible rfl)
          try simp only [Act.put, List.setIfInBounds_toArray, List.set_cons_zero, List.set_cons_succ]
          refine wpAnyH_take (i := 2) (oi := { dst := some 76, op := Op.nilCheck (Operand.tmp 75), type := 0, pos := "law.go:88", after := #[{ on := 1, ground := Ground.data }], guard := none }) (v := ?_) rfl (by kernel_rfl) (by kernel_rfl) (by kernel_rfl) (fun _ _ _ h => h) (Or.inl ⟨by rfl, ?_⟩) (by assumption) ?_
          rotate_left 1
          · (intro w hSw; (try dsimp only at hSw); go_simp; try with_reducible rfl)
          try simp only [Act.put, List.setIfInBounds_toArray, List.set_cons_zero, List.set_cons_succ]
          refine wpAnyH_take (i := 3) (oi := { dst := some 77, op := Op.fieldAddr 87 (Operand.tmp 76) 3, type := 0, pos := "law.go:88", after := #[{ on := 2, ground := Ground.data }], guard := none }) (v := ?_) rfl (by kernel_rfl) (by kernel_rfl) (by kernel_rfl) (fun _ _ _ h => h) (Or.inl ⟨by rfl, ?_⟩) (by assumption) ?_
          rotate_left 1
          · (intro w hSw; (try dsimp only at hSw); go_simp; try with_reducible rfl)
          try simp only [Act.put, List.setIfInBounds_toArray, List.set_cons_zero, List.set_cons_succ]
          refine wpAnyH_take (i := 5) (oi := { dst := some 79, op := Op.fieldAddr 36 (Operand.tmp 5) 5, type := 0, pos := "law.go:88", after := #[], guard := none }) (v := ?_) rfl (by kernel_rfl) (by kernel_rfl) (by kernel_rfl) (fun _ _ _ h => h) (Or.inl ⟨by rfl, ?_⟩) (by assumption) ?_
          rotate_left 1
          · (intro w hSw; (try dsimp only at hSw); go_simp; try with_reducible rfl)
          try simp only [Act.put, List.setIfInBounds_toArray, List.set_cons_zero, List.set_cons_succ]
          refine wpAnyH_take (i := 6) (oi := { dst := some 80, op := Op.load 3 (Operand.tmp 79), type := 3, pos := "law.go:88", after := #[{ on := 5, ground := Ground.data }], guard := none }) (v := ?_) rfl (by kernel_rfl) (by kernel_rfl) (by kernel_rfl) (fun _ _ _ h => h) (Or.inl ⟨by rfl, ?_⟩) (by assumption) ?_
          rotate_left 1
          · (intro w hSw; (try dsimp only at hSw); go_simp; try with_reducible rfl)
          try simp only [Act.put, List.setIfInBounds_toArray, List.set_cons_zero, List.set_cons_succ]
          refine wpAnyH_take (i := 7) (oi := { dst := some 81, op := Op.fieldAddr 36 (Operand.tmp 5) 5, type := 0, pos := "law.go:88", after := #[], guard := none }) (v := ?_) rfl (by kernel_rfl) (by kernel_rfl) (by kernel_rfl) (fun _ _ _ h => h) (Or.inl ⟨by rfl, ?_⟩) (by assumption) ?_
          rotate_left 1
          · (intro w hSw; (try dsimp only at hSw); go_simp; try with_reducible rfl)
          try simp only [Act.put, List.setIfInBounds_toArray, List.set_cons_zero, List.set_cons_succ]
          refine wpAnyH_take (i := 8) (oi := { dst := some 82, op := Op.load 3 (Operand.tmp 81), type := 3, pos := "law.go:88", after := #[{ on := 7, ground := Ground.data }], guard := none }) (v := ?_) rfl (by kernel_rfl) (by kernel_rfl) (by kernel_rfl) (fun _ _ _ h => h) (Or.inl ⟨by rfl, ?_⟩) (by assumption) ?_
          rotate_left 1
          · (intro w hSw; (try dsimp only at hSw); go_simp; try with_reducible rfl)
          try simp only [Act.put, List.setIfInBounds_toArray, List.set_cons_zero, List.set_cons_succ]
          refine wpAnyH_take (i := 9) (oi := { dst := some 83, op := Op.fieldAddr 36 (Operand.tmp 5) 5, type := 0, pos := "law.go:88", after := #[], guard := none }) (v := ?_) rfl (by kernel_rfl) (by kernel_rfl) (by kernel_rfl) (fun _ _ _ h => h) (Or.inl ⟨by rfl, ?_⟩) (by assumption) ?_
          rotate_left 1
          · (intro w hSw; (try dsimp only at hSw); go_simp; try with_reducible rfl)
          try simp only [Act.put, List.setIfInBounds_toArray, List.set_cons_zero, List.set_cons_succ]
          refine wpAnyH_take (i := 10) (oi := { dst := some 84, op := Op.load 3 (Operand.tmp 83), type := 3, pos := "law.go:88", after := #[{ on := 9, ground := Ground.data }], guard := none }) (v := ?_) rfl (by kernel_rfl) (by kernel_rfl) (by kernel_rfl) (fun _ _ _ h => h) (Or.inl ⟨by rfl, ?_⟩) (by assumption) ?_
          rotate_left 1
          · (intro w hSw; (try dsimp only at hSw); go_simp; try with_reducible rfl)
          try simp only [Act.put, List.setIfInBounds_toArray, List.set_cons_zero, List.set_cons_succ]
          refine wpAnyH_take (i := 11) (oi := { dst := some 85, op := Op.fieldAddr 36 (Operand.tmp 5) 5, type := 0, pos := "law.go:88", after := #[], guard := none }) (v := ?_) rfl (by kernel_rfl) (by kernel_rfl) (by kernel_rfl) (fun _ _ _ h => h) (Or.inl ⟨by rfl, ?_⟩) (by assumption) ?_
          rotate_left 1
          · (intro w hSw; (try dsimp only at hSw); go_simp; try with_reducible rfl)
          try simp only [Act.put, List.setIfInBounds_toArray, List.set_cons_zero, List.set_cons_succ]
          refine wpAnyH_take (i := 12) (oi := { dst := some 86, op := Op.load 3 (Operand.tmp 85), type := 3, pos := "law.go:88", after := #[{ on := 11, ground := Ground.data }], guard := none }) (v := ?_) rfl (by kernel_rfl) (by kernel_rfl) (by kernel_rfl) (fun _ _ _ h => h) (Or.inl ⟨by rfl, ?_⟩) (by assumption) ?_
          rotate_left 1
          · (intro w hSw; (try dsimp only at hSw); go_simp; try with_reducible rfl)
          try simp only [Act.put, List.setIfInBounds_toArray, List.set_cons_zero, List.set_cons_succ]
          refine wpAnyH_ready (rs := [4, 13]) (by kernel_rfl) (by simp) ?_
          refine AllReadyH.cons (o := { dst := some 78, op := Op.load 25 (Operand.tmp 77), type := 25, pos := "law.go:88", after := #[{ on := 3, ground := Ground.data }], guard := none }) rfl (fun K hK => ?_) ?_
          go_simp
          refine hK.out _ _ (by (try dsimp only); go_keep) (fun hHeld2 => ?_)
          clear hK K hHeld
          have hHeld := hHeld2
          clear hHeld2
          try simp only [Act.put, List.setIfInBounds_toArray, List.set_cons_zero, List.set_cons_succ]
          refine wpAnyH_ready (rs := [13]) (by kernel_rfl) (by simp) ?_
          refine AllReadyH.cons (o := { dst := some 87, op := Op.buildSlice 25 4 #[(0, Operand.tmp 80), (1, Operand.tmp 82), (2, Operand.tmp 84), (3, Operand.tmp 86)], type := 25, pos := "law.go:88", after := #[{ on := 6, ground := Ground.data }, { on := 8, ground := Ground.data }, { on := 10, ground := Ground.data }, { on := 12, ground := Ground.data }], guard := none }) rfl (fun K hK => ?_) AllReadyH.nil
          go_simp
          refine hK.out _ _ (by (try dsimp only); go_keep) (fun hHeld2 => ?_)
          clear hK K hHeld
          have hHeld := hHeld2
          clear hHeld2
          try simp only [Act.put, List.setIfInBounds_toArray, List.set_cons_zero, List.set_cons_succ]
          rotate_left 1
          refine AllReadyH.cons (o := { dst := some 87, op := Op.buildSlice 25 4 #[(0, Operand.tmp 80), (1, Operand.tmp 82), (2, Operand.tmp 84), (3, Operand.tmp 86)], type := 25, pos := "law.go:88", after := #[{ on := 6, ground := Ground.data }, { on := 8, ground := Ground.data }, { on := 10, ground := Ground.data }, { on := 12, ground := Ground.data }], guard := none }) rfl (fun K hK => ?_) AllReadyH.nil
          go_simp
          refine hK.out _ _ (by (try dsimp only); go_keep) (fun hHeld2 => ?_)
          clear hK K hHeld
          have hHeld := hHeld2
          clear hHeld2
          try simp only [Act.put, List.setIfInBounds_toArray, List.set_cons_zero, List.set_cons_succ]
          refine wpAnyH_ready (rs := [4]) (by kernel_rfl) (by simp) ?_
          refine AllReadyH.cons (o := { dst := some 78, op := Op.load 25 (Operand.tmp 77), type := 25, pos := "law.go:88", after := #[{ on := 3, ground := Ground.data }], guard := none }) rfl (fun K hK => ?_) AllReadyH.nil
          go_simp
          refine hK.out _ _ (by (try dsimp only); go_keep) (fun hHeld2 => ?_)
          clear hK K hHeld
          have hHeld := hHeld2
          clear hHeld2
          try simp only [Act.put, List.setIfInBounds_toArray, List.set_cons_zero, List.set_cons_succ]
          all_goals
            refine wpAnyH_ready (rs := [14]) (by kernel_rfl) (by simp) ?_
            refine AllReadyH.cons (o := { dst := some 88, op := Op.call { callee := Callee.builtin Builtin.append, args := #[Operand.tmp 78, Operand.tmp 87], argTypes := #[25, 25] }, type := 25, pos := "law.go:88", after := #[{ on := 4, ground := Ground.data }, { on := 13, ground := Ground.data }], guard := none }) rfl (fun K hK => ?_) AllReadyH.nil
            (refine step_append_row _ (by rfl) _ _ _ (by rfl) lo 3 i3 (.int .i64 0) 1 8 Tryz.underlying25 HP3.out.1 HP3.out.2.1 HP3.out.2.2.1 HP3.out.2.2.2 (by rfl) (by omega) cmv nl (N.map fun e => Value.int .i64 e.id) (by rfl) (HCMR.out _ (by rfl)) ⟨w10.heap.size, 0, none⟩ 4 4 [.int .i64 id, .int .i64 id, .int .i64 id, .int .i64 id] (by rfl) (by rfl) (World.news_of_block (cs := #[.int .i64 id, .int .i64 id, .int .i64 id, .int .i64 id]) (by first | exact hs_new (by simp) | exact hs_drew (hs_new (by simp)))) (by simp [Value.oneCell']) (by omega) (by unfold maxLen; omega) (by omega) (by simp; omega) ?_; intro va vc w11 hrow hg; have hg' : ((w10.setCell ⟨B, 2, none⟩ (.slice ta (nl + 4) tc)).alloc (.cells #[.int .i64 id, .int .i64 id, .int .i64 id, .int .i64 id] 3)).grownBy w11 cmv.ownBlock := ⟨hg.os, hg.tape, hg.output, hg.size, hg.block⟩; have HR2 := hide' (And.intro hrow hg'); have wB11 := cfin_wB2 Hg3.out HR1.out.2 hg'; clear c2 c3 cf; have c3 := blkCell wB11 3; have cf := blkFree wB11; simp at c3; have hBl11 := blkLt wB11; have hq11 := cfin_C2 HCk.out Hg3.out HR1.out.2 HR2.out.2 hCB; clear hrow hg hg' wB11)
            refine hK.out _ _ (by (try dsimp only); go_keep) (fun hHeld2 => ?_)
            clear hK K hHeld
            have hHeld := hHeld2
            clear hHeld2
            try simp only [Act.put, List.setIfInBounds_toArray, List.set_cons_zero, List.set_cons_succ]
            refine wpAnyH_take (i := 15) (oi := { dst := some 89, op := Op.nilCheck (Operand.tmp 74), type := 0, pos := "law.go:88", after := #[{ on := 0, ground := Ground.data }, { on := 0, ground := Ground.phase }, { on := 1, ground := Ground.phase }, { on := 2, ground := Ground.phase }, { on := 3, ground := Ground.phase }, { on := 4, ground := Ground.phase }, { on := 5, ground := Ground.phase }, { on := 6, ground := Ground.phase }, { on := 7, ground := Ground.phase }, { on := 8, ground := Ground.phase }, { on := 9, ground := Ground.phase }, { on := 10, ground := Ground.phase }, { on := 11, ground := Ground.phase }, { on := 12, ground := Ground.phase }, { on := 13, ground := Ground.phase }, { on := 14, ground := Ground.phase }], guard := none }) (v := ?_) rfl (by kernel_rfl) (by kernel_rfl) (by kernel_rfl) (fun _ _ _ h => h) (Or.inl ⟨by rfl, ?_⟩) (by assumption) ?_
            rotate_left 1
            · (intro w hSw; (try dsimp only at hSw); go_simp; try with_reducible rfl)
            try simp only [Act.put, List.setIfInBounds_toArray, List.set_cons_zero, List.set_cons_succ]
            refine wpAnyH_take (i := 16) (oi := { dst := some 90, op := Op.fieldAddr 87 (Operand.tmp 89) 3, type := 0, pos := "law.go:88", after := #[{ on := 15, ground := Ground.data }, { on := 0, ground := Ground.phase }, { on := 1, ground := Ground.phase }, { on := 2, ground := Ground.phase }, { on := 3, ground := Ground.phase }, { on := 4, ground := Ground.phase }, { on := 5, ground := Ground.phase }, { on := 6, ground := Ground.phase }, { on := 7, ground := Ground.phase }, { on := 8, ground := Ground.phase }, { on := 9, ground := Ground.phase }, { on := 10, ground := Ground.phase }, { on := 11, ground := Ground.phase }, { on := 12, ground := Ground.phase }, { on := 13, ground := Ground.phase }, { on := 14, ground := Ground.phase }], guard := none }) (v := ?_) rfl (by kernel_rfl) (by kernel_rfl) (by kernel_rfl) (fun _ _ _ h => h) (Or.inl ⟨by rfl, ?_⟩) (by assumption) ?_
            rotate_left 1
            · (intro w hSw; (try dsimp only at hSw); go_simp; try with_reducible rfl)
            try simp only [Act.put, List.setIfInBounds_toArray, List.set_cons_zero, List.set_cons_succ]
            refine wpAnyH_ready (rs := [17]) (by kernel_rfl) (by simp) ?_
            refine AllReadyH.cons (o := { dst := none, op := Op.store 25 (Operand.tmp 90) (Operand.tmp 88), type := 0, pos := "law.go:88", after := #[{ on := 16, ground := Ground.data }, { on := 14, ground := Ground.data }, { on := 14, ground := Ground.chain }, { on := 0, ground := Ground.phase }, { on := 1, ground := Ground.phase }, { on := 2, ground := Ground.phase }, { on := 3, ground := Ground.phase }, { on := 4, ground := Ground.phase }, { on := 5, ground := Ground.phase }, { on := 6, ground := Ground.phase }, { on := 7, ground := Ground.phase }, { on := 8, ground := Ground.phase }, { on := 9, ground := Ground.phase }, { on := 10, ground := Ground.phase }, { on := 11, ground := Ground.phase }, { on := 12, ground := Ground.phase }, { on := 13, ground := Ground.phase }, { on := 14, ground := Ground.phase }], guard := none }) rfl (fun K hK => ?_) AllReadyH.nil
            go_simp
            refine hK.out _ _ (by (try dsimp only); go_keep) (fun hHeld2 => ?_)
            clear hK K hHeld
            have hHeld := hHeld2
            clear hHeld2
            try simp only [Act.put, List.setIfInBounds_toArray, List.set_cons_zero, List.set_cons_succ]
            refine wpAnyH_done (by kernel_rfl) ?_ _
          all_goals go_wp2
          all_goals go_end0
          all_goals
            have hr1 := HR1.out.1
            have hr2 := HR2.out.1
            have hfin := CmAt.fin Hg3.out (by omega) hlo1 (fun b hb => (HS.out.1.row.blk hb).imp (fun Z hZ => hZ.1)) HS.out.2.2.2.2 (by rw [HNL.out]; exact hr1) HR1.out.2 (by rw [HNL.out]; exact hr2) HR2.out.2
            have h1 := hfin.1
            rw [HQ.out.1] at h1
            exact ⟨rfl, M', _, _, _, _, _, h1, HQ.out.2.1, by rw [List.length_append]; rfl, HQ.out.2.2.2.2.trans (HS.out.2.2.2.1.trans hfin.2)⟩
end Go.Proofs.YtlonjggfnleolaaGreatDoor
