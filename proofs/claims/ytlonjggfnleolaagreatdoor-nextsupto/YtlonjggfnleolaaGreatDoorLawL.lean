/-
  step: a reader's.
-/
import Derived.Test.YtlonjggfnleolaaGreatDoorLawF
import Derived.Deep.MidRow
import Derived.Test.YtlonjggfnleolaaGreatDoorLawK

namespace Go.Proofs.YtlonjggfnleolaaGreatDoor
open Go.RowKit Go.Shelf
set_option linter.unusedVariables false

set_option maxRecDepth 20000 in
set_option maxHeartbeats 4000000 in
theorem step_read (k : Int) (hk5 : 5 ≤ k) (hk7 : k ≤ 7) (at' ck : Int) (kv : Value) (val cw : ByteArray) (ft : Bool) (cid ak : Int) (fv vv : Value) (wd : ByteArray) (g0 g1 g2 : Int) (s : ByteArray) (x y : Int) (w : World) (B g rn rc : Nat) (Pj : Value) (cB : w.cell? ⟨B, 0, none⟩ = some (.slice (some ⟨g, 0, none⟩) rn rc)) (hrn : 0 < rn) (hcap : rn ≤ rc) (hrm : rn ≤ 1000000000000) (hel : w.cell? ⟨g, pickI at' rn, none⟩ = some Pj) (Post : World → Prop)
    (hRead : Calls Tryz.prog 68 #[.pointer (some ⟨B, 0, none⟩), Pj, Value.agg #[.int .i64 k, .int .i64 at', .int .i64 ck, kv, .string val, .string cw, .bool ft, .int .i64 cid, .int .i64 ak, fv, vv, .string wd, .int .i64 g0, .int .i64 g1, .int .i64 g2, .string s, .int .i64 x, .int .i64 y]] (w.alloc (.cells #[.int .i64 k, .int .i64 at', .int .i64 ck, kv, .string val, .string cw, .bool ft, .int .i64 cid, .int .i64 ak, fv, vv, .string wd, .int .i64 g0, .int .i64 g1, .int .i64 g2, .string s, .int .i64 x, .int .i64 y] 95)).drew fun e w' => e = .returned (.bool true) ∧ Post w')
    (hPost : ∀ w', Post w' → w'.cell? ⟨B, 0, none⟩ = some (.slice (some ⟨g, 0, none⟩) rn rc) ∧ w'.cell? ⟨g, pickI at' rn, none⟩ = some Pj ∧ w'.heap[w.heap.size]? = some (.cells #[.int .i64 k, .int .i64 at', .int .i64 ck, kv, .string val, .string cw, .bool ft, .int .i64 cid, .int .i64 ak, fv, vv, .string wd, .int .i64 g0, .int .i64 g1, .int .i64 g2, .string s, .int .i64 x, .int .i64 y] 95 (0, 0))) :
    Calls Tryz.prog 40 #[.pointer (some ⟨B, 0, none⟩), Value.agg #[.int .i64 k, .int .i64 at', .int .i64 ck, kv, .string val, .string cw, .bool ft, .int .i64 cid, .int .i64 ak, fv, vv, .string wd, .int .i64 g0, .int .i64 g1, .int .i64 g2, .string s, .int .i64 x, .int .i64 y]] w fun e w' => e = .returned (.bool true) ∧ Post w' := by
  have HR := hide' hRead
  have HP := hide' hPost
  have hj := pickI_lt at' hrn
  have HPk := hide' (fun W => pick_law at' rn W)
  have hk1 : ¬ k ≤ 3 := by omega
  have hk1' : 1 ≤ k := by omega
  have hk4 : ¬ k = 4 := by omega
  have hBl : B < w.heap.size := World.block_lt_of_cell? w ⟨B, 0, none⟩ cB
  have hgl : g < w.heap.size := World.block_lt_of_cell? w ⟨g, _, none⟩ hel
  have hBn : ¬ B = w.heap.size := by omega
  have hgn : ¬ g = w.heap.size := by omega
  have hrn' : (0 : Int) < (rn : Int) := by omega
  generalize hpk : pickI at' rn = j at *
  have HPK := hide' hpk
  clear hRead hPost hpk
  go_enter Tryz.func40, Tryz.ntmps40
  go_wp2_with fail
  have hj0 : (0 : Int) ≤ (j : Int) := by omega
  have hj1 : (j : Int) < (rn : Int) := by omega
  obtain ⟨CS, hCS⟩ : ∃ CS : List Value, CS = [.int .i64 k, .int .i64 at', .int .i64 ck, kv, .string val, .string cw, .bool ft, .int .i64 cid, .int .i64 ak, fv, vv, .string wd, .int .i64 g0, .int .i64 g1, .int .i64 g2, .string s, .int .i64 x, .int .i64 y] := ⟨_, rfl⟩
  have HI : Hid ((Tryz.prog.info? 95).map (·.size) = some CS.length) := by rw [hCS]; exact (show (Tryz.prog.info? 95).map (·.size) = some 18 by kernel_rfl)
  have HAg := hide' (show Value.agg CS.toArray = Value.agg #[.int .i64 k, .int .i64 at', .int .i64 ck, kv, .string val, .string cw, .bool ft, .int .i64 cid, .int .i64 ak, fv, vv, .string wd, .int .i64 g0, .int .i64 g1, .int .i64 g2, .string s, .int .i64 x, .int .i64 y] by rw [hCS])
  have HRg : Hid (∀ W : World, W.heap[w.heap.size]? = some (.cells #[.int .i64 k, .int .i64 at', .int .i64 ck, kv, .string val, .string cw, .bool ft, .int .i64 cid, .int .i64 ak, fv, vv, .string wd, .int .i64 g0, .int .i64 g1, .int .i64 g2, .string s, .int .i64 x, .int .i64 y] 95 (0, 0)) → W.rangeAt w.heap.size 0 CS ∧ W.cell? ⟨w.heap.size, 1, none⟩ = some (.int .i64 at')) := fun W hW => ⟨by rw [hCS]; intro m v hv; rw [Nat.zero_add]; refine (blkCell hW m).trans ?_; rw [List.getElem?_toArray]; exact hv, blkCell hW 1⟩
  have hx0 := HRg.out _ (blkNew w _)
  have cB0 := (Below.heap_alloc w (.cells #[.int .i64 k, .int .i64 at', .int .i64 ck, kv, .string val, .string cw, .bool ft, .int .i64 cid, .int .i64 ak, fv, vv, .string wd, .int .i64 g0, .int .i64 g1, .int .i64 g2, .string s, .int .i64 x, .int .i64 y] 95) B hBl)
  have cB1 := (World.cell?_of_block (a := ⟨B, 0, none⟩) cB0).trans cB
  have cg0 := (Below.heap_alloc w (.cells #[.int .i64 k, .int .i64 at', .int .i64 ck, kv, .string val, .string cw, .bool ft, .int .i64 cid, .int .i64 ak, fv, vv, .string wd, .int .i64 g0, .int .i64 g1, .int .i64 g2, .string s, .int .i64 x, .int .i64 y] 95) g hgl)
  have cg1 := (World.cell?_of_block (a := ⟨g, j, none⟩) cg0).trans hel
  clear hCS cB0 cg0
  generalize w.alloc (.cells #[.int .i64 k, .int .i64 at', .int .i64 ck, kv, .string val, .string cw, .bool ft, .int .i64 cid, .int .i64 ak, fv, vv, .string wd, .int .i64 g0, .int .i64 g1, .int .i64 g2, .string s, .int .i64 x, .int .i64 y] 95) = w0 at *
  refine wp_region_held_drew (S := fun W' => W'.cell? ⟨B, 0, none⟩ = some (.slice (some ⟨g, 0, none⟩) rn rc) ∧ W'.cell? ⟨w.heap.size, 1, none⟩ = some (.int .i64 at') ∧ W'.cell? ⟨g, j, none⟩ = some Pj ∧ Hid (W'.rangeAt w.heap.size 0 CS)) (by kernel_rfl) ⟨cB1, hx0.2, cg1, hx0.1⟩ (fun hHeld => ?_)
  refine wpAnyH_take (i := 0) (oi := { dst := some 41, op := Op.move (Operand.tmp 0), type := 81, pos := "law.go:322", after := #[], guard := none }) (v := ?_) rfl (by kernel_rfl) (by kernel_rfl) (by kernel_rfl) (fun _ _ _ h => h) (Or.inl ⟨by rfl, ?_⟩) (by assumption) ?_
  rotate_left 1
  · (intro w hSw; (try dsimp only at hSw); obtain ⟨sw0, sw1, sw2, sw3⟩ := hSw; go_simp; try with_reducible rfl)
  try simp only [Act.put, List.setIfInBounds_toArray, List.set_cons_zero, List.set_cons_succ]
  refine wpAnyH_take (i := 1) (oi := { dst := some 42, op := Op.move (Operand.tmp 0), type := 81, pos := "law.go:322", after := #[], guard := none }) (v := ?_) rfl (by kernel_rfl) (by kernel_rfl) (by kernel_rfl) (fun _ _ _ h => h) (Or.inl ⟨by rfl, ?_⟩) (by assumption) ?_
  rotate_left 1
  · (intro w hSw; (try dsimp only at hSw); obtain ⟨sw0, sw1, sw2, sw3⟩ := hSw; go_simp; try with_reducible rfl)
  try simp only [Act.put, List.setIfInBounds_toArray, List.set_cons_zero, List.set_cons_succ]
  refine wpAnyH_take (i := 2) (oi := { dst := some 43, op := Op.nilCheck (Operand.tmp 42), type := 0, pos := "law.go:322", after := #[{ on := 1, ground := Ground.data }], guard := none }) (v := ?_) rfl (by kernel_rfl) (by kernel_rfl) (by kernel_rfl) (fun _ _ _ h => h) (Or.inl ⟨by rfl, ?_⟩) (by assumption) ?_
  rotate_left 1
  · (intro w hSw; (try dsimp only at hSw); obtain ⟨sw0, sw1, sw2, sw3⟩ := hSw; go_simp; try with_reducible rfl)
  try simp only [Act.put, List.setIfInBounds_toArray, List.set_cons_zero, List.set_cons_succ]
  refine wpAnyH_take (i := 3) (oi := { dst := some 44, op := Op.fieldAddr 87 (Operand.tmp 43) 0, type := 0, pos := "law.go:322", after := #[{ on := 2, ground := Ground.data }], guard := none }) (v := ?_) rfl (by kernel_rfl) (by kernel_rfl) (by kernel_rfl) (fun _ _ _ h => h) (Or.inl ⟨by rfl, ?_⟩) (by assumption) ?_
  rotate_left 1
  · (intro w hSw; (try dsimp only at hSw); obtain ⟨sw0, sw1, sw2, sw3⟩ := hSw; go_simp; try with_reducible rfl)
  try simp only [Act.put, List.setIfInBounds_toArray, List.set_cons_zero, List.set_cons_succ]
  refine wpAnyH_take (i := 4) (oi := { dst := some 45, op := Op.load 82 (Operand.tmp 44), type := 82, pos := "law.go:322", after := #[{ on := 3, ground := Ground.data }], guard := none }) (v := ?_) rfl (by kernel_rfl) (by kernel_rfl) (by kernel_rfl) (fun _ _ _ h => h) (Or.inl ⟨by rfl, ?_⟩) (by assumption) ?_
  rotate_left 1
  · (intro w hSw; (try dsimp only at hSw); obtain ⟨sw0, sw1, sw2, sw3⟩ := hSw; go_simp; try with_reducible rfl)
  try simp only [Act.put, List.setIfInBounds_toArray, List.set_cons_zero, List.set_cons_succ]
  refine wpAnyH_take (i := 5) (oi := { dst := some 46, op := Op.fieldAddr 95 (Operand.tmp 3) 1, type := 0, pos := "law.go:322", after := #[], guard := none }) (v := ?_) rfl (by kernel_rfl) (by kernel_rfl) (by kernel_rfl) (fun _ _ _ h => h) (Or.inl ⟨by rfl, ?_⟩) (by assumption) ?_
  rotate_left 1
  · (intro w hSw; (try dsimp only at hSw); obtain ⟨sw0, sw1, sw2, sw3⟩ := hSw; go_simp; try with_reducible rfl)
  try simp only [Act.put, List.setIfInBounds_toArray, List.set_cons_zero, List.set_cons_succ]
  refine wpAnyH_take (i := 6) (oi := { dst := some 47, op := Op.load 3 (Operand.tmp 46), type := 3, pos := "law.go:322", after := #[{ on := 5, ground := Ground.data }], guard := none }) (v := ?_) rfl (by kernel_rfl) (by kernel_rfl) (by kernel_rfl) (fun _ _ _ h => h) (Or.inl ⟨by rfl, ?_⟩) (by assumption) ?_
  rotate_left 1
  · (intro w hSw; (try dsimp only at hSw); obtain ⟨sw0, sw1, sw2, sw3⟩ := hSw; go_simp; try with_reducible rfl)
  try simp only [Act.put, List.setIfInBounds_toArray, List.set_cons_zero, List.set_cons_succ]
  refine wpAnyH_take (i := 7) (oi := { dst := some 48, op := Op.move (Operand.tmp 0), type := 81, pos := "law.go:322", after := #[], guard := none }) (v := ?_) rfl (by kernel_rfl) (by kernel_rfl) (by kernel_rfl) (fun _ _ _ h => h) (Or.inl ⟨by rfl, ?_⟩) (by assumption) ?_
  rotate_left 1
  · (intro w hSw; (try dsimp only at hSw); obtain ⟨sw0, sw1, sw2, sw3⟩ := hSw; go_simp; try with_reducible rfl)
  try simp only [Act.put, List.setIfInBounds_toArray, List.set_cons_zero, List.set_cons_succ]
  refine wpAnyH_take (i := 8) (oi := { dst := some 49, op := Op.nilCheck (Operand.tmp 48), type := 0, pos := "law.go:322", after := #[{ on := 7, ground := Ground.data }], guard := none }) (v := ?_) rfl (by kernel_rfl) (by kernel_rfl) (by kernel_rfl) (fun _ _ _ h => h) (Or.inl ⟨by rfl, ?_⟩) (by assumption) ?_
  rotate_left 1
  · (intro w hSw; (try dsimp only at hSw); obtain ⟨sw0, sw1, sw2, sw3⟩ := hSw; go_simp; try with_reducible rfl)
  try simp only [Act.put, List.setIfInBounds_toArray, List.set_cons_zero, List.set_cons_succ]
  refine wpAnyH_take (i := 9) (oi := { dst := some 50, op := Op.fieldAddr 87 (Operand.tmp 49) 0, type := 0, pos := "law.go:322", after := #[{ on := 8, ground := Ground.data }], guard := none }) (v := ?_) rfl (by kernel_rfl) (by kernel_rfl) (by kernel_rfl) (fun _ _ _ h => h) (Or.inl ⟨by rfl, ?_⟩) (by assumption) ?_
  rotate_left 1
  · (intro w hSw; (try dsimp only at hSw); obtain ⟨sw0, sw1, sw2, sw3⟩ := hSw; go_simp; try with_reducible rfl)
  try simp only [Act.put, List.setIfInBounds_toArray, List.set_cons_zero, List.set_cons_succ]
  refine wpAnyH_take (i := 10) (oi := { dst := some 51, op := Op.load 82 (Operand.tmp 50), type := 82, pos := "law.go:322", after := #[{ on := 9, ground := Ground.data }], guard := none }) (v := ?_) rfl (by kernel_rfl) (by kernel_rfl) (by kernel_rfl) (fun _ _ _ h => h) (Or.inl ⟨by rfl, ?_⟩) (by assumption) ?_
  rotate_left 1
  · (intro w hSw; (try dsimp only at hSw); obtain ⟨sw0, sw1, sw2, sw3⟩ := hSw; go_simp; try with_reducible rfl)
  try simp only [Act.put, List.setIfInBounds_toArray, List.set_cons_zero, List.set_cons_succ]
  refine wpAnyH_take (i := 11) (oi := { dst := some 52, op := Op.call { callee := Callee.builtin Builtin.len, args := #[Operand.tmp 51], argTypes := #[82] }, type := 3, pos := "law.go:322", after := #[{ on := 10, ground := Ground.data }], guard := none }) (v := ?_) rfl (by kernel_rfl) (by kernel_rfl) (by kernel_rfl) (fun _ _ _ h => h) (Or.inl ⟨by rfl, ?_⟩) (by assumption) ?_
  rotate_left 1
  · (intro w hSw; (try dsimp only at hSw); obtain ⟨sw0, sw1, sw2, sw3⟩ := hSw; go_simp; try with_reducible rfl)
  try simp only [Act.put, List.setIfInBounds_toArray, List.set_cons_zero, List.set_cons_succ]
  refine wpAnyH_take (i := 15) (oi := { dst := some 56, op := Op.load 95 (Operand.tmp 3), type := 95, pos := "law.go:322", after := #[], guard := none }) (v := _) rfl (by kernel_rfl) (by kernel_rfl) (by kernel_rfl) (fun _ _ _ h => h) (yieldsIf_load_mid (by rfl) 95 _ rfl w.heap.size 0 rfl CS _ (fun w' hSw => hSw.2.2.2.out) Tryz.underlying95 rfl HI.out) (by assumption) ?_
  try simp only [Act.put, List.setIfInBounds_toArray, List.set_cons_zero, List.set_cons_succ]
  refine wpAnyH_ready (rs := [12]) (by kernel_rfl) (by simp) ?_
  refine AllReadyH.cons (o := { dst := some 53, op := Op.call { callee := Callee.value (Operand.func 69), args := #[Operand.tmp 47, Operand.tmp 52], argTypes := #[3, 3] }, type := 3, pos := "law.go:322", after := #[{ on := 6, ground := Ground.data }, { on := 11, ground := Ground.data }], guard := none }) rfl (fun K hK => ?_) AllReadyH.nil
  go_simp
  go_at_call 69
  refine (HPk.out _).mono ?_
  rintro e w' ⟨rfl, rfl⟩
  go_wp2_with fail
  refine hK.out _ _ hHeld (fun hHeld2 => ?_)
  clear hK K hHeld
  have hHeld := hHeld2
  clear hHeld2
  try simp only [Act.put, List.setIfInBounds_toArray, List.set_cons_zero, List.set_cons_succ]
  refine wpAnyH_take (i := 13) (oi := { dst := some 54, op := Op.indexAddr 82 (Operand.tmp 45) (Operand.tmp 53), type := 0, pos := "law.go:322", after := #[{ on := 4, ground := Ground.data }, { on := 12, ground := Ground.data }], guard := none }) (v := ?_) rfl (by kernel_rfl) (by kernel_rfl) (by kernel_rfl) (fun _ _ _ h => h) (Or.inl ⟨by rfl, ?_⟩) (by assumption) ?_
  rotate_left 1
  · (intro w hSw; (try dsimp only at hSw); obtain ⟨sw0, sw1, sw2, sw3⟩ := hSw; go_simp; try with_reducible rfl)
  try simp only [Act.put, List.setIfInBounds_toArray, List.set_cons_zero, List.set_cons_succ]
  refine wpAnyH_take (i := 14) (oi := { dst := some 55, op := Op.load 151 (Operand.tmp 54), type := 151, pos := "law.go:322", after := #[{ on := 13, ground := Ground.data }], guard := none }) (v := ?_) rfl (by kernel_rfl) (by kernel_rfl) (by kernel_rfl) (fun _ _ _ h => h) (Or.inl ⟨by rfl, ?_⟩) (by assumption) ?_
  rotate_left 1
  · (intro w hSw; (try dsimp only at hSw); obtain ⟨sw0, sw1, sw2, sw3⟩ := hSw; go_simp; try with_reducible rfl)
  try simp only [Act.put, List.setIfInBounds_toArray, List.set_cons_zero, List.set_cons_succ]
  refine wpAnyH_ready (rs := [16]) (by kernel_rfl) (by simp) ?_
  refine AllReadyH.cons (o := { dst := some 57, op := Op.call { callee := Callee.value (Operand.func 68), args := #[Operand.tmp 41, Operand.tmp 55, Operand.tmp 56], argTypes := #[81, 151, 95] }, type := 4, pos := "law.go:322", after := #[{ on := 0, ground := Ground.data }, { on := 14, ground := Ground.data }, { on := 15, ground := Ground.data }, { on := 12, ground := Ground.chain }], guard := none }) rfl (fun K hK => ?_) AllReadyH.nil
  go_simp
  rw [HAg.out]
  go_at_call 68
  refine HR.out.mono ?_
  rintro e w1 ⟨rfl, hp⟩
  have hq := HP.out w1 hp
  have HPo := hide' hp
  clear hp
  go_wp2_with fail
  refine hK.out _ _ ⟨hq.1, (HRg.out _ hq.2.2).2, hq.2.1, (HRg.out _ hq.2.2).1⟩ (fun hHeld2 => ?_)
  clear hK K hHeld
  have hHeld := hHeld2
  clear hHeld2
  try simp only [Act.put, List.setIfInBounds_toArray, List.set_cons_zero, List.set_cons_succ]
  refine wpAnyH_ready (rs := [17]) (by kernel_rfl) (by simp) ?_
  refine AllReadyH.cons (o := { dst := some 4, op := Op.assign (Operand.tmp 57), type := 4, pos := "law.go:322", after := #[{ on := 16, ground := Ground.data }, { on := 16, ground := Ground.chain }, { on := 0, ground := Ground.phase }, { on := 1, ground := Ground.phase }, { on := 2, ground := Ground.phase }, { on := 3, ground := Ground.phase }, { on := 4, ground := Ground.phase }, { on := 5, ground := Ground.phase }, { on := 6, ground := Ground.phase }, { on := 7, ground := Ground.phase }, { on := 8, ground := Ground.phase }, { on := 9, ground := Ground.phase }, { on := 10, ground := Ground.phase }, { on := 11, ground := Ground.phase }, { on := 12, ground := Ground.phase }, { on := 13, ground := Ground.phase }, { on := 14, ground := Ground.phase }, { on := 15, ground := Ground.phase }, { on := 16, ground := Ground.phase }], guard := none }) rfl (fun K hK => ?_) AllReadyH.nil
  go_simp
  refine hK.out _ _ hHeld (fun hHeld2 => ?_)
  clear hK K hHeld
  have hHeld := hHeld2
  clear hHeld2
  try simp only [Act.put, List.setIfInBounds_toArray, List.set_cons_zero, List.set_cons_succ]
  refine wpAnyH_done (by kernel_rfl) ?_ _
  go_wp2
  go_ret
  exact ⟨rfl, HPo.out⟩
end Go.Proofs.YtlonjggfnleolaaGreatDoor


/-
  The law's world behind some steps; one step more.
-/

namespace Go.Proofs.YtlonjggfnleolaaGreatDoor
open Go.RowKit Go.Shelf
set_option linter.unusedVariables false

/-- k steps, each reader holding at most T bytes. -/
def Lw (w : World) (lo B k T : Nat) : Prop :=
  ∃ (rv csv cmv ssv smv : Value) (M : List TxM) (N : List CmM) (nx : Nat) (rs : List RdI), OwnW w lo B (fun g => g < w.heap.size) rv M N nx csv cmv ssv smv ∧ RdsAt w lo rv rs ∧ rs.length ≤ k ∧ (∀ r ∈ rs, r.s.held.length ≤ T) ∧ M.length ≤ 4194400 * k ∧ N.length ≤ 4 * k ∧ nx ≤ 1048601 * k

theorem Lw.below {w w' : World} {lo B k T : Nat} (h : Lw w lo B k T) (hb : Below w.heap.size w w') : Lw w' lo B k T := by
  obtain ⟨rv, csv, cmv, ssv, smv, M, N, nx, rs, h1, h2, h3⟩ := h
  exact ⟨rv, csv, cmv, ssv, smv, M, N, nx, rs, (h1.below hb).take, h2.below hb, h3⟩
theorem Lw.more {w : World} {lo B k k' T T' : Nat} (h : Lw w lo B k T) (hk : k ≤ k') (hT : T ≤ T') : Lw w lo B k' T' := by
  obtain ⟨rv, csv, cmv, ssv, smv, M, N, nx, rs, h1, h2, h3, h4, h5, h6, h7⟩ := h
  exact ⟨rv, csv, cmv, ssv, smv, M, N, nx, rs, h1, h2, by omega, fun r hr => Nat.le_trans (h4 r hr) hT, by omega, by omega, by omega⟩

set_option maxRecDepth 20000 in
set_option maxHeartbeats 1000000 in
theorem step_dec (p : Value) (at' ck : Int) (kv : Value) (val cw : ByteArray) (ft : Bool) (cid ak : Int) (fv vv : Value) (wd : ByteArray) (g0 g1 g2 : Int) (s : ByteArray) (x y : Int) (w : World) (Post : World → Prop)
    (hDec : Calls Tryz.prog 67 #[p, .int .i64 x] (w.alloc (.cells #[.int .i64 4, .int .i64 at', .int .i64 ck, kv, .string val, .string cw, .bool ft, .int .i64 cid, .int .i64 ak, fv, vv, .string wd, .int .i64 g0, .int .i64 g1, .int .i64 g2, .string s, .int .i64 x, .int .i64 y] 95)) fun e w' => e = .returned (.bool true) ∧ Post w') :
    Calls Tryz.prog 40 #[p, Value.agg #[.int .i64 4, .int .i64 at', .int .i64 ck, kv, .string val, .string cw, .bool ft, .int .i64 cid, .int .i64 ak, fv, vv, .string wd, .int .i64 g0, .int .i64 g1, .int .i64 g2, .string s, .int .i64 x, .int .i64 y]] w fun e w' => e = .returned (.bool true) ∧ Post w' := by
  have HR := hide' hDec
  clear hDec
  go_enter Tryz.func40, Tryz.ntmps40
  go_wp2_with fail
  go_at_call 67
  refine HR.out.mono ?_
  rintro e w1 ⟨rfl, hp⟩
  have HP := hide' hp
  clear hp
  go_wp2
  go_ret
  exact ⟨rfl, HP.out⟩

/-- Behind a step. -/
def LwTo (w w' : World) (lo B k T : Nat) : Prop := Lw w' lo B k T ∧ Below lo w w' ∧ Kept95 w w'
theorem LwTo.from_below {w w0 w' : World} {lo B k T : Nat} (h : LwTo w0 w' lo B k T) (hb : Below w.heap.size w w0) (hlo : lo ≤ w.heap.size) : LwTo w w' lo B k T :=
  ⟨h.1, (hb.mono hlo).trans h.2.1, (Kept95.of_below hb).trans h.2.2⟩

theorem decoded_law (B lo k T : Nat) (d : Int) (w : World) (h : Lw w lo B k T) (hlo : lo ≤ w.heap.size) (hk : k ≤ 1048600) :
    Calls Tryz.prog 67 #[.pointer (some ⟨B, 0, none⟩), .int .i64 d] w fun e w' => e = .returned (.bool true) ∧ LwTo w w' lo B (k + 1) T := by
  by_cases hd : d = 1 ∨ d = 2 ∨ d = 3
  · obtain ⟨rv, csv, cmv, ssv, smv, M, N, nx, rs, h1, h2, h3, h4, h5, h6, h7⟩ := h
    refine (decoded_yes B nx lo d _ rv csv cmv ssv smv M N rs w hd h2 h1 hlo (by omega)).mono ?_
    rintro e w' ⟨rfl, rv', r', _, e2, hO, hR, hb, hK⟩
    refine ⟨rfl, ⟨rv', csv, cmv, ssv, smv, M, N, nx, rs ++ [r'], hO.take, hR, by simp; omega, fun r hr => ?_, by omega, by omega, by omega⟩, hb, hK⟩
    rcases List.mem_append.1 hr with hr | hr
    · exact h4 r hr
    · rw [List.mem_singleton] at hr
      subst hr
      rw [e2]
      exact Nat.zero_le _
  · refine (decoded_no _ d w (by omega)).mono ?_
    rintro e w' ⟨rfl, hb⟩
    exact ⟨rfl, (h.below hb).more (by omega) (Nat.le_refl _), hb.mono hlo, Kept95.of_below hb⟩

/-- The pointers' row: its cell. -/
theorem row_cell {w : World} {lo e n j : Nat} {v u : Value} {xs : List Value} (h : Row w lo e 1 v n xs) (hj : xs[j]? = some u) : ∃ g c, v = .slice (some ⟨g, 0, none⟩) n c ∧ n ≤ c ∧ w.cell? ⟨g, j, none⟩ = some u := by
  obtain ⟨hl, ⟨_, h0⟩ | ⟨g, cap, cur, hv, _, hg, hnc, _, ht⟩⟩ := h
  · have := (List.getElem?_eq_some_iff.1 hj).1; omega
  · refine ⟨g, cap, hv, hnc, (blkCell hg j).trans ?_⟩
    have hlt : j < n * 1 := by have := (List.getElem?_eq_some_iff.1 hj).1; omega
    rw [← ht, List.getElem?_take_of_lt hlt] at hj
    simpa using hj

/-- Where there is no reader. -/
theorem step_none (k : Int) (hk5 : 5 ≤ k) (hk7 : k ≤ 7) (at' ck : Int) (kv : Value) (val cw : ByteArray) (ft : Bool) (cid ak : Int) (fv vv : Value) (wd : ByteArray) (g0 g1 g2 : Int) (s : ByteArray) (x y : Int) (w : World) (B c : Nat) (a : Option Addr) (cB : w.cell? ⟨B, 0, none⟩ = some (.slice a 0 c)) :
    Calls Tryz.prog 40 #[.pointer (some ⟨B, 0, none⟩), Value.agg #[.int .i64 k, .int .i64 at', .int .i64 ck, kv, .string val, .string cw, .bool ft, .int .i64 cid, .int .i64 ak, fv, vv, .string wd, .int .i64 g0, .int .i64 g1, .int .i64 g2, .string s, .int .i64 x, .int .i64 y]] w fun e w' => e = .returned (.bool true) ∧ Below w.heap.size w w' := by
  have HB : Hid (∀ o, Below w.heap.size w (w.alloc o)) := fun o => (Below.refl _ _).alloc (Nat.le_refl _) o
  have hk1 : ¬ k ≤ 3 := by omega
  have hk1' : 1 ≤ k := by omega
  have hk4 : ¬ k = 4 := by omega
  have hk8 : ¬ k = 8 := by omega
  have hk9 : ¬ 9 ≤ k := by omega
  have hBl : B < w.heap.size := World.block_lt_of_cell? w ⟨B, 0, none⟩ cB
  have hBn : ¬ B = w.heap.size := by omega
  go_enter Tryz.func40, Tryz.ntmps40
  go_wp2
  go_ret
  exact ⟨rfl, HB.out _⟩

theorem step_feed (B lo k T : Nat) (at' ck : Int) (kv : Value) (val cw : ByteArray) (ft : Bool) (cid ak : Int) (fv vv : Value) (wd : ByteArray) (g0 g1 g2 : Int) (s : ByteArray) (x y : Int) (w : World) (h : Lw w lo B k T) (hlo : lo ≤ w.heap.size) (hk : k ≤ 1048600) (hT : T + s.size ≤ 1048600) :
    Calls Tryz.prog 40 #[.pointer (some ⟨B, 0, none⟩), Value.agg #[.int .i64 5, .int .i64 at', .int .i64 ck, kv, .string val, .string cw, .bool ft, .int .i64 cid, .int .i64 ak, fv, vv, .string wd, .int .i64 g0, .int .i64 g1, .int .i64 g2, .string s, .int .i64 x, .int .i64 y]] w fun e w' => e = .returned (.bool true) ∧ LwTo w w' lo B (k + 1) (T + s.size) := by
  have hL := h
  obtain ⟨rv, csv, cmv, ssv, smv, M, N, nx, rs, h1, h2, h3, h4, h5, h6, h7⟩ := h
  have cB : w.cell? ⟨B, 0, none⟩ = some rv := blkCell h1.wd 0
  by_cases hne : 0 < rs.length
  · obtain ⟨j, hj⟩ : ∃ j, pickI at' rs.length = j := ⟨_, rfl⟩
    have hjl : j < rs.length := by rw [← hj]; exact pickI_lt at' hne
    obtain ⟨r, hr⟩ : ∃ r, rs[j]? = some r := ⟨_, List.getElem?_eq_getElem hjl⟩
    have hrT := h4 r (List.mem_of_getElem? hr)
    obtain ⟨g, c, rfl, hgc, hcell⟩ := row_cell (j := j) (u := .pointer (some ⟨r.P, 0, none⟩)) h2.row (by rw [List.getElem?_map, hr]; rfl)
    have hfc := feed_count r.d r.s s
    have hb0 : ∀ o, Below w.heap.size w (w.alloc o).drew := fun o => ((Below.refl _ _).alloc (Nat.le_refl _) o).drew
    refine (step_read 5 (by omega) (by omega) at' ck kv val cw ft cid ak fv vv wd g0 g1 g2 s x y w B g rs.length c (.pointer (some ⟨r.P, 0, none⟩)) cB hne hgc (by omega) (by rw [hj]; exact hcell)
      (fun w' => LwTo w w' lo B (k + 1) (T + s.size) ∧ w'.cell? ⟨B, 0, none⟩ = some (.slice (some ⟨g, 0, none⟩) rs.length c) ∧ w'.cell? ⟨g, pickI at' rs.length, none⟩ = some (.pointer (some ⟨r.P, 0, none⟩)) ∧ w'.heap[w.heap.size]? = some (.cells #[.int .i64 5, .int .i64 at', .int .i64 ck, kv, .string val, .string cw, .bool ft, .int .i64 cid, .int .i64 ak, fv, vv, .string wd, .int .i64 g0, .int .i64 g1, .int .i64 g2, .string s, .int .i64 x, .int .i64 y] 95 (0, 0)))
      ((read_feed B nx lo j _ _ csv cmv ssv smv M N rs r at' ck kv val cw ft cid ak fv vv wd g0 g1 g2 s x y _ (h1.below (hb0 _)).take (h2.below (hb0 _)) hr (Nat.le_trans hlo (hb0 _).size) rfl (by omega) (by omega) (by omega) (by omega)).mono ?_)
      (fun w' hw' => hw'.2)).mono (fun e w' hw' => ⟨hw'.1, hw'.2.1⟩)
    rintro e w' ⟨rfl, M', N', csv', cmv', ssv', smv', hb', hO, hR, hm, hn, hb, hK⟩
    obtain ⟨g', c', hv, _, hc2⟩ := row_cell (j := j) (u := .pointer (some ⟨r.P, 0, none⟩)) hR.row (by rw [List.getElem?_map, List.getElem?_set]; simp [hjl])
    rw [List.length_set] at hv
    cases hv
    refine ⟨rfl, ⟨⟨_, csv', cmv', ssv', smv', M', N', _, _, hO, hR, by rw [List.length_set]; omega, fun r' hr' => ?_, by omega, by omega, by omega⟩, ((hb0 _).mono hlo).trans hb, (Kept95.of_below (hb0 _)).trans hK⟩, blkCell hO.wd 0, by rw [hj]; exact hc2, hK _ _ (blkNew w _)⟩
    rcases List.mem_or_eq_of_mem_set hr' with hr' | rfl
    · have := h4 r' hr'; omega
    · show (feedS r.d r.s s.data.toList).2.held.length ≤ _
      omega
  · have h0 : rs.length = 0 := by omega
    obtain ⟨a, c, rfl⟩ := h2.row.form
    rw [h0] at cB
    refine (step_none 5 (by omega) (by omega) at' ck kv val cw ft cid ak fv vv wd g0 g1 g2 s x y w B c a cB).mono ?_
    rintro e w' ⟨rfl, hb⟩
    exact ⟨rfl, (hL.below hb).more (by omega) (by omega), hb.mono hlo, Kept95.of_below hb⟩
theorem step_rest (B lo k T : Nat) (at' ck : Int) (kv : Value) (val cw : ByteArray) (ft : Bool) (cid ak : Int) (fv vv : Value) (wd : ByteArray) (g0 g1 g2 : Int) (s : ByteArray) (x y : Int) (w : World) (h : Lw w lo B k T) (hlo : lo ≤ w.heap.size) (hk : k ≤ 1048600) :
    Calls Tryz.prog 40 #[.pointer (some ⟨B, 0, none⟩), Value.agg #[.int .i64 6, .int .i64 at', .int .i64 ck, kv, .string val, .string cw, .bool ft, .int .i64 cid, .int .i64 ak, fv, vv, .string wd, .int .i64 g0, .int .i64 g1, .int .i64 g2, .string s, .int .i64 x, .int .i64 y]] w fun e w' => e = .returned (.bool true) ∧ LwTo w w' lo B (k + 1) (T + s.size) := by
  have hL := h
  obtain ⟨rv, csv, cmv, ssv, smv, M, N, nx, rs, h1, h2, h3, h4, h5, h6, h7⟩ := h
  have cB : w.cell? ⟨B, 0, none⟩ = some rv := blkCell h1.wd 0
  have fin : ∀ w', Below w.heap.size w w' → LwTo w w' lo B (k + 1) (T + s.size) := fun w' hb => ⟨(hL.below hb).more (by omega) (by omega), hb.mono hlo, Kept95.of_below hb⟩
  by_cases hne : 0 < rs.length
  · obtain ⟨j, hj⟩ : ∃ j, pickI at' rs.length = j := ⟨_, rfl⟩
    have hjl : j < rs.length := by rw [← hj]; exact pickI_lt at' hne
    obtain ⟨r, hr⟩ : ∃ r, rs[j]? = some r := ⟨_, List.getElem?_eq_getElem hjl⟩
    obtain ⟨g, c, rfl, hgc, hcell⟩ := row_cell (j := j) (u := .pointer (some ⟨r.P, 0, none⟩)) h2.row (by rw [List.getElem?_map, hr]; rfl)
    have hb0 : ∀ o, Below w.heap.size w (w.alloc o).drew := fun o => ((Below.refl _ _).alloc (Nat.le_refl _) o).drew
    have hBl : B < w.heap.size := World.block_lt_of_cell? w ⟨B, 0, none⟩ cB
    have hgl : g < w.heap.size := World.block_lt_of_cell? w ⟨g, _, none⟩ hcell
    refine (step_read 6 (by omega) (by omega) at' ck kv val cw ft cid ak fv vv wd g0 g1 g2 s x y w B g rs.length c (.pointer (some ⟨r.P, 0, none⟩)) cB hne hgc (by omega) (by rw [hj]; exact hcell)
      (fun w' => Below w.heap.size w w' ∧ w'.heap[w.heap.size]? = some (.cells #[.int .i64 6, .int .i64 at', .int .i64 ck, kv, .string val, .string cw, .bool ft, .int .i64 cid, .int .i64 ak, fv, vv, .string wd, .int .i64 g0, .int .i64 g1, .int .i64 g2, .string s, .int .i64 x, .int .i64 y] 95 (0, 0)))
      ((read_rest _ lo r at' ck kv val cw ft cid ak fv vv wd g0 g1 g2 s x y _ ((h2.below (hb0 _)).all r (List.mem_of_getElem? hr))).mono ?_)
      (fun w' hw' => ⟨(hw'.1.cell (p := ⟨B, 0, none⟩) hBl).trans cB, by rw [hj]; exact (hw'.1.cell (p := ⟨g, j, none⟩) hgl).trans hcell, hw'.2⟩)).mono (fun e w' hw' => ⟨hw'.1, fin w' hw'.2.1⟩)
    rintro e w' ⟨rfl, hb⟩
    exact ⟨rfl, (hb0 _).trans (hb.mono (hb0 _).size), Kept95.of_below hb _ _ (blkNew w _)⟩
  · have h0 : rs.length = 0 := by omega
    obtain ⟨a, c, rfl⟩ := h2.row.form
    rw [h0] at cB
    refine (step_none 6 (by omega) (by omega) at' ck kv val cw ft cid ak fv vv wd g0 g1 g2 s x y w B c a cB).mono ?_
    rintro e w' ⟨rfl, hb⟩
    exact ⟨rfl, fin w' hb⟩
theorem step_456 (k0 : Int) (h4 : 4 ≤ k0) (h6 : k0 ≤ 6) (B lo k T : Nat) (at' ck : Int) (kv : Value) (val cw : ByteArray) (ft : Bool) (cid ak : Int) (fv vv : Value) (wd : ByteArray) (g0 g1 g2 : Int) (s : ByteArray) (x y : Int) (w : World) (h : Lw w lo B k T) (hlo : lo ≤ w.heap.size) (hk : k ≤ 1048600) (hT : T + s.size ≤ 1048600) :
    Calls Tryz.prog 40 #[.pointer (some ⟨B, 0, none⟩), Value.agg #[.int .i64 k0, .int .i64 at', .int .i64 ck, kv, .string val, .string cw, .bool ft, .int .i64 cid, .int .i64 ak, fv, vv, .string wd, .int .i64 g0, .int .i64 g1, .int .i64 g2, .string s, .int .i64 x, .int .i64 y]] w fun e w' => e = .returned (.bool true) ∧ LwTo w w' lo B (k + 1) (T + s.size) := by
  rcases (show k0 = 4 ∨ k0 = 5 ∨ k0 = 6 by omega) with rfl | rfl | rfl
  · have hb0 : ∀ o, Below w.heap.size w (w.alloc o) := fun o => (Below.refl _ _).alloc (Nat.le_refl _) o
    refine step_dec _ at' ck kv val cw ft cid ak fv vv wd g0 g1 g2 s x y w _ ((decoded_law B lo k T x _ (h.below (hb0 _)) (Nat.le_trans hlo (hb0 _).size) hk).mono ?_)
    rintro e w' ⟨rfl, hL⟩
    exact ⟨rfl, ⟨hL.1.more (Nat.le_refl _) (by omega), (hL.from_below (hb0 _) hlo).2⟩⟩
  · exact step_feed B lo k T at' ck kv val cw ft cid ak fv vv wd g0 g1 g2 s x y w h hlo hk hT
  · exact step_rest B lo k T at' ck kv val cw ft cid ak fv vv wd g0 g1 g2 s x y w h hlo hk
end Go.Proofs.YtlonjggfnleolaaGreatDoor


/-
  ends: the Rest of every reader; looks: every list reads as its owner wrote it.
-/

namespace Go.Proofs.YtlonjggfnleolaaGreatDoor
open Go.RowKit Go.Shelf
set_option linter.unusedVariables false

theorem row_any {w : World} {lo e size n j : Nat} {v u : Value} {xs : List Value} (h : Row w lo e size v n xs) (hj : xs[j]? = some u) : ∃ g c, v = .slice (some ⟨g, 0, none⟩) n c ∧ n ≤ c ∧ g < w.heap.size ∧ w.cell? ⟨g, j, none⟩ = some u := by
  have hl := h.1
  have hlt : j < n * size := by have := (List.getElem?_eq_some_iff.1 hj).1; omega
  obtain ⟨_, ⟨_, h0⟩ | ⟨g, cap, cur, hv, _, hg, hnc, _, ht⟩⟩ := h
  · rw [h0] at hlt; omega
  · refine ⟨g, cap, hv, hnc, blkLt hg, (blkCell hg j).trans ?_⟩
    rw [← ht, List.getElem?_take_of_lt hlt] at hj
    simpa using hj

set_option maxRecDepth 20000 in
set_option maxHeartbeats 2000000 in
theorem ends_law (B lo nx : Nat) (S : Nat → Prop) (rv csv cmv ssv smv : Value) (M : List TxM) (N : List CmM) (rs : List RdI) (l h : Int) (hl : l ≤ 6) (hh : ¬ 12 ≤ h) (w : World) (hO : OwnW w lo B S rv M N nx csv cmv ssv smv) (hR : RdsAt w lo rv rs) (hrn : rs.length ≤ 1000000000000) :
    Calls Tryz.prog 41 #[.pointer (some ⟨B, 0, none⟩), .int .i64 l, .int .i64 h] w fun e w' => e = .returned (.bool true) ∧ Below w.heap.size w w' := by
  have HC0 : Hid (∀ wr, Below w.heap.size w wr → wr.cell? ⟨B, 0, none⟩ = some rv ∧ wr.cell? ⟨B, 1, none⟩ = some (.slice none 0 0)) := fun wr hb => ⟨(hb.cell (p := ⟨B, 0, none⟩) (blkLt hO.wd)).trans (blkCell hO.wd 0), (hb.cell (p := ⟨B, 1, none⟩) (blkLt hO.wd)).trans (blkCell hO.wd 1)⟩
  obtain ⟨a, c, rfl⟩ := hR.row.form
  have HRow := hide' hR.row
  have HRd : Hid (∀ wr r, r ∈ rs → Below w.heap.size w wr → Calls Tryz.prog 68 #[.pointer (some ⟨B, 0, none⟩), .pointer (some ⟨r.P, 0, none⟩), Value.agg #[.int .i64 6, .int .i64 0, .int .i64 0, .slice none 0 0, .string ⟨#[]⟩, .string ⟨#[]⟩, .bool false, .int .i64 0, .int .i64 0, .slice none 0 0, .slice none 0 0, .string ⟨#[]⟩, .int .i64 0, .int .i64 0, .int .i64 0, .string ⟨#[]⟩, .int .i64 0, .int .i64 0]] wr fun e w' => e = .returned (.bool true) ∧ Below wr.heap.size wr w') := fun wr r hr hb => read_rest _ lo r 0 0 _ _ _ _ 0 0 _ _ _ 0 0 0 _ 0 0 wr ((hR.below hb).all r hr)
  clear hO hR
  generalize hn : rs.length = n at *
  have HN := hide' hn
  clear hn
  obtain ⟨c0, c1⟩ := HC0.out w (Below.refl _ _)
  go_enter Tryz.func41, Tryz.ntmps41
  go_wp2
  go_loopw [7, 8] (fun i ok wr => ∃ j : Nat, i = .int .i64 (j : Int) ∧ j ≤ n ∧ Hid (Below w.heap.size w wr)) (fun i _ _ => n - (intOf i).toNat)
  case atStart => exact ⟨0, rfl, Nat.zero_le _, Below.refl _ _⟩
  case round =>
    obtain ⟨j, rfl, hj, HJ⟩ := hrel
    clear c0 c1
    obtain ⟨c0, c1⟩ := HC0.out wr HJ.out
    by_cases hlt : j < n
    · obtain ⟨r, hr⟩ : ∃ r, rs[j]? = some r := ⟨_, List.getElem?_eq_getElem (by have := HN.out; omega)⟩
      obtain ⟨g, c', hv, hgc, hgl, hcell⟩ := row_any (j := j) (u := .pointer (some ⟨r.P, 0, none⟩)) HRow.out (by rw [List.getElem?_map, hr]; rfl)
      cases hv
      have hcj := (HJ.out.cell (p := ⟨g, j, none⟩) hgl).trans hcell
      have HX := hide' (HRd.out wr r (List.mem_of_getElem? hr) HJ.out)
      have hlt' : (j : Int) < (n : Int) := by omega
      clear hr hcell
      go_wp2_with fail
      go_at_call 68
      refine HX.out.mono ?_
      rintro e w1 ⟨rfl, hb1⟩
      have HB1 : Hid (Below w.heap.size w w1) := HJ.out.trans (hb1.mono HJ.out.size)
      clear hb1
      go_wp2
      go_roundw
      case rel => exact ⟨j + 1, by go_num, by omega, HB1⟩
      case measure => simp [intOf]; omega
    · have hlt' : ¬ (j : Int) < (n : Int) := by omega
      go_wp2
      go_loop [9] (fun i => i = .int .i64 0) (fun _ => 0)
      case atStart => rfl
      case round =>
        subst hrel
        go_wp2
        go_ret
        exact ⟨rfl, HJ.out⟩
end Go.Proofs.YtlonjggfnleolaaGreatDoor


/-
  looks: every list reads as its owner wrote it.
-/

namespace Go.Proofs.YtlonjggfnleolaaGreatDoor
open Go.RowKit Go.Shelf
set_option linter.unusedVariables false

theorem marks_at : ∀ (n : Nat) (id : Int) (k q : Nat), k < n → q < 6 → (marks n id)[k * 6 + q]? = [Value.int .i64 0, .slice none 0 0, .string ⟨#[]⟩, .string ⟨#[]⟩, .bool false, .int .i64 id][q]? := by
  intro n
  induction n with
  | zero => intro id k q h; omega
  | succ n ih =>
    intro id k q hk hq
    have e : marks (n + 1) id = [Value.int .i64 0, .slice none 0 0, .string ⟨#[]⟩, .string ⟨#[]⟩, .bool false, .int .i64 id] ++ marks n id := by unfold marks; rw [List.replicate_succ, List.flatten_cons]
    rw [e]
    cases k with
    | zero => rw [List.getElem?_append_left (by simp; omega)]; simp
    | succ k =>
      rw [List.getElem?_append_right (by simp; omega)]
      have e2 : (k + 1) * 6 + q - [Value.int .i64 0, .slice none 0 0, .string ⟨#[]⟩, .string ⟨#[]⟩, .bool false, .int .i64 id].length = k * 6 + q := by simp; omega
      rw [e2]
      exact ih id k q (by omega) hq

set_option maxRecDepth 20000 in
set_option maxHeartbeats 4000000 in
theorem looks_law (B lo nx : Nat) (S : Nat → Prop) (rv csv cmv ssv smv : Value) (M : List TxM) (N : List CmM) (w : World) (hO : OwnW w lo B S rv M N nx csv cmv ssv smv) (hM : M.length ≤ 1000000000000000) (hN : N.length ≤ 1000000000000000) :
    Calls Tryz.prog 42 #[.pointer (some ⟨B, 0, none⟩)] w fun e w' => e = .returned (.bool true) ∧ Below w.heap.size w w' := by
  have HC : Hid (∀ wr, Below w.heap.size w wr → wr.cell? ⟨B, 2, none⟩ = some csv ∧ wr.cell? ⟨B, 3, none⟩ = some cmv ∧ wr.cell? ⟨B, 4, none⟩ = some ssv ∧ wr.cell? ⟨B, 5, none⟩ = some smv) := fun wr hb => ⟨(hb.cell (p := ⟨B, 2, none⟩) (blkLt hO.wd)).trans (blkCell hO.wd 2), (hb.cell (p := ⟨B, 3, none⟩) (blkLt hO.wd)).trans (blkCell hO.wd 3), (hb.cell (p := ⟨B, 4, none⟩) (blkLt hO.wd)).trans (blkCell hO.wd 4), (hb.cell (p := ⟨B, 5, none⟩) (blkLt hO.wd)).trans (blkCell hO.wd 5)⟩
  have hBl := blkLt hO.wd
  have HO := hide' hO
  obtain ⟨ca, cc, rfl⟩ := hO.cs.form
  obtain ⟨ma, mc, rfl⟩ := hO.cm.form
  obtain ⟨sa, sc, rfl⟩ := hO.ss.form
  obtain ⟨ta, tc, rfl⟩ := hO.sm.form
  clear hO
  generalize hml : M.length = ml at *
  generalize hnl : N.length = nl at *
  have HML := hide' hml
  have HNL := hide' hnl
  clear hml hnl
  have tb := toList_beq
  obtain ⟨c2, c3, c4, c5⟩ := HC.out w (Below.refl _ _)
  go_enter Tryz.func42, Tryz.ntmps42
  go_wp2
  go_loopw [3, 4] (fun i k wr => ∃ j : Nat, i = .int .i64 (j : Int) ∧ j ≤ ml ∧ Hid (Below w.heap.size w wr)) (fun i _ _ => ml - (intOf i).toNat)
  case atStart => exact ⟨0, rfl, Nat.zero_le _, Below.refl _ _⟩
  case round =>
    obtain ⟨j, rfl, hj, HJ⟩ := hrel
    clear c2 c3 c4 c5
    obtain ⟨c2, c3, c4, c5⟩ := HC.out wr HJ.out
    by_cases hlt : j < ml
    · obtain ⟨e, he⟩ : ∃ e, M[j]? = some e := ⟨_, List.getElem?_eq_getElem (by have := HML.out; omega)⟩
      obtain ⟨sg, sc', hv, hsc, hsgl, hsgc⟩ := row_any (j := j) (u := e.v) HO.out.ss (by rw [List.getElem?_map, he]; rfl)
      rw [HML.out] at hv
      cases hv
      obtain ⟨tg, tc', hv, htc, htgl, htgc⟩ := row_any (j := j) (u := .string e.m) HO.out.sm (by rw [List.getElem?_map, he]; rfl)
      rw [HML.out] at hv
      cases hv
      have HE := hide' (HO.out.tk e (List.mem_of_getElem? he)).1
      obtain ⟨va, vc, hv⟩ := HE.out.form
      have hen := e.le
      rw [HML.out] at hsc htc
      have HE2 : Hid (Row w lo 9 1 (.slice va e.n vc) e.n (List.replicate e.n (.string e.m))) := by have := HE.out; rw [hv] at this; exact this
      rw [hv] at hsgc
      clear HE he hv
      generalize e.n = en at *
      generalize e.m = em at *
      have s0 := (HJ.out.cell (p := ⟨sg, j, none⟩) hsgl).trans hsgc
      have hlt' : (j : Int) < (ml : Int) := by omega
      go_wp2
      go_loopw [4] (fun k w2 => ∃ q : Nat, k = .int .i64 (q : Int) ∧ q ≤ en ∧ Hid (Below w.heap.size w w2)) (fun k _ => en - (intOf k).toNat)
      case atStart => exact ⟨0, rfl, Nat.zero_le _, HJ⟩
      case round =>
        obtain ⟨q, rfl, hq, HQ⟩ := hrel
        clear c2 c3 c4 c5 s0
        obtain ⟨c2, c3, c4, c5⟩ := HC.out wr HQ.out
        have s0 := (HQ.out.cell (p := ⟨sg, j, none⟩) hsgl).trans hsgc
        have t0 := (HQ.out.cell (p := ⟨tg, j, none⟩) htgl).trans htgc
        by_cases hlq : q < en
        · obtain ⟨vg, vc', hv, hvc, hvgl, hvgc⟩ := row_any (j := q) (u := .string em) HE2.out (by rw [List.getElem?_replicate, if_pos hlq])
          cases hv
          have v0 := (HQ.out.cell (p := ⟨vg, q, none⟩) hvgl).trans hvgc
          have hlq' : (q : Int) < (en : Int) := by omega
          go_wp2
          go_quiet (fail)
          go_wp2
          go_roundw
          case rel => exact ⟨q + 1, by go_num, by omega, below_drewN HQ.out _⟩
          case measure => simp [intOf]; omega
        · have hlq' : ¬ (q : Int) < (en : Int) := by omega
          go_wp2
          go_roundw
          case rel => exact ⟨j + 1, by go_num, by omega, HQ⟩
          case measure => simp [intOf]; omega
    · have hlt' : ¬ (j : Int) < (ml : Int) := by omega
      go_wp2
      clear c4 c5
      go_loopw [5, 6, 7] (fun i k c wr => ∃ j : Nat, i = .int .i64 (j : Int) ∧ j ≤ nl ∧ Hid (Below w.heap.size w wr)) (fun i _ _ _ => nl - (intOf i).toNat)
      case atStart => exact ⟨0, rfl, Nat.zero_le _, HJ⟩
      case round =>
        obtain ⟨i, rfl, hi, HI⟩ := hrel
        clear c2 c3
        obtain ⟨c2, c3, c4, c5⟩ := HC.out wr HI.out
        clear c4 c5
        by_cases hli : i < nl
        · obtain ⟨e, he⟩ : ∃ e, N[i]? = some e := ⟨_, List.getElem?_eq_getElem (by have := HNL.out; omega)⟩
          obtain ⟨sg, sc', hv, hsc, hsgl, hsgc⟩ := row_any (j := i) (u := e.v) HO.out.cs (by rw [List.getElem?_map, he]; rfl)
          rw [HNL.out] at hv
          cases hv
          obtain ⟨tg, tc', hv, htc, htgl, htgc⟩ := row_any (j := i) (u := .int .i64 e.id) HO.out.cm (by rw [List.getElem?_map, he]; rfl)
          rw [HNL.out] at hv
          cases hv
          have HE := hide' (HO.out.nk e (List.mem_of_getElem? he)).1
          obtain ⟨va, vc, hv⟩ := HE.out.form
          have hen := e.le
          rw [HNL.out] at hsc htc
          have HE2 : Hid (Row w lo 36 6 (.slice va e.n vc) e.n (marks e.n e.id)) := by have := HE.out; rw [hv] at this; exact this
          rw [hv] at hsgc
          clear HE he hv
          generalize e.n = en at *
          generalize e.id = ei at *
          have s0 := (HI.out.cell (p := ⟨sg, i, none⟩) hsgl).trans hsgc
          have hli' : (i : Int) < (nl : Int) := by omega
          go_wp2
          go_loopw [6, 7] (fun k c w2 => ∃ q : Nat, k = .int .i64 (q : Int) ∧ q ≤ en ∧ Hid (Below w.heap.size w w2)) (fun k _ _ => en - (intOf k).toNat)
          case atStart => exact ⟨0, rfl, Nat.zero_le _, HI⟩
          case round =>
            obtain ⟨q, rfl, hq, HQ⟩ := hrel
            clear c2 c3 s0
            obtain ⟨c2, c3, c4, c5⟩ := HC.out wr HQ.out
            clear c4 c5
            have s0 := (HQ.out.cell (p := ⟨sg, i, none⟩) hsgl).trans hsgc
            have t0 := (HQ.out.cell (p := ⟨tg, i, none⟩) htgl).trans htgc
            by_cases hlq : q < en
            · have hat : ∀ m, m < 6 → ∀ u, [Value.int .i64 0, .slice none 0 0, .string ⟨#[]⟩, .string ⟨#[]⟩, .bool false, .int .i64 ei][m]? = some u → ∃ vg vc', (Value.slice va en vc) = .slice (some ⟨vg, 0, none⟩) en vc' ∧ en ≤ vc' ∧ vg < w.heap.size ∧ w.cell? ⟨vg, q * 6 + m, none⟩ = some u := fun m hm u hu => row_any HE2.out (by rw [marks_at en ei q m hlq hm]; exact hu)
              obtain ⟨vg, vc', hv, hvc, hvgl, hvgc⟩ := hat 0 (by omega) _ rfl
              cases hv
              have hall : ∀ m, m < 6 → ∀ u, [Value.int .i64 0, .slice none 0 0, .string ⟨#[]⟩, .string ⟨#[]⟩, .bool false, .int .i64 ei][m]? = some u → wr.cell? ⟨vg, q * 6 + m, none⟩ = some u := fun m hm u hu => by
                obtain ⟨vg2, vc2, hv, _, _, hc⟩ := hat m hm u hu
                cases hv
                exact (HQ.out.cell (p := ⟨vg, q * 6 + m, none⟩) hvgl).trans hc
              have v0 := hall 0 (by omega) _ rfl
              have v1 := hall 1 (by omega) _ rfl
              have v2 := hall 2 (by omega) _ rfl
              have v3 := hall 3 (by omega) _ rfl
              have v4 := hall 4 (by omega) _ rfl
              have v5 := hall 5 (by omega) _ rfl
              rw [Nat.add_zero] at v0
              have hlq' : (q : Int) < (en : Int) := by omega
              have hwl := HQ.out.size
              have hB2 : B < wr.heap.size := by omega
              have hB3 : ¬ B = wr.heap.size := by omega
              have ht2 : tg < wr.heap.size := by omega
              have ht3 : ¬ tg = wr.heap.size := by omega
              clear hat hall hvgc
              go_wp2
              go_quiet (fail)
              go_wp2
              go_roundw
              case rel => exact ⟨q + 1, by go_num, by omega, below_drewN (HQ.out.alloc hwl _) _⟩
              case measure => simp [intOf]; omega
            · have hlq' : ¬ (q : Int) < (en : Int) := by omega
              go_wp2
              go_roundw
              case rel => exact ⟨i + 1, by go_num, by omega, HQ⟩
              case measure => simp [intOf]; omega
        · have hli' : ¬ (i : Int) < (nl : Int) := by omega
          go_wp2
          go_ret
          exact ⟨rfl, HI.out⟩
end Go.Proofs.YtlonjggfnleolaaGreatDoor


/-
  A script of readers' steps: given, plays.
-/

namespace Go.Proofs.YtlonjggfnleolaaGreatDoor
open Go.RowKit Go.Shelf
set_option linter.unusedVariables false

/-- What every step from 4 to hi does to the law's world. -/
def StepLaw (hi : Int) : Prop := ∀ (k0 : Int), 4 ≤ k0 → k0 ≤ hi → ∀ (B lo k T : Nat) (at' ck : Int) (kv : Value) (val cw : ByteArray) (ft : Bool) (cid ak : Int) (fv vv : Value) (wd : ByteArray) (g0 g1 g2 : Int) (s : ByteArray) (x y : Int) (w : World), Lw w lo B k T → lo ≤ w.heap.size → k ≤ 1048600 → T + s.size ≤ 1048600 →
    Calls Tryz.prog 40 #[.pointer (some ⟨B, 0, none⟩), Value.agg #[.int .i64 k0, .int .i64 at', .int .i64 ck, kv, .string val, .string cw, .bool ft, .int .i64 cid, .int .i64 ak, fv, vv, .string wd, .int .i64 g0, .int .i64 g1, .int .i64 g2, .string s, .int .i64 x, .int .i64 y]] w fun e w' => e = .returned (.bool true) ∧ LwTo w w' lo B (k + 1) (T + s.size)
theorem stepLaw6 : StepLaw 6 := fun k0 h4 h6 B lo k T at' ck kv val cw ft cid ak fv vv wd g0 g1 g2 s x y w h hlo hk hT => step_456 k0 h4 h6 B lo k T at' ck kv val cw ft cid ak fv vv wd g0 g1 g2 s x y w h hlo hk hT

/-- The sum of the first n. -/
def sumTo (f : Nat → Nat) : Nat → Nat
  | 0 => 0
  | n + 1 => sumTo f n + f n
theorem sumTo_mono (f : Nat → Nat) : ∀ {a b : Nat}, a ≤ b → sumTo f a ≤ sumTo f b := by
  intro a b h
  induction b with
  | zero => rw [Nat.le_zero.1 h]; exact Nat.le_refl _
  | succ b ih =>
    rcases Nat.lt_or_eq_of_le h with h | h
    · have := ih (by omega)
      show sumTo f a ≤ sumTo f b + f b
      omega
    · rw [h]; exact Nat.le_refl _

def gT (j : Nat) : Nat := if j ≤ 4 then 0 else 8
theorem gT_mono (j : Nat) : gT j ≤ gT (j + 1) := by
  unfold gT
  split <;> split <;> omega

theorem given_step (b j : Nat) (h1 : 1 ≤ j) (h4 : j ≤ 4) : ∃ (k0 : Int) (s : ByteArray) (x : Int), givenCs b j = [.int .i64 k0, .int .i64 0, .int .i64 0, .slice none 0 0, .string ⟨#[]⟩, .string ⟨#[]⟩, .bool false, .int .i64 0, .int .i64 0, .slice none 0 0, .slice none 0 0, .string ⟨#[]⟩, .int .i64 0, .int .i64 0, .int .i64 0, .string s, .int .i64 x, .int .i64 0] ∧ 4 ≤ k0 ∧ k0 ≤ 5 ∧ gT j + s.size = gT (j + 1) := by
  match j, h1, h4 with
  | 1, _, _ => exact ⟨4, ⟨#[]⟩, 1, rfl, by decide, by decide, rfl⟩
  | 2, _, _ => exact ⟨4, ⟨#[]⟩, 2, rfl, by decide, by decide, rfl⟩
  | 3, _, _ => exact ⟨4, ⟨#[]⟩, 3, rfl, by decide, by decide, rfl⟩
  | 4, _, _ => exact ⟨5, ⟨#[103, 101, 116, 32, 97, 32, 98, 10]⟩, 0, rfl, by decide, by decide, rfl⟩
theorem given_in (hi : Int) (h7 : hi ≤ 7) (j : Nat) (hj : j < 10) (h1 : 4 ≤ givenK.getD j 0) (h2 : givenK.getD j 0 ≤ hi) : 1 ≤ j ∧ j ≤ 4 := by
  match j, hj with
  | 0, _ => exact absurd h1 (by decide)
  | 1, _ => omega
  | 2, _ => omega
  | 3, _ => omega
  | 4, _ => omega
  | 5, _ => exact absurd (Int.le_trans h2 h7) (by decide)
  | 6, _ => exact absurd (Int.le_trans h2 h7) (by decide)
  | 7, _ => exact absurd (Int.le_trans h2 h7) (by decide)
  | 8, _ => exact absurd (Int.le_trans h2 h7) (by decide)
  | 9, _ => exact absurd (Int.le_trans h2 h7) (by decide)

theorem given_law (hi : Int) (h5 : 5 ≤ hi) (h7 : hi ≤ 7) (HS : StepLaw hi) (B lo : Nat) (w : World) (hL : Lw w lo B 0 0) (hlo : lo ≤ w.heap.size) :
    Calls Tryz.prog 39 #[.pointer (some ⟨B, 0, none⟩), .int .i64 4, .int .i64 hi] w fun e w' => e = .returned (.bool true) ∧ Lw w' lo B 10 8 ∧ Below lo w w' := by
  refine given_gen _ 4 hi w (fun j W => Lw W lo B j (gT j) ∧ Below lo w W) ?_ ?_ ?_
  · have hb : Below w.heap.size w ((w.alloc (.cells #[.string ⟨#[97]⟩] 9)).alloc (.cells (givenG w.heap.size) 95)) := ((Below.refl _ _).alloc (Nat.le_refl _) _).alloc (by simp) _
    exact ⟨hL.below hb, hb.mono hlo⟩
  · intro j hj h1 h2 W hI
    obtain ⟨hj1, hj4⟩ := given_in hi h7 j hj h1 h2
    obtain ⟨k0, s, x, e, hk4, hk5, hs⟩ := given_step w.heap.size j hj1 hj4
    rw [e]
    have hg : gT (j + 1) ≤ 8 := by unfold gT; split <;> omega
    refine (HS k0 hk4 (by omega) B lo j (gT j) 0 0 (.slice none 0 0) ⟨#[]⟩ ⟨#[]⟩ false 0 0 (.slice none 0 0) (.slice none 0 0) ⟨#[]⟩ 0 0 0 s x 0 W hI.1 (Nat.le_trans hlo hI.2.size) (by omega) (by omega)).mono ?_
    rintro e w' ⟨rfl, hL', hb', hk'⟩
    rw [hs] at hL'
    exact ⟨rfl, ⟨hL', hI.2.trans hb'⟩, hk'⟩
  · intro j hj hn W hI
    exact ⟨hI.1.more (by omega) (gT_mono j), hI.2⟩

/-- The law's world as it begins. -/
theorem Lw.start (w : World) : Lw (w.alloc (.cells #[.slice none 0 0, .slice none 0 0, .slice none 0 0, .slice none 0 0, .slice none 0 0, .slice none 0 0, .int .i64 0] 87)) w.heap.size w.heap.size 0 0 :=
  ⟨.slice none 0 0, .slice none 0 0, .slice none 0 0, .slice none 0 0, .slice none 0 0, [], [], 0, [],
    ⟨blkNew w _, Nat.le_refl _, Row.nil _ _ _ _, Row.nil _ _ _ _, Row.nil _ _ _ _, Row.nil _ _ _ _, fun e he => (by cases he), fun e he => (by cases he), fun g hg => (by cases hg)⟩,
    ⟨Row.nil _ _ _ _, fun r hr => (by cases hr), fun i j ri rj _ h => (by cases h)⟩, Nat.le_refl _, fun r hr => (by cases hr), Nat.zero_le _, Nat.zero_le _, Nat.zero_le _⟩

/-- A script with the size of each step. -/
structure ScriptB (w : World) (b o N : Nat) (kf : Nat → Int) (csf : Nat → List Value) (bk : Nat → Nat) : Prop where
  lt : b < w.heap.size
  ops : ∀ j, j < N → (csf j).length = 18 ∧ w.cell? ⟨b, o + j * 18, none⟩ = some (.int .i64 (kf j)) ∧ w.rangeAt b (o + j * 18) (csf j) ∧ OpIn w (kf j) (.agg (csf j).toArray)
  sz : ∀ j, j < N → ∃ s : ByteArray, (csf j)[15]? = some (.string s) ∧ s.size ≤ bk j

theorem ends_lw (hi : Int) (h7 : hi ≤ 7) (B lo k T : Nat) (W : World) (hL : Lw W lo B k T) (hk : k ≤ 1048600) :
    Calls Tryz.prog 41 #[.pointer (some ⟨B, 0, none⟩), .int .i64 4, .int .i64 hi] W fun e W' => e = .returned (.bool true) ∧ Lw W' lo B k T ∧ Below W.heap.size W W' := by
  have hL' := hL
  obtain ⟨rv, csv, cmv, ssv, smv, M, N, nx, rs, h1, h2, h3, h4, h5, h6, h7⟩ := hL
  refine (ends_law B lo nx _ rv csv cmv ssv smv M N rs 4 hi (by omega) (by omega) W h1 h2 (by omega)).mono ?_
  rintro e w' ⟨rfl, hb⟩
  exact ⟨rfl, hL'.below hb, hb⟩
theorem looks_lw (B lo k T : Nat) (W : World) (hL : Lw W lo B k T) (hk : k ≤ 1048600) :
    Calls Tryz.prog 42 #[.pointer (some ⟨B, 0, none⟩)] W fun e W' => e = .returned (.bool true) ∧ Below W.heap.size W W' := by
  obtain ⟨rv, csv, cmv, ssv, smv, M, N, nx, rs, h1, h2, h3, h4, h5, h6, h7⟩ := hL
  exact looks_law B lo nx _ rv csv cmv ssv smv M N W h1 (by omega) (by omega)

theorem plays_law (hi : Int) (h5 : 5 ≤ hi) (h7 : hi ≤ 7) (HS : StepLaw hi) (b o N c : Nat) (kf : Nat → Int) (csf : Nat → List Value) (bk : Nat → Nat) (w : World) (hS : ScriptB w b o N kf csf bk) (hN : N ≤ c) (hN2 : N ≤ 1048576) (hbk : sumTo bk N ≤ 1048576) :
    Calls Tryz.prog 15 #[.slice (some ⟨b, o, none⟩) N c, .int .i64 4, .int .i64 hi, .int .i64 0] w fun e w' => e = .returned (.bool true) ∧ Below w.heap.size w w' := by
  have hb0 : Below w.heap.size w (w.alloc (.cells #[.slice none 0 0, .slice none 0 0, .slice none 0 0, .slice none 0 0, .slice none 0 0, .slice none 0 0, .int .i64 0] 87)) := (Below.refl _ _).alloc (Nat.le_refl _) _
  refine plays_gen b o N c 4 hi 0 w kf csf (fun j W => Lw W w.heap.size w.heap.size (10 + j) (8 + sumTo bk j) ∧ Below w.heap.size w W) (fun W => Lw W w.heap.size w.heap.size (10 + N) (8 + sumTo bk N) ∧ Below w.heap.size w W) hS.lt hN (by omega) (fun j hj => ⟨(hS.ops j hj).1, (hS.ops j hj).2.1, (hS.ops j hj).2.2.1⟩) ?_ (fun j W h => h.2) ?_ ?_ ?_ ?_
  · refine (given_law hi h5 h7 HS _ _ _ (Lw.start w) (by simp)).mono ?_
    rintro e w' ⟨rfl, h1, h2⟩
    exact ⟨rfl, h1, hb0.trans h2⟩
  · intro j hj hk4 hkh hkn W hI
    obtain ⟨hl, _, _, at', ck, a, n', c', ss, val, cw, ft, cid, ak, fa, va, fn, fc, vn, vc, bs, vs, wd, g0, g1, g2, s, x, y, hv, _⟩ := hS.ops j hj
    obtain ⟨s', hs', hsz⟩ := hS.sz j hj
    have hss : s' = s := by
      have hv' : (csf j).toArray = #[.int .i64 (kf j), .int .i64 at', .int .i64 ck, .slice a n' c', .string val, .string cw, .bool ft, .int .i64 cid, .int .i64 ak, .slice fa fn fc, .slice va vn vc, .string wd, .int .i64 g0, .int .i64 g1, .int .i64 g2, .string s, .int .i64 x, .int .i64 y] := by
        unfold opV at hv
        exact Value.agg.inj hv
      have : (csf j).toArray[15]? = some (.string s) := by rw [hv']; rfl
      rw [List.getElem?_toArray, hs'] at this
      cases this
      rfl
    subst hss
    rw [hv]
    have hsum : sumTo bk (j + 1) ≤ sumTo bk N := sumTo_mono bk hj
    have hsum2 : sumTo bk (j + 1) = sumTo bk j + bk j := rfl
    refine (HS (kf j) hk4 hkh w.heap.size w.heap.size (10 + j) (8 + sumTo bk j) at' ck _ val cw ft cid ak _ _ wd g0 g1 g2 s' x y W hI.1 hI.2.size (by omega) (by omega)).mono ?_
    rintro e w' ⟨rfl, hL', hb', hk'⟩
    exact ⟨rfl, hL'.more (by omega) (by omega), hI.2.trans hb'⟩
  · intro j hj _ W hI
    have hsum2 : sumTo bk (j + 1) = sumTo bk j + bk j := rfl
    exact ⟨hI.1.more (by omega) (by omega), hI.2⟩
  · intro W hI
    refine (ends_lw hi h7 _ _ _ _ W hI.1 (by omega)).mono ?_
    rintro e w' ⟨rfl, hL', hb'⟩
    exact ⟨rfl, hL', hI.2.trans (hb'.mono hI.2.size)⟩
  · intro W hI
    refine (looks_lw _ _ _ _ W hI.1 (by omega)).mono ?_
    rintro e w' ⟨rfl, hb'⟩
    exact ⟨rfl, hI.2.trans (hb'.mono hI.2.size)⟩

theorem plays_law_nil (hi : Int) (h5 : 5 ≤ hi) (h7 : hi ≤ 7) (HS : StepLaw hi) (w : World) :
    Calls Tryz.prog 15 #[.slice none 0 0, .int .i64 4, .int .i64 hi, .int .i64 0] w fun e w' => e = .returned (.bool true) ∧ Below w.heap.size w w' := by
  have hb0 : Below w.heap.size w (w.alloc (.cells #[.slice none 0 0, .slice none 0 0, .slice none 0 0, .slice none 0 0, .slice none 0 0, .slice none 0 0, .int .i64 0] 87)) := (Below.refl _ _).alloc (Nat.le_refl _) _
  refine plays_gen_nil 4 hi 0 w (fun W => Lw W w.heap.size w.heap.size 10 8 ∧ Below w.heap.size w W) (fun W => Lw W w.heap.size w.heap.size 10 8 ∧ Below w.heap.size w W) ?_ ?_ ?_
  · refine (given_law hi h5 h7 HS _ _ _ (Lw.start w) (by simp)).mono ?_
    rintro e w' ⟨rfl, h1, h2⟩
    exact ⟨rfl, h1, hb0.trans h2⟩
  · intro W hI
    refine (ends_lw hi h7 _ _ _ _ W hI.1 (by omega)).mono ?_
    rintro e w' ⟨rfl, hL', hb'⟩
    exact ⟨rfl, hL', hI.2.trans (hb'.mono hI.2.size)⟩
  · intro W hI
    refine (looks_lw _ _ _ _ W hI.1 (by omega)).mono ?_
    rintro e w' ⟨rfl, hb'⟩
    exact ⟨rfl, hI.2.trans (hb'.mono hI.2.size)⟩

set_option maxRecDepth 20000 in
theorem reads_some (b o N c : Nat) (kf : Nat → Int) (csf : Nat → List Value) (bk : Nat → Nat) (w : World) (hS : ScriptB w b o N kf csf bk) (hN : N ≤ c) (hN2 : N ≤ 1048576) (hbk : sumTo bk N ≤ 1048576) :
    Calls Tryz.prog 4 #[.slice (some ⟨b, o, none⟩) N c] w fun e w' => e = .returned (.bool true) ∧ Below w.heap.size w w' := by
  have HP := hide' (plays_law 6 (by decide) (by decide) stepLaw6 b o N c kf csf bk w hS hN hN2 hbk)
  clear hS hbk
  go_enter Tryz.func4, Tryz.ntmps4
  go_wp2_with fail
  go_at_call 15
  refine HP.out.mono ?_
  rintro e w1 ⟨rfl, hb⟩
  have HB := hide' hb
  clear hb
  go_wp2
  go_ret
  exact ⟨rfl, HB.out⟩
set_option maxRecDepth 20000 in
theorem reads_nil (w : World) :
    Calls Tryz.prog 4 #[.slice none 0 0] w fun e w' => e = .returned (.bool true) ∧ Below w.heap.size w w' := by
  have HP := hide' (plays_law_nil 6 (by decide) (by decide) stepLaw6 w)
  go_enter Tryz.func4, Tryz.ntmps4
  go_wp2_with fail
  go_at_call 15
  refine HP.out.mono ?_
  rintro e w1 ⟨rfl, hb⟩
  have HB := hide' hb
  clear hb
  go_wp2
  go_ret
  exact ⟨rfl, HB.out⟩
end Go.Proofs.YtlonjggfnleolaaGreatDoor
