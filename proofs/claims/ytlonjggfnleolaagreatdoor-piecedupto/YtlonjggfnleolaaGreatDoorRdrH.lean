/-
  The function that Next gives, for every yield that goes on.
-/
import Derived.Test.YtlonjggfnleolaaGreatDoorRdrD
import Derived.Test.YtlonjggfnleolaaGreatDoorNextOne
import Derived.Maps.OwnIn
import Derived.OwnWalkIn
import Derived.Test.YtlonjggfnleolaaGreatDoorAsks

namespace Go.Proofs.YtlonjggfnleolaaGreatDoor
open Go.RowKit Go.Shelf
set_option linter.unusedVariables false
attribute [local go_sem] Oper.semAt_some

theorem RdrAt.apart {W : World} {D t b T : Nat} {hb : Option Nat} {s : St} {Z : Array Value} {f : Nat × Nat} (R : RdrAt W D hb t s) (hZ : W.heap[b]? = some (.cells Z T f)) (h1 : T ≠ 134) (h2 : T ≠ 5) : b ≠ D ∧ some b ≠ hb := by
  obtain ⟨⟨v, u, hD, ⟨⟨all, ⟨h3, h4⟩, h5⟩, hbk⟩, hiv⟩, hne⟩ := R
  refine ⟨?_, ?_⟩
  · rintro rfl
    rw [hD] at hZ
    simp [rdO] at hZ
    exact h1 hZ.2.1.symm
  · rintro rfl
    rcases h4 with ⟨rfl, _⟩ | ⟨g, cap, cur, rfl, _, hg, _⟩
    · cases hbk
    · cases hbk
      rw [hg] at hZ
      simp at hZ
      exact h2 hZ.2.1.symm

/-- How many bytes a reader holds, read off its cells. -/
def heldLen (w : World) (D : Nat) : Nat :=
  match w.cell? ⟨D, 1, none⟩, w.cell? ⟨D, 2, none⟩ with
  | some (.slice _ n _), some (.int _ u) => n - u.toNat
  | _, _ => 0
theorem RdrAt.len {W : World} {D t : Nat} {hb : Option Nat} {s : St} (R : RdrAt W D hb t s) : heldLen W D = s.held.length := by
  obtain ⟨⟨v, u, hD, H, hiv⟩, hne⟩ := R
  obtain ⟨d0, d1, d2, _⟩ := rdCells hD
  unfold heldLen
  rw [d1, d2]
  rcases H.form with ⟨rfl, rfl, h3, _⟩ | ⟨g, n, c, all, rfl, _, _, h1, _, h2, h3, _⟩
  · rw [h3]; simp
  · rw [h3, List.length_drop, h1]; simp

def cmdA (c : Cmd) (kv : Value) : Array Value := #[.int .i64 c.kind, kv, .string c.val, .string c.word, .bool c.fatal, .int .i64 c.id]

set_option maxRecDepth 20000 in
set_option maxHeartbeats 2000000 in
theorem next1_any (l X D t : Nat) (d : Int) (W0 : World) (J : Option Nat → List Cmd → World → Prop)
    (hRead : ∀ W hb s, RdrAt W D hb t s → s.held.length ≤ 140737488355328 → Calls Tryz.prog 121 #[.pointer (some ⟨D, 0, none⟩)] W fun e w' => ReadOut W w' D hb t s (readR d s.held) e)
    (hB : ∀ hb done W W2, J hb done W → Below W.heap.size W W2 → J hb done W2)
    (hY : ∀ hb done W s x W1 ka kn kc, J hb done W → RdrAt W D hb t s → readR d s.held = some x → KeysIn W1 W.heap.size (.slice ka kn kc) x.c.keys → RdrTo W W1 D hb t (afterS s x) → W1.heap[X]? = some (boxR D) →
      YieldAt Fence.wide 7 Tryz.prog l #[.agg #[.int .i64 x.c.kind, .slice ka kn kc, .string x.c.val, .string x.c.word, .bool x.c.fatal, .int .i64 x.c.id]] (W1.alloc (.cells #[.int .i64 x.c.kind, .slice ka kn kc, .string x.c.val, .string x.c.word, .bool x.c.fatal, .int .i64 x.c.id] 36)) fun e W' => e = .returned (.bool true) ∧ ∃ hb', RdrAt W' D hb' t (afterS s x) ∧ W'.heap[X]? = some (boxR D) ∧ J hb' (done ++ [x.c]) W')
    (s : St) (hb : Option Nat) (R : RdrAt W0 D hb t s) (hX : W0.heap[X]? = some (boxR D)) (h0 : J hb [] W0) (hsm : s.held.length ≤ 140737488355328) :
    CallsIn Fence.wide 8 Tryz.prog 120 #[.func (.yield l) #[] #[], .pointer (some ⟨X, 0, none⟩)] W0 fun e W' => (∃ v, e = .returned v) ∧ ∃ hb', RdrAt W' D hb' t (drainS d s).2 ∧ J hb' (drainS d s).1 W' := by
  have HRd := hide' hRead
  have HB := hide' hB
  have HY := hide' hY
  have H0 := hide' (And.intro R (And.intro hX h0))
  clear hRead hB hY h0 R hX
  generalize hTOT : (drainS d s).1 = TOT
  generalize hFIN : (drainS d s).2 = FIN
  have HT := hide' (And.intro hTOT hFIN)
  clear hTOT hFIN
  refine callsIn_of_wp Tryz.func120 rfl trivial ?_ rfl
  simp only [Tryz.ntmps120, List.size_toArray, List.length_cons, List.length_nil, Nat.reduceAdd, Nat.reduceSub, Array.replicate_succ, Array.replicate_zero, List.push_toArray, List.append_toArray, List.nil_append, List.cons_append]
  gi_wp2
  gi_loopw [3, 4] (fun _ _ wr => ∃ (s' : St) (hb' : Option Nat) (done : List Cmd), s'.held.length ≤ 140737488355328 ∧ Hid (RdrAt wr D hb' t s' ∧ wr.heap[X]? = some (boxR D) ∧ J hb' done wr ∧ done ++ (drainS d s').1 = TOT ∧ (drainS d s').2 = FIN)) (fun _ _ wr => heldLen wr D)
  case atStart => exact ⟨s, hb, [], hsm, H0.out.1, H0.out.2.1, H0.out.2.2, by rw [List.nil_append]; exact HT.out.1, HT.out.2⟩
  case round =>
    obtain ⟨s', hb', done, hsm', HJ⟩ := hrel
    have hXw := HJ.out.2.1
    unfold boxR at hXw
    have x0 := blkCell hXw 0
    simp at x0
    have hXlt := blkLt hXw
    clear hXw
    have HX2 := hide' (HRd.out wr hb' s' HJ.out.1 hsm')
    cases hrr : readR d s'.held with
    | none =>
      rw [hrr] at HX2
      gi_wp2_with fail
      refine ⟨trivial, ?_⟩
      refine (callsIn_wide.2 HX2.out).mono ?_
      rintro e w1 ⟨rfl, R1, B1⟩
      have H1 := hide' (And.intro R1 B1)
      clear R1 B1
      unfold zCmd
      gi_wp2
      refine ⟨fun _ h => (by cases h), ?_⟩
      gi_wp2
      refine bodyPost_ret (results_none rfl _ _ _) rfl ?_
      have hd := drainS_none hrr
      have hT := HJ.out.2.2.2
      rw [hd] at hT
      have hbb := H1.out.2.alloc H1.out.2.size (.cells #[.int .i64 0, .slice none 0 0, .string ⟨#[]⟩, .string ⟨#[]⟩, .bool false, .int .i64 0] 36)
      refine ⟨⟨_, rfl⟩, hb', ?_, ?_⟩
      · rw [← hT.2]; exact HJ.out.1.below hbb
      · rw [← hT.1, List.append_nil]; exact HB.out _ _ _ _ HJ.out.2.2.1 hbb
    | some x =>
      rw [hrr] at HX2
      have HRR := hide' hrr
      clear hrr
      gi_wp2_with fail
      refine ⟨trivial, ?_⟩
      refine (callsIn_wide.2 HX2.out).mono ?_
      rintro e w1 ⟨ka, kn, kc, rfl, hk1, T1⟩
      have hap := HJ.out.1.apart (b := X) (show wr.heap[X]? = some (.cells #[.pointer (some ⟨D, 0, none⟩)] 97 (0, 0)) from HJ.out.2.1) (by decide) (by decide)
      have hX1 := (T1.turn.block X hXlt hap.1 hap.2).trans HJ.out.2.1
      have hy := HY.out hb' done wr s' x w1 ka kn kc HJ.out.2.2.1 HJ.out.1 HRR.out hk1 T1 hX1
      obtain ⟨fn, tmps, assign, body, hy1, hy2⟩ := hy
      have HY2 := hide' hy2
      have HT1 := hide' (And.intro hk1 (And.intro T1 hX1))
      clear hk1 T1 hX1 hy2 hap
      gi_wp2
      refine HY2.out.mono ?_
      rintro e W2 ⟨rfl, hb2, R2, hX2, J2⟩
      have H2 := hide' (And.intro R2 (And.intro hX2 J2))
      clear R2 hX2 J2 hy1 HY2
      gi_wp2
      go_roundw
      case rel =>
        have hT := HJ.out.2.2.2
        rw [drainS_some HRR.out] at hT
        have hl := afterS_len HRR.out
        refine ⟨afterS s' x, hb2, done ++ [x.c], by omega, H2.out.1, H2.out.2.1, H2.out.2.2, ?_, hT.2⟩
        rw [List.append_assoc]; exact hT.1
      case measure =>
        have hl := afterS_len HRR.out
        rw [H2.out.1.len, HJ.out.1.len]
        exact hl
end Go.Proofs.YtlonjggfnleolaaGreatDoor


/-
  A list of commands in memory.
-/

namespace Go.Proofs.YtlonjggfnleolaaGreatDoor
open Go.RowKit Go.Shelf
set_option linter.unusedVariables false

def cmdCells : List Cmd → List Value → List Value
  | c :: cs, kv :: kvs => (cmdA c kv).toList ++ cmdCells cs kvs
  | _, _ => []
theorem cmdCells_snoc : ∀ (cs : List Cmd) (kvs : List Value) (c : Cmd) (kv : Value), kvs.length = cs.length → cmdCells (cs ++ [c]) (kvs ++ [kv]) = cmdCells cs kvs ++ (cmdA c kv).toList := by
  intro cs
  induction cs with
  | nil =>
    intro kvs c kv h
    have : kvs = [] := List.length_eq_zero_iff.1 h
    subst this
    simp [cmdCells]
  | cons x cs ih =>
    intro kvs c kv h
    cases kvs with
    | nil => simp at h
    | cons y kvs =>
      simp only [List.cons_append, cmdCells]
      rw [ih kvs c kv (by simpa using h), List.append_assoc]
theorem cmdCells_app : ∀ (cs : List Cmd) (kvs : List Value) (cs2 : List Cmd) (kvs2 : List Value), kvs.length = cs.length → cmdCells (cs ++ cs2) (kvs ++ kvs2) = cmdCells cs kvs ++ cmdCells cs2 kvs2 := by
  intro cs
  induction cs with
  | nil =>
    intro kvs cs2 kvs2 h
    have : kvs = [] := List.length_eq_zero_iff.1 h
    subst this
    simp [cmdCells]
  | cons x cs ih =>
    intro kvs cs2 kvs2 h
    cases kvs with
    | nil => simp at h
    | cons y kvs =>
      simp only [List.cons_append, cmdCells]
      rw [ih kvs cs2 kvs2 (by simpa using h), List.append_assoc]
theorem cmdCells_len : ∀ (cs : List Cmd) (kvs : List Value), kvs.length = cs.length → (cmdCells cs kvs).length = cs.length * 6 := by
  intro cs
  induction cs with
  | nil => intro kvs h; simp [cmdCells]
  | cons x cs ih =>
    intro kvs h
    cases kvs with
    | nil => simp at h
    | cons y kvs =>
      simp only [cmdCells, List.length_append, List.length_cons]
      rw [ih kvs (by simpa using h)]
      simp [cmdA]
      omega
theorem cmdCells_get : ∀ (cs : List Cmd) (kvs : List Value) (i j : Nat) (c : Cmd) (kv : Value), cs[i]? = some c → kvs[i]? = some kv → j < 6 → (cmdCells cs kvs)[6 * i + j]? = (cmdA c kv)[j]? := by
  intro cs
  induction cs with
  | nil => intro kvs i j c kv h; simp at h
  | cons x cs ih =>
    intro kvs i j c kv h1 h2 hj
    cases kvs with
    | nil => simp at h2
    | cons y kvs =>
      simp only [cmdCells]
      cases i with
      | zero =>
        simp at h1 h2
        subst h1
        subst h2
        rw [List.getElem?_append_left (by simp [cmdA]; omega)]
        simp
      | succ i =>
        have e : 6 * (i + 1) + j = (cmdA x y).toList.length + (6 * i + j) := by simp [cmdA]; omega
        rw [e, List.getElem?_append_right (by omega), Nat.add_sub_cancel_left]
        exact ih kvs i j c kv (by simpa using h1) (by simpa using h2) hj

/-- A list of commands that was made: its row, and the keys of each. -/
def CmdsIn (W : World) (lo : Nat) (v : Value) (cs : List Cmd) : Prop :=
  ∃ kvs : List Value, kvs.length = cs.length ∧ W.ownsRow lo 36 6 v cs.length (cmdCells cs kvs) ∧ (∀ kv ∈ kvs, ∃ a n c, kv = .slice a n c) ∧ ∀ (i : Nat) (c : Cmd) (kv : Value), cs[i]? = some c → kvs[i]? = some kv → KeysIn W lo kv c.keys
theorem CmdsIn.nil (W : World) (lo : Nat) : CmdsIn W lo (.slice none 0 0) [] := ⟨[], rfl, World.ownsRow_nil _ _ _ _, fun _ h => (by cases h), fun i c kv h => (by simp at h)⟩
theorem CmdsIn.keep {W W' : World} {lo : Nat} {v : Value} {cs : List Cmd} (h : CmdsIn W lo v cs) (k : ∀ b (Z : Array Value) (T : Nat), W.heap[b]? = some (.cells Z T (0, 0)) → (T = 36 ∨ T = 9) → lo ≤ b → W'.heap[b]? = W.heap[b]?) : CmdsIn W' lo v cs := by
  obtain ⟨kvs, h1, ⟨h2, h3⟩, hf, h4⟩ := h
  refine ⟨kvs, h1, ⟨h2, ?_⟩, hf, fun i c kv hc hkv => (h4 i c kv hc hkv).other (Nat.le_refl _) (fun b c Z hZ _ hl => k b Z 9 hZ (.inr rfl) hl)⟩
  rcases h3 with h3 | ⟨g, cap, cur, e, h5, h6, h7⟩
  · exact .inl h3
  · exact .inr ⟨g, cap, cur, e, h5, (k g cur 36 h6 (.inl rfl) h5).trans h6, h7⟩
theorem CmdsIn.below {W W' : World} {lo : Nat} {v : Value} {cs : List Cmd} (h : CmdsIn W lo v cs) (hb : Below W.heap.size W W') : CmdsIn W' lo v cs := h.keep (fun b Z T hZ _ _ => hb.block b (blkLt hZ))

theorem RdrAt.apartO {W : World} {D t b : Nat} {hb : Option Nat} {s : St} {o : Obj} (R : RdrAt W D hb t s) (hZ : W.heap[b]? = some o) (h1 : ∀ Z f, o ≠ .cells Z 134 f) (h2 : ∀ Z f, o ≠ .cells Z 5 f) : b ≠ D ∧ some b ≠ hb := by
  obtain ⟨⟨v, u, hD, ⟨⟨all, ⟨h3, h4⟩, h5⟩, hbk⟩, hiv⟩, hne⟩ := R
  refine ⟨?_, ?_⟩
  · rintro rfl
    rw [hD] at hZ
    exact h1 _ _ (Option.some.inj hZ).symm
  · rintro rfl
    rcases h4 with ⟨rfl, _⟩ | ⟨g, cap, cur, rfl, _, hg, _⟩
    · cases hbk
    · cases hbk
      rw [hg] at hZ
      exact h2 _ _ (Option.some.inj hZ).symm
theorem RdrTo.keep {W W' : World} {D t b : Nat} {hb : Option Nat} {s s2 : St} {o : Obj} (T : RdrTo W W' D hb t s2) (R : RdrAt W D hb t s) (hZ : W.heap[b]? = some o) (h1 : ∀ Z f, o ≠ .cells Z 134 f) (h2 : ∀ Z f, o ≠ .cells Z 5 f) : W'.heap[b]? = some o := by
  obtain ⟨a1, a2⟩ := R.apartO hZ h1 h2
  exact (T.turn.block b (blkLt hZ) a1 a2).trans hZ
theorem CmdsIn.rdr {W W' : World} {lo D t : Nat} {v : Value} {cs : List Cmd} {hb : Option Nat} {s s2 : St} (h : CmdsIn W lo v cs) (T : RdrTo W W' D hb t s2) (R : RdrAt W D hb t s) : CmdsIn W' lo v cs :=
  h.keep (fun b Z T' hZ hT _ => (T.keep R hZ (fun Z f e => by cases e; rcases hT with h | h <;> cases h) (fun Z f e => by cases e; rcases hT with h | h <;> cases h)).trans hZ.symm)
/-- One more. -/
theorem CmdsIn.snoc {W W' : World} {lo : Nat} {v v' : Value} {cs : List Cmd} {c : Cmd} {ka : Option Addr} {kn kc : Nat} {kvs : List Value} (h1 : kvs.length = cs.length) (hf : ∀ kv ∈ kvs, ∃ a n c, kv = .slice a n c) (h4 : ∀ (i : Nat) (c : Cmd) (kv : Value), cs[i]? = some c → kvs[i]? = some kv → KeysIn W lo kv c.keys)
    (hrow : ∀ g, v.ownBlock = some g → ∀ Z f, W.heap[g]? ≠ some (.cells Z 9 f)) (hk : KeysIn W lo (.slice ka kn kc) c.keys) (hg : W.grownBy W' v.ownBlock)
    (ho : W'.ownsRow lo 36 6 v' (cs.length + 1) (cmdCells cs kvs ++ (cmdA c (.slice ka kn kc)).toList)) : CmdsIn W' lo v' (cs ++ [c]) := by
  have keep : ∀ {kv : Value} {ss : List ByteArray}, KeysIn W lo kv ss → KeysIn W' lo kv ss := fun h => h.other (Nat.le_refl _) (fun b c Z hZ _ _ => hg.block b (blkLt hZ) (fun e => hrow b e.symm Z _ hZ))
  refine ⟨kvs ++ [.slice ka kn kc], by simp [h1], ?_, ?_, ?_⟩
  · rw [cmdCells_snoc cs kvs c _ h1, List.length_append]; exact ho
  · intro kv hkv
    rcases List.mem_append.1 hkv with h | h
    · exact hf kv h
    · rw [List.mem_singleton] at h; exact ⟨_, _, _, h⟩
  · intro i c' kv hc hkv
    by_cases hi : i < cs.length
    · rw [List.getElem?_append_left hi] at hc
      rw [List.getElem?_append_left (by omega)] at hkv
      exact keep (h4 i c' kv hc hkv)
    · have hi2 : i = cs.length := by
        have := (List.getElem?_eq_some_iff.1 hc).1
        simp at this; omega
      subst hi2
      rw [List.getElem?_append_right (Nat.le_refl _)] at hc
      rw [← h1, List.getElem?_append_right (Nat.le_refl _)] at hkv
      simp at hc hkv
      subst hc
      subst hkv
      exact keep hk
theorem info36 : ∃ i z, Tryz.prog.info? 36 = some i ∧ i.zero = some z ∧ i.size = 6 ∧ i.bytes = 80 ∧ z.cells.size = 6 := by
  have h : (Tryz.prog.info? 36).map (fun i => (i.zero, i.size, i.bytes)) = some (some (.agg #[.int .i64 0, .slice none 0 0, .string ⟨#[]⟩, .string ⟨#[]⟩, .bool false, .int .i64 0]), 6, 80) := by kernel_rfl
  cases hi : Tryz.prog.info? 36 with
  | none => rw [hi] at h; cases h
  | some i =>
    rw [hi] at h
    simp only [Option.map_some, Option.some.injEq, Prod.mk.injEq] at h
    exact ⟨i, _, rfl, h.1, h.2.1, h.2.2, rfl⟩
end Go.Proofs.YtlonjggfnleolaaGreatDoor


/-
  Feed, for every reader and every piece.
-/

namespace Go.Proofs.YtlonjggfnleolaaGreatDoor
open Go.RowKit Go.Shelf
set_option linter.unusedVariables false
attribute [local go_sem] Oper.semAt_some

/-- What was collected so far: the loop's own object at L, its defers at K, the list at the head of block B. -/
structure Coll (w W : World) (D t B : Nat) (hb0 hb : Option Nat) (L K : Nat) (lo : Obj) (done : List Cmd) : Prop where
  hl : W.heap[L]? = some lo
  hk : W.heap[K]? = some (.deferred (some []))
  hv : ∃ v, W.heap[w.heap.size]? = some (.cells #[v] 28 (0, 0)) ∧ CmdsIn W w.heap.size v done
  turn : Turn2 D hb0 w W
  fresh : Fresh w hb0 hb
  len : ∃ s, RdrAt W D hb t s ∧ done.length + s.held.length ≤ B

theorem putObj_below (w : World) (r : Nat) (o : Obj) (a : World) (D : Nat) (hb : Option Nat) (h : Turn2 D hb a w) (hr : a.heap.size ≤ r) : Turn2 D hb a (w.putObj r o) :=
  ⟨h.os, h.tape, h.output, by simpa using h.size, fun k hk hn hh => (World.putObj_heap_other (by omega)).trans (h.block k hk hn hh)⟩

set_option maxRecDepth 20000 in
set_option maxHeartbeats 4000000 in
theorem appendSeq_any (X D t : Nat) (d : Int) (hb0 : Option Nat) (s0 : St) (w : World)
    (hRead : ∀ W hb s, RdrAt W D hb t s → s.held.length ≤ 140737488355328 → Calls Tryz.prog 121 #[.pointer (some ⟨D, 0, none⟩)] W fun e w' => ReadOut W w' D hb t s (readR d s.held) e)
    (R0 : RdrAt w D hb0 t s0) (hX : w.heap[X]? = some (boxR D)) (hsm : s0.held.length ≤ 1000000000000) :
    Calls Tryz.prog 119 #[.slice none 0 0, .func (.func 120) #[] #[.pointer (some ⟨X, 0, none⟩)]] w fun e w' => ∃ v hb', e = .returned v ∧ CmdsIn w' w.heap.size v (drainS d s0).1 ∧ RdrAt w' D hb' t (drainS d s0).2 ∧ Fresh w hb0 hb' ∧ Turn2 D hb0 w w' := by
  refine (callsIn_wide (n := 9)).1 ?_
  refine callsIn_of_wp_marks Tryz.func119 rfl trivial ?_ rfl
  simp only [Tryz.ntmps119, List.size_toArray, List.length_cons, List.length_nil, Nat.reduceAdd, Nat.reduceSub, Array.replicate_succ, Array.replicate_zero, List.push_toArray, List.append_toArray, List.nil_append, List.cons_append]
  gi_wp2
  generalize hw1 : w.alloc (Obj.cells #[Value.slice none 0 0] 28) = w1
  have hs1 : w1.heap.size = w.heap.size + 1 := by rw [← hw1]; simp
  have hSB1 : w1.heap[w.heap.size]? = some (.cells #[.slice none 0 0] 28 (0, 0)) := by rw [← hw1]; exact blkNew w _
  have hB1 : Below w.heap.size w w1 := by rw [← hw1]; exact (Below.refl _ _).alloc (Nat.le_refl _) _
  clear hw1
  refine wpIn_rangeFunc ?_
  intro fn hfn
  generalize hrec : (fun (st : LoopState) (pe : Option Code) => ({ state := st, pending := pe, fn := fn, tmps := #[Value.slice none 0 0, Value.func (Fn.func 120) #[] #[Value.pointer (some { block := X, off := 0 })], Value.pointer (some { block := w.heap.size, off := 0 }), undef, Value.slice none 0 0, undef, Value.func (Fn.func 120) #[] #[Value.pointer (some { block := X, off := 0 })], undef, undef, undef, undef, undef, undef], params := #[7], assign := (Code.region 2 #[{ dst := some 5, op := Op.alloc 36, type := 0, pos := "iter.go:51", after := #[], guard := none }, { dst := none, op := Op.store 36 (Operand.tmp 5) (Operand.tmp 7), type := 0, pos := "iter.go:51", after := #[{ on := 0, ground := Ground.data }, { on := 0, ground := Ground.phase }], guard := none }] false), body := (Code.block 1 (Code.region 3 #[{ dst := some 8, op := Op.load 28 (Operand.tmp 2), type := 28, pos := "iter.go:52", after := #[], guard := none }, { dst := some 9, op := Op.load 36 (Operand.tmp 5), type := 36, pos := "iter.go:52", after := #[], guard := none }, { dst := some 10, op := Op.buildSlice 28 1 #[(0, Operand.tmp 9)], type := 28, pos := "iter.go:52", after := #[{ on := 1, ground := Ground.data }], guard := none }, { dst := some 11, op := Op.call { callee := Callee.builtin Builtin.append, args := #[Operand.tmp 8, Operand.tmp 10], argTypes := #[28, 28] }, type := 28, pos := "iter.go:52", after := #[{ on := 0, ground := Ground.data }, { on := 2, ground := Ground.data }], guard := none }, { dst := none, op := Op.store 28 (Operand.tmp 2) (Operand.tmp 11), type := 0, pos := "iter.go:52", after := #[{ on := 3, ground := Ground.data }, { on := 3, ground := Ground.chain }, { on := 0, ground := Ground.phase }, { on := 1, ground := Ground.phase }, { on := 2, ground := Ground.phase }, { on := 3, ground := Ground.phase }], guard := none }] false)), defers := w1.heap.size } : Loop)) = rec
  generalize hW1 : (w1.alloc (.deferred (some []))).alloc (.loop (rec .ready none)) = W1
  have hsW : W1.heap.size = w.heap.size + 3 := by rw [← hW1]; simp; omega
  have hL1 : W1.heap[w1.heap.size + 1]? = some (.loop (rec .ready none)) := by
    rw [← hW1]; have := blkNew (w1.alloc (.deferred (some []))) (.loop (rec .ready none)); rwa [World.size_alloc] at this
  have hK1 : W1.heap[w1.heap.size]? = some (.deferred (some [])) := by
    rw [← hW1]; exact (Below.heap_alloc _ _ _ (by simp)).trans (blkNew w1 _)
  have hBW : Below w1.heap.size w1 W1 := by
    rw [← hW1]; exact (((Below.refl _ w1).alloc (Nat.le_refl _) _).alloc (by simp) _)
  refine ⟨w1.heap.size + 1, [{ target := .collected w1.heap.size, args := #[] }], W1, { target := .fn (.func 120) #[.pointer (some ⟨X, 0, none⟩)], args := #[.func (.yield (w1.heap.size + 1)) #[] #[]] }, W1, 120,
    #[.func (.yield (w1.heap.size + 1)) #[] #[], .pointer (some ⟨X, 0, none⟩)], W1, ?_, ?_, ?_, ?_, fun _ => by omega, ?_⟩
  · rw [← hW1, ← hrec]; exact run_enterLoop_outer _ _ _ _ _
  · simp [resolve, go_sem]
  · intro f' hf'; trivial
  · have eg := enters_of Tryz.func120 (by kernel_rfl) rfl
    simp [invoke, go_sem]
  · have lX := blkLt hX
    have hBw : Below w.heap.size w W1 := hB1.trans (hBW.mono (by omega))
    have hX1 := (hBw.block X lX).trans hX
    have hR1 := R0.below hBw
    have hSB : W1.heap[w.heap.size]? = some (.cells #[.slice none 0 0] 28 (0, 0)) := (hBW.block w.heap.size (by omega)).trans hSB1
    have lD := (R0.lt).1
    clear hW1
    refine (next1_any (w1.heap.size + 1) X D t d W1 (fun hb done W => Coll w W D t 1000000000000 hb0 hb (w1.heap.size + 1) w1.heap.size (.loop (rec .ready none)) done) hRead ?hB ?hY s0 hb0 hR1 hX1 ⟨hL1, hK1, ⟨_, hSB, CmdsIn.nil _ _⟩, .of_below hBw, .inl rfl, s0, hR1, by simpa using hsm⟩ (by omega)).mono ?hdone
    case hB =>
      rintro hb done A B ⟨h1, h2, ⟨v, h3, h4⟩, h5, h6, s, h7, h8⟩ hAB
      exact ⟨(hAB.block _ (blkLt h1)).trans h1, (hAB.block _ (blkLt h2)).trans h2, ⟨v, (hAB.block _ (blkLt h3)).trans h3, h4.below hAB⟩, h5.trans (.of_below (hb := none) hAB) (.inr (.inl rfl)), h6, s, h7.below hAB, h8⟩
    case hY =>
      rintro hb done W s x Wr ka kn kc ⟨h1, h2, ⟨v, h3, h4⟩, h5, h6, s', h7, h8⟩ hR hx hk T1 hXr
      have hlen : s'.held.length = s.held.length := by rw [← h7.len, hR.len]
      have hdrop := afterS_len hx
      -- behind the read
      have r1 := T1.keep hR h1 (fun Z f e => by cases e) (fun Z f e => by cases e)
      have r2 := T1.keep hR h2 (fun Z f e => by cases e) (fun Z f e => by cases e)
      have r3 := T1.keep hR h3 (fun Z f e => by cases e) (fun Z f e => by cases e)
      have r4 := h4.rdr T1 hR
      have szW := T1.turn.size
      obtain ⟨⟨hb2, RR, FF⟩, TT⟩ := T1
      have T5 := h5.trans TT h6
      have F5 : Fresh w hb0 hb2 := h6.trans FF h5.size
      have hkk : KeysIn Wr w.heap.size (.slice ka kn kc) x.c.keys := hk.other (by have := h5.size; omega) (fun _ _ _ _ _ _ => rfl)
      have hwW := h5.size
      have hL2 := blkLt r1
      have hK2 := blkLt r2
      have hS2 := blkLt r3
      clear hL1 hK1 hSB hX1 hR1 hBw hBW hSB1 hB1 h1 h2 h3 h4 h7 hR TT FF hk h5 h6
      -- the box of the iterator
      have B2 : Below Wr.heap.size Wr (Wr.alloc (.cells #[.int .i64 x.c.kind, .slice ka kn kc, .string x.c.val, .string x.c.word, .bool x.c.fatal, .int .i64 x.c.id] 36)) := (Below.refl _ _).alloc (Nat.le_refl _) _
      generalize hW2 : Wr.alloc (.cells #[.int .i64 x.c.kind, .slice ka kn kc, .string x.c.val, .string x.c.word, .bool x.c.fatal, .int .i64 x.c.id] 36) = W2 at *
      have l2 := (B2.block _ hL2).trans r1
      have k2 := (B2.block _ hK2).trans r2
      have s2 := (B2.block _ hS2).trans r3
      have c2 := r4.below B2
      have R2 := RR.below B2
      have X2 := (B2.block _ (blkLt hXr)).trans hXr
      have T2 := T5.trans (.of_below (hb := none) B2) (.inr (.inl rfl))
      have kk2 : KeysIn W2 w.heap.size (.slice ka kn kc) x.c.keys := hkk.other (Nat.le_refl _) (fun b c Z hZ _ _ => B2.block b (blkLt hZ))
      clear hW2 B2 r1 r2 r3 r4 RR hXr T5 hkk hL2 hK2 hS2 szW
      have hyr := run_yield (P := Tryz.prog) (args := #[.agg #[.int .i64 x.c.kind, .slice ka kn kc, .string x.c.val, .string x.c.word, .bool x.c.fatal, .int .i64 x.c.id]]) l2 (by rw [← hrec]; rfl)
      rw [← hrec] at hyr
      refine ⟨fn, _, _, _, hyr, roundIn_of_wpIn hfn ?_⟩
      have H2 := hide' (And.intro l2 (And.intro k2 (And.intro s2 (And.intro c2 (And.intro R2 (And.intro X2 (And.intro T2 kk2)))))))
      clear hyr l2 k2 s2 c2 R2 X2 T2 kk2
      dsimp only
      gi_wp2
      obtain ⟨l2, k2, s2, c2, R2, X2, T2, kk2⟩ := H2.out
      clear H2
      have B3 : Below W2.heap.size W2 (W2.alloc (.cells #[.int .i64 x.c.kind, .slice ka kn kc, .string x.c.val, .string x.c.word, .bool x.c.fatal, .int .i64 x.c.id] 36)) := (Below.refl _ _).alloc (Nat.le_refl _) _
      have hV3 := blkNew W2 (.cells #[.int .i64 x.c.kind, .slice ka kn kc, .string x.c.val, .string x.c.word, .bool x.c.fatal, .int .i64 x.c.id] 36)
      generalize hW3 : W2.alloc (.cells #[.int .i64 x.c.kind, .slice ka kn kc, .string x.c.val, .string x.c.word, .bool x.c.fatal, .int .i64 x.c.id] 36) = W3 at *
      have l3 := (B3.block _ (blkLt l2)).trans l2
      have k3 := (B3.block _ (blkLt k2)).trans k2
      have s3 := (B3.block _ (blkLt s2)).trans s2
      have c3 := c2.below B3
      have R3 := R2.below B3
      have X3 := (B3.block _ (blkLt X2)).trans X2
      have T3 := T2.trans (.of_below (hb := none) B3) (.inr (.inl rfl))
      have kk3 : KeysIn W3 w.heap.size (.slice ka kn kc) x.c.keys := kk2.other (Nat.le_refl _) (fun b c Z hZ _ _ => B3.block b (blkLt hZ))
      have sz3 : W2.heap.size < W3.heap.size := blkLt hV3
      have lW2 : w1.heap.size + 1 < W2.heap.size := blkLt l2
      clear hW3 B3 l2 k2 s2 c2 R2 X2 T2 kk2
      refine ⟨_, run_beginRound l3 (by rw [← hrec]), ?_⟩
      have hlt3 := blkLt l3
      generalize hW4 : W3.putObj (w1.heap.size + 1) (.loop { rec .ready none with state := .busy }) = W4
      have oth : ∀ k, k ≠ w1.heap.size + 1 → W4.heap[k]? = W3.heap[k]? := fun k hk => by rw [← hW4]; exact World.putObj_heap_other hk
      have othc : ∀ k (Z : Array Value) (T : Nat) f, W3.heap[k]? = some (.cells Z T f) → k ≠ w1.heap.size + 1 := fun k Z T f hZ e => by rw [e, l3] at hZ; cases hZ
      have l4 : W4.heap[w1.heap.size + 1]? = some (.loop { rec .ready none with state := .busy }) := by rw [← hW4]; exact World.putObj_heap_same hlt3
      have sz4 : W4.heap.size = W3.heap.size := by rw [← hW4]; simp [World.putObj]
      have T4 : Turn2 D hb0 w W4 := by rw [← hW4]; exact putObj_below _ _ _ _ _ _ T3 (by omega)
      have s4 := (oth _ (show w.heap.size ≠ w1.heap.size + 1 by omega)).trans s3
      have k4 := (oth _ (show w1.heap.size ≠ w1.heap.size + 1 by omega)).trans k3
      have c4 : CmdsIn W4 w.heap.size v done := c3.keep (fun b Z T hZ _ _ => oth b (othc b Z T _ hZ))
      have hap := R3.apartO l3 (fun Z f e => by cases e) (fun Z f e => by cases e)
      have R4 : RdrAt W4 D hb2 t (afterS s x) := R3.other (oth D (fun e => hap.1 e.symm)) (fun b hb' => oth b (fun e => hap.2 (by rw [hb', e])))
      have X4 := (oth X (othc X _ _ _ X3)).trans X3
      have V4 := (oth W2.heap.size (by omega)).trans hV3
      have kk4 : KeysIn W4 w.heap.size (.slice ka kn kc) x.c.keys := kk3.other (Nat.le_refl _) (fun b c Z hZ _ _ => oth b (othc b Z 9 _ hZ))
      clear oth othc l3 k3 s3 c3 R3 X3 T3 kk3 hV3 hW4 hlt3 hap
      have q0 := blkCell s4 0
      have qf := blkFree s4
      have v0 := blkCell V4 0
      have v1 := blkCell V4 1
      have v2 := blkCell V4 2
      have v3 := blkCell V4 3
      have v4 := blkCell V4 4
      have v5 := blkCell V4 5
      simp at q0 v0 v1 v2 v3 v4 v5
      have lt4 : w.heap.size < W4.heap.size := blkLt s4
      have ltV : W2.heap.size < W4.heap.size := blkLt V4
      have HW := hide' (And.intro l4 (And.intro k4 (And.intro s4 (And.intro c4 (And.intro R4 (And.intro X4 (And.intro T4 kk4)))))))
      obtain ⟨kvs, hc1, hc2, hcf, hc4⟩ := c4
      obtain ⟨va, vn, vc, hvf⟩ := own_form hc2
      subst hvf
      obtain ⟨i36, z36, hi, hz0, hz1, hz2, hz3⟩ := info36
      have HI := hide' (And.intro hi (And.intro hz0 (And.intro hz1 (And.intro hz2 hz3))))
      have HC := hide' (And.intro hc1 (And.intro hc2 (And.intro hcf hc4)))
      have HNw := hide' (show ∀ (j : Nat) (u : Value), [Value.int IntKind.i64 x.c.kind, .slice ka kn kc, .string x.c.val, .string x.c.word, .bool x.c.fatal, .int .i64 x.c.id][j]? = some u → (W4.alloc (.cells #[.int .i64 x.c.kind, .slice ka kn kc, .string x.c.val, .string x.c.word, .bool x.c.fatal, .int .i64 x.c.id] 36)).cell? ((⟨W4.heap.size, 0, none⟩ : Addr).add j) = some u from World.news_of_block (cs := #[.int .i64 x.c.kind, .slice ka kn kc, .string x.c.val, .string x.c.word, .bool x.c.fatal, .int .i64 x.c.id]) (blkNew W4 _))
      have HN : Hid (done.length + s.held.length ≤ 1000000000000) := by show _ ≤ _; omega
      have hd12 : done.length + 1 ≤ 1000000000000 := by omega
      have HZ1 := hide' (And.intro hs1 (And.intro hsW (And.intro hwW (And.intro lW2 (And.intro sz3 sz4)))))
      clear l4 k4 s4 R4 X4 T4 kk4 V4 hc1 hc2 hcf hc4 hi hz0 hz1 hz2 hz3 hs1 hsW hwW lW2 sz3 sz4
      have hrow : ∀ g, (Value.slice va vn vc).ownBlock = some g → ∃ cur, W4.heap[g]? = some (.cells cur 36 (0, 0)) := fun g hg => by
        rcases HC.out.2.1.2 with ⟨e, _⟩ | ⟨g', cap, cur, e, _, h6, _⟩
        · rw [e] at hg; cases hg
        · rw [e] at hg; cases hg; exact ⟨cur, h6⟩
      have hneS : some w.heap.size ≠ (Value.slice va vn vc).ownBlock := fun e => by
        obtain ⟨cur, hc⟩ := hrow _ e.symm
        rw [HW.out.2.2.1] at hc
        cases hc
      have HRow := hide' (And.intro hrow hneS)
      clear hrow hneS
      have HDL : Hid (done.length = done.length) := (show _ = _ from rfl)
      gi_wp2_with (first
        | (gi_at_builtin; refine wpListIn_append_own_at _ rfl _ _ _ rfl w.heap.size 36 i36 z36 6 80 Tryz.underlying28 HI.out.1 HI.out.2.1 HI.out.2.2.1 HI.out.2.2.2.1 HI.out.2.2.2.2 (by omega) (.slice va vn vc) done.length (cmdCells done kvs) rfl (World.ownsRow.alloc HC.out.2.1 _) ⟨W4.heap.size, 0, none⟩ 1 1 [Value.int IntKind.i64 x.c.kind, .slice ka kn kc, .string x.c.val, .string x.c.word, .bool x.c.fatal, .int .i64 x.c.id] rfl rfl HNw.out (by simp [Value.oneCell']) (by unfold maxLen; omega) (by omega) (by simp; omega) ?_; intro v' w5 hown hgrow hnil hat; obtain ⟨ua, un, uc, huf⟩ := own_form hown; subst huf; have es := (hgrow.block w.heap.size (by simp; omega) HRow.out.2).trans ((Below.heap_alloc _ _ _ lt4).trans HW.out.2.2.1); have e0 := blkCell es 0; have ef := blkFree es; simp at e0; have HG := hide' (And.intro hown (And.intro hgrow (And.intro hat es))); clear hown hgrow hnil hat es)
        | fail)
      obtain ⟨l4, k4, s4, c4, R4, X4, T4, kk4⟩ := HW.out
      obtain ⟨hown, hgrow, hat, es⟩ := HG.out
      obtain ⟨hrow, hneS⟩ := HRow.out
      obtain ⟨z1, z2, z3, z4, z5, z6⟩ := HZ1.out
      obtain ⟨hc1, hc2, hcf, hc4⟩ := HC.out
      clear HW HG HRow HZ1 HC HI HNw
      have hrg : ∀ g, (Value.slice va vn vc).ownBlock = some g → w.heap.size ≤ g := fun g hg => by
        rcases hc2.2 with ⟨e, _⟩ | ⟨g', cap, cur, e, h5, h6, _⟩
        · rw [e] at hg; cases hg
        · rw [e] at hg; cases hg; exact h5
      have Ba : Below W4.heap.size W4 (W4.alloc (.cells #[.int .i64 x.c.kind, .slice ka kn kc, .string x.c.val, .string x.c.word, .bool x.c.fatal, .int .i64 x.c.id] 36)) := (Below.refl _ _).alloc (Nat.le_refl _) _
      have keep5 : ∀ b o, W4.heap[b]? = some o → b ≠ w.heap.size → (∀ Z f, o ≠ .cells Z 36 f) → (w5.setCell ⟨w.heap.size, 0, none⟩ (.slice ua un uc)).heap[b]? = some o := fun b o h hb' hne =>
        (Below.heap_setCell w5 ⟨w.heap.size, 0, none⟩ _ b hb').trans ((hgrow.block b (by have := blkLt h; have := Ba.size; omega) (fun e => by
          obtain ⟨cur, hc⟩ := hrow b e.symm
          rw [h] at hc
          exact hne _ _ (Option.some.inj hc))).trans ((Ba.block b (blkLt h)).trans h))
      have l5 := keep5 _ _ l4 (by omega) (fun Z f e => by cases e)
      have k5 := keep5 _ _ k4 (by omega) (fun Z f e => by cases e)
      have X5 := keep5 X _ X4 (fun e => by rw [e, s4] at X4; cases X4) (fun Z f e => by cases e)
      have c5 : CmdsIn w5 w.heap.size (.slice ua un uc) (done ++ [x.c]) :=
        CmdsIn.snoc (W := W4.alloc (.cells #[.int .i64 x.c.kind, .slice ka kn kc, .string x.c.val, .string x.c.word, .bool x.c.fatal, .int .i64 x.c.id] 36)) hc1 hcf (fun i c kv hci hkv => (hc4 i c kv hci hkv).other (Nat.le_refl _) (fun b c Z hZ _ _ => Ba.block b (blkLt hZ)))
          (fun g hg Z f hZ => by
            obtain ⟨cur, hc⟩ := hrow g hg
            rw [(Ba.block g (blkLt hc)), hc] at hZ
            cases hZ) (kk4.other (Nat.le_refl _) (fun b c Z hZ _ _ => Ba.block b (blkLt hZ))) hgrow hown
      have c6 : CmdsIn (w5.setCell ⟨w.heap.size, 0, none⟩ (.slice ua un uc)) w.heap.size (.slice ua un uc) (done ++ [x.c]) := c5.keep (fun b Z T hZ hT _ => Below.heap_setCell w5 ⟨w.heap.size, 0, none⟩ _ b (fun e => by
        rw [show b = w.heap.size from e, es] at hZ
        cases hZ
        rcases hT with h | h <;> cases h))
      have s6 := blkSet (i := 0) es (.slice ua un uc)
      have R5 : RdrAt (w5.setCell ⟨w.heap.size, 0, none⟩ (.slice ua un uc)) D hb2 t (afterS s x) := by
        obtain ⟨⟨rv, ru, hD, H, hiv⟩, hne⟩ := R4
        have hD5 := keep5 D _ hD (fun e => by rw [e, s4] at hD; cases hD) (fun Z f e => by cases e)
        refine ⟨⟨rv, ru, hD5, H.other (fun b hb' => ?_), hiv⟩, hne⟩
        obtain ⟨⟨all, ⟨e1, e2⟩, e3⟩, hbk⟩ := H
        rcases e2 with ⟨rfl, _⟩ | ⟨g, cap, cur, rfl, _, hg, _⟩
        · rw [hb'] at hbk; cases hbk
        · rw [hb'] at hbk
          cases hbk
          exact (keep5 g _ hg (fun e => by rw [e, s4] at hg; cases hg) (fun Z f e => by cases e)).trans hg.symm
      have T6 : Turn2 D hb0 w (w5.setCell ⟨w.heap.size, 0, none⟩ (.slice ua un uc)) := by
        have sb : Below 0 w5 (w5.setCell ⟨w.heap.size, 0, none⟩ (.slice ua un uc)) := (Below.refl 0 w5).setCell (p := ⟨w.heap.size, 0, none⟩) (Nat.zero_le _) _
        refine ⟨by rw [sb.os, hgrow.os, Ba.os, T4.os], by rw [sb.tape, hgrow.tape, Ba.tape, T4.tape], by rw [sb.output, hgrow.output, Ba.output, T4.output], Nat.le_trans T4.size (Nat.le_trans Ba.size (Nat.le_trans hgrow.size sb.size)), fun k hk hn hh => ?_⟩
        have h4s := T4.size
        rw [Below.heap_setCell w5 ⟨w.heap.size, 0, none⟩ _ k (by show k ≠ w.heap.size; omega), hgrow.block k (by have := Ba.size; omega) (fun e => by have := hrg k e.symm; omega), Ba.block k (by omega), T4.block k hk hn hh]
      have sz6 : (w5.setCell ⟨w.heap.size, 0, none⟩ (.slice ua un uc)).heap.size = w5.heap.size := by simp
      clear keep5 c5 hown hgrow es
      generalize w5.setCell ⟨w.heap.size, 0, none⟩ (.slice ua un uc) = S6 at *
      have lk6 := blkLt l5
      refine ⟨_, _, run_endRound (P := Tryz.prog) none l5, rfl, hb2, ?_, ?_, ?_⟩
      · have hap := R5.apartO l5 (fun Z f e => by cases e) (fun Z f e => by cases e)
        exact R5.other (World.putObj_heap_other (fun e => hap.1 e.symm)) (fun b hb' => World.putObj_heap_other (fun e => hap.2 (by rw [hb', e])))
      · exact (World.putObj_heap_other (fun e => by rw [e, l5] at X5; cases X5)).trans X5
      · refine ⟨?_, (World.putObj_heap_other (by omega)).trans k5, ⟨_, (World.putObj_heap_other (by omega)).trans (s6.trans rfl), c6.keep (fun b Z T hZ _ _ => World.putObj_heap_other (fun e => by rw [e, l5] at hZ; cases hZ))⟩, putObj_below _ _ _ _ _ _ T6 (by omega), F5, afterS s x, ?_, ?_⟩
        · rw [World.putObj_heap_same lk6, ← hrec]; rfl
        · have hap := R5.apartO l5 (fun Z f e => by cases e) (fun Z f e => by cases e)
          exact R5.other (World.putObj_heap_other (fun e => hap.1 e.symm)) (fun b hb' => World.putObj_heap_other (fun e => hap.2 (by rw [hb', e])))
        · have := HN.out
          rw [List.length_append]
          show done.length + 1 + _ ≤ _
          omega
    case hdone =>
      rintro e W6 ⟨⟨rv, rfl⟩, hb', R6, ⟨hl6, hk6, ⟨v, hs6, G⟩, T6, F6, _⟩⟩
      have hp : (rec .ready none).pending = none := by rw [← hrec]
      obtain ⟨o7, hend⟩ : ∃ o, (Instr.endLoop (w1.heap.size + 1)).run Tryz.prog W6 = .ok none (W6.putObj (w1.heap.size + 1) o) := by
        have := run_endLoop (P := Tryz.prog) hl6 (by rw [← hrec]; simp)
        rw [hp] at this
        exact ⟨_, this⟩
      refine ⟨none, _, hend, ?_⟩
      have hap := R6.apartO hl6 (fun Z f e => by cases e) (fun Z f e => by cases e)
      have G7 : CmdsIn (W6.putObj (w1.heap.size + 1) o7) w.heap.size v (drainS d s0).1 := G.keep (fun b Z T hZ _ _ => World.putObj_heap_other (fun e => by rw [e, hl6] at hZ; cases hZ))
      have R7 : RdrAt (W6.putObj (w1.heap.size + 1) o7) D hb' t (drainS d s0).2 := R6.other (World.putObj_heap_other (fun e => hap.1 e.symm)) (fun b hb'' => World.putObj_heap_other (fun e => hap.2 (by rw [hb'', e])))
      have hs7 := (World.putObj_heap_other (w := W6) (r := w1.heap.size + 1) (o := o7) (show w.heap.size ≠ w1.heap.size + 1 by omega)).trans hs6
      have hk7 := (World.putObj_heap_other (w := W6) (r := w1.heap.size + 1) (o := o7) (show w1.heap.size ≠ w1.heap.size + 1 by omega)).trans hk6
      have T7 := putObj_below W6 (w1.heap.size + 1) o7 w D hb0 T6 (by omega)
      generalize W6.putObj (w1.heap.size + 1) o7 = W7 at *
      have c7 := blkCell hs7 0
      simp at c7
      have HG := hide' (And.intro G7 (And.intro R7 (And.intro T7 F6)))
      have HK7 := hide' hk7
      have H1 := hide' hs1
      have hvf : ∃ a n c, v = .slice a n c := by obtain ⟨kvs, _, ho, _⟩ := G7; exact own_form ho
      obtain ⟨va, vn, vc, rfl⟩ := hvf
      clear G7 R7 T7 hs7 hk7 hs1 hend hl6 hk6 hs6 G hp hL1 hK1 hX1 hR1 hSB hBw hBW hSB1 hB1 hX R0 hrec T6 F6 R6 hap hRead
      dsimp only
      gi_wp2
      refine ⟨by simp, .inl ⟨_, _, rfl, run_takeDeferred HK7.out, ?_⟩⟩
      refine ⟨_, results_tmp rfl _ _ _, .slice va vn vc, hb', rfl, ?_⟩
      obtain ⟨G, R, T, F⟩ := HG.out
      have hk := HK7.out
      have z1 := H1.out
      have hap := R.apartO hk (fun Z f e => by cases e) (fun Z f e => by cases e)
      exact ⟨G.keep (fun b Z T hZ _ _ => World.putObj_heap_other (fun e => by rw [e, hk] at hZ; cases hZ)), R.other (World.putObj_heap_other (fun e => hap.1 e.symm)) (fun b hb'' => World.putObj_heap_other (fun e => hap.2 (by rw [hb'', e]))), F, putObj_below _ _ _ _ _ _ T (by omega)⟩
end Go.Proofs.YtlonjggfnleolaaGreatDoor


/-
  Feed, Next, Rest, Decoder: for every reader.
-/

namespace Go.Proofs.YtlonjggfnleolaaGreatDoor
open Go.RowKit Go.Shelf
set_option linter.unusedVariables false

def dT (d : Int) (t : Nat) : Prop := (d = 1 ∧ t = 160) ∨ (d = 2 ∧ t = 161) ∨ (d = 3 ∧ t = 162)
theorem readRd_any (D t : Nat) (d : Int) (hd : dT d t) : ∀ W hb s, RdrAt W D hb t s → s.held.length ≤ 140737488355328 → Calls Tryz.prog 121 #[.pointer (some ⟨D, 0, none⟩)] W fun e w' => ReadOut W w' D hb t s (readR d s.held) e := by
  intro W hb s R hs
  rcases hd with ⟨rfl, rfl⟩ | ⟨rfl, rfl⟩ | ⟨rfl, rfl⟩
  · exact readRd1 D hb s W R hs
  · exact readRd2 D hb s W R hs
  · exact readRd3 D hb s W R hs
theorem takeS_len (s : St) (p : List UInt8) : (takeS s p).held.length ≤ s.held.length + p.length := by
  unfold takeS
  split
  · omega
  · split
    · have := passL_len (s.held ++ p)
      show (passL (s.held ++ p)).1.length ≤ _
      simp at this; omega
    · simp

set_option maxRecDepth 20000 in
set_option maxHeartbeats 1000000 in
theorem next_any (D t : Nat) (hb : Option Nat) (s : St) (piece : ByteArray) (w : World) (R : RdrAt w D hb t s) (hsm : 2 * s.held.length + piece.size ≤ 140737488355328) :
    Calls Tryz.prog 73 #[.pointer (some ⟨D, 0, none⟩), .string piece] w fun e w' => e = .returned (.func (.func 120) #[] #[.pointer (some ⟨w.heap.size, 0, none⟩)]) ∧ w'.heap[w.heap.size]? = some (boxR D) ∧ ∃ hb', RdrAt w' D hb' t (takeS s piece.data.toList) ∧ Fresh w hb hb' ∧ Turn2 D hb w w' := by
  have hB : Below w.heap.size w (w.alloc (boxR D)) := (Below.refl _ _).alloc (Nat.le_refl _) _
  have R1 := R.below hB
  have H := hide' (take_any D t hb s piece (w.alloc (boxR D)) R1 hsm)
  have hlt := (R.lt).1
  have HR := hide' (And.intro R1 hB)
  clear R R1 hB
  go_enter Tryz.func73, Tryz.ntmps73
  go_wp2_with fail
  go_at_call 58
  refine H.out.mono ?_
  rintro e w1 ⟨rfl, T⟩
  have HT := hide' T
  clear T
  go_wp2
  go_ret
  have hbx := HT.out.keep HR.out.1 (blkNew w (boxR D)) (fun Z f e => by cases e) (fun Z f e => by cases e)
  obtain ⟨⟨hb', R', F'⟩, T'⟩ := HT.out
  exact ⟨rfl, hbx, hb', R', Fresh.trans (a := w) (.inl rfl) F' HR.out.2.size, (Turn2.of_below HR.out.2).trans T' (.inl rfl)⟩

set_option maxRecDepth 20000 in
set_option maxHeartbeats 1000000 in
theorem feed_any (D t : Nat) (d : Int) (hb : Option Nat) (s : St) (piece : ByteArray) (w : World) (hd : dT d t) (R : RdrAt w D hb t s) (hsm : 2 * s.held.length + piece.size ≤ 1000000000000) :
    Calls Tryz.prog 44 #[.pointer (some ⟨D, 0, none⟩), .string piece] w fun e w' => ∃ v hb', e = .returned v ∧ CmdsIn w' w.heap.size v (feedS d s piece.data.toList).1 ∧ RdrAt w' D hb' t (feedS d s piece.data.toList).2 ∧ Fresh w hb hb' ∧ Turn2 D hb w w' := by
  have H := hide' (next_any D t hb s piece w R (by omega))
  have HC : Hid (∀ (w1 : World) (hb1 : Option Nat), RdrAt w1 D hb1 t (takeS s piece.data.toList) → w1.heap[w.heap.size]? = some (boxR D) → Calls Tryz.prog 72 #[.func (.func 120) #[] #[.pointer (some ⟨w.heap.size, 0, none⟩)]] w1 fun e w' => ∃ v hb', e = .returned v ∧ CmdsIn w' w1.heap.size v (feedS d s piece.data.toList).1 ∧ RdrAt w' D hb' t (feedS d s piece.data.toList).2 ∧ Fresh w1 hb1 hb' ∧ Turn2 D hb1 w1 w') := fun w1 hb1 R1 hX1 => by
    have hl := takeS_len s piece.data.toList
    rw [len_size] at hl
    have HA := hide' (appendSeq_any w.heap.size D t d hb1 (takeS s piece.data.toList) w1 (readRd_any D t d hd) R1 hX1 (by omega))
    clear hl R1 hX1
    go_enter Tryz.func72, Tryz.ntmps72
    go_wp2_with fail
    go_at_call 119
    refine HA.out.mono ?_
    rintro e w2 ⟨v, hb', rfl, G⟩
    have HG := hide' G
    clear G
    go_wp2
    go_ret
    exact ⟨v, hb', rfl, HG.out⟩
  clear R
  go_enter Tryz.func44, Tryz.ntmps44
  go_wp2_with fail
  go_at_call 73
  refine H.out.mono ?_
  rintro e w1 ⟨rfl, hX1, hb1, R1, F1, T1⟩
  have H2 := hide' (HC.out w1 hb1 R1 hX1)
  have HF := hide' (And.intro F1 T1)
  clear hX1 R1 F1 T1 HC
  go_wp2_with fail
  go_at_call 72
  refine H2.out.mono ?_
  rintro e w2 ⟨v, hb', rfl, G, R2, F2, T2⟩
  have HG := hide' (And.intro G (And.intro R2 (And.intro F2 T2)))
  clear G R2 F2 T2
  go_wp2
  go_ret
  obtain ⟨F1, T1⟩ := HF.out
  obtain ⟨G, R2, F2, T2⟩ := HG.out
  have hsz := T1.size
  refine ⟨v, hb', rfl, ?_, R2, F1.trans F2 hsz, T1.trans T2 F1⟩
  obtain ⟨kvs, g1, ⟨g2, g3⟩, g4, g5⟩ := G
  refine ⟨kvs, g1, ⟨g2, ?_⟩, g4, fun i c kv h1 h2 => (g5 i c kv h1 h2).other hsz (fun _ _ _ _ _ _ => rfl)⟩
  rcases g3 with h | ⟨g, cap, cur, e, h5, h6⟩
  · exact .inl h
  · exact .inr ⟨g, cap, cur, e, by omega, h6⟩

set_option maxHeartbeats 1000000 in
theorem rest_any (D t : Nat) (hb : Option Nat) (s : St) (w : World) (R : RdrAt w D hb t s) :
    Calls Tryz.prog 46 #[.pointer (some ⟨D, 0, none⟩)] w fun e w' => e = .returned (.int .i64 (s.held.length : Int)) ∧ ∃ q, w' = w.drewN q := by
  obtain ⟨⟨v, u, hD, H, hiv⟩, hne⟩ := R
  obtain ⟨d0, d1, d2, d3, d4, df⟩ := rdCells hD
  have HL := hide' (len_any D u v hb s.held w H d1 d2)
  clear hD H hiv
  generalize s.held.length = n at *
  go_enter Tryz.func46, Tryz.ntmps46
  go_wp2_with (go_at_call 74; refine HL.out.mono ?_; rintro e w1 ⟨rfl, q, rfl⟩)
  go_ret
  exact ⟨rfl, q, rfl⟩

def tyOf (d : Int) : Nat := if d = 1 then 160 else if d = 2 then 161 else 162
theorem dT_ty {d : Int} (h : d = 1 ∨ d = 2 ∨ d = 3) : dT d (tyOf d) := by
  rcases h with rfl | rfl | rfl
  · exact .inl ⟨rfl, rfl⟩
  · exact .inr (.inl ⟨rfl, rfl⟩)
  · exact .inr (.inr ⟨rfl, rfl⟩)
theorem rdr_new (w : World) (t : Nat) : RdrAt (w.alloc (rdO t (.slice none 0 0) 0 false false)) w.heap.size none t st0 :=
  ⟨⟨.slice none 0 0, 0, blkNew w _, ⟨⟨[], World.ownsRow_nil _ _ _ _, Nat.le_refl _, rfl, by simp⟩, rfl⟩, .inl rfl⟩, by simp⟩
set_option maxHeartbeats 1000000 in
theorem decoder_any (d : Int) (w : World) (hd : d = 1 ∨ d = 2 ∨ d = 3) :
    Calls Tryz.prog 43 #[.int .i64 d] w fun e w' => e = .returned (.tuple #[.pointer (some ⟨w.heap.size, 0, none⟩), .int .i64 0]) ∧ w' = w.alloc (rdO (tyOf d) (.slice none 0 0) 0 false false) := by
  rcases hd with rfl | rfl | rfl
  all_goals
    go_enter Tryz.func43, Tryz.ntmps43
    go_wp2
    go_ret2
    exact ⟨rfl, rfl⟩
end Go.Proofs.YtlonjggfnleolaaGreatDoor
