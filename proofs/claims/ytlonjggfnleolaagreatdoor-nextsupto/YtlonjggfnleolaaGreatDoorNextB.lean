/-
  The function that Next gives, for a yield that goes on until so many commands are there.
-/
import Derived.Test.YtlonjggfnleolaaGreatDoorOwnD
import Derived.Test.YtlonjggfnleolaaGreatDoorLawF

namespace Go.Proofs.YtlonjggfnleolaaGreatDoor
open Go.RowKit Go.Shelf
set_option linter.unusedVariables false
attribute [local go_sem] Oper.semAt_some

theorem drainF_none {d : Int} {s : St} (h : readR d s.held = none) (n : Nat) : drainF d n s = ([], s) := by
  cases n with
  | zero => rfl
  | succ n => unfold drainF; rw [h]
theorem drainF_some {d : Int} {s : St} {x : StepR} (h : readR d s.held = some x) (n : Nat) : drainF d (n + 1) s = (x.c :: (drainF d n (afterS s x)).1, (drainF d n (afterS s x)).2) := by
  conv => lhs; unfold drainF
  rw [h]
theorem drainF_count (d : Int) : ∀ (n : Nat) (s : St), (drainF d n s).1.length ≤ n ∧ (drainF d n s).1.length + (drainF d n s).2.held.length ≤ s.held.length ∧ ((drainF d n s).1.length < n → readR d (drainF d n s).2.held = none) := by
  intro n
  induction n with
  | zero => intro s; exact ⟨Nat.le_refl _, by show 0 + s.held.length ≤ _; omega, fun h => absurd h (by show ¬ 0 < 0; omega)⟩
  | succ n ih =>
    intro s
    cases h : readR d s.held with
    | none => rw [drainF_none h]; exact ⟨Nat.zero_le _, by show 0 + s.held.length ≤ _; omega, fun _ => h⟩
    | some x =>
      rw [drainF_some h]
      obtain ⟨h1, h2, h3⟩ := ih (afterS s x)
      have hl := afterS_len h
      refine ⟨by simp; omega, by simp; omega, fun hh => h3 ?_⟩
      simp at hh
      exact hh
/-- The i-th command, and the state ahead of it. -/
theorem drainF_at (d : Int) : ∀ (n : Nat) (s : St) (i : Nat), i < (drainF d n s).1.length → ∃ x, readR d (drainF d i s).2.held = some x ∧ (drainF d n s).1[i]? = some x.c ∧ (drainF d (i + 1) s).2 = afterS (drainF d i s).2 x := by
  intro n
  induction n with
  | zero => intro s i h; exact absurd h (by show ¬ i < 0; omega)
  | succ n ih =>
    intro s i hi
    cases h : readR d s.held with
    | none => rw [drainF_none h] at hi; exact absurd hi (by show ¬ i < 0; omega)
    | some x =>
      rw [drainF_some h] at hi ⊢
      cases i with
      | zero => exact ⟨x, h, rfl, by rw [drainF_some h]; rfl⟩
      | succ i =>
        obtain ⟨y, h1, h2, h3⟩ := ih (afterS s x) i (by simp at hi; exact hi)
        refine ⟨y, ?_, ?_, ?_⟩
        · rw [drainF_some h]; exact h1
        · simpa using h2
        · rw [drainF_some h, drainF_some h]; exact h3
theorem drainF_stop (d : Int) : ∀ (n : Nat) (s : St), (drainF d (drainF d n s).1.length s).2 = (drainF d n s).2 := by
  intro n
  induction n with
  | zero => intro s; rfl
  | succ n ih =>
    intro s
    cases h : readR d s.held with
    | none => simp only [drainF_none h]
    | some x =>
      rw [drainF_some h]
      show (drainF d ((drainF d n (afterS s x)).1.length + 1) s).2 = _
      rw [drainF_some h]
      exact ih (afterS s x)

set_option maxRecDepth 20000 in
set_option maxHeartbeats 2000000 in
theorem next1_cut (l X D t N : Nat) (d : Int) (W0 : World) (J Jx : Option Nat → List Cmd → World → Prop) (hN : 0 < N)
    (hRead : ∀ W hb s, RdrAt W D hb t s → s.held.length ≤ 140737488355328 → Calls Tryz.prog 121 #[.pointer (some ⟨D, 0, none⟩)] W fun e w' => ReadOut W w' D hb t s (readR d s.held) e)
    (hB : ∀ hb done W W2, J hb done W → Below W.heap.size W W2 → J hb done W2)
    (hY : ∀ hb done W s x W1 ka kn kc, J hb done W → done.length < N → RdrAt W D hb t s → readR d s.held = some x → KeysIn W1 W.heap.size (.slice ka kn kc) x.c.keys → RdrTo W W1 D hb t (afterS s x) → W1.heap[X]? = some (boxR D) →
      YieldAt Fence.wide 7 Tryz.prog l #[.agg #[.int .i64 x.c.kind, .slice ka kn kc, .string x.c.val, .string x.c.word, .bool x.c.fatal, .int .i64 x.c.id]] (W1.alloc (.cells #[.int .i64 x.c.kind, .slice ka kn kc, .string x.c.val, .string x.c.word, .bool x.c.fatal, .int .i64 x.c.id] 36)) fun e W' => ∃ hb', RdrAt W' D hb' t (afterS s x) ∧ W'.heap[X]? = some (boxR D) ∧ ((e = .returned (.bool true) ∧ done.length + 1 < N ∧ J hb' (done ++ [x.c]) W') ∨ (e = .returned (.bool false) ∧ done.length + 1 = N ∧ Jx hb' (done ++ [x.c]) W')))
    (s : St) (hb : Option Nat) (R : RdrAt W0 D hb t s) (hX : W0.heap[X]? = some (boxR D)) (h0 : J hb [] W0) (hsm : s.held.length ≤ 140737488355328) :
    CallsIn Fence.wide 8 Tryz.prog 120 #[.func (.yield l) #[] #[], .pointer (some ⟨X, 0, none⟩)] W0 fun e W' => (∃ v, e = .returned v) ∧ ∃ hb', RdrAt W' D hb' t (drainF d N s).2 ∧ (J hb' (drainF d N s).1 W' ∨ Jx hb' (drainF d N s).1 W') := by
  have HRd := hide' hRead
  have HB := hide' hB
  have HY := hide' hY
  have H0 := hide' (And.intro R (And.intro hX h0))
  clear hRead hB hY h0 R hX
  generalize hTOT : (drainF d N s).1 = TOT
  generalize hFIN : (drainF d N s).2 = FIN
  have HT := hide' (And.intro hTOT hFIN)
  clear hTOT hFIN
  refine callsIn_of_wp Tryz.func120 rfl trivial ?_ rfl
  simp only [Tryz.ntmps120, List.size_toArray, List.length_cons, List.length_nil, Nat.reduceAdd, Nat.reduceSub, Array.replicate_succ, Array.replicate_zero, List.push_toArray, List.append_toArray, List.nil_append, List.cons_append]
  gi_wp2
  gi_loopw [3, 4] (fun _ _ wr => ∃ (s' : St) (hb' : Option Nat) (done : List Cmd) (m : Nat), s'.held.length ≤ 140737488355328 ∧ Hid (RdrAt wr D hb' t s' ∧ wr.heap[X]? = some (boxR D) ∧ J hb' done wr ∧ done.length + (m + 1) = N ∧ done ++ (drainF d (m + 1) s').1 = TOT ∧ (drainF d (m + 1) s').2 = FIN)) (fun _ _ wr => heldLen wr D)
  case atStart => exact ⟨s, hb, [], N - 1, hsm, H0.out.1, H0.out.2.1, H0.out.2.2, by simp; omega, by rw [List.nil_append, Nat.sub_add_cancel hN]; exact HT.out.1, by rw [Nat.sub_add_cancel hN]; exact HT.out.2⟩
  case round =>
    obtain ⟨s', hb', done, m, hsm', HJ⟩ := hrel
    have hXw := HJ.out.2.1
    unfold boxR at hXw
    have x0 := blkCell hXw 0
    simp at x0
    have hXlt := blkLt hXw
    clear hXw
    have HX2 := hide' (HRd.out wr hb' s' HJ.out.1 hsm')
    cases hrr : readR d s'.held with
    | none =>
      rw [hrr] at HX2
      gi_wp2_with fail
      refine ⟨trivial, ?_⟩
      refine (callsIn_wide.2 HX2.out).mono ?_
      rintro e w1 ⟨rfl, R1, B1⟩
      have H1 := hide' (And.intro R1 B1)
      clear R1 B1
      unfold zCmd
      gi_wp2
      refine ⟨fun _ h => (by cases h), ?_⟩
      gi_wp2
      refine bodyPost_ret (results_none rfl _ _ _) rfl ?_
      have hd := drainF_none hrr (m + 1)
      have hT := HJ.out.2.2.2.2
      rw [hd] at hT
      have hbb := H1.out.2.alloc H1.out.2.size (.cells #[.int .i64 0, .slice none 0 0, .string ⟨#[]⟩, .string ⟨#[]⟩, .bool false, .int .i64 0] 36)
      refine ⟨⟨_, rfl⟩, hb', ?_, .inl ?_⟩
      · rw [← hT.2]; exact HJ.out.1.below hbb
      · rw [← hT.1, List.append_nil]; exact HB.out _ _ _ _ HJ.out.2.2.1 hbb
    | some x =>
      rw [hrr] at HX2
      have HRR := hide' hrr
      clear hrr
      gi_wp2_with fail
      refine ⟨trivial, ?_⟩
      refine (callsIn_wide.2 HX2.out).mono ?_
      rintro e w1 ⟨ka, kn, kc, rfl, hk1, T1⟩
      have hap := HJ.out.1.apart (b := X) (show wr.heap[X]? = some (.cells #[.pointer (some ⟨D, 0, none⟩)] 97 (0, 0)) from HJ.out.2.1) (by decide) (by decide)
      have hX1 := (T1.turn.block X hXlt hap.1 hap.2).trans HJ.out.2.1
      have hy := HY.out hb' done wr s' x w1 ka kn kc HJ.out.2.2.1 (by have := HJ.out.2.2.2.1; omega) HJ.out.1 HRR.out hk1 T1 hX1
      obtain ⟨fn, tmps, assign, body, hy1, hy2⟩ := hy
      have HY2 := hide' hy2
      have HT1 := hide' (And.intro hk1 (And.intro T1 hX1))
      clear hk1 T1 hX1 hy2 hap
      gi_wp2
      refine HY2.out.mono ?_
      rintro e W2 ⟨hb2, R2, hX2, ⟨rfl, hlt2, J2⟩ | ⟨rfl, hlt2, J2⟩⟩
      · have H2 := hide' (And.intro R2 (And.intro hX2 (And.intro J2 hlt2)))
        clear R2 hX2 J2 hy1 HY2 hlt2
        gi_wp2
        go_roundw
        case rel =>
          have hT := HJ.out.2.2.2
          have hl := afterS_len HRR.out
          have hlt2 := H2.out.2.2.2
          obtain ⟨m', rfl⟩ : ∃ m', m = m' + 1 := ⟨m - 1, by omega⟩
          rw [drainF_some HRR.out] at hT
          refine ⟨afterS s' x, hb2, done ++ [x.c], m', by omega, H2.out.1, H2.out.2.1, H2.out.2.2.1, by have := hT.1; simp; omega, ?_, hT.2.2⟩
          rw [List.append_assoc]; exact hT.2.1
        case measure =>
          have hl := afterS_len HRR.out
          rw [H2.out.1.len, HJ.out.1.len]
          exact hl
      · have H2 := hide' (And.intro R2 (And.intro hX2 (And.intro J2 hlt2)))
        clear R2 hX2 J2 hy1 HY2 hlt2
        gi_wp2
        refine bodyPost_ret (results_none rfl _ _ _) rfl ?_
        have hT := HJ.out.2.2.2
        have hlt2 := H2.out.2.2.2
        obtain rfl : m = 0 := by omega
        rw [drainF_some HRR.out] at hT
        refine ⟨⟨_, rfl⟩, hb2, ?_, .inr ?_⟩
        · rw [← hT.2.2]; exact H2.out.1
        · rw [← hT.2.1]; exact H2.out.2.2.1
end Go.Proofs.YtlonjggfnleolaaGreatDoor


/-
  nexted: Next of one reader, the program's and the reference's.
-/

namespace Go.Proofs.YtlonjggfnleolaaGreatDoor
open Go.RowKit Go.Shelf
set_option linter.unusedVariables false
attribute [local go_sem] Oper.semAt_some

theorem drainF_sub (d : Int) : ∀ (n : Nat) (s : St) (c : Cmd), c ∈ (drainF d n s).1 → c ∈ (drainS d s).1 := by
  intro n
  induction n with
  | zero => intro s c h; cases h
  | succ n ih =>
    intro s c h
    cases hr : readR d s.held with
    | none => rw [drainF_none hr] at h; cases h
    | some x =>
      rw [drainF_some hr] at h
      rw [drainS_some hr]
      rcases List.mem_cons.1 h with h | h
      · exact List.mem_cons.2 (.inl h)
      · exact List.mem_cons.2 (.inr (ih _ c h))

theorem turn_keep {W W' : World} {Y : Nat} {d : Int} {s : St} (R : RefAt W Y d s) (T : Turn Y W W') {b : Nat} {o : Obj} (hb : W.heap[b]? = some o) (ho : ∀ Z f, o ≠ .cells Z 195 f) : W'.heap[b]? = some o :=
  (T.block b (blkLt hb) (fun e => by have h := R.at_; rw [← e, hb] at h; unfold refO at h; exact ho _ _ (Option.some.inj h))).trans hb
theorem RefAt.below' {W W' : World} {Y : Nat} {d : Int} {s : St} (R : RefAt W Y d s) (h : Below W.heap.size W W') : RefAt W' Y d s := ⟨(h.block Y (blkLt R.at_)).trans R.at_, R.ok⟩
theorem CmdsAp.turn {W W' : World} {lo hi Y : Nat} {v : Value} {cs : List Cmd} {d : Int} {s : St} (h : CmdsAp W lo hi v cs) (R : RefAt W Y d s) (T : Turn Y W W') : CmdsAp W' lo hi v cs :=
  h.keep (fun b Z t hZ ht _ => (turn_keep R T hZ (fun Z f e => by cases e; rcases ht with h | h <;> cases h)).trans hZ.symm)
/-- What the tail of nexted begins with. -/
structure NxAt (w0 W : World) (A : Nat) (OB : Obj) (r : RdI) (hb' : Option Nat) (v : Value) (cs : List Cmd) (s2 : St) : Prop where
  cm : CmdsAp W w0.heap.size W.heap.size v cs
  rd : RdrAt W r.D hb' (tyOf r.d) s2
  fr : Fresh w0 r.hb hb'
  tn : Turn2 r.D r.hb w0 W
  rf : RefAt W r.Y r.d r.s
  pr : W.heap[r.P]? = some (.cells #[.pointer (some ⟨r.D, 0, none⟩), .pointer (some ⟨r.Y, 0, none⟩)] 193 (0, 0))
  ob : W.heap[A]? = some OB
  lb : W.heap[A + 1]? = some (.cells #[v] 28 (0, 0))
theorem NxAt.turn {w0 W W' : World} {A : Nat} {OB : Obj} {r : RdI} {hb' : Option Nat} {v : Value} {cs : List Cmd} {s2 : St} (h : NxAt w0 W A OB r hb' v cs s2) (hOB : ∃ Z, OB = .cells Z 95 (0, 0)) (T : Turn r.Y W W') :
    CmdsAp W' w0.heap.size W.heap.size v cs ∧ W'.heap[r.P]? = some (.cells #[.pointer (some ⟨r.D, 0, none⟩), .pointer (some ⟨r.Y, 0, none⟩)] 193 (0, 0)) ∧ W'.heap[A]? = some OB ∧ W'.heap[A + 1]? = some (.cells #[v] 28 (0, 0)) := by
  obtain ⟨Z, rfl⟩ := hOB
  exact ⟨h.cm.turn h.rf T, turn_keep h.rf T h.pr (fun Z f e => by cases e), turn_keep h.rf T h.ob (fun Z f e => by cases e), turn_keep h.rf T h.lb (fun Z f e => by cases e)⟩
theorem eqNil (b : Nat) (W : World) : Sem.run Tryz.prog (binOp BinOp.eql 157 (Value.func (Fn.func 120) #[] #[Value.pointer (some { block := b, off := 0 })]) Value.nilFunc) W = .ok (.bool false) W := by kernel_rfl
theorem nx_begin {w0 W0 W7 : World} {lo A : Nat} {OB : Obj} {r : RdI} {hb7 : Option Nat} {s' : St} (hr0 : RdOk w0 lo r) (hb1 : Below w0.heap.size w0 W0) (hob : w0.heap[A]? = some OB) (hOB : ∃ Z, OB = .cells Z 95 (0, 0)) (hlb : W0.heap[A + 1]? = some (.cells #[.slice none 0 0] 28 (0, 0)))
    (R1 : RdrAt W7 r.D hb7 (tyOf r.d) s') (F1 : Fresh W0.drew r.hb hb7) (T1 : Turn2 r.D r.hb W0.drew W7) : NxAt w0 W7 A OB r hb7 (.slice none 0 0) [] s' := by
  have T1' : Turn2 r.D r.hb W0 W7 := ⟨T1.os, T1.tape, T1.output, T1.size, T1.block⟩
  have T0 : Turn2 r.D r.hb w0 W7 := (Turn2.of_below hb1).trans T1' (.inl rfl)
  have hs := hb1.size
  have keep : ∀ {b t : Nat} {Z : Array Value}, w0.heap[b]? = some (.cells Z t (0, 0)) → t ≠ 134 → t ≠ 5 → W7.heap[b]? = some (.cells Z t (0, 0)) := fun hb h1 h2 => (T0.block _ (blkLt hb) (hr0.rd.apart hb h1 h2).1 (hr0.rd.apart hb h1 h2).2).trans hb
  refine ⟨CmdsAp.nil _ _ _, R1, ?_, T0, hr0.rf.turn2 hr0.rd T0, keep hr0.pair (by decide) (by decide), ?_, ?_⟩
  · rcases F1 with h | h | ⟨k, h, hk⟩
    · exact .inl h
    · exact .inr (.inl h)
    · exact .inr (.inr ⟨k, h, Nat.le_trans hs hk⟩)
  · obtain ⟨Z, rfl⟩ := hOB
    exact keep hob (by decide) (by decide)
  · have ha := (hr0.rd.below hb1).apart hlb (by decide) (by decide)
    exact (T1'.block _ (blkLt hlb) ha.1 ha.2).trans hlb
theorem nx_of {b0 W8 : World} {lo A : Nat} {OB : Obj} {r : RdI} {hb8 : Option Nat} {v : Value} {cs : List Cmd} {s' : St} (hr0 : RdOk b0 lo r) (hob : b0.heap[A]? = some OB) (hOB : ∃ Z, OB = .cells Z 95 (0, 0)) (hlb : W8.heap[A + 1]? = some (.cells #[v] 28 (0, 0)))
    (hcm : CmdsAp W8 b0.heap.size W8.heap.size v cs) (R1 : RdrAt W8 r.D hb8 (tyOf r.d) s') (F1 : Fresh b0 r.hb hb8) (T0 : Turn2 r.D r.hb b0 W8) : NxAt b0 W8 A OB r hb8 v cs s' := by
  have keep : ∀ {b t : Nat} {Z : Array Value}, b0.heap[b]? = some (.cells Z t (0, 0)) → t ≠ 134 → t ≠ 5 → W8.heap[b]? = some (.cells Z t (0, 0)) := fun hb h1 h2 => (T0.block _ (blkLt hb) (hr0.rd.apart hb h1 h2).1 (hr0.rd.apart hb h1 h2).2).trans hb
  refine ⟨hcm, R1, F1, T0, hr0.rf.turn2 hr0.rd T0, keep hr0.pair (by decide) (by decide), ?_, hlb⟩
  obtain ⟨Z, rfl⟩ := hOB
  exact keep hob (by decide) (by decide)
theorem put_law {w w6 : World} {lo B D' nx : Nat} {o : Obj} {rv csv cmv ssv smv : Value} {M : List TxM} {N : List CmM} {rs : List RdI} (hD : ∀ Z T f, w6.heap[D']? ≠ some (.cells Z T f)) (hlo : lo ≤ D') (e1 : OwnW w6 lo B (fun g => g < w6.heap.size) rv M N nx csv cmv ssv smv) (e2 : RdsAt w6 lo rv rs) (e5 : Below lo w w6) (e6 : Kept95 w w6) :
    OwnW (w6.putObj D' o) lo B (fun g => g < (w6.putObj D' o).heap.size) rv M N nx csv cmv ssv smv ∧ RdsAt (w6.putObj D' o) lo rv rs ∧ Below lo w (w6.putObj D' o) ∧ Kept95 w (w6.putObj D' o) := by
  have k : ∀ (b : Nat) (Z : Array Value) (T : Nat), w6.heap[b]? = some (.cells Z T (0, 0)) → (w6.putObj D' o).heap[b]? = w6.heap[b]? := fun b Z T hZ => World.putObj_heap_other (fun e => hD Z T _ (by rw [← e]; exact hZ))
  refine ⟨(e1.keep (fun b Z T hZ _ => k b Z T hZ) (fun b Z T hZ _ _ => k b Z T hZ)).take, e2.keep (fun b Z T hZ _ => k b Z T hZ), ⟨e5.os, e5.tape, e5.output, by simpa using e5.size, fun b hb => (World.putObj_heap_other (by omega)).trans (e5.block b hb)⟩, fun b Z hb => (k b Z 95 (e6 b Z hb)).trans (e6 b Z hb)⟩
set_option maxRecDepth 20000 in
set_option maxHeartbeats 4000000 in
theorem nexted_none (B nx lo i n : Nat) (rv csv cmv ssv smv : Value) (M : List TxM) (N : List CmM) (rs : List RdI) (r : RdI) (at' ck : Int) (kv : Value) (val cw : ByteArray) (ft : Bool) (cid ak : Int) (fv vv : Value) (wd : ByteArray) (g0 g1 g2 : Int) (s : ByteArray) (x y : Int) (w : World)
    (hO : OwnW w lo B (fun g => g < w.heap.size) rv M N nx csv cmv ssv smv) (hR : RdsAt w lo rv rs) (hi : rs[i]? = some r) (hlo : lo ≤ w.heap.size) (hn : (drainF r.d x.toNat (takeS r.s s.data.toList)).1.length = n) (hsz : r.s.held.length + s.size ≤ 2000000) (hM : M.length ≤ 4900000000000) (hN : N.length ≤ 1000000000000) (hnx : nx ≤ 900000000000000) (hx : x ≤ 0) :
    Calls Tryz.prog 107 #[.pointer (some ⟨B, 0, none⟩), .pointer (some ⟨r.P, 0, none⟩), Value.agg #[.int .i64 7, .int .i64 at', .int .i64 ck, kv, .string val, .string cw, .bool ft, .int .i64 cid, .int .i64 ak, fv, vv, .string wd, .int .i64 g0, .int .i64 g1, .int .i64 g2, .string s, .int .i64 x, .int .i64 y]] w fun e w' => e = .returned (.bool true) ∧ FedTo w w' lo B i n M.length N.length nx rv rs r (drainF r.d x.toNat (takeS r.s s.data.toList)).2 := by
  obtain ⟨OB, hOB⟩ : ∃ OB, OB = Obj.cells #[.int .i64 7, .int .i64 at', .int .i64 ck, kv, .string val, .string cw, .bool ft, .int .i64 cid, .int .i64 ak, fv, vv, .string wd, .int .i64 g0, .int .i64 g1, .int .i64 g2, .string s, .int .i64 x, .int .i64 y] 95 := ⟨_, rfl⟩
  have hb0 : Below w.heap.size w (w.alloc OB) := (Below.refl _ _).alloc (Nat.le_refl _) _
  have hx15 : (w.alloc OB).cell? ⟨w.heap.size, 15, none⟩ = some (.string s) := by rw [hOB]; exact blkCell (blkNew w _) 15
  have hx16 : (w.alloc OB).cell? ⟨w.heap.size, 16, none⟩ = some (.int .i64 x) := by rw [hOB]; exact blkCell (blkNew w _) 16
  have hbx : (w.alloc OB).heap[w.heap.size]? = some OB := blkNew w _
  have hsz0 : (w.alloc OB).heap.size = w.heap.size + 1 := World.size_alloc _ _
  have hcnt := drainF_count r.d x.toNat (takeS r.s s.data.toList)
  have htl := takeS_len r.s s.data.toList
  rw [len_size] at htl
  have hn2 : n ≤ 2000000 := by omega
  have hO0 : OwnW (w.alloc OB) lo B (fun g => g < (w.alloc OB).heap.size) rv M N nx csv cmv ssv smv := (hO.below hb0).more (fun g hg => by rw [hsz0]; omega)
  have hR0 := hR.below hb0
  have hr := hR.all r (List.mem_of_getElem? hi)
  have hr0 := hR0.all r (List.mem_of_getElem? hi)
  have hlo0 : lo ≤ (w.alloc OB).heap.size := by omega
  have hkeys : ∀ c ∈ (drainF r.d x.toNat (takeS r.s s.data.toList)).1, c.keys.length ≤ 4 ∧ ∀ k ∈ c.keys, k.size ≤ 8 := fun c hc => feed_keys r.d r.s s.data.toList c (drainF_sub r.d x.toNat _ c hc)
  have hat := drainF_at r.d x.toNat (takeS r.s s.data.toList)
  have hstop := drainF_stop r.d x.toNat (takeS r.s s.data.toList)
  have HRP := hide' (fun (W : World) (hW : RefAt W r.Y r.d r.s) => refpush_any r.Y r.d r.s s W hW (by omega))
  have HRN := hide' (fun (W : World) (j : Nat) (hW : RefAt W r.Y r.d (drainF r.d j (takeS r.s s.data.toList)).2) => refnext_any r.Y r.d _ W hr.di hW (by have := (drainF_count r.d j (takeS r.s s.data.toList)).2.1; omega))
  have HTwo := hide' (fun (w1 w2 : World) (v : Value) (hb' : Option Nat) A1 R1 F1 T1 Y2 T2 => fed_two (w1 := w1) (w2 := w2) (v := v) (hb' := hb') (s' := (drainF r.d x.toNat (takeS r.s s.data.toList)).2) (cs := (drainF r.d x.toNat (takeS r.s s.data.toList)).1) hO0 hR0 hi hlo0 A1 R1 F1 T1 Y2 T2)
  have HB0 := hide' (hb0.mono hlo)
  have HK0 := hide' (Kept95.of_below hb0)
  have HOB : Hid (∃ Z, OB = .cells Z 95 (0, 0)) := ⟨_, hOB⟩
  have HBX := hide' hbx
  have HR0 := hide' hr0
  have hPl := blkLt hr0.pair
  have hxl := blkLt hbx
  clear hb0 hO hR hO0 hR0 hr hi hbx
  -- behind the box of the list
  obtain ⟨LB, hLB⟩ : ∃ LB, LB = Obj.cells #[.slice none 0 0] 28 := ⟨_, rfl⟩
  have hb1 : Below (w.alloc OB).heap.size (w.alloc OB) ((w.alloc OB).alloc LB) := (Below.refl _ _).alloc (Nat.le_refl _) _
  have HB1 := hide' hb1
  have hP' := (hb1.block r.P hPl).trans hr0.pair
  have cP0 := blkCell hP' 0
  have cP1 := blkCell hP' 1
  simp at cP0 cP1
  have hx15' : ((w.alloc OB).alloc LB).cell? ⟨w.heap.size, 15, none⟩ = some (.string s) := (hb1.cell (p := ⟨w.heap.size, 15, none⟩) hxl).trans hx15
  have hx16' : ((w.alloc OB).alloc LB).cell? ⟨w.heap.size, 16, none⟩ = some (.int .i64 x) := (hb1.cell (p := ⟨w.heap.size, 16, none⟩) hxl).trans hx16
  have HLB : Hid (((w.alloc OB).alloc LB).heap[w.heap.size + 1]? = some (.cells #[.slice none 0 0] 28 (0, 0))) := by
    have h := blkNew (w.alloc OB) LB
    rw [hsz0, hLB] at h
    rw [hLB]
    exact h
  have HF := hide' (next_any r.D (tyOf r.d) r.hb r.s s ((w.alloc OB).alloc LB).drew ((hr0.rd.below hb1).other rfl (fun b hb => rfl)) (by omega))
  have HXX := hide' (And.intro hx15 hx16)
  clear hb1 hP' hr0 hx15 hx16
  unfold FedTo
  refine (callsIn_wide (n := 9)).1 ?_
  refine callsIn_of_wp_marks Tryz.func107 rfl trivial ?_ rfl
  simp only [Tryz.ntmps107, List.size_toArray, List.length_cons, List.length_nil, Nat.reduceAdd, Nat.reduceSub, Array.replicate_succ, Array.replicate_zero, List.push_toArray, List.append_toArray, List.nil_append, List.cons_append]
  refine wpIn_wide.2 ?_
  go_wp2_with fail
  rw [← hOB, ← hLB]
  have hx0 : x.toNat = 0 := by omega
  have hxn : ¬ 0 < x := by omega
  generalize hW0 : (w.alloc OB).alloc LB = W0 at *
  go_region_held3 (fun W' => W'.cell? ⟨r.P, 0, none⟩ = some (.pointer (some ⟨r.D, 0, none⟩)) ∧ W'.cell? ⟨w.heap.size, 15, none⟩ = some (.string s)) (go_keep) (first
    | (go_at_call 73; refine HF.out.mono ?_; rintro e W7 ⟨rfl, hX1, hb7, R1, F1, T1⟩; have hN7 := nx_begin HR0.out HB1.out HBX.out HOB.out HLB.out R1 F1 T1; have HX1 := hide' hX1; have c7P0 := blkCell hN7.pr 0; have c7x15 : W7.cell? ⟨w.heap.size, 15, none⟩ = some (.string s) := (World.cell?_of_block (a := ⟨w.heap.size, 15, none⟩) (hN7.ob.trans HBX.out.symm)).trans HXX.out.1; have c7x16 : W7.cell? ⟨w.heap.size, 16, none⟩ = some (.int .i64 x) := (World.cell?_of_block (a := ⟨w.heap.size, 16, none⟩) (hN7.ob.trans HBX.out.symm)).trans HXX.out.2; simp at c7P0; have hP7 := blkLt hN7.pr; have hA7 := blkLt hN7.ob; have HN0 := hide' hN7; clear cP0 cP1 hx15' hx16' hX1 R1 F1 T1 hN7)
    | fail)
  clear HF HB1 HLB
  go_wp2_with fail
  rw [eqNil]
  go_wp2_with fail
  obtain ⟨la, hla⟩ : ∃ la : Option Addr, la = none := ⟨_, rfl⟩
  obtain ⟨lc, hlc⟩ : ∃ lc : Nat, lc = 0 := ⟨_, rfl⟩
  have hn0 : n = 0 := by rw [hx0] at hn; exact hn.symm
  have HN7 : Hid (NxAt (w.alloc OB) W7 w.heap.size OB r hb7 (.slice la n lc) (drainF r.d x.toNat (takeS r.s s.data.toList)).1 (drainF r.d x.toNat (takeS r.s s.data.toList)).2) := by rw [hla, hlc, hn0, hx0]; exact HN0.out
  have hxc : (n : Int) < x → n < x.toNat := by omega
  have HN00 := hide' hn0
  have HX00 := hide' hx
  clear HN0 HX1 c7P0 c7x15 c7x16 hP7 hA7 hla hlc hx0 hxn hn0 hx
  have HC := hide' (And.intro hat (And.intro hkeys (And.intro hcnt (And.intro hstop (And.intro hn hxc)))))
  clear hat hkeys hcnt hstop hn hxc htl
  have c7P1 := blkCell HN7.out.pr 1
  have c7x15 : W7.cell? ⟨w.heap.size, 15, none⟩ = some (.string s) := (World.cell?_of_block (a := ⟨w.heap.size, 15, none⟩) (HN7.out.ob.trans HBX.out.symm)).trans HXX.out.1
  simp at c7P1
  have hP7 := blkLt HN7.out.pr
  have hA7 := blkLt HN7.out.ob
  go_region_held3 (fun W' => W'.cell? ⟨r.P, 1, none⟩ = some (.pointer (some ⟨r.Y, 0, none⟩)) ∧ W'.cell? ⟨w.heap.size, 15, none⟩ = some (.string s)) (go_keep) (first
    | (go_at_call 148; refine (HRP.out W7.drew ⟨HN7.out.rf.at_, HN7.out.rf.ok⟩).mono ?_; rintro e w2 ⟨rfl, Y2, T2⟩; have T2' : Turn r.Y W7 w2 := ⟨T2.os, T2.tape, T2.output, T2.size, T2.block⟩; have hk2 := HN7.out.turn HOB.out T2'; have c2P1 := blkCell hk2.2.1 1; have c2x : w2.cell? ⟨w.heap.size, 15, none⟩ = some (.string s) := (World.cell?_of_block (a := ⟨w.heap.size, 15, none⟩) (hk2.2.2.1.trans HBX.out.symm)).trans HXX.out.1; simp at c2P1; have HY2 := hide' (And.intro Y2 T2'); clear Y2 T2 T2' hk2 c7P1 c7x15)
    | fail)
  clear HRP c2P1 c2x
  go_wp2_with fail
  go_loopw [10, 11] (fun ok i wr => ∃ j : Nat, ok = .bool true ∧ i = .int .i64 (j : Int) ∧ j ≤ n ∧ Hid (RefAt wr r.Y r.d (drainF r.d j (takeS r.s s.data.toList)).2 ∧ Turn r.Y W7 wr)) (fun _ i _ => n - (intOf i).toNat)
  case atStart => exact ⟨0, rfl, rfl, Nat.zero_le _, HY2⟩
  case round =>
    obtain ⟨j, rfl, rfl, hj, HJ⟩ := hrel
    have hkj := HN7.out.turn HOB.out HJ.out.2
    have cjP0 := blkCell hkj.2.1 0
    have cjP1 := blkCell hkj.2.1 1
    have cjL := blkCell hkj.2.2.2 0
    simp at cjP0 cjP1 cjL
    have cjx : wr.cell? ⟨w.heap.size, 16, none⟩ = some (.int .i64 x) := (World.cell?_of_block (a := ⟨w.heap.size, 16, none⟩) (hkj.2.2.1.trans HBX.out.symm)).trans HXX.out.2
    have hPj := blkLt hkj.2.1
    have hLj := blkLt hkj.2.2.2
    have hAj := blkLt hkj.2.2.1
    clear hkj
    by_cases hlt : j < n
    · have := HN00.out; omega
    · have hjn : j = n := by omega
      subst hjn
      clear hlt hj
      have HOwn : Hid (∀ W, RefAt W r.Y r.d (drainF r.d x.toNat (takeS r.s s.data.toList)).2 → Turn r.Y W7 W → Calls Tryz.prog 110 #[.pointer (some ⟨B, 0, none⟩), .slice la j lc] W fun e w' => e = .returned (.tuple #[]) ∧ ∃ M' N' csv' cmv' ssv' smv' hb', OwnW w' lo B (fun g => g < w'.heap.size) rv M' N' (nx + j + 1) csv' cmv' ssv' smv' ∧ RdsAt w' lo rv (rs.set i { r with hb := hb', s := (drainF r.d x.toNat (takeS r.s s.data.toList)).2 }) ∧ M'.length = M.length + 4 * j ∧ N'.length = N.length + 4 ∧ Below lo w w' ∧ Kept95 w w' ∧ CmTo W w' lo) := fun W hY hT => by
        have h2 := HTwo.out W7 W _ _ HN7.out.cm HN7.out.rd HN7.out.fr HN7.out.tn hY hT
        have h7 := HN7.out.tn.size
        have h8 := hT.size
        refine (ownCommands_any B nx lo (w.alloc OB).heap.size W7.heap.size rv csv cmv ssv smv M N la lc j _ W h2.1 HC.out.2.2.2.2.1 h2.2.2.1 h8 hlo0 (Nat.le_trans h7 h8) hn2 (fun c hc => by have := (HC.out.2.1 c hc).1; omega) hM hN hnx).mono ?_
        rintro e w' ⟨rfl, M', N', csv', cmv', ssv', smv', h11, h12, h13, h14⟩
        exact ⟨rfl, M', N', csv', cmv', ssv', smv', hb7, h11, h2.2.1.cm h14, h12, h13, HB0.out.trans (h2.2.2.2.1.trans h14.below), HK0.out.trans (h2.2.2.2.2.trans (Kept95.of_cm h14)), h14⟩
      have HST : Hid ((drainF r.d j (takeS r.s s.data.toList)).2 = (drainF r.d x.toNat (takeS r.s s.data.toList)).2) := by
        have h1 := HC.out.2.2.2.1
        rw [HC.out.2.2.2.2.1] at h1
        exact h1
      have hjx : ¬ (j : Int) < x := by have := HX00.out; omega
      go_wp2_with fail
      go_at_call 110
      refine (HOwn.out _ (by rw [← HST.out]; exact HJ.out.1) HJ.out.2).mono ?_
      rintro e w6 ⟨rfl, h6⟩
      have H6 := hide' h6
      clear h6
      go_wp2
      refine ⟨_, results_tmp rfl _ _ _, rfl, ?_⟩
      obtain ⟨M', N', csv', cmv', ssv', smv', hb', e1, e2, e3, e4, e5, e6, e7⟩ := H6.out
      exact ⟨M', N', csv', cmv', ssv', smv', hb', e1, e2, e3, e4, e5, e6⟩
end Go.Proofs.YtlonjggfnleolaaGreatDoor
