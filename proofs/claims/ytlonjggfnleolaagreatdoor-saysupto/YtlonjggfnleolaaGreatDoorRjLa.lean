/-
  The reference: a part for a key is sent.
-/
import Derived.Test.YtlonjggfnleolaaGreatDoorRjI
import Derived.Test.YtlonjggfnleolaaGreatDoorRefAsk
import Derived.Test.YtlonjggfnleolaaGreatDoorRjK

namespace Go.Proofs.YtlonjggfnleolaaGreatDoor
open Go.RowKit Go.Shelf
set_option linter.unusedVariables false

/-- A part was sent. -/
def RSentTo (w w' : World) (X sv pt win : Nat) (cv rv : Value) (cis : List RCliI) (cs : List CliS) (vs : List Nat) (ss : List SrvS) (k : Int) (val key : ByteArray) (P : Nat) : Prop :=
  w.heap.size ≤ P ∧ RJunAt w' X sv pt win cv rv cis cs vs (sendS sv pt k val ss key) ∧ (∃ o id, RPartOk w' (sendS sv pt k val ss key) ⟨P, o, id⟩) ∧ Chg vs w w'
theorem askS_sent (k : Int) (key val : ByteArray) (id : Nat) : askS 2 k [key] val (id : Int) = sentB k key val id := by
  unfold askS sentB
  rw [if_neg (by decide), if_pos rfl]
  rfl
theorem sent_fin {w W5 : World} {X sv pt win : Nat} {cv rv : Value} {cis : List RCliI} {cs : List CliS} {vs : List Nat} {ss : List SrvS} (h : RJunAt w X sv pt win cv rv cis cs vs ss) (ha : RApart cis vs) {k : Int} {val key : ByteArray} {o S P : Nat} {s : SrvS} {inn : ByteArray} (ho : ownerN sv pt key = o) (hS : vs[o]? = some S) (hs : ss[o]? = some s) (hP : w.heap.size ≤ P) (hPS : P ≠ S)
    (k5 : Chg [S] w W5) (h5 : W5.heap[S]? = some (rsO true s.next inn s.sent)) (hp : W5.heap[P]? = some (rpO o s.next 0 0 ⟨#[]⟩)) (v1 : Value) (hv1 : v1 = .int .i64 ((s.next : Int) + 1)) :
    RSentTo w ((W5.setCell ⟨S, 3, none⟩ (.string (mkB (s.sent ++ (sentB k key val s.next).data.toList)))).setCell ⟨S, 1, none⟩ v1) X sv pt win cv rv cis cs vs ss k val key P := by
  have e : sendS sv pt k val ss key = ss.set o ⟨s.next + 1, s.sent ++ (sentB k key val s.next).data.toList⟩ := by
    unfold sendS
    rw [ho, hs]
  have hol := (List.getElem?_eq_some_iff.1 hs).1
  have kk : Chg [S] w ((W5.setCell ⟨S, 3, none⟩ (.string (mkB (s.sent ++ (sentB k key val s.next).data.toList)))).setCell ⟨S, 1, none⟩ v1) := (k5.set (.inl (by simp)) _).set (.inl (by simp)) _
  have hn : ((W5.setCell ⟨S, 3, none⟩ (.string (mkB (s.sent ++ (sentB k key val s.next).data.toList)))).setCell ⟨S, 1, none⟩ v1).heap[S]? = some (rsO true ((s.next + 1 : Nat) : Int) inn (s.sent ++ (sentB k key val s.next).data.toList)) := by
    subst hv1
    exact (blkSet (i := 1) (blkSet (i := 3) h5 _) _).trans rfl
  have hj := h.srvTo ha (s' := ⟨s.next + 1, s.sent ++ (sentB k key val s.next).data.toList⟩) hS hs kk hn (Nat.le_succ _)
  unfold RSentTo
  rw [e]
  refine ⟨hP, hj, ⟨o, s.next, ⟨0, ⟨#[]⟩, ?_⟩, _, by rw [List.getElem?_set_self hol], Nat.lt_succ_self _⟩, kk.more (fun x hx => ?_)⟩
  · exact hs_set (hs_set hp hPS) hPS
  · simp at hx
    rw [hx]
    exact List.mem_of_getElem? hS

set_option maxHeartbeats 2000000 in
set_option maxRecDepth 100000 in
theorem rsends_any {w : World} {X sv pt win : Nat} {cv rv : Value} {cis : List RCliI} {cs : List CliS} {vs : List Nat} {ss : List SrvS} (h : RJunAt w X sv pt win cv rv cis cs vs ss) (ha : RApart cis vs) (hn : cis.length ≤ 1000) (hwl : ∀ s ∈ cs, s.waits.length ≤ 1000000 ∧ ∀ c ∈ s.waits, c.keys.length ≤ 4) (hp1 : 1 ≤ pt) (c : Cmd) (kv : Value) (key : ByteArray) (hcb : cmdB c.kind [key] c.val = true) (hbd : ∀ u ∈ ss, u.next < 65000 ∧ u.sent.length ≤ 100000000000) :
    Calls Tryz.prog 167 #[.pointer (some ⟨X, 0, none⟩), cmdVR c kv, .string key] w fun e w' => ∃ P, e = .returned (.pointer (some ⟨P, 0, none⟩)) ∧ RSentTo w w' X sv pt win cv rv cis cs vs ss c.kind c.val key P := by
  obtain ⟨hkk, _, _, hk8, hv40⟩ := cmdB_in hcb
  have hk8 := hk8 key (by simp)
  have ho := ownerN_lt sv pt key h.s1
  generalize hon : ownerN sv pt key = o at *
  obtain ⟨S, hS⟩ : ∃ S, vs[o]? = some S := ⟨_, List.getElem?_eq_getElem (by rw [h.len]; exact ho)⟩
  obtain ⟨s, hs⟩ : ∃ s, ss[o]? = some s := ⟨_, List.getElem?_eq_getElem (by rw [h.sl]; exact ho)⟩
  obtain ⟨inn, hSb⟩ := h.srv o S s hS hs
  obtain ⟨hnx, hsl⟩ := hbd s (List.mem_of_getElem? hs)
  have HOw : Hid (∀ W, Calls Tryz.prog 138 #[.int .i64 (sv : Int), .int .i64 (pt : Int), .string key] W fun e w' => e = .returned (.int .i64 ((o : Nat) : Int)) ∧ ∃ q, w' = W.drewN q) := fun W => by
    have := refowner_any sv pt key W h.s1 h.s4 hp1 h.pt_ (by unfold maxLen; omega)
    rw [hon] at this
    exact this
  have HFr : Hid (∀ W, Below w.heap.size w W → Calls Tryz.prog 175 #[.pointer (some ⟨X, 0, none⟩), .int .i64 (o : Int), .int .i64 (s.next : Int)] W fun e w' => e = .returned (.int .i64 (s.next : Int)) ∧ w' = W) := fun W hW => rfree_next (h.below hW) hn hwl hs
  have hout : (sentB c.kind key c.val s.next).size ≤ 1000 := by
    have := sentB_size c.kind key c.val s.next hk8 hv40
    rw [len_size] at this
    exact this
  have HAs : Hid (∀ (W : World) (b : Nat), W.heap[b]? = some (.cells #[.string key] 9 (0, 0)) → Calls Tryz.prog 101 #[.int .i64 2, .agg #[.int .i64 c.kind, .slice (some ⟨b, 0, none⟩) 1 1, .string c.val, .string ⟨#[]⟩, .bool false, .int .i64 0], .int .i64 (s.next : Int)] W fun e w' => e = .returned (.tuple #[.string (sentB c.kind key c.val s.next), .int .i64 0]) ∧ Below W.heap.size W w') := fun W b hb => by
    have hSt : StrsIn W (some ⟨b, 0, none⟩) 1 1 [key] := ⟨rfl, Nat.le_refl _, by simp, by simp; unfold maxLen; omega, .inl ⟨b, 0, rfl, blkLt hb, fun i x hx => by
      cases i with
      | zero => simp at hx; rw [← hx]; exact blkCell hb 0
      | succ i => simp at hx⟩⟩
    have hvm : c.val.size ≤ maxLen := by unfold maxLen; omega
    have hfr : frSayB c.kind 1 (s.next : Int) = true := by
      unfold frSayB
      simp
      omega
    rw [← askS_sent]
    have hcb' := hcb
    rcases hkk with e | e | e
    · rw [e] at hcb' hfr ⊢
      exact refask2_1 b 0 1 key c.val ⟨#[]⟩ false 0 (s.next : Int) W hSt hvm hcb' hfr (blkLt hb) (Nat.le_refl _) (blkCell hb 0)
    · rw [e] at hcb' hfr ⊢
      exact refask2_2 b 0 1 key c.val ⟨#[]⟩ false 0 (s.next : Int) W hSt hvm hcb' hfr (blkLt hb) (Nat.le_refl _) (blkCell hb 0)
    · rw [e] at hcb' hfr ⊢
      exact refask2_3 b 0 1 key c.val ⟨#[]⟩ false 0 (s.next : Int) W hSt hvm hcb' hfr (blkLt hb) (Nat.le_refl _) (blkCell hb 0)
  have HFin : Hid (∀ (W5 : World) (P : Nat) (v1 : Value), w.heap.size ≤ P → P ≠ S → Chg [S] w W5 → W5.heap[S]? = some (rsO true s.next inn s.sent) → W5.heap[P]? = some (rpO o s.next 0 0 ⟨#[]⟩) → v1 = .int .i64 ((s.next : Int) + 1) → RSentTo w ((W5.setCell ⟨S, 3, none⟩ (.string (mkB (s.sent ++ (sentB c.kind key c.val s.next).data.toList)))).setCell ⟨S, 1, none⟩ v1) X sv pt win cv rv cis cs vs ss c.kind c.val key P) := fun W5 P v1 h1 h2 h3 h4 h5 h6 => sent_fin h ha hon hS hs h1 h2 h3 h4 h5 v1 h6
  obtain ⟨g, cap, hrv, hgl, hgc⟩ := row_at h.srow (by simp) (i := o) (x := ptrV S) (by rw [List.getElem?_map, hS]; rfl)
  unfold ptrV at hgc
  have hX := h.blk
  unfold rjO at hX
  have x0 := blkCell hX 0
  have x1 := blkCell hX 1
  have x4 := blkCell hX 4
  simp at x0 x1 x4
  rw [hrv, h.len] at x4
  have hlX := blkLt hX
  have hs4 := h.s4
  have HMk := hide' (mkB_app s.sent (sentB c.kind key c.val s.next))
  have hSb2 := hSb
  unfold rsO at hSb2
  have s0 := blkCell hSb2 0
  have s1 := blkCell hSb2 1
  have s3 := blkCell hSb2 3
  simp at s0 s1 s3
  have sf := blkFree hSb2
  have hlS := blkLt hSb2
  have HSb := hide' hSb
  have hsz := mkB_size s.sent
  have hSX : ¬ S = X := fun e => by rw [e, hX] at hSb2; cases hSb2
  have hSg : ¬ S = g := fun e => by
    obtain ⟨cur, hc⟩ := ownsRow_blk h.srow (v := rv) (by rw [hrv]; rfl)
    rw [← e, hSb2] at hc
    cases hc
  unfold cmdVR
  clear h ha hwl hbd hcb hSb hSb2 hX hS hs hk8 hrv hkk hp1
  generalize hout' : sentB c.kind key c.val s.next = out at *
  generalize hmk : mkB s.sent = sB at *
  generalize s.next = nx at *
  go_enter Tryz.func167, Tryz.ntmps167
  go_wp2_with fail
  go_quiet ((go_at_call 138; exact Calls.quiet_of (HOw.out _)))
  go_wp2_with fail
  go_at_call 175
  refine (HFr.out _ ?_).mono ?_
  · exact (below_drewN ((Below.refl _ _).alloc (Nat.le_refl _) _) _).alloc (by simp) _
  rintro e w1 ⟨rfl, rfl⟩
  have hSn1 : ¬ S = w.heap.size := by omega
  have hSn2 : ¬ S = w.heap.size + 1 := by omega
  have hSn3 : ¬ w.heap.size + 1 = S := by omega
  have hSn4 : ¬ w.heap.size = S := by omega
  have hlS1 : S < w.heap.size + 1 := by omega
  clear HFr HOw
  go_wp2_with fail
  have hA : (w.alloc (.cells #[.int .i64 c.kind, kv, .string c.val, .string c.word, .bool c.fatal, .int .i64 c.id] 36)).heap[w.heap.size]? = some (.cells #[.int .i64 c.kind, kv, .string c.val, .string c.word, .bool c.fatal, .int .i64 c.id] 36 (0, 0)) := blkNew w _
  have hS0 : (w.alloc (.cells #[.int .i64 c.kind, kv, .string c.val, .string c.word, .bool c.fatal, .int .i64 c.id] 36)).heap[S]? = some (rsO true nx inn s.sent) := hs_alloc HSb.out _
  have hk0 : Chg [S] w (w.alloc (.cells #[.int .i64 c.kind, kv, .string c.val, .string c.word, .bool c.fatal, .int .i64 c.id] 36)) := Chg.of_below ((Below.refl _ _).alloc (Nat.le_refl _) _)
  have hz0 : (w.alloc (.cells #[.int .i64 c.kind, kv, .string c.val, .string c.word, .bool c.fatal, .int .i64 c.id] 36)).heap.size = w.heap.size + 1 := by simp
  generalize w.alloc (.cells #[.int .i64 c.kind, kv, .string c.val, .string c.word, .bool c.fatal, .int .i64 c.id] 36) = Wa at *
  have hA4 : (((Wa.drewN nq).setCell ⟨S, 1, none⟩ (.int .i64 (nx : Int))).alloc (.cells #[.int .i64 (o : Int), .int .i64 (nx : Int), .int .i64 0, .int .i64 0, .string ⟨#[]⟩] 253)).heap[w.heap.size]? = some (.cells #[.int .i64 c.kind, kv, .string c.val, .string c.word, .bool c.fatal, .int .i64 c.id] 36 (0, 0)) := hs_alloc (hs_set (W := Wa.drewN nq) (p := ⟨S, 1, none⟩) hA hSn4) _
  have hS4 : (((Wa.drewN nq).setCell ⟨S, 1, none⟩ (.int .i64 (nx : Int))).alloc (.cells #[.int .i64 (o : Int), .int .i64 (nx : Int), .int .i64 0, .int .i64 0, .string ⟨#[]⟩] 253)).heap[S]? = some (rsO true nx inn s.sent) := hs_alloc ((blkSet (i := 1) (w := Wa.drewN nq) hS0 _).trans rfl) _
  have hP4 : (((Wa.drewN nq).setCell ⟨S, 1, none⟩ (.int .i64 (nx : Int))).alloc (.cells #[.int .i64 (o : Int), .int .i64 (nx : Int), .int .i64 0, .int .i64 0, .string ⟨#[]⟩] 253)).heap[w.heap.size + 1]? = some (rpO o nx 0 0 ⟨#[]⟩) := hs_new (by simp [hz0])
  have hk4 : Chg [S] w (((Wa.drewN nq).setCell ⟨S, 1, none⟩ (.int .i64 (nx : Int))).alloc (.cells #[.int .i64 (o : Int), .int .i64 (nx : Int), .int .i64 0, .int .i64 0, .string ⟨#[]⟩] 253)) := by
    have k1 : Chg [S] w (Wa.drewN nq) := ⟨hk0.os, hk0.tape, hk0.output, hk0.size, hk0.block⟩
    exact (k1.set (.inl (by simp)) _).trans (Chg.of_below (M := []) ((Below.refl _ _).alloc (Nat.le_refl _) _)) (fun b hb => by cases hb)
  clear x0 x1 x4 hgc s0 s1 s3 sf hA hS0 hk0 hz0 hlX hgl hlS hlS1 hSX hSg
  generalize ((Wa.drewN nq).setCell ⟨S, 1, none⟩ (.int .i64 (nx : Int))).alloc (.cells #[.int .i64 (o : Int), .int .i64 (nx : Int), .int .i64 0, .int .i64 0, .string ⟨#[]⟩] 253) = W4 at *
  have a0 := blkCell hA4 0
  have a2 := blkCell hA4 2
  have hSb4 := hS4
  unfold rsO at hSb4
  have s1 := blkCell hSb4 1
  simp at a0 a2 s1
  have hlA := blkLt hA4
  have hlS := blkLt hS4
  have hlP := blkLt hP4
  have HW4 := hide' (And.intro hS4 (And.intro hP4 hk4))
  clear hS4 hP4 hk4 hA4 hSb4
  go_region_held3 (fun W' => W'.cell? ⟨w.heap.size, 0, none⟩ = some (.int .i64 c.kind) ∧ W'.cell? ⟨w.heap.size, 2, none⟩ = some (.string c.val) ∧ W'.cell? ⟨S, 1, none⟩ = some (.int .i64 (nx : Int))) (go_keep) (first
    | (go_at_call 101; refine (HAs.out _ W4.heap.size ?hx).mono ?_; (case hx => first | exact hs_drew (hs_new rfl) | exact hs_new rfl); rintro e w5 ⟨rfl, hb5⟩; have a05 : w5.cell? ⟨w.heap.size, 0, none⟩ = some (.int .i64 c.kind) := (hb5.cell (p := ⟨w.heap.size, 0, none⟩) (by simp; omega)).trans ((World.cell?_of_block (Below.heap_alloc _ _ _ hlA)).trans a0); have a25 : w5.cell? ⟨w.heap.size, 2, none⟩ = some (.string c.val) := (hb5.cell (p := ⟨w.heap.size, 2, none⟩) (by simp; omega)).trans ((World.cell?_of_block (Below.heap_alloc _ _ _ hlA)).trans a2); have s15 : w5.cell? ⟨S, 1, none⟩ = some (.int .i64 (nx : Int)) := (hb5.cell (p := ⟨S, 1, none⟩) (by simp; omega)).trans ((World.cell?_of_block (Below.heap_alloc _ _ _ hlS)).trans s1); have hb45 : Below W4.heap.size W4 w5 := ((Below.refl _ W4).alloc (Nat.le_refl _) _).trans ((below_undrew hb5).mono (by simp)); have HB5 := hide' hb45; clear hb5 hb45 a0 a2 s1)
    | fail)
  all_goals
    have hS5 : w5.heap[S]? = some (rsO true nx inn s.sent) := (HB5.out.block S hlS).trans HW4.out.1
    have hP5 : w5.heap[w.heap.size + 1]? = some (rpO o nx 0 0 ⟨#[]⟩) := (HB5.out.block _ hlP).trans HW4.out.2.1
    have hk5 : Chg [S] w w5 := HW4.out.2.2.trans (Chg.of_below (M := []) HB5.out) (fun b hb => by cases hb)
    have hSb5 := hS5
    unfold rsO at hSb5
    have s35 := blkCell hSb5 3
    simp at s35
    rw [hmk] at s35
    have sf5 := blkFree hSb5
    have hlS5 := blkLt hS5
    have wr1 : IntKind.i64.wrap ((nx : Int) + 1) = (nx : Int) + 1 := wrap_small _ (by omega) (by omega)
    have hrem : ((nx : Int) + 1).tmod 65536 = (nx : Int) + 1 := Int.tmod_eq_of_lt (by omega) (by omega)
    have HG := hide' (fun v1 => HFin.out w5 (w.heap.size + 1) v1 (Nat.le_succ _) hSn3 hk5 hS5 hP5)
    clear hS5 hP5 hk5 hSb5 HFin a05 a25
    go_wp2
    go_ret
    refine ⟨_, rfl, ?_⟩
    rw [HMk.out]
    refine HG.out _ ?_
    first | rfl | (simp; omega) | go_num
end Go.Proofs.YtlonjggfnleolaaGreatDoor


/-
  The reference's serves: what stands behind each of its doings.
-/

namespace Go.Proofs.YtlonjggfnleolaaGreatDoor
open Go.RowKit Go.Shelf
set_option linter.unusedVariables false

/-- What is held and what waits, read off a client's blocks. -/
def rMeas (w : World) (K Y : Nat) : Nat := 2 * (match w.cell? ⟨Y, 1, none⟩ with | some (.string b) => b.size | _ => 0) + (match w.cell? ⟨K, 2, none⟩ with | some (.slice _ n _) => n | _ => 0)
theorem RCliOk.meas {W : World} {ss : List SrvS} {v : RCliI} {s : CliS} (h : RCliOk W ss v s) : rMeas W v.K v.Y = 2 * s.st.held.length + s.waits.length := by
  have c1 : W.cell? ⟨v.Y, 1, none⟩ = some (.string (mkB s.st.held)) := blkCell h.rd.at_ 1
  have c2 : W.cell? ⟨v.K, 2, none⟩ = some v.wv := blkCell h.blk 2
  obtain ⟨a, c, hv⟩ := h.row.len
  rw [List.length_map, h.len] at hv
  unfold rMeas
  rw [c1, c2, hv]
  simp only
  rw [mkB_size]
/-- A client is served. -/
structure RSrv (w wr : World) (X sv pt win : Nat) (cv rv : Value) (cis : List RCliI) (cs : List CliS) (vs : List Nat) (i K Y N T : Nat) (d : Int) (v : RCliI) (s : CliS) (ss : List SrvS) (tg : CliS × List SrvS) : Prop where
  jun : RJunAt wr X sv pt win cv rv (cis.set i v) (cs.set i s) vs ss
  ap : RApart (cis.set i v) vs
  K_ : v.K = K
  Y_ : v.Y = Y
  chg : Chg (footR X cv cis vs) w wr
  lat : Later w (footR X cv cis vs) (footR X cv (cis.set i v) vs)
  tgt : serveS sv pt win (tellC s) ss = tg
  bd : Bd win N T s ss
  wo : WaitsOk s
  d_ : s.d = d
theorem RSrv.cli {w wr : World} {X sv pt win : Nat} {cv rv : Value} {cis : List RCliI} {cs : List CliS} {vs : List Nat} {i K Y N T : Nat} {d : Int} {v : RCliI} {s : CliS} {ss : List SrvS} {tg : CliS × List SrvS} (h : RSrv w wr X sv pt win cv rv cis cs vs i K Y N T d v s ss tg) (hi : i < cis.length) : RCliOk wr ss v s := by
  have hcl := h.jun.cl
  rw [List.length_set, List.length_set] at hcl
  exact h.jun.cli i v s (by rw [List.getElem?_set_self hi]) (by rw [List.getElem?_set_self (by omega)])
/-- The client was turned, the servers were not. -/
theorem RSrv.cliTo {w wr w' : World} {X sv pt win : Nat} {cv rv : Value} {cis : List RCliI} {cs : List CliS} {vs : List Nat} {i K Y N T : Nat} {d : Int} {v v' : RCliI} {s s' : CliS} {ss : List SrvS} {tg : CliS × List SrvS} (h : RSrv w wr X sv pt win cv rv cis cs vs i K Y N T d v s ss tg) (hi : i < cis.length) (hn : RCliOk w' ss v' s') (hK : v'.K = v.K) (hY : v'.Y = v.Y) (k : Chg v.foot wr w') (l : Later wr v.foot v'.foot)
    (ht : serveS sv pt win (tellC s') ss = tg) (hb : Bd win N T s' ss) (hw : WaitsOk s') (hd : s'.d = d) : RSrv w w' X sv pt win cv rv cis cs vs i K Y N T d v' s' ss tg := by
  obtain ⟨a1, a2, a3⟩ := h.jun.cliTo h.ap (i := i) (v := v) (v' := v') (s' := s') (by rw [List.getElem?_set_self hi]) k hn hK l
  rw [List.set_set] at a1 a2 a3
  rw [List.set_set] at a1
  refine ⟨a1, a2, hK.trans h.K_, hY.trans h.Y_, h.chg.trans k (fun b hb => ?_), h.lat.trans a3 h.chg.size, ht, hb, hw, hd⟩
  exact h.lat b (mem_footR.2 (.inr (.inr (.inl ⟨i, v, by rw [List.getElem?_set_self hi], hb⟩))))
theorem RSrv.below {w wr w' : World} {X sv pt win : Nat} {cv rv : Value} {cis : List RCliI} {cs : List CliS} {vs : List Nat} {i K Y N T : Nat} {d : Int} {v : RCliI} {s : CliS} {ss : List SrvS} {tg : CliS × List SrvS} (h : RSrv w wr X sv pt win cv rv cis cs vs i K Y N T d v s ss tg) (hb : Below wr.heap.size wr w') : RSrv w w' X sv pt win cv rv cis cs vs i K Y N T d v s ss tg :=
  ⟨h.jun.below hb, h.ap, h.K_, h.Y_, h.chg.trans (Chg.of_below (M := []) hb) (fun b hb => by cases hb), h.lat, h.tgt, h.bd, h.wo, h.d_⟩
/-- The reader was turned. -/
theorem RCliOk.turned {W W' : World} {ss : List SrvS} {v : RCliI} {s : CliS} (h : RCliOk W ss v s) {st : St} (hT : Turn v.Y W W') (hR : RefAt W' v.Y s.d st) : RCliOk W' ss v { s with st := st } ∧ Chg v.foot W W' := by
  have k : Chg [v.Y] W W' := ⟨hT.os, hT.tape, hT.output, hT.size, fun b hb hn => hT.block b hb (by simpa using hn)⟩
  have kT : ∀ Ts : List Nat, 195 ∉ Ts → KeepT Ts W W' := fun Ts h1 => KeepT.chg k (fun b T Z f hm hZ hTs => by
    simp at hm
    have hr := h.rd.at_
    unfold refO at hr
    rw [hm, hr] at hZ
    simp at hZ
    obtain ⟨_, rfl, _⟩ := hZ
    exact h1 hTs)
  have hb := h.blk
  unfold rcO at hb
  refine ⟨⟨((kT [247] (by simp)) _ _ _ _ hb (by simp)).trans hb, hR, (kT [263] (by simp)).off (by simp) h.row, h.len, fun i u c hu hc => ⟨(h.ok i u c hu hc).1.keepT (kT _ (by simp)), (h.ok i u c hu hc).2⟩⟩, k.more (fun x hx => ?_)⟩
  simp at hx
  rw [hx]
  simp [RCliI.foot]
/-- Only servers were turned. -/
theorem RJunAt.srvs {W W' : World} {X sv pt win : Nat} {cv rv : Value} {cis : List RCliI} {cs : List CliS} {vs : List Nat} {ss ss' : List SrvS} (h : RJunAt W X sv pt win cv rv cis cs vs ss) (k : Chg vs W W') (hs : ∀ (j : Nat) (S : Nat) (s : SrvS), vs[j]? = some S → ss'[j]? = some s → ∃ inn, W'.heap[S]? = some (rsO true s.next inn s.sent)) (hl : ss'.length = ss.length) (hg : ∀ (o : Nat) (s : SrvS), ss[o]? = some s → ∃ s', ss'[o]? = some s' ∧ s.next ≤ s'.next) : RJunAt W' X sv pt win cv rv cis cs vs ss' := by
  have kT : ∀ Ts : List Nat, 243 ∉ Ts → KeepT Ts W W' := fun Ts h1 => KeepT.chg k (fun b T Z f hm hZ hT => by
    obtain ⟨s, inn, hS0⟩ := h.getS hm
    unfold rsO at hS0
    rw [hS0] at hZ
    simp at hZ
    obtain ⟨_, rfl, _⟩ := hZ
    exact h1 hT)
  have hb := h.blk
  unfold rjO at hb
  exact ⟨((kT [240] (by simp)) _ _ _ _ hb (by simp)).trans hb, (kT [244] (by simp)).row (by simp) h.crow, (kT [241] (by simp)).row (by simp) h.srow, h.len, hl.trans h.sl, h.s1, h.s4, h.pt_, h.cl, fun i v s hv hs => ((h.cli i v s hv hs).keepT (kT _ (by simp))).grow hg, hs⟩
theorem sendS_grow (sv pt : Nat) (k : Int) (val key : ByteArray) (ss : List SrvS) : ∀ (o : Nat) (s : SrvS), ss[o]? = some s → ∃ s', (sendS sv pt k val ss key)[o]? = some s' ∧ s.next ≤ s'.next := by
  intro o s hs
  unfold sendS
  split
  · exact ⟨s, hs, Nat.le_refl _⟩
  · rename_i s1 hs1
    have hl := (List.getElem?_eq_some_iff.1 hs).1
    by_cases ho : ownerN sv pt key = o
    · rw [ho] at hs1
      rw [hs] at hs1
      cases hs1
      exact ⟨⟨s.next + 1, _⟩, by rw [ho, List.getElem?_set_self hl], Nat.le_succ _⟩
    · exact ⟨s, by rw [List.getElem?_set_ne ho]; exact hs, Nat.le_refl _⟩
theorem sendsS_grow (sv pt : Nat) (k : Int) (val : ByteArray) : ∀ (ks : List ByteArray) (ss : List SrvS) (o : Nat) (s : SrvS), ss[o]? = some s → ∃ s', (sendsS sv pt k val ss ks)[o]? = some s' ∧ s.next ≤ s'.next := by
  intro ks
  induction ks with
  | nil => intro ss o s hs; exact ⟨s, hs, Nat.le_refl _⟩
  | cons key ks ih =>
    intro ss o s hs
    obtain ⟨s1, h1, h2⟩ := sendS_grow sv pt k val key ss o s hs
    obtain ⟨s2, h3, h4⟩ := ih (sendS sv pt k val ss key) o s1 h1
    exact ⟨s2, h3, by omega⟩

/-- Some parts of a command are sent; wb: the world ahead of it. -/
structure RMid (wb wr : World) (sv pt : Nat) (vs : List Nat) (ss : List SrvS) (c : Cmd) (kv : Value) (M B j : Nat) (pv : Value) (ps : List RPart) : Prop where
  chg : Chg vs wb wr
  srv : ∀ (o : Nat) (S : Nat) (s : SrvS), vs[o]? = some S → (sendsS sv pt c.kind c.val ss (c.keys.take j))[o]? = some s → ∃ inn, wr.heap[S]? = some (rsO true s.next inn s.sent)
  mb : wr.heap[M]? = some (cmdO c kv)
  wb_ : wr.heap[B]? = some (rwO c kv pv)
  ky : KeysR wr 0 kv c.keys
  row : wr.ownsRow 0 249 1 pv j (ps.map (fun p => ptrV p.B))
  pl : ps.length = j
  ok : ∀ p ∈ ps, RPartOk wr (sendsS sv pt c.kind c.val ss (c.keys.take j)) p
  geB : wb.heap.size ≤ B
  gep : ∀ g, pv.ownBlock = some g → wb.heap.size ≤ g
theorem RMid.jun {wb wr : World} {X sv pt win : Nat} {cv rv : Value} {cis : List RCliI} {cs : List CliS} {vs : List Nat} {ss : List SrvS} {c : Cmd} {kv : Value} {M B j : Nat} {pv : Value} {ps : List RPart} (h : RMid wb wr sv pt vs ss c kv M B j pv ps) (hj : RJunAt wb X sv pt win cv rv cis cs vs ss) : RJunAt wr X sv pt win cv rv cis cs vs (sendsS sv pt c.kind c.val ss (c.keys.take j)) :=
  hj.srvs h.chg h.srv (by rw [sendsS_len]) (sendsS_grow sv pt c.kind c.val _ ss)
/-- One part more. -/
theorem RMid.more {wb wr w3 wa : World} {X sv pt win : Nat} {cv rv : Value} {cis : List RCliI} {cs : List CliS} {vs : List Nat} {ss : List SrvS} {c : Cmd} {kv : Value} {M B j P g2 cap2 : Nat} {pv : Value} {ps : List RPart} {key : ByteArray} (h : RMid wb wr sv pt vs ss c kv M B j pv ps) (hk : c.keys[j]? = some key) (hj : RJunAt wb X sv pt win cv rv cis cs vs ss)
    (hs : RSentTo wr w3 X sv pt win cv rv cis cs vs (sendsS sv pt c.kind c.val ss (c.keys.take j)) c.kind c.val key P)
    (hown : wa.ownsRow 0 249 1 (.slice (some ⟨g2, 0, none⟩) (j + 1) cap2) (j + 1) (ps.map (fun p => ptrV p.B) ++ [.pointer (some ⟨P, 0, none⟩)])) (hgrow : (w3.alloc (.cells #[.pointer (some ⟨P, 0, none⟩)] 249)).grownBy wa pv.ownBlock) (hat : pv.ownBlock = some g2 ∨ g2 = (w3.alloc (.cells #[.pointer (some ⟨P, 0, none⟩)] 249)).heap.size) :
    ∃ ps', RMid wb (wa.setCell ⟨B, 6, none⟩ (.slice (some ⟨g2, 0, none⟩) (j + 1) cap2)) sv pt vs ss c kv M B (j + 1) (.slice (some ⟨g2, 0, none⟩) (j + 1) cap2) ps' := by
  obtain ⟨hP, hj3, ⟨o, id, hp3⟩, k3⟩ := hs
  have ek : c.keys.take (j + 1) = c.keys.take j ++ [key] := by rw [List.take_add_one, hk]; rfl
  rw [← sendsS_snoc, ← ek] at hj3 hp3
  have hjr := h.jun hj
  -- only servers up to w3
  have kT3 : ∀ Ts : List Nat, 243 ∉ Ts → KeepT Ts wr w3 := fun Ts h1 => KeepT.chg k3 (fun b T Z f hm hZ hT => by
    obtain ⟨s, inn, hS0⟩ := hjr.getS hm
    unfold rsO at hS0
    rw [hS0] at hZ
    simp at hZ
    obtain ⟨_, rfl, _⟩ := hZ
    exact h1 hT)
  have b4 : Below w3.heap.size w3 (w3.alloc (.cells #[.pointer (some ⟨P, 0, none⟩)] 249)) := (Below.refl _ _).alloc (Nat.le_refl _) _
  have sz3 := k3.size
  have szr := h.chg.size
  have hwb := h.wb_
  unfold rwO at hwb
  have hwb3 := ((kT3 [266] (by simp)) _ _ _ _ hwb (by simp)).trans hwb
  have hwb4 := (b4.block B (blkLt hwb3)).trans hwb3
  have hrow3 : w3.ownsRow 0 249 1 pv j (ps.map (fun p => ptrV p.B)) := (kT3 [249] (by simp)).row (by simp) h.row
  have nB : pv.ownBlock ≠ some B := fun e => by
    obtain ⟨cur, hc⟩ := ownsRow_blk hrow3 e
    rw [hwb3] at hc
    cases hc
  have hwba := (hgrow.block B (blkLt hwb4) (fun e => nB e.symm)).trans hwb4
  have ch4 : Chg (B :: pv.ownBlock.toList) (w3.alloc (.cells #[.pointer (some ⟨P, 0, none⟩)] 249)) (wa.setCell ⟨B, 6, none⟩ (.slice (some ⟨g2, 0, none⟩) (j + 1) cap2)) := ((Chg.refl _ _).grown hgrow (fun b e => .inl (by simp [e]))).set (.inl (by simp)) _
  have kT4 : ∀ Ts : List Nat, 266 ∉ Ts → 249 ∉ Ts → KeepT Ts w3 (wa.setCell ⟨B, 6, none⟩ (.slice (some ⟨g2, 0, none⟩) (j + 1) cap2)) := fun Ts h1 h2 => (KeepT.below b4).trans (KeepT.chg ch4 (fun b T Z f hm hZ hT => by
    rcases List.mem_cons.1 hm with e | e
    · rw [e, hwb4] at hZ
      simp at hZ
      rw [← hZ.2.1] at hT
      exact h1 hT
    · obtain ⟨cur, hc⟩ := ownsRow_blk hrow3 (mem_own e)
      have hc4 := (b4.block b (blkLt hc)).trans hc
      rw [hc4] at hZ
      simp at hZ
      rw [← hZ.2.1] at hT
      exact h2 hT))
  have hmb := h.mb
  unfold cmdO at hmb
  have hmb3 := ((kT3 [36] (by simp)) _ _ _ _ hmb (by simp)).trans hmb
  refine ⟨ps ++ [⟨P, o, id⟩], ?_, fun q S s hS hs => ?_, ((kT4 [36] (by simp) (by simp)) _ _ _ _ hmb3 (by simp)).trans hmb3, (blkSet (i := 6) hwba _).trans rfl, ?_, ?_, by simp [h.pl], fun p hp => ?_, h.geB, fun g hg => ?_⟩
  · have c1 : Chg vs wb w3 := h.chg.trans k3 (Later.refl _ _)
    have c2 : Chg vs wb (w3.alloc (.cells #[.pointer (some ⟨P, 0, none⟩)] 249)) := c1.trans (Chg.of_below (M := []) b4) (fun b hb => by cases hb)
    refine (c2.grown hgrow (fun b e => .inr (h.gep b e))).set (.inr h.geB) _
  · obtain ⟨inn, h1⟩ := hj3.srv q S s hS hs
    have h2 := h1
    unfold rsO at h2
    exact ⟨inn, ((kT4 [243] (by simp) (by simp)) _ _ _ _ h2 (by simp)).trans h1⟩
  · exact h.ky.other (Nat.le_refl _) (fun b Z hZ _ => by
      have h1 := ((kT3 [9] (by simp)) _ _ _ _ hZ (by simp)).trans hZ
      exact (((kT4 [9] (by simp) (by simp)) _ _ _ _ h1 (by simp)).trans h1).trans hZ.symm)
  · rw [List.map_append]
    exact ownsRow_other hown (fun gg hg => by
      cases hg
      refine Below.heap_setCell wa ⟨B, 6, none⟩ _ g2 (fun e => ?_)
      obtain ⟨cur, hc⟩ := ownsRow_blk hown rfl
      rw [show g2 = B from e, hwba] at hc
      cases hc)
  · rcases List.mem_append.1 hp with e | e
    · have h1 := (h.ok p e).keepT (kT3 _ (by simp))
      have h2 := h1.keepT (kT4 _ (by simp) (by simp))
      rw [ek, sendsS_snoc]
      exact h2.grow (sendS_grow sv pt c.kind c.val key _)
    · simp at e
      rw [e]
      exact hp3.keepT (kT4 _ (by simp) (by simp))
  · have e' : g2 = g := by simpa [Value.ownBlock] using hg
    rcases hat with e | e
    · exact h.gep g (by rw [e, e'])
    · rw [World.size_alloc] at e
      omega
end Go.Proofs.YtlonjggfnleolaaGreatDoor


/-
  The reference's serves: a command was read, and all its parts are sent.
-/

namespace Go.Proofs.YtlonjggfnleolaaGreatDoor
open Go.RowKit Go.Shelf
set_option linter.unusedVariables false

/-- Ahead of the sending: the reader was turned. -/
theorem RSrv.next {w w1 w2 : World} {X sv pt win : Nat} {cv rv : Value} {cis : List RCliI} {cs : List CliS} {vs : List Nat} {i K Y N T : Nat} {d : Int} {v : RCliI} {s : CliS} {ss : List SrvS} {tg : CliS × List SrvS} (h : RSrv w w1 X sv pt win cv rv cis cs vs i K Y N T d v s ss tg) (hi : i < cis.length) {st : St} (hT : Turn Y w1 w2) (hR : RefAt w2 Y d st) :
    RJunAt w2 X sv pt win cv rv (cis.set i v) (cs.set i { s with st := st }) vs ss ∧ Chg v.foot w1 w2 := by
  have hok := h.cli hi
  rw [← h.Y_] at hT hR
  rw [← h.d_] at hR
  obtain ⟨a1, a2⟩ := hok.turned hT hR
  have := (h.jun.cliTo h.ap (i := i) (v := v) (v' := v) (s' := { s with st := st }) (by rw [List.getElem?_set_self hi]) a2 a1 rfl (Later.refl _ _)).1
  rw [List.set_set, List.set_set] at this
  exact ⟨this, a2⟩
theorem RSrv.got {w w1 w2 wr wa : World} {X sv pt win : Nat} {cv rv : Value} {cis : List RCliI} {cs : List CliS} {vs : List Nat} {i K Y N T : Nat} {d : Int} {v : RCliI} {s : CliS} {ss : List SrvS} {tg : CliS × List SrvS} (h : RSrv w w1 X sv pt win cv rv cis cs vs i K Y N T d v s ss tg) (hi : i < cis.length) (hN : N < 65000) (hlw : s.waits.length < win) (hst : tellC s = s) {x : StepR} (hx : readR s.d s.st.held = some x) (hT : Turn Y w1 w2) (hR : RefAt w2 Y d (afterS s.st x)) {lo : Nat} {kv : Value} (hky : KeysR w2 lo kv x.c.keys) {M B : Nat} {pv : Value} {ps : List RPart} (hm : RMid w2 wr sv pt vs ss x.c kv M B x.c.keys.length pv ps)
    {va : Option Addr} {vc : Nat} (hrow : OffRow wa 263 (.slice va (v.ws.length + 1) vc) (v.ws.map (fun u => ptrV u.B) ++ [.pointer (some ⟨B, 0, none⟩)])) (kwa : Chg v.wv.ownBlock.toList (wr.alloc (.cells #[.pointer (some ⟨B, 0, none⟩)] 263)) wa) (hat : (Value.slice va (v.ws.length + 1) vc).ownBlock = v.wv.ownBlock ∨ (Value.slice va (v.ws.length + 1) vc).ownBlock = some (wr.alloc (.cells #[.pointer (some ⟨B, 0, none⟩)] 263)).heap.size) :
    ∃ v', RSrv w (wa.setCell ⟨K, 2, none⟩ (.slice va (v.ws.length + 1) vc)) X sv pt win cv rv cis cs vs i K Y N T d v' (gotC s x) (sendsS sv pt x.c.kind x.c.val ss x.c.keys) tg := by
  obtain ⟨h2, k12⟩ := h.next hi hT hR
  have hr := hm.jun h2
  have hok1 := hm.ok
  rw [List.take_length] at hr hok1
  have hK := h.K_
  subst hK
  have hcl := h.jun.cl
  rw [List.length_set, List.length_set] at hcl
  have hcr : RCliOk wr (sendsS sv pt x.c.kind x.c.val ss x.c.keys) v { s with st := afterS s.st x } := hr.cli i v _ (by rw [List.getElem?_set_self hi]) (by rw [List.getElem?_set_self (by omega)])
  have b4 : Below wr.heap.size wr (wr.alloc (.cells #[.pointer (some ⟨B, 0, none⟩)] 263)) := (Below.refl _ _).alloc (Nat.le_refl _) _
  have k4 : Chg v.wv.ownBlock.toList wr wa := (Chg.of_below (M := v.wv.ownBlock.toList) b4).trans kwa (Later.refl _ _)
  have k5 : Chg (v.K :: v.wv.ownBlock.toList) wr (wa.setCell ⟨v.K, 2, none⟩ (.slice va (v.ws.length + 1) vc)) := (k4.more (fun b hb => List.mem_cons_of_mem _ hb)).set (.inl (by simp)) _
  have hKb := hcr.blk
  unfold rcO at hKb
  have kT5 : ∀ Ts : List Nat, 247 ∉ Ts → 263 ∉ Ts → KeepT Ts wr (wa.setCell ⟨v.K, 2, none⟩ (.slice va (v.ws.length + 1) vc)) := fun Ts h1 h2 => KeepT.chg k5 (fun b T Z f hmm hZ hTs => by
    rcases List.mem_cons.1 hmm with e | e
    · rw [e, hKb] at hZ
      simp at hZ
      rw [← hZ.2.1] at hTs
      exact h1 hTs
    · obtain ⟨cur, hc⟩ := hcr.row.blk (mem_own e)
      rw [hc] at hZ
      simp at hZ
      rw [← hZ.2.1] at hTs
      exact h2 hTs)
  have hKa : wa.heap[v.K]? = some (rcO s.d v.Y v.wv s.told) := by
    refine (k4.block v.K (blkLt hKb) (fun hmm => ?_)).trans hcr.blk
    obtain ⟨cur, hc⟩ := hcr.row.blk (mem_own hmm)
    rw [hKb] at hc
    simp at hc
  have hrd := hcr.rd.at_
  have hwait : RWaitOk (wa.setCell ⟨v.K, 2, none⟩ (.slice va (v.ws.length + 1) vc)) (sendsS sv pt x.c.kind x.c.val ss x.c.keys) x.c ⟨B, kv, pv, ps⟩ := by
    have hwb := hm.wb_
    unfold rwO at hwb
    refine ⟨((kT5 [266] (by simp) (by simp)) _ _ _ _ hwb (by simp)).trans hwb, ?_, hm.pl, fun p hp => (hok1 p hp).keepT (kT5 _ (by simp) (by simp)), fun hk => ?_⟩
    · have := (kT5 [249] (by simp) (by simp)).row (by simp) hm.row
      simp only [hm.pl]
      exact this
    · rcases hky with ⟨e, _⟩ | ⟨b, o, c, Z, e, _, hb, _⟩
      · exact ⟨none, 0, e, .inr rfl⟩
      · refine ⟨some ⟨b, o, none⟩, c, by rw [e, hk]; rfl, .inl ⟨b, o, rfl, ?_⟩⟩
        have := blkLt hb
        have := hm.geB
        show b < B
        omega
  have hok' : RCliOk (wa.setCell ⟨v.K, 2, none⟩ (.slice va (v.ws.length + 1) vc)) (sendsS sv pt x.c.kind x.c.val ss x.c.keys) ⟨v.K, v.Y, .slice va (v.ws.length + 1) vc, v.ws ++ [⟨B, kv, pv, ps⟩]⟩ (gotC s x) := by
    refine ⟨(blkSet (i := 2) hKa _).trans rfl, ⟨?_, hcr.rd.ok⟩, ?_, ?_, fun j u c hu hc => ?_⟩
    · unfold refO at hrd ⊢
      exact ((kT5 [195] (by simp) (by simp)) _ _ _ _ hrd (by simp)).trans hrd
    · rw [List.map_append]
      refine hrow.other (fun g hg => Below.heap_setCell wa ⟨v.K, 2, none⟩ _ g (fun e => ?_))
      obtain ⟨cur, hc⟩ := hrow.blk hg
      rw [show g = v.K from e, hKa] at hc
      unfold rcO at hc
      simp at hc
    · show (v.ws ++ [_]).length = (s.waits ++ [x.c]).length
      have := hcr.len
      simp only [List.length_append, List.length_singleton]
      simp only at this
      omega
    · simp only at hu
      have hc : (s.waits ++ [x.c])[j]? = some c := hc
      have hl : v.ws.length = s.waits.length := hcr.len
      by_cases hj : j < v.ws.length
      · rw [List.getElem?_append_left hj] at hu
        rw [List.getElem?_append_left (by omega)] at hc
        have := hcr.ok j u c hu hc
        exact ⟨this.1.keepT (kT5 _ (by simp) (by simp)), this.2⟩
      · have hj2 := (List.getElem?_eq_some_iff.1 hu).1
        simp at hj2
        have hj3 : j = v.ws.length := by omega
        subst hj3
        rw [List.getElem?_append_right (Nat.le_refl _)] at hu
        rw [hl, List.getElem?_append_right (Nat.le_refl _)] at hc
        simp at hu hc
        subst hu
        subst hc
        exact ⟨hwait, read_ok hx⟩
  have hl5 : Later wr v.foot (RCliI.foot ⟨v.K, v.Y, .slice va (v.ws.length + 1) vc, v.ws ++ [⟨B, kv, pv, ps⟩]⟩) := fun b hb => by
    unfold RCliI.foot at hb
    rcases List.mem_cons.1 hb with e | hb
    · rw [e]; exact .inl (by simp [RCliI.foot])
    rcases List.mem_cons.1 hb with e | hb
    · rw [e]; exact .inl (by simp [RCliI.foot])
    · have hb := mem_own hb
      rcases hat with e | e
      · rw [e] at hb
        exact .inl (by simp [RCliI.foot, hb])
      · rw [e] at hb
        cases hb
        exact .inr (by simp)
  have kf : Chg v.foot wr (wa.setCell ⟨v.K, 2, none⟩ (.slice va (v.ws.length + 1) vc)) := k5.more (fun b hb => by
    rcases List.mem_cons.1 hb with e | hb
    · rw [e]; simp [RCliI.foot]
    · unfold RCliI.foot
      exact List.mem_cons_of_mem _ (List.mem_cons_of_mem _ hb))
  obtain ⟨c1, c2, c3⟩ := hr.cliTo h.ap (i := i) (v := v) (by rw [List.getElem?_set_self hi]) kf hok' rfl hl5
  rw [List.set_set, List.set_set] at c1
  rw [List.set_set] at c2 c3
  have fsub : ∀ b ∈ v.foot, b ∈ footR X cv (cis.set i v) vs := fun b hb => mem_footR.2 (.inr (.inr (.inl ⟨i, v, by rw [List.getElem?_set_self hi], hb⟩)))
  have vsub : ∀ b ∈ vs, b ∈ footR X cv (cis.set i v) vs := fun b hb => mem_footR.2 (.inr (.inr (.inr hb)))
  have g1 : Chg (footR X cv cis vs) w w2 := h.chg.trans k12 (fun b hb => h.lat b (fsub b hb))
  have g2 : Chg (footR X cv cis vs) w wr := g1.trans hm.chg (fun b hb => h.lat b (vsub b hb))
  have g3 := g2.trans kf (fun b hb => h.lat b (fsub b hb))
  refine ⟨_, c1, c2, rfl, h.Y_, g3, h.lat.trans c3 g2.size, ?_, (h.bd.got hN hlw hx sv pt).2, gotC_waits h.wo hx, h.d_⟩
  rw [← h.tgt, hst]
  exact (serveS_some hlw hx).symm
end Go.Proofs.YtlonjggfnleolaaGreatDoor
