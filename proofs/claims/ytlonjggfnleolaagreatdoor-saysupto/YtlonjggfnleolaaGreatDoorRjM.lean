/-
  The reference's serves and Say.
-/
import Derived.Test.YtlonjggfnleolaaGreatDoorRjLa
namespace Go.Proofs.YtlonjggfnleolaaGreatDoor
open Go.RowKit Go.Shelf
set_option linter.unusedVariables false

/-- Served. -/
def RServed (w w' : World) (X sv pt win : Nat) (cv rv : Value) (cis : List RCliI) (cs : List CliS) (vs : List Nat) (i : Nat) (tg : CliS × List SrvS) : Prop :=
  ∃ v', RJunAt w' X sv pt win cv rv (cis.set i v') (cs.set i tg.1) vs tg.2 ∧ RApart (cis.set i v') vs ∧ Chg (footR X cv cis vs) w w' ∧ Later w (footR X cv cis vs) (footR X cv (cis.set i v') vs)
/-- Nothing more is read. -/
theorem RSrv.done {w wr w' : World} {X sv pt win : Nat} {cv rv : Value} {cis : List RCliI} {cs : List CliS} {vs : List Nat} {i K Y N T : Nat} {d : Int} {v : RCliI} {s : CliS} {ss : List SrvS} {tg : CliS × List SrvS} (h : RSrv w wr X sv pt win cv rv cis cs vs i K Y N T d v s ss tg) (hst : tellC s = s) (hd : ¬ s.waits.length < win ∨ readR s.d s.st.held = none) (hb : Below wr.heap.size wr w') : RServed w w' X sv pt win cv rv cis cs vs i tg := by
  have e : tg = (s, ss) := by
    rw [← h.tgt, hst]
    rcases hd with hd | hd
    · exact serveS_full hd
    · exact serveS_none hd
  have h' := h.below hb
  subst e
  exact ⟨v, h'.jun, h'.ap, h'.chg, h'.lat⟩
theorem RSentTo.undrew {w w' : World} {X sv pt win : Nat} {cv rv : Value} {cis : List RCliI} {cs : List CliS} {vs : List Nat} {ss : List SrvS} {k : Int} {val key : ByteArray} {P : Nat} (h : RSentTo w.drew w' X sv pt win cv rv cis cs vs ss k val key P) : RSentTo w w' X sv pt win cv rv cis cs vs ss k val key P := by
  obtain ⟨h1, h2, h3, h4⟩ := h
  exact ⟨h1, h2, h3, Chg.undrew h4⟩
/-- What stands while a part is sent. -/
theorem RMid.sent {wb wr w3 : World} {X sv pt win : Nat} {cv rv : Value} {cis : List RCliI} {cs : List CliS} {vs : List Nat} {ss : List SrvS} {c : Cmd} {kv : Value} {M B j P : Nat} {pv : Value} {ps : List RPart} {key : ByteArray} (h : RMid wb wr sv pt vs ss c kv M B j pv ps) (hj : RJunAt wb X sv pt win cv rv cis cs vs ss)
    (hs : RSentTo wr w3 X sv pt win cv rv cis cs vs (sendsS sv pt c.kind c.val ss (c.keys.take j)) c.kind c.val key P) : w3.heap[M]? = some (cmdO c kv) ∧ w3.heap[B]? = some (rwO c kv pv) ∧ KeysR w3 0 kv c.keys ∧ w3.ownsRow 0 249 1 pv j (ps.map (fun p => ptrV p.B)) := by
  obtain ⟨hP, hj3, _, k3⟩ := hs
  have hjr := h.jun hj
  have kT3 : ∀ Ts : List Nat, 243 ∉ Ts → KeepT Ts wr w3 := fun Ts h1 => KeepT.chg k3 (fun b T Z f hm hZ hT => by
    obtain ⟨s, inn, hS0⟩ := hjr.getS hm
    unfold rsO at hS0
    rw [hS0] at hZ
    simp at hZ
    obtain ⟨_, rfl, _⟩ := hZ
    exact h1 hT)
  have hmb := h.mb
  have hwb := h.wb_
  unfold cmdO at hmb
  unfold rwO at hwb
  exact ⟨((kT3 [36] (by simp)) _ _ _ _ hmb (by simp)).trans hmb, ((kT3 [266] (by simp)) _ _ _ _ hwb (by simp)).trans hwb, h.ky.other (Nat.le_refl _) (fun b Z hZ _ => (kT3 [9] (by simp)) _ _ _ _ hZ (by simp)), (kT3 [249] (by simp)).row (by simp) h.row⟩
theorem RMid.start {w3 : World} {X sv pt win : Nat} {cv rv : Value} {cis : List RCliI} {cs : List CliS} {vs : List Nat} {ss : List SrvS} {c : Cmd} {kv : Value} {lo : Nat} (hj : RJunAt w3 X sv pt win cv rv cis cs vs ss) (hk : KeysR w3 lo kv c.keys) : RMid w3 ((w3.alloc (cmdO c kv)).alloc (rwO c kv (.slice none 0 0))) sv pt vs ss c kv w3.heap.size (w3.heap.size + 1) 0 (.slice none 0 0) [] := by
  have hb : Below w3.heap.size w3 ((w3.alloc (cmdO c kv)).alloc (rwO c kv (.slice none 0 0))) := ((Below.refl _ _).alloc (Nat.le_refl _) _).alloc (by simp) _
  refine ⟨Chg.of_below hb, fun o S s hS hs => ?_, hs_alloc (blkNew w3 _) _, hs_new (by simp), hk.other (Nat.zero_le _) (fun b Z hZ _ => hb.block b (blkLt hZ)), World.ownsRow_nil _ _ _ _, rfl, fun p hp => (by cases hp), Nat.le_succ _, fun g hg => (by cases hg)⟩
  rw [List.take_zero] at hs
  obtain ⟨inn, h1⟩ := hj.srv o S s hS hs
  exact ⟨inn, (hb.block S (blkLt h1)).trans h1⟩
theorem RSrv.nextNone {w w1 w2 : World} {X sv pt win : Nat} {cv rv : Value} {cis : List RCliI} {cs : List CliS} {vs : List Nat} {i K Y N T : Nat} {d : Int} {v : RCliI} {s : CliS} {ss : List SrvS} {tg : CliS × List SrvS} (h : RSrv w w1 X sv pt win cv rv cis cs vs i K Y N T d v s ss tg) (hi : i < cis.length) (hT : Turn Y w1 w2) (hR : RefAt w2 Y d s.st) : RSrv w w2 X sv pt win cv rv cis cs vs i K Y N T d v s ss tg := by
  have hok := h.cli hi
  rw [← h.Y_] at hT hR
  rw [← h.d_] at hR
  obtain ⟨a1, a2⟩ := hok.turned hT hR
  exact h.cliTo hi a1 rfl rfl a2 (Later.refl _ _) h.tgt h.bd h.wo h.d_
theorem KeysR.cell {W : World} {lo b o n c : Nat} {ss : List ByteArray} (h : KeysR W lo (.slice (some ⟨b, o, none⟩) n c) ss) {j : Nat} {x : ByteArray} (hx : ss[j]? = some x) : W.cell? ⟨b, o + j, none⟩ = some (.string x) ∧ ∃ Z, W.heap[b]? = some (.cells Z 9 (0, 0)) := by
  rcases h with ⟨e, _⟩ | ⟨b', o', c', Z, e, _, h3, h4⟩
  · cases e
  · cases e
    exact ⟨(blkCell h3 _).trans (h4 j x hx), Z, h3⟩
theorem KeysR.some {W : World} {lo n c : Nat} {a : Option Addr} {ss : List ByteArray} (h : KeysR W lo (.slice a n c) ss) (hn : 0 < ss.length) : ∃ b o, a = some ⟨b, o, none⟩ ∧ n = ss.length := by
  rcases h with ⟨_, e⟩ | ⟨b', o', c', Z, e, _⟩
  · rw [e] at hn; simp at hn
  · cases e
    exact ⟨b', o', rfl, rfl⟩
theorem info249 : ∃ i, Tryz.prog.info? 249 = some i ∧ i.zero = some (.pointer none) ∧ i.size = 1 ∧ i.bytes = 8 := by
  have h : (Tryz.prog.info? 249).map (fun i => (i.zero, i.size, i.bytes)) = some (some (.pointer none), 1, 8) := by kernel_rfl
  obtain ⟨i, hi, hz⟩ := Option.map_eq_some_iff.1 h
  simp only [Prod.mk.injEq] at hz
  exact ⟨i, hi, hz.1, hz.2.1, hz.2.2⟩
theorem info263 : ∃ i, Tryz.prog.info? 263 = some i ∧ i.zero = some (.pointer none) ∧ i.size = 1 ∧ i.bytes = 8 := by
  have h : (Tryz.prog.info? 263).map (fun i => (i.zero, i.size, i.bytes)) = some (some (.pointer none), 1, 8) := by kernel_rfl
  obtain ⟨i, hi, hz⟩ := Option.map_eq_some_iff.1 h
  simp only [Prod.mk.injEq] at hz
  exact ⟨i, hi, hz.1, hz.2.1, hz.2.2⟩

set_option maxHeartbeats 4000000 in
set_option maxRecDepth 100000 in
theorem rserves {w : World} {X sv pt win : Nat} {cv rv : Value} {cis : List RCliI} {cs : List CliS} {vs : List Nat} {i K Y N T : Nat} {d : Int} {v0 : RCliI} {s0 : CliS} {ss0 : List SrvS} {tg : CliS × List SrvS} (h0 : RSrv w w X sv pt win cv rv cis cs vs i K Y N T d v0 s0 ss0 tg) (hi : i < cis.length) (hn : cis.length ≤ 1000) (hwo : ∀ s ∈ cs, WaitsOk s ∧ s.waits.length ≤ 1000) (hp1 : 1 ≤ pt) (hN : N < 65000) (hT : T ≤ 100000000000) (hwin : win ≤ 1000) (hd : d = 1 ∨ d = 2 ∨ d = 3) :
    Calls Tryz.prog 151 #[.pointer (some ⟨X, 0, none⟩), .pointer (some ⟨K, 0, none⟩)] w fun e w' => e = .returned (.tuple #[]) ∧ RServed w w' X sv pt win cv rv cis cs vs i tg := by
  have H0 := hide' h0
  have HWl : Hid (∀ s : CliS, WaitsOk s → s.waits.length ≤ 1000 → ∀ s' ∈ cs.set i s, s'.waits.length ≤ 1000000 ∧ ∀ c ∈ s'.waits, c.keys.length ≤ 4) := fun s h1 h2 s' hs' => by
    rcases List.mem_or_eq_of_mem_set hs' with e | e
    · exact ⟨by have := (hwo s' e).2; omega, fun c hc => ((hwo s' e).1 c hc).cm.k4⟩
    · rw [e]; exact ⟨by omega, fun c hc => (h1 c hc).cm.k4⟩
  have hKs : (cis.set i v0).length = cis.length := by simp
  clear h0 hwo
  obtain ⟨i1, hi1, hi2, hi3, hi4⟩ := info249
  have HI := hide' (And.intro hi1 (And.intro hi2 (And.intro hi3 hi4)))
  obtain ⟨i2, hj1, hj2, hj3, hj4⟩ := info263
  have HI2 := hide' (And.intro hj1 (And.intro hj2 (And.intro hj3 hj4)))
  clear hi1 hi2 hi3 hi4 hj1 hj2 hj3 hj4
  go_enter Tryz.func151, Tryz.ntmps151
  go_wp2
  go_loopw [4, 5, 6, 7, 8] (fun _ _ _ _ _ wr => ∃ (v : RCliI) (s : CliS) (ss : List SrvS), Hid (RSrv w wr X sv pt win cv rv cis cs vs i K Y N T d v s ss tg)) (fun _ _ _ _ _ wr => rMeas wr K Y)
  case atStart => exact ⟨v0, s0, ss0, H0⟩
  case round =>
    obtain ⟨v, s, ss, HJ⟩ := hrel
    have hok := HJ.out.cli hi
    have hme := hok.meas
    rw [HJ.out.K_, HJ.out.Y_] at hme
    have hwl := HJ.out.bd.wl
    have hbt := HJ.out.bd.told
    by_cases hcase : ∃ c cs', s.waits = c :: cs' ∧ c.keys = []
    · obtain ⟨c, cs', hw, hk⟩ := hcase
      have hcw := HJ.out.wo c (by rw [hw]; simp)
      have HT := rtells_yes hok (by rw [HJ.out.d_]; exact hd) hw hk hcw (by omega) (by omega)
      rw [HJ.out.K_] at HT
      have HTc := hide' HT
      have HNx : Hid (∀ (w1 : World) (v' : RCliI), RCliOk w1 ss v' (told1 s c cs') → v'.K = K → v'.Y = v.Y → Chg v.foot wr w1 → Later wr v.foot v'.foot → RSrv w w1 X sv pt win cv rv cis cs vs i K Y N T d v' (told1 s c cs') ss tg ∧ rMeas w1 K Y < rMeas wr K Y) := fun w1 v' a1 a2 a3 a4 a5 => by
        have hS := HJ.out.cliTo hi a1 (a2.trans HJ.out.K_.symm) a3 a4 a5 (by rw [tellC_step hw hk]; exact HJ.out.tgt) (tell1_bd HJ.out.bd HJ.out.wo hw hk) (told1_waits HJ.out.wo hw) HJ.out.d_
        refine ⟨hS, ?_⟩
        have h2 := (hS.cli hi).meas
        rw [hS.K_, hS.Y_] at h2
        rw [h2, hme, hw]
        show 2 * s.st.held.length + cs'.length < _
        simp only [List.length_cons]
        omega
      clear HT hok hcw hw hk
      go_wp2_with fail
      go_at_call 166
      refine HTc.out.mono ?_
      rintro e w1 ⟨rfl, v', a1, a2, a3, a4, a5⟩
      have HR := hide' (HNx.out w1 v' a1 a2 a3 a4 a5)
      clear a1 a2 a3 a4 a5
      go_wp2
      go_roundw
      case rel => exact ⟨_, _, _, HR.out.1⟩
      case measure => exact HR.out.2
    · have hst : tellC s = s := by
        cases hw : s.waits with
        | nil => exact tellC_nil hw
        | cons c cs' => exact tellC_stop hw (fun hk => hcase ⟨c, cs', hw, hk⟩)
      have HT : Calls Tryz.prog 166 #[.pointer (some ⟨v.K, 0, none⟩)] wr fun e w' => e = .returned (.bool false) ∧ Below wr.heap.size wr w' := by
        cases hw : s.waits with
        | nil => exact rtells_nil hok hw
        | cons c cs' => exact rtells_no hok hw (fun hk => hcase ⟨c, cs', hw, hk⟩) (HJ.out.wo c (by rw [hw]; simp)).cm.k4 (by omega)
      rw [HJ.out.K_] at HT
      have HTc := hide' HT
      have HSt := hide' hst
      clear HT hok hcase hst
      go_wp2_with fail
      go_at_call 166
      refine HTc.out.mono ?_
      rintro e w1 ⟨rfl, hb1⟩
      have HJ1 := hide' (HJ.out.below hb1)
      clear hb1 HTc
      have hok1 := HJ1.out.cli hi
      have hK := hok1.blk
      rw [HJ1.out.K_, HJ1.out.Y_] at hK
      unfold rcO at hK
      obtain ⟨wa, wc, hwv⟩ := hok1.row.len
      rw [List.length_map] at hwv
      rw [hwv] at hK
      have k1 := blkCell hK 1
      have k2 := blkCell hK 2
      simp at k1 k2
      have hKl := blkLt hK
      have hX := HJ1.out.jun.blk
      unfold rjO at hX
      have x2 := blkCell hX 2
      simp at x2
      have hXl := blkLt hX
      have hvl : v.ws.length = s.waits.length := hok1.len
      have hvl2 : v.ws.length ≤ 1000 := by omega
      by_cases hlw : s.waits.length < win
      · have hge : ¬ (win : Int) ≤ (v.ws.length : Int) := by omega
        have HME : Hid (rMeas w1 K Y = 2 * s.st.held.length + s.waits.length) := by have := hok1.meas; rw [HJ1.out.K_, HJ1.out.Y_] at this; exact this
        have hwvf := hwv
        clear hok1 hK hX hwv
        go_wp2_with fail
        go_quiet (fail)
        go_wp2_with fail
        have HJ2 := hide' (HJ1.out.below (below_drewN (Below.refl _ _) nq))
        have HME2 : Hid (rMeas (w1.drewN nq) K Y = 2 * s.st.held.length + s.waits.length) := HME.out
        clear k1 k2 x2 hKl hXl HJ1 HME
        generalize w1.drewN nq = w2 at *
        have hok2 := HJ2.out.cli hi
        have HNx := hide' (refnext_any Y d s.st w2 hd (by have := hok2.rd; rw [HJ2.out.Y_, HJ2.out.d_] at this; exact this) (by omega))
        clear hok2
        go_at_call 149
        refine HNx.out.mono ?_
        rintro e w3 ⟨hno, hT3⟩
        unfold NextOut at hno
        clear HNx
        cases hr : readR d s.st.held with
        | none =>
          rw [hr] at hno
          obtain ⟨rfl, hR3⟩ := hno
          have hr' : readR s.d s.st.held = none := by rw [HJ2.out.d_]; exact hr
          have HD : Hid (∀ o, RServed w (w3.alloc o) X sv pt win cv rv cis cs vs i tg) := fun o => (HJ2.out.nextNone hi hT3 hR3).done HSt.out (.inr hr') ((Below.refl _ _).alloc (Nat.le_refl _) o)
          clear hr hr' hT3 hR3
          unfold zCmdV
          go_wp2
          refine bodyPost_ret (v := .tuple #[]) (by simp [results, Tryz.results151, go_sem]) rfl ⟨rfl, HD.out _⟩
        | some x =>
          rw [hr] at hno
          obtain ⟨kv, rfl, hky, hR3⟩ := hno
          have hr' : readR s.d s.st.held = some x := by rw [HJ2.out.d_]; exact hr
          obtain ⟨h3, _⟩ := HJ2.out.next hi hT3 hR3
          have hwk := read_wOk hr'
          have hgb := (HJ2.out.bd.got hN hlw hr' sv pt).1
          have h4k := hwk.cm.k4
          have hbd3 : ∀ j, j < x.c.keys.length → ∀ u ∈ sendsS sv pt x.c.kind x.c.val ss (x.c.keys.take j), u.next < 65000 ∧ u.sent.length ≤ 100000000000 := fun j hj u hu => by
            have hne : x.c.keys ≠ [] := fun e => by rw [e] at hj; simp at hj
            obtain ⟨u0, hu0, e1, e2⟩ := sendsS_bd sv pt x.c.kind x.c.val hwk.cm.v40 (x.c.keys.take j) ss (fun k hk => hwk.cm.k8 k (List.mem_of_mem_take hk)) u hu
            have h5 := hgb hne u0 hu0
            have h6 : (x.c.keys.take j).length ≤ j := by rw [List.length_take]; omega
            omega
          have hcb : ∀ key ∈ x.c.keys, cmdB x.c.kind [key] x.c.val = true := fun key hk => by
            rcases hwk.ok.or_ with ⟨e, _⟩ | ⟨_, e, _⟩
            · exact cmdB_one e hk
            · rw [e] at hk; cases hk
          have hwl3 : ∀ s' ∈ cs.set i { s with st := afterS s.st x }, s'.waits.length ≤ 1000000 ∧ ∀ c ∈ s'.waits, c.keys.length ≤ 4 := HWl.out { s with st := afterS s.st x } HJ2.out.wo (by show s.waits.length ≤ 1000; omega)
          have HSd : Hid (∀ (wr' : World) (j : Nat) (pv : Value) (ps : List RPart) (key : ByteArray), RMid w3 wr' sv pt vs ss x.c kv w3.heap.size (w3.heap.size + 1) j pv ps → x.c.keys[j]? = some key → Calls Tryz.prog 167 #[.pointer (some ⟨X, 0, none⟩), cmdVR x.c kv, .string key] wr'.drew fun e w' => ∃ P, e = .returned (.pointer (some ⟨P, 0, none⟩)) ∧ RSentTo wr' w' X sv pt win cv rv (cis.set i v) (cs.set i { s with st := afterS s.st x }) vs (sendsS sv pt x.c.kind x.c.val ss (x.c.keys.take j)) x.c.kind x.c.val key P) := fun wr' j pv ps key hm hk => by
            have hjl := (List.getElem?_eq_some_iff.1 hk).1
            refine (rsends_any ((hm.jun h3).below (Below.refl _ _).drew) HJ2.out.ap (by rw [List.length_set]; exact hn) hwl3 hp1 x.c kv key (hcb key (List.mem_of_getElem? hk)) (hbd3 j hjl)).mono ?_
            rintro e w' ⟨P, h1, h2⟩
            exact ⟨P, h1, h2.undrew⟩
          have HMore : Hid (∀ (wr' w5 wa : World) (j P g2 cap2 : Nat) (pv : Value) (ps : List RPart) (key : ByteArray), RMid w3 wr' sv pt vs ss x.c kv w3.heap.size (w3.heap.size + 1) j pv ps → x.c.keys[j]? = some key → RSentTo wr' w5 X sv pt win cv rv (cis.set i v) (cs.set i { s with st := afterS s.st x }) vs (sendsS sv pt x.c.kind x.c.val ss (x.c.keys.take j)) x.c.kind x.c.val key P → wa.ownsRow 0 249 1 (.slice (some ⟨g2, 0, none⟩) (j + 1) cap2) (j + 1) (ps.map (fun p => ptrV p.B) ++ [.pointer (some ⟨P, 0, none⟩)]) → (w5.alloc (.cells #[.pointer (some ⟨P, 0, none⟩)] 249)).grownBy wa pv.ownBlock → (pv.ownBlock = some g2 ∨ g2 = (w5.alloc (.cells #[.pointer (some ⟨P, 0, none⟩)] 249)).heap.size) → ∃ ps', RMid w3 (wa.setCell ⟨w3.heap.size + 1, 6, none⟩ (.slice (some ⟨g2, 0, none⟩) (j + 1) cap2)) sv pt vs ss x.c kv w3.heap.size (w3.heap.size + 1) (j + 1) (.slice (some ⟨g2, 0, none⟩) (j + 1) cap2) ps') := fun wr' w5 wa j P g2 cap2 pv ps key hm hk hs h1 h2 h3' => hm.more hk h3 hs h1 h2 h3'
          have HSnt : Hid (∀ (wr' w5 : World) (j P : Nat) (pv : Value) (ps : List RPart) (key : ByteArray), RMid w3 wr' sv pt vs ss x.c kv w3.heap.size (w3.heap.size + 1) j pv ps → RSentTo wr' w5 X sv pt win cv rv (cis.set i v) (cs.set i { s with st := afterS s.st x }) vs (sendsS sv pt x.c.kind x.c.val ss (x.c.keys.take j)) x.c.kind x.c.val key P → w5.heap[w3.heap.size]? = some (cmdO x.c kv) ∧ w5.heap[w3.heap.size + 1]? = some (rwO x.c kv pv) ∧ KeysR w5 0 kv x.c.keys ∧ w5.ownsRow 0 249 1 pv j (ps.map (fun p => ptrV p.B))) := fun wr' w5 j P pv ps key hm hs => hm.sent h3 hs
          have HM0 := hide' (RMid.start h3 hky)
          have HGot : Hid (∀ (wr' wa : World) (pv : Value) (ps : List RPart) (va : Option Addr) (vc : Nat), RMid w3 wr' sv pt vs ss x.c kv w3.heap.size (w3.heap.size + 1) x.c.keys.length pv ps → OffRow wa 263 (.slice va (v.ws.length + 1) vc) (v.ws.map (fun u => ptrV u.B) ++ [.pointer (some ⟨w3.heap.size + 1, 0, none⟩)]) → Chg v.wv.ownBlock.toList (wr'.alloc (.cells #[.pointer (some ⟨w3.heap.size + 1, 0, none⟩)] 263)) wa → ((Value.slice va (v.ws.length + 1) vc).ownBlock = v.wv.ownBlock ∨ (Value.slice va (v.ws.length + 1) vc).ownBlock = some (wr'.alloc (.cells #[.pointer (some ⟨w3.heap.size + 1, 0, none⟩)] 263)).heap.size) → ∃ v', RSrv w (wa.setCell ⟨K, 2, none⟩ (.slice va (v.ws.length + 1) vc)) X sv pt win cv rv cis cs vs i K Y N T d v' (gotC s x) (sendsS sv pt x.c.kind x.c.val ss x.c.keys) tg) := fun wr' wa pv ps va vc hm h1 h2 h3' => HJ2.out.got hi hN hlw HSt.out hr' hT3 hR3 hky hm h1 h2 h3'
          have HKc : Hid (∀ (wr' : World) (j : Nat) (pv : Value) (ps : List RPart), RMid w3 wr' sv pt vs ss x.c kv w3.heap.size (w3.heap.size + 1) j pv ps → wr'.heap[K]? = some (.cells #[.int .i64 s.d, .pointer (some ⟨Y, 0, none⟩), .slice wa v.ws.length wc, .string (mkB s.told)] 247 (0, 0)) ∧ OffRow wr' 263 (.slice wa v.ws.length wc) (v.ws.map (fun u => ptrV u.B))) := fun wr' j pv ps hm => by
            have hjr := hm.jun h3
            have hcl := hjr.cl
            rw [List.length_set, List.length_set] at hcl
            have hcr := hjr.cli i v { s with st := afterS s.st x } (by rw [List.getElem?_set_self hi]) (by rw [List.getElem?_set_self (by omega)])
            have hb := hcr.blk
            have hrw := hcr.row
            rw [HJ2.out.K_, HJ2.out.Y_, hwvf] at hb
            rw [hwvf] at hrw
            exact ⟨hb, hrw⟩
          have HMes : Hid (∀ (w' : World) (v' : RCliI) (ss' : List SrvS), RSrv w w' X sv pt win cv rv cis cs vs i K Y N T d v' (gotC s x) ss' tg → rMeas w' K Y < rMeas wr K Y) := fun w' v' ss' h => by
            have h2 := (h.cli hi).meas
            rw [h.K_, h.Y_] at h2
            rw [h2, hme]
            show 2 * (afterS s.st x).held.length + (s.waits ++ [x.c]).length < _
            have := afterS_len hr'
            rw [List.length_append, List.length_singleton]
            omega
          rw [hwvf] at HGot
          obtain ⟨ka, kc, hkv⟩ := hky.form
          subst hkv
          have hafl := afterS_len hr'
          clear hr hr' h3 hwk hgb hbd3 hcb hwl3 hky hT3 hR3
          unfold cmdVR at HSd ⊢
          unfold cmdO rwO at HM0
          go_wp2_with fail
          generalize (w3.alloc (.cells #[.int .i64 x.c.kind, .slice ka x.c.keys.length kc, .string x.c.val, .string x.c.word, .bool x.c.fatal, .int .i64 x.c.id] 36)).alloc (.cells #[.int .i64 x.c.kind, .slice ka x.c.keys.length kc, .string x.c.val, .string x.c.word, .bool x.c.fatal, .int .i64 x.c.id, .slice none 0 0] 266) = w4 at *
          generalize hkn : x.c.keys.length = kn at *
          have HKN := hide' hkn
          clear hkn
          go_loopw [8] (fun q wr' => ∃ (j : Nat) (pv : Value) (ps : List RPart), j ≤ kn ∧ q = .int .i64 (j : Int) ∧ Hid (RMid w3 wr' sv pt vs ss x.c (.slice ka kn kc) w3.heap.size (w3.heap.size + 1) j pv ps)) (fun q _ => kn - (intOf q).toNat)
          case atStart => exact ⟨0, _, [], Nat.zero_le _, rfl, HM0⟩
          case round =>
            obtain ⟨j, pv, ps, hj, rfl, HM⟩ := hrel
            obtain ⟨pa, pc, hpv⟩ := row_form HM.out.row
            subst hpv
            have hmb := HM.out.mb
            unfold cmdO at hmb
            have hwb := HM.out.wb_
            unfold rwO at hwb
            have m0 := blkCell hmb 0
            have m1 := blkCell hmb 1
            have m2 := blkCell hmb 2
            have m3 := blkCell hmb 3
            have m4 := blkCell hmb 4
            have m5 := blkCell hmb 5
            have b6 := blkCell hwb 6
            simp at m0 m1 m2 m3 m4 m5 b6
            have bf := blkFree hwb
            have hMl := blkLt hmb
            have hBl := blkLt hwb
            by_cases hlt : j < kn
            · have hlt' : (j : Int) < (kn : Int) := by omega
              obtain ⟨key, hkey⟩ : ∃ key, x.c.keys[j]? = some key := ⟨_, List.getElem?_eq_getElem (by rw [HKN.out]; exact hlt)⟩
              obtain ⟨kb, ko, hka, hkk⟩ := HM.out.ky.some (by rw [HKN.out]; omega)
              clear hkk
              subst hka
              obtain ⟨ck, Zk, hZk⟩ := HM.out.ky.cell hkey
              have hkl := blkLt hZk
              have nM : (Value.slice pa j pc).ownBlock ≠ some w3.heap.size := fun e => by
                obtain ⟨cur, hc⟩ := ownsRow_blk HM.out.row e
                rw [hmb] at hc
                simp at hc
              have nB : (Value.slice pa j pc).ownBlock ≠ some (w3.heap.size + 1) := fun e => by
                obtain ⟨cur, hc⟩ := ownsRow_blk HM.out.row e
                rw [hwb] at hc
                simp at hc
              have nk : (Value.slice pa j pc).ownBlock ≠ some kb := fun e => by
                obtain ⟨cur, hc⟩ := ownsRow_blk HM.out.row e
                rw [hZk] at hc
                simp at hc
              have HNe := hide' (And.intro nM (And.intro nB nk))
              have hkB : ¬ kb = w3.heap.size + 1 := fun e => by rw [e, hwb] at hZk; simp at hZk
              have hkB2 : ¬ w3.heap.size + 1 = kb := fun e => hkB e.symm
              have HX := hide' (HSd.out wr j _ ps key HM.out hkey)
              have HKey := hide' hkey
              have wrj : IntKind.i64.wrap ((j : Int) + 1) = (j : Int) + 1 := wrap_small _ (by omega) (by omega)
              clear hmb hwb hZk nM nB nk hkey
              go_wp2_with fail
              go_region_law (first
                | (go_simp; go_at_call 167; refine HX.out.mono ?_; rintro e w5 ⟨P, rfl, hs5⟩; obtain ⟨y1, y2, y3, y4⟩ := HSnt.out wr w5 j P _ ps key HM.out hs5; unfold cmdO at y1; unfold rwO at y2; obtain ⟨ck5, Zk5, hZk5⟩ := y3.cell HKey.out; have n0 := blkCell y1 0; have n1 := blkCell y1 1; have n2 := blkCell y1 2; have n3 := blkCell y1 3; have n4 := blkCell y1 4; have n5 := blkCell y1 5; have b65 := blkCell y2 6; simp at n0 n1 n2 n3 n4 n5 b65; have bf5 := blkFree y2; have hMl5 := blkLt y1; have hBl5 := blkLt y2; have hkl5 := blkLt hZk5; have HS5 := hide' (And.intro hs5 (And.intro y4 (And.intro y1 (And.intro y2 hZk5)))); clear hs5 y1 y2 y3 y4 hZk5 m0 m1 m2 m3 m4 m5 bf ck)
                | (refine step_append_lies _ (by rfl) _ _ _ (by rfl) 0 249 i1 (.pointer none) 1 8 Tryz.underlying264 HI.out.1 HI.out.2.1 HI.out.2.2.1 HI.out.2.2.2 (by rfl) (by omega) (.slice pa j pc) j (ps.map (fun p => ptrV p.B)) (by rfl) (World.ownsRow.alloc HS5.out.2.1 _) ⟨w5.heap.size, 0, none⟩ 1 1 [.pointer (some ⟨P, 0, none⟩)] (by rfl) (by rfl) (World.news_of_block (cs := #[.pointer (some ⟨P, 0, none⟩)]) (blkNew w5 _)) (fun u hu => by simp at hu; subst hu; rfl) (by omega) (by unfold maxLen; omega) (by omega) (Nat.zero_le _) _ rfl ?_; intro g2 cap2 w6 hown hgrow hat hlta; have z1 := (hgrow.block w3.heap.size (by simp; omega) (fun e => HNe.out.1 e.symm)).trans (hs_alloc HS5.out.2.2.1 _); have z2 := (hgrow.block (w3.heap.size + 1) (by simp; omega) (fun e => HNe.out.2.1 e.symm)).trans (hs_alloc HS5.out.2.2.2.1 _); have z3 := hgrow.cell_far ⟨kb, ko + j, none⟩ (by simp; omega) (fun e => HNe.out.2.2 e.symm); have ck6 : w6.cell? ⟨kb, ko + j, none⟩ = some (.string key) := z3.trans ((World.cell?_of_block (w := w5) (Below.heap_alloc w5 _ _ hkl5)).trans ck5); have q0 := blkCell z1 0; have q1 := blkCell z1 1; have q2 := blkCell z1 2; have q3 := blkCell z1 3; have q4 := blkCell z1 4; have q5 := blkCell z1 5; have b66 := blkCell z2 6; simp at q0 q1 q2 q3 q4 q5 b66; have bf6 := blkFree z2; have hMl6 := blkLt z1; have hBl6 := blkLt z2; have HG := hide' (HMore.out wr w5 w6 j P g2 cap2 _ ps key HM.out HKey.out HS5.out.1 hown hgrow hat); clear hown hgrow hat hlta z1 z2 z3 n0 n1 n2 n3 n4 n5 bf5 ck5)
                | fail)
              all_goals
                clear q0 q1 q2 q3 q4 q5 b66 bf6 ck6
                generalize w6.setCell ⟨w3.heap.size + 1, 6, none⟩ (.slice (some ⟨g2, 0, none⟩) (j + 1) cap2) = wf at *
                go_wp2
                go_roundw
                case rel => exact HG.out.elim fun ps' h => ⟨j + 1, _, ps', by omega, by go_num, h⟩
                case measure => simp [intOf]; omega
            · have hje : j = kn := by omega
              subst hje
              have hlt' : ¬ (j : Int) < (j : Int) := by omega
              obtain ⟨hKb, hRw⟩ := HKc.out wr j _ ps HM.out
              have k2 := blkCell hKb 2
              simp at k2
              have kf := blkFree hKb
              have hKl := blkLt hKb
              obtain ⟨xs, hxs⟩ : ∃ xs, xs = v.ws.map (fun u => ptrV u.B) := ⟨_, rfl⟩
              have hxl : v.ws.length = xs.length := by rw [hxs]; simp
              have HGt : Hid (∀ (w9 : World) (va : Option Addr) (vc : Nat), OffRow w9 263 (.slice va (xs.length + 1) vc) (xs ++ [.pointer (some ⟨w3.heap.size + 1, 0, none⟩)]) → Chg (Value.slice wa xs.length wc).ownBlock.toList (wr.alloc (.cells #[.pointer (some ⟨w3.heap.size + 1, 0, none⟩)] 263)) w9 → ((Value.slice va (xs.length + 1) vc).ownBlock = (Value.slice wa xs.length wc).ownBlock ∨ (Value.slice va (xs.length + 1) vc).ownBlock = some (wr.alloc (.cells #[.pointer (some ⟨w3.heap.size + 1, 0, none⟩)] 263)).heap.size) → ∃ v', RSrv w (w9.setCell ⟨K, 2, none⟩ (.slice va (xs.length + 1) vc)) X sv pt win cv rv cis cs vs i K Y N T d v' (gotC s x) (sendsS sv pt x.c.kind x.c.val ss x.c.keys) tg) := fun w9 va vc h1 h2 h3 => by
                rw [← hxl] at h1 h2 h3 ⊢
                rw [hxs] at h1
                exact HGot.out wr w9 _ ps va vc HM.out h1 h2 h3
              rw [← hxs, hxl] at hRw
              rw [hxl] at k2 hvl2
              have nK : (Value.slice wa xs.length wc).ownBlock ≠ some K := fun e => by
                obtain ⟨cur, hc⟩ := hRw.blk e
                rw [hKb] at hc
                simp at hc
              have HRw : Hid (OffRow (wr.alloc (.cells #[.pointer (some ⟨w3.heap.size + 1, 0, none⟩)] 263)) 263 (.slice wa xs.length wc) xs) := hRw.other (fun g hg => by obtain ⟨cur, hc⟩ := hRw.blk hg; exact Below.heap_alloc _ _ _ (blkLt hc))
              have hNw : (wr.alloc (.cells #[.pointer (some ⟨w3.heap.size + 1, 0, none⟩)] 263)).cell? ⟨wr.heap.size, 0, none⟩ = some (.pointer (some ⟨w3.heap.size + 1, 0, none⟩)) := blkCell (blkNew wr _) 0
              have HNw := hide' hNw
              have HKB := hide' (And.intro hKb nK)
              clear hmb hwb hRw hKb nK hNw hxs hvl hge hlw hwvf HGot HKc HSd HMore HSnt
              go_wp2_with (first
                | (at_builtin; refine wpList_append_off _ rfl _ _ _ rfl 263 i2 (.pointer none) Tryz.underlying245 HI2.out.1 HI2.out.2.1 rfl HI2.out.2.2.1 HI2.out.2.2.2 (.slice wa xs.length wc) xs rfl HRw.out ⟨wr.heap.size, 0, none⟩ 1 (.pointer (some ⟨w3.heap.size + 1, 0, none⟩)) rfl HNw.out rfl (by omega) ?_; intro va vc w9 h1 h2 h3; have hK9 := (h2.block K (by simp; omega) (fun hm => HKB.out.2 (mem_own hm))).trans ((Below.heap_alloc wr _ _ hKl).trans HKB.out.1); have k29 := blkCell hK9 2; have kf9 := blkFree hK9; simp at k29; have hKl9 := blkLt hK9; have HF := hide' (HGt.out w9 va vc h1 h2 h3); clear h1 h2 h3 hK9 k2 kf)
                | fail)
              go_roundw
              case rel => exact HF.out.elim fun v' h => ⟨v', _, _, h⟩
              case measure => exact HF.out.elim fun v' h => HMes.out _ v' _ h
      · have hge : (win : Int) ≤ (v.ws.length : Int) := by omega
        have HD := hide' (fun q => HJ1.out.done HSt.out (.inl hlw) (below_drewN (Below.refl _ _) q))
        clear hok1 hK hX hwv
        go_wp2_with fail
        go_quiet (fail)
        go_wp2
        refine bodyPost_ret (v := .tuple #[]) (by simp [results, Tryz.results151, go_sem]) rfl ⟨rfl, HD.out nq⟩

set_option maxHeartbeats 1000000 in
set_option maxRecDepth 100000 in
theorem rsay_no {w : World} {X sv pt win : Nat} {cv rv : Value} {cis : List RCliI} {cs : List CliS} {vs : List Nat} {ss : List SrvS} (h : RJunAt w X sv pt win cv rv cis cs vs ss) (hn : cis.length ≤ 1000000) (k : Int) (piece : ByteArray) (hk : k < 0 ∨ (cis.length : Int) ≤ k) :
    Calls Tryz.prog 115 #[.pointer (some ⟨X, 0, none⟩), .int .i64 k, .string piece] w fun e w' => e = .returned (.int .i64 1) ∧ w' = w := by
  obtain ⟨a, c, rfl⟩ := row_form h.crow
  have hb := h.blk
  unfold rjO at hb
  have c3 := blkCell hb 3
  simp at c3
  have hlt := blkLt hb
  clear h hb
  by_cases h0 : k < 0
  · go_enter Tryz.func115, Tryz.ntmps115
    go_wp2
    go_ret
    exact ⟨rfl, rfl⟩
  · have h1 : (cis.length : Int) ≤ k := by omega
    go_enter Tryz.func115, Tryz.ntmps115
    go_wp2
    go_ret
    exact ⟨rfl, rfl⟩
set_option maxHeartbeats 1000000 in
set_option maxRecDepth 100000 in
theorem rsay_yes {w : World} {X sv pt win : Nat} {cv rv : Value} {cis : List RCliI} {cs : List CliS} {vs : List Nat} {ss : List SrvS} (h : RJunAt w X sv pt win cv rv cis cs vs ss) (ha : RApart cis vs) (hn : cis.length ≤ 1000) {i : Nat} {v : RCliI} {s : CliS} (hv : cis[i]? = some v) (hs : cs[i]? = some s) (piece : ByteArray) {N T : Nat} (hN : N < 65000) (hT : T ≤ 100000000000) (hwin : win ≤ 1000) (hp1 : 1 ≤ pt) (hd : s.d = 1 ∨ s.d = 2 ∨ s.d = 3) (hwo : ∀ s ∈ cs, WaitsOk s ∧ s.waits.length ≤ 1000) (hb : Bd win N T (tookC s piece.data.toList) ss) (hl : s.st.held.length + piece.size ≤ 1000000000000) :
    Calls Tryz.prog 115 #[.pointer (some ⟨X, 0, none⟩), .int .i64 (i : Int), .string piece] w fun e w' => e = .returned (.int .i64 0) ∧ RServed w w' X sv pt win cv rv cis cs vs i (saidS sv pt win s ss piece.data.toList) := by
  have hi := (List.getElem?_eq_some_iff.1 hv).1
  obtain ⟨g, c, rfl, hgl, hg⟩ := row_at h.crow (by simp) (i := i) (x := ptrV v.K) (by rw [List.getElem?_map, hv]; rfl)
  unfold ptrV at hg
  have hok := h.cli i v s hv hs
  have hX := h.blk
  unfold rjO at hX
  have c3 := blkCell hX 3
  simp at c3
  have hlt := blkLt hX
  have hK := hok.blk
  unfold rcO at hK
  have k1 := blkCell hK 1
  simp at k1
  have hKl := blkLt hK
  have h0 : ¬ (i : Int) < 0 := by omega
  have h1 : ¬ (cis.length : Int) ≤ (i : Int) := by omega
  have h2 : (i : Int) < (cis.length : Int) := by omega
  have HPu := hide' (refpush_any v.Y s.d s.st piece w hok.rd hl)
  have HSv : Hid (∀ w1, RefAt w1 v.Y s.d (takeS s.st piece.data.toList) → Turn v.Y w w1 → Calls Tryz.prog 151 #[.pointer (some ⟨X, 0, none⟩), .pointer (some ⟨v.K, 0, none⟩)] w1 fun e w' => e = .returned (.tuple #[]) ∧ RServed w w' X sv pt win (.slice (some ⟨g, 0, none⟩) cis.length c) rv cis cs vs i (saidS sv pt win s ss piece.data.toList)) := fun w1 hR hTn => by
    obtain ⟨a1, a2⟩ := hok.turned hTn hR
    obtain ⟨b1, b2, b3⟩ := h.cliTo ha hv a2 a1 rfl (Later.refl _ _)
    have hS0 : RSrv w1 w1 X sv pt win (.slice (some ⟨g, 0, none⟩) cis.length c) rv (cis.set i v) (cs.set i (tookC s piece.data.toList)) vs i v.K v.Y N T s.d v (tookC s piece.data.toList) ss (saidS sv pt win s ss piece.data.toList) := ⟨by rw [List.set_set, List.set_set]; exact b1, by rw [List.set_set]; exact b2, rfl, rfl, Chg.refl _ _, by rw [List.set_set]; exact Later.refl _ _, rfl, hb, (hwo s (List.mem_of_getElem? hs)).1, rfl⟩
    refine (rserves hS0 (by rw [List.length_set]; exact hi) (by rw [List.length_set]; exact hn) (fun s' hs' => ?_) hp1 hN hT hwin hd).mono ?_
    · rcases List.mem_or_eq_of_mem_set hs' with e | e
      · exact hwo s' e
      · rw [e]; exact hwo s (List.mem_of_getElem? hs)
    · rintro e w' ⟨rfl, v', c1, c2, c3, c4⟩
      rw [List.set_set] at c1 c2 c4
      rw [List.set_set] at c1
      have k0 : Chg (footR X (.slice (some ⟨g, 0, none⟩) cis.length c) cis vs) w w1 := a2.more (fun b hb => mem_footR.2 (.inr (.inr (.inl ⟨i, v, hv, hb⟩))))
      exact ⟨rfl, v', c1, c2, k0.trans c3 b3, b3.trans c4 k0.size⟩
  clear h ha hb hX hK hok hwo
  go_enter Tryz.func115, Tryz.ntmps115
  go_wp2_with fail
  go_at_call 148
  refine HPu.out.mono ?_
  rintro e w1 ⟨rfl, hR, hTn⟩
  have HS1 := hide' (HSv.out w1 hR hTn)
  clear hR hTn
  go_wp2_with fail
  go_at_call 151
  refine HS1.out.mono ?_
  rintro e w2 ⟨rfl, hf⟩
  have HF := hide' hf
  clear hf
  go_wp2
  go_ret
  exact ⟨rfl, HF.out⟩
end Go.Proofs.YtlonjggfnleolaaGreatDoor
