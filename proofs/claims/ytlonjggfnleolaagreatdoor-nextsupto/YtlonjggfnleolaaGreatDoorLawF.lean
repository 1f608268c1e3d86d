/-
  junctionkeep: raw, pick, same.
-/
import Derived.Test.YtlonjggfnleolaaGreatDoorOwnD
import Derived.Test.YtlonjggfnleolaaGreatDoorKey
import Derived.Test.YtlonjggfnleolaaGreatDoorOwnG
import Derived.Test.YtlonjggfnleolaaGreatDoorDecode
import Derived.Test.YtlonjggfnleolaaGreatDoorOwnH
import Derived.Deep.RegionHeld3
import Derived.Deep.RegionLaw

namespace Go.Proofs.YtlonjggfnleolaaGreatDoor
open Go.RowKit
set_option linter.unusedVariables false

/-- Raw numbers that a call was handed. -/
structure RawIn (w : World) (a : Option Addr) (n c : Nat) (xs : List Int) : Prop where
  len : xs.length = n
  cap : n ≤ c
  small : n ≤ 140737488355328
  ag : ∀ g o, a = some ⟨g, o, none⟩ → 1 ≤ n → g < w.heap.size
  by_ : ∀ i, i < n → ∃ g o, a = some ⟨g, o, none⟩ ∧ w.cell? ⟨g, o + i, none⟩ = some (.int .i64 (xs.getD i 0))
  wf : ∀ i, i < n → (Lit.int .i64 (xs.getD i 0)).wf = true
theorem RawIn.later {w w' : World} {a : Option Addr} {n c : Nat} {xs : List Int} (h : RawIn w a n c xs) (hb : Below w.heap.size w w') : RawIn w' a n c xs :=
  ⟨h.len, h.cap, h.small, fun g o e h1 => Nat.lt_of_lt_of_le (h.ag g o e h1) hb.size, fun i hi => by
    obtain ⟨g, o, e, hc⟩ := h.by_ i hi
    exact ⟨g, o, e, (hb.cell (p := ⟨g, o + i, none⟩) (h.ag g o e (by omega))).trans hc⟩, h.wf⟩
def rawN (xs : List Int) (i : Nat) : Int := if xs.length = 0 then 0 else xs.getD (i % xs.length) 0
theorem rawN_wf {w : World} {a : Option Addr} {n c : Nat} {xs : List Int} (h : RawIn w a n c xs) (i : Nat) : (Lit.int .i64 (rawN xs i)).wf = true := by
  unfold rawN
  split
  · rfl
  · rename_i h0
    have := h.len
    exact h.wf _ (by have := Nat.mod_lt i (show 0 < xs.length by omega); omega)
set_option maxHeartbeats 1000000 in
theorem raw_any (a : Option Addr) (n c : Nat) (xs : List Int) (i : Nat) (w : World) (h : RawIn w a n c xs) (hi : i ≤ 140737488355328) :
    Calls Tryz.prog 37 #[.slice a n c, .int .i64 (i : Int)] w fun e w' => e = .returned (.int .i64 (rawN xs i)) ∧ w' = w := by
  have hl := h.len
  have hsm := h.small
  by_cases h0 : n = 0
  · subst h0
    have hr : rawN xs i = 0 := by unfold rawN; rw [if_pos hl]
    rw [hr]
    clear h hl hr
    go_enter Tryz.func37, Tryz.ntmps37
    go_wp2
    go_ret
    exact ⟨rfl, rfl⟩
  · have hr : rawN xs i = xs.getD (i % n) 0 := by unfold rawN; rw [if_neg (by omega), hl]
    rw [hr]
    have hm : i % n < n := Nat.mod_lt i (by omega)
    obtain ⟨g, o, rfl, hc⟩ := h.by_ (i % n) hm
    generalize xs.getD (i % n) 0 = x at *
    have h0' : ((n : Int) == 0) = false := by rw [beq_eq_false_iff_ne]; omega
    have hmm : (i : Int) % (n : Int) = ((i % n : Nat) : Int) := by simp
    obtain ⟨m, hmd⟩ : ∃ m, i % n = m := ⟨_, rfl⟩
    rw [hmd] at hm hc hmm
    have hm' : (m : Int) < (n : Int) := by omega
    have hnz : ¬ (n : Int) = 0 := by omega
    clear h hl hr hmd
    go_enter Tryz.func37, Tryz.ntmps37
    go_wp2
    go_ret
    exact ⟨rfl, rfl⟩
set_option maxHeartbeats 1000000 in
theorem pick_big (c : Int) (n : Nat) (w : World) (hc : (Lit.int .i64 c).wf = true) (hn : 0 < n) (hn2 : n ≤ 140737488355328) :
    Calls Tryz.prog 17 #[.int .i64 c, .int .i64 n] w fun e w' => e = .returned (.int .i64 (pickN c n)) ∧ w' = w := by
  obtain ⟨b1, b2⟩ := bounds_i64 hc
  by_cases h : c < 0
  · go_enter Tryz.func17, Tryz.ntmps17
    go_wp2
    go_ret
    refine ⟨ret_int ?_, rfl⟩
    rw [pickN_eq c n hn, if_pos h, ← Int.neg_tmod, Int.tmod_eq_emod_of_nonneg (by omega)]
  · have h' : ¬ c < 0 := h
    go_enter Tryz.func17, Tryz.ntmps17
    go_wp2
    go_ret
    refine ⟨ret_int ?_, rfl⟩
    rw [pickN_eq c n hn, if_neg (by omega)]

/-- The keys of a list in memory, cell by cell. -/
theorem keysIn_cells {W : World} {lo : Nat} {a : Option Addr} {n c : Nat} {ss : List ByteArray} (h : KeysIn W lo (.slice a n c) ss) : ss.length = n ∧ n ≤ c ∧ ∀ i s, ss[i]? = some s → ∃ g, a = some ⟨g, 0, none⟩ ∧ g < W.heap.size ∧ W.cell? ⟨g, i, none⟩ = some (.string s) := by
  rcases h with ⟨h, rfl⟩ | ⟨b, c', h, _, Z, hZ, hz, hl, hi⟩
  · cases h; exact ⟨rfl, Nat.le_refl _, fun i s h => by simp at h⟩
  · cases h
    refine ⟨rfl, by omega, fun i s hs => ⟨b, rfl, blkLt hZ, ?_⟩⟩
    rw [blkCell hZ i]; exact hi i s hs

theorem toList_beq (s : ByteArray) : (s.toList == s.toList) = true := by simp

set_option maxRecDepth 20000 in
set_option maxHeartbeats 2000000 in
/-- same: of a command and itself, wherever its keys lie. -/
theorem same_yes (k : Int) (a1 a2 : Option Addr) (n c1 c2 : Nat) (val wd : ByteArray) (ft : Bool) (id1 id2 : Int) (ss : List ByteArray) (lo1 lo2 : Nat) (w : World) (h1 : KeysIn w lo1 (.slice a1 n c1) ss) (h2 : KeysIn w lo2 (.slice a2 n c2) ss) (hn : n ≤ 1000) (hs : ∀ s ∈ ss, s.size ≤ 1000) :
    Calls Tryz.prog 20 #[cmdV6 k (.slice a1 n c1) val wd ft id1, cmdV6 k (.slice a2 n c2) val wd ft id2] w fun e w' => e = .returned (.bool true) ∧ Below w.heap.size w w' := by
  obtain ⟨l1, p1, q1⟩ := keysIn_cells h1
  obtain ⟨l2, p2, q2⟩ := keysIn_cells h2
  have HQ := hide' (And.intro q1 q2)
  have HL := hide' l1
  have HB2 := hide' (show ∀ x y, Below w.heap.size w ((w.alloc x).alloc y) from fun x y => ((Below.refl _ _).alloc (Nat.le_refl _) _).alloc (by simp) _)
  clear q1 q2 h1 h2 l1 l2
  unfold cmdV6
  have tb := toList_beq
  go_enter Tryz.func20, Tryz.ntmps20
  go_wp2
  go_loopw [5] (fun i wr => ∃ (j q : Nat), j ≤ n ∧ i = .int .i64 j ∧ wr = ((w.alloc (.cells #[.int .i64 k, .slice a1 n c1, .string val, .string wd, .bool ft, .int .i64 id1] 36)).alloc (.cells #[.int .i64 k, .slice a2 n c2, .string val, .string wd, .bool ft, .int .i64 id2] 36)).drewN q) (fun i _ => n - (intOf i).toNat)
  case atStart => exact ⟨0, 0, Nat.zero_le _, rfl, rfl⟩
  case round =>
    obtain ⟨j, q, hj, rfl, rfl⟩ := hrel
    by_cases hlt : j < n
    · obtain ⟨s, hsj⟩ : ∃ s, ss[j]? = some s := by
        have := HL.out
        exact ⟨ss[j], List.getElem?_eq_getElem (by omega)⟩
      obtain ⟨g1, e1, hg1, k1⟩ := HQ.out.1 j s hsj
      obtain ⟨g2, e2, hg2, k2⟩ := HQ.out.2 j s hsj
      subst e1
      subst e2
      have hlt' : (j : Int) < (n : Int) := by omega
      have hg1a : g1 < w.heap.size + 1 := by omega
      have hg2a : g2 < w.heap.size + 1 := by omega
      have hsz := hs s (List.mem_of_getElem? hsj)
      clear hsj
      go_wp2
      go_quiet (fail)
      go_wp2
      go_roundw
      case rel => exact ⟨j + 1, _, by omega, by go_num, rfl⟩
      case measure => simp [intOf]; omega
    · have hlt' : ¬ (j : Int) < (n : Int) := by omega
      go_wp2
      go_ret
      exact ⟨rfl, below_drewN (HB2.out _ _) _⟩
end Go.Proofs.YtlonjggfnleolaaGreatDoor


/-
  The readers that a script has made, the program's and the reference's side by side.
-/

namespace Go.Proofs.YtlonjggfnleolaaGreatDoor
open Go.RowKit Go.Shelf
set_option linter.unusedVariables false

/-- The steps of a script are as they were. -/
def Kept95 (w w' : World) : Prop := ∀ (b : Nat) (Z : Array Value), w.heap[b]? = some (.cells Z 95 (0, 0)) → w'.heap[b]? = some (.cells Z 95 (0, 0))
theorem Kept95.trans {a b c : World} (h : Kept95 a b) (k : Kept95 b c) : Kept95 a c := fun x Z hx => k x Z (h x Z hx)
theorem Kept95.of_below {w w' : World} (h : Below w.heap.size w w') : Kept95 w w' := fun b Z hb => (h.block b (blkLt hb)).trans hb
theorem Kept95.of_cm {w w' : World} {lo : Nat} (h : CmTo w w' lo) : Kept95 w w' := fun b Z hb => h.kept b Z 95 _ hb (by decide) (by decide) (by decide) (by decide) (by decide) (by decide)
structure RdI where
  P : Nat
  D : Nat
  hb : Option Nat
  Y : Nat
  d : Int
  s : St
structure RdOk (W : World) (lo : Nat) (r : RdI) : Prop where
  pair : W.heap[r.P]? = some (.cells #[.pointer (some ⟨r.D, 0, none⟩), .pointer (some ⟨r.Y, 0, none⟩)] 193 (0, 0))
  rd : RdrAt W r.D r.hb (tyOf r.d) r.s
  rf : RefAt W r.Y r.d r.s
  di : r.d = 1 ∨ r.d = 2 ∨ r.d = 3
  geD : lo ≤ r.D
  geY : lo ≤ r.Y
  geH : ∀ b, r.hb = some b → lo ≤ b
structure RdsAt (W : World) (lo : Nat) (rv : Value) (rs : List RdI) : Prop where
  row : Row W lo 151 1 rv rs.length (rs.map fun r => .pointer (some ⟨r.P, 0, none⟩))
  all : ∀ r ∈ rs, RdOk W lo r
  apart : ∀ (i j : Nat) (ri rj : RdI), i ≠ j → rs[i]? = some ri → rs[j]? = some rj → ri.D ≠ rj.D ∧ ri.Y ≠ rj.Y ∧ ∀ b, ri.hb = some b → rj.hb ≠ some b

/-- The block of what a reader holds. -/
theorem RdrAt.hbO {W : World} {D t b : Nat} {s : St} (R : RdrAt W D (some b) t s) : ∃ Z, W.heap[b]? = some (.cells Z 5 (0, 0)) := by
  obtain ⟨⟨v, u, hD, ⟨⟨all, ⟨h1, h2⟩, h3⟩, hbk⟩, _⟩, _⟩ := R
  rcases h2 with ⟨rfl, _⟩ | ⟨g, cap, cur, rfl, _, hg, _⟩
  · cases hbk
  · cases hbk; exact ⟨cur, hg⟩
theorem RdrAt.dO {W : World} {D t : Nat} {hb : Option Nat} {s : St} (R : RdrAt W D hb t s) : ∃ Z, W.heap[D]? = some (.cells Z 134 (0, 0)) := by
  obtain ⟨⟨v, u, hD, _⟩, _⟩ := R
  exact ⟨_, hD⟩
theorem RdOk.keep {W W' : World} {lo : Nat} {r : RdI} (h : RdOk W lo r) (k : ∀ (b : Nat) (Z : Array Value) (T : Nat), W.heap[b]? = some (.cells Z T (0, 0)) → (T = 193 ∨ T = 134 ∨ T = 5 ∨ T = 195) → W'.heap[b]? = W.heap[b]?) : RdOk W' lo r := by
  refine ⟨(k _ _ 193 h.pair (.inl rfl)).trans h.pair, h.rd.other ?_ (fun b hb => ?_), ⟨(k _ _ 195 h.rf.at_ (.inr (.inr (.inr rfl)))).trans h.rf.at_, h.rf.ok⟩, h.di, h.geD, h.geY, h.geH⟩
  · obtain ⟨Z, hZ⟩ := h.rd.dO
    exact k _ Z 134 hZ (.inr (.inl rfl))
  · have hr := h.rd
    rw [hb] at hr
    obtain ⟨Z, hZ⟩ := hr.hbO
    exact k b Z 5 hZ (.inr (.inr (.inl rfl)))
theorem RdsAt.keep {W W' : World} {lo : Nat} {rv : Value} {rs : List RdI} (h : RdsAt W lo rv rs) (k : ∀ (b : Nat) (Z : Array Value) (T : Nat), W.heap[b]? = some (.cells Z T (0, 0)) → (T = 151 ∨ T = 193 ∨ T = 134 ∨ T = 5 ∨ T = 195) → W'.heap[b]? = W.heap[b]?) : RdsAt W' lo rv rs :=
  ⟨h.row.other (fun g Z _ hZ _ => k g Z 151 hZ (.inl rfl)), fun r hr => (h.all r hr).keep (fun b Z T hZ hT => k b Z T hZ (.inr hT)), h.apart⟩
theorem RdsAt.below {W W' : World} {lo : Nat} {rv : Value} {rs : List RdI} (h : RdsAt W lo rv rs) (hb : Below W.heap.size W W') : RdsAt W' lo rv rs := h.keep (fun b Z T hZ _ => hb.block b (blkLt hZ))
theorem RdsAt.cm {W W' : World} {lo : Nat} {rv : Value} {rs : List RdI} (h : RdsAt W lo rv rs) (hc : CmTo W W' lo) : RdsAt W' lo rv rs :=
  h.keep (fun b Z T hZ hT => (hc.kept b Z T _ hZ (by rcases hT with h | h | h | h | h <;> rw [h] <;> decide) (by rcases hT with h | h | h | h | h <;> rw [h] <;> decide) (by rcases hT with h | h | h | h | h <;> rw [h] <;> decide) (by rcases hT with h | h | h | h | h <;> rw [h] <;> decide) (by rcases hT with h | h | h | h | h <;> rw [h] <;> decide) (by rcases hT with h | h | h | h | h <;> rw [h] <;> decide)).trans hZ.symm)

/-- A piece was fed to one reader, the program's and the reference's. -/
theorem RdsAt.fed {W W1 W2 : World} {lo i : Nat} {rv : Value} {rs : List RdI} {r : RdI} {hb' : Option Nat} {s' : St} (h : RdsAt W lo rv rs) (hi : rs[i]? = some r) (hR : RdrAt W1 r.D hb' (tyOf r.d) s') (hF : Fresh W r.hb hb') (hT : Turn2 r.D r.hb W W1) (hY : RefAt W2 r.Y r.d s') (hT2 : Turn r.Y W1 W2) (hlo : lo ≤ W.heap.size) : RdsAt W2 lo rv (rs.set i { r with hb := hb', s := s' }) := by
  have hr := h.all r (List.mem_of_getElem? hi)
  obtain ⟨ZD, hZD⟩ := hr.rd.dO
  have hs1 := hT.size
  -- what is none of this reader's, is as it was
  have far : ∀ (b : Nat) (o : Obj), W.heap[b]? = some o → b ≠ r.D → some b ≠ r.hb → b ≠ r.Y → W2.heap[b]? = some o := fun b o hb h1 h2 h3 => by
    have e1 := (hT.block b (blkLt hb) h1 h2).trans hb
    exact (hT2.block b (blkLt e1) h3).trans e1
  have neY : ∀ (b : Nat) (Z : Array Value) (T : Nat), W.heap[b]? = some (.cells Z T (0, 0)) → T ≠ 195 → b ≠ r.Y := fun b Z T hb hT e => by
    rw [e, hr.rf.at_] at hb; unfold refO at hb; cases hb; exact hT rfl
  have neD : ∀ (b : Nat) (Z : Array Value) (T : Nat), W.heap[b]? = some (.cells Z T (0, 0)) → T ≠ 134 → b ≠ r.D := fun b Z T hb hT e => by
    rw [e, hZD] at hb; cases hb; exact hT rfl
  have neH : ∀ (b : Nat) (Z : Array Value) (T : Nat), W.heap[b]? = some (.cells Z T (0, 0)) → T ≠ 5 → some b ≠ r.hb := fun b Z T hb hT e => by
    have hrd := hr.rd
    rw [← e] at hrd
    obtain ⟨Z', hZ'⟩ := hrd.hbO
    rw [hZ'] at hb; cases hb; exact hT rfl
  have hlen : (rs.set i { r with hb := hb', s := s' }).length = rs.length := by simp
  have geH' : ∀ b, hb' = some b → lo ≤ b := fun b hb => by
    rcases hF with h1 | h1 | ⟨k, h1, h2⟩
    · exact hr.geH b (by rw [← h1]; exact hb)
    · rw [h1] at hb; cases hb
    · rw [h1] at hb; cases hb; omega
  -- the pointer row
  have hrow : Row W2 lo 151 1 rv rs.length (rs.map fun r => .pointer (some ⟨r.P, 0, none⟩)) := h.row.other (fun g Z _ hZ _ => (far g _ hZ (neD g Z 151 hZ (by decide)) (neH g Z 151 hZ (by decide)) (neY g Z 151 hZ (by decide))).trans hZ.symm)
  have hmap : (rs.set i { r with hb := hb', s := s' }).map (fun r => Value.pointer (some ⟨r.P, 0, none⟩)) = rs.map fun r => .pointer (some ⟨r.P, 0, none⟩) := by
    rw [List.map_set]
    apply List.ext_getElem?
    intro k
    rw [List.getElem?_set]
    by_cases hk : i = k
    · subst hk
      have hlt : i < (rs.map fun r => Value.pointer (some ⟨r.P, 0, none⟩)).length := by rw [List.length_map]; exact (List.getElem?_eq_some_iff.1 hi).1
      rw [if_pos rfl, if_pos hlt, List.getElem?_map, hi]
      rfl
    · rw [if_neg hk]
  -- this reader
  have hYn : RdrAt W2 r.D hb' (tyOf r.d) s' := by
    obtain ⟨ZD1, hZD1⟩ := hR.dO
    have hrf1 : W1.heap[r.Y]? = some (refO r.d r.s) := (hT.block r.Y (blkLt hr.rf.at_) (fun e => by have := hr.rf.at_; rw [e, hZD] at this; unfold refO at this; cases this) (fun e => by
      have hrd := hr.rd
      rw [← e] at hrd
      obtain ⟨Z', hZ'⟩ := hrd.hbO
      have := hr.rf.at_
      rw [hZ'] at this
      unfold refO at this
      cases this)).trans hr.rf.at_
    refine hR.other (hT2.block _ (blkLt hZD1) (fun e => by rw [e, hrf1] at hZD1; unfold refO at hZD1; cases hZD1)) (fun b hb => ?_)
    have hR' := hR
    rw [hb] at hR'
    obtain ⟨Z', hZ'⟩ := hR'.hbO
    exact hT2.block b (blkLt hZ') (fun e => by rw [e, hrf1] at hZ'; unfold refO at hZ'; cases hZ')
  have mine : RdOk W2 lo { r with hb := hb', s := s' } := ⟨far _ _ hr.pair (neD _ _ 193 hr.pair (by decide)) (neH _ _ 193 hr.pair (by decide)) (neY _ _ 193 hr.pair (by decide)), hYn, hY, hr.di, hr.geD, hr.geY, geH'⟩
  -- another reader
  have other : ∀ (j : Nat) (rj : RdI), i ≠ j → rs[j]? = some rj → RdOk W2 lo rj := fun j rj hij hj => by
    obtain ⟨a1, a2, a3⟩ := h.apart i j r rj hij hi hj
    have hrj := h.all rj (List.mem_of_getElem? hj)
    obtain ⟨Zj, hZj⟩ := hrj.rd.dO
    refine ⟨far _ _ hrj.pair (neD _ _ 193 hrj.pair (by decide)) (neH _ _ 193 hrj.pair (by decide)) (neY _ _ 193 hrj.pair (by decide)), hrj.rd.other ((far _ _ hZj (fun e => a1 e.symm) (neH _ _ 134 hZj (by decide)) (neY _ _ 134 hZj (by decide))).trans hZj.symm) (fun b hb => ?_), ⟨far _ _ hrj.rf.at_ (neD _ _ 195 hrj.rf.at_ (by decide)) (neH _ _ 195 hrj.rf.at_ (by decide)) (fun e => a2 e.symm), hrj.rf.ok⟩, hrj.di, hrj.geD, hrj.geY, hrj.geH⟩
    have hrd := hrj.rd
    rw [hb] at hrd
    obtain ⟨Z', hZ'⟩ := hrd.hbO
    exact (far b _ hZ' (neD _ _ 5 hZ' (by decide)) (fun e => a3 b e.symm hb) (neY _ _ 5 hZ' (by decide))).trans hZ'.symm
  have look : ∀ (j : Nat) (rj : RdI), (rs.set i { r with hb := hb', s := s' })[j]? = some rj → (i = j ∧ rj = { r with hb := hb', s := s' }) ∨ (i ≠ j ∧ rs[j]? = some rj) := fun j rj hj => by
    rw [List.getElem?_set] at hj
    by_cases hij : i = j
    · subst hij
      have hlt : i < rs.length := (List.getElem?_eq_some_iff.1 hi).1
      simp [hlt] at hj
      exact .inl ⟨rfl, hj.symm⟩
    · simp [hij] at hj
      exact .inr ⟨hij, hj⟩
  -- what another reader holds is none of the new block
  have hbNe : ∀ (j : Nat) (rj : RdI), i ≠ j → rs[j]? = some rj → ∀ b, hb' = some b → rj.hb ≠ some b := fun j rj hij hj b hb e => by
    obtain ⟨a1, a2, a3⟩ := h.apart i j r rj hij hi hj
    rcases hF with h1 | h1 | ⟨k, h1, h2⟩
    · exact a3 b (by rw [← h1]; exact hb) e
    · rw [h1] at hb; cases hb
    · rw [h1] at hb
      cases hb
      have hrd := (h.all rj (List.mem_of_getElem? hj)).rd
      rw [e] at hrd
      obtain ⟨Z', hZ'⟩ := hrd.hbO
      have := blkLt hZ'
      omega
  refine ⟨by rw [hlen, hmap]; exact hrow, fun rj hrj => ?_, fun a b ra rb hab ha hb => ?_⟩
  · obtain ⟨j, hj, e⟩ := List.mem_iff_getElem.1 hrj
    have hj' : (rs.set i { r with hb := hb', s := s' })[j]? = some rj := by rw [List.getElem?_eq_getElem hj, e]
    rcases look j rj hj' with ⟨_, rfl⟩ | ⟨hij, hj2⟩
    · exact mine
    · exact other j rj hij hj2
  · rcases look a ra ha with ⟨ea, rfl⟩ | ⟨hia, ha2⟩
    · rcases look b rb hb with ⟨eb, rfl⟩ | ⟨hib, hb2⟩
      · exact absurd (ea.symm.trans eb) hab
      · obtain ⟨a1, a2, a3⟩ := h.apart i b r rb hib hi hb2
        exact ⟨a1, a2, fun x hx => hbNe b rb hib hb2 x hx⟩
    · rcases look b rb hb with ⟨eb, rfl⟩ | ⟨hib, hb2⟩
      · obtain ⟨a1, a2, a3⟩ := h.apart a i ra r (fun e => hia e.symm) ha2 hi
        exact ⟨a1, a2, fun x hx e => hbNe a ra hia ha2 x e hx⟩
      · exact h.apart a b ra rb hab ha2 hb2
end Go.Proofs.YtlonjggfnleolaaGreatDoor


/-
  same: two commands that are.
-/

namespace Go.Proofs.YtlonjggfnleolaaGreatDoor
open Go.RowKit Go.Shelf
set_option linter.unusedVariables false

theorem keysR_cells {w : World} {lo n c : Nat} {a : Option Addr} {ss : List ByteArray} (h : KeysR w lo (.slice a n c) ss) : ss.length = n ∧ ∀ (i : Nat) (s : ByteArray), ss[i]? = some s → ∃ g o, a = some ⟨g, o, none⟩ ∧ g < w.heap.size ∧ w.cell? ⟨g, o + i, none⟩ = some (.string s) := by
  rcases h with ⟨h, rfl⟩ | ⟨b, o, c', Z, h1, h2, h3, h4⟩
  · cases h; exact ⟨rfl, fun i s hs => by simp at hs⟩
  · cases h1
    exact ⟨rfl, fun i s hs => ⟨b, o, rfl, blkLt h3, (blkCell h3 _).trans (h4 i s hs)⟩⟩
set_option maxRecDepth 20000 in
set_option maxHeartbeats 2000000 in
theorem lawsame_yes (k : Int) (a1 a2 : Option Addr) (n c1 c2 : Nat) (val wd : ByteArray) (ft : Bool) (id : Int) (ss : List ByteArray) (lo1 lo2 : Nat) (w : World) (h1 : KeysIn w lo1 (.slice a1 n c1) ss) (h2 : KeysR w lo2 (.slice a2 n c2) ss) (hn : n ≤ 1000000000000) (hs : ∀ s ∈ ss, s.size ≤ 1000000000000) :
    Calls Tryz.prog 109 #[cmdV6 k (.slice a1 n c1) val wd ft id, cmdV6 k (.slice a2 n c2) val wd ft id] w fun e w' => e = .returned (.bool true) ∧ Below w.heap.size w w' := by
  obtain ⟨l1, p1, q1⟩ := keysIn_cells h1
  obtain ⟨l2, q2⟩ := keysR_cells h2
  have HQ := hide' (And.intro q1 q2)
  have HL := hide' l1
  have HB2 := hide' (show ∀ x y, Below w.heap.size w ((w.alloc x).alloc y) from fun x y => ((Below.refl _ _).alloc (Nat.le_refl _) _).alloc (by simp) _)
  clear q1 q2 h1 h2 l1 l2
  unfold cmdV6
  have tb := toList_beq
  go_enter Tryz.func109, Tryz.ntmps109
  go_wp2
  go_loopw [5] (fun i wr => ∃ (j q : Nat), j ≤ n ∧ i = .int .i64 j ∧ wr = ((w.alloc (.cells #[.int .i64 k, .slice a1 n c1, .string val, .string wd, .bool ft, .int .i64 id] 36)).alloc (.cells #[.int .i64 k, .slice a2 n c2, .string val, .string wd, .bool ft, .int .i64 id] 36)).drewN q) (fun i _ => n - (intOf i).toNat)
  case atStart => exact ⟨0, 0, Nat.zero_le _, rfl, rfl⟩
  case round =>
    obtain ⟨j, q, hj, rfl, rfl⟩ := hrel
    by_cases hlt : j < n
    · obtain ⟨s, hsj⟩ : ∃ s, ss[j]? = some s := by
        have := HL.out
        exact ⟨ss[j], List.getElem?_eq_getElem (by omega)⟩
      obtain ⟨g1, e1, hg1, k1⟩ := HQ.out.1 j s hsj
      obtain ⟨g2, o2, e2, hg2, k2⟩ := HQ.out.2 j s hsj
      subst e1
      subst e2
      have hlt' : (j : Int) < (n : Int) := by omega
      have hg1a : g1 < w.heap.size + 1 := by omega
      have hg2a : g2 < w.heap.size + 1 := by omega
      have hsz := hs s (List.mem_of_getElem? hsj)
      clear hsj
      go_wp2
      go_quiet (fail)
      go_wp2
      go_roundw
      case rel => exact ⟨j + 1, _, by omega, by go_num, rfl⟩
      case measure => simp [intOf]; omega
    · have hlt' : ¬ (j : Int) < (n : Int) := by omega
      go_wp2
      go_ret
      exact ⟨rfl, below_drewN (HB2.out _ _) _⟩
end Go.Proofs.YtlonjggfnleolaaGreatDoor


/-
  decoded: one reader more.
-/

namespace Go.Proofs.YtlonjggfnleolaaGreatDoor
open Go.RowKit Go.Shelf
set_option linter.unusedVariables false

set_option maxHeartbeats 1000000 in
theorem decoder_no (d : Int) (w : World) (hd : d < 1 ∨ 3 < d) :
    Calls Tryz.prog 43 #[.int .i64 d] w fun e w' => e = .returned (.tuple #[.pointer none, .int .i64 1]) ∧ Below w.heap.size w w' := by
  have h1 : (d == 1) = false := by rw [beq_eq_false_iff_ne]; omega
  have h2 : (d == 2) = false := by rw [beq_eq_false_iff_ne]; omega
  have h3 : (d == 3) = false := by rw [beq_eq_false_iff_ne]; omega
  go_enter Tryz.func43, Tryz.ntmps43
  go_wp2
  go_ret2
  exact ⟨rfl, Below.refl _ _⟩
theorem OwnW.setRv {W : World} {lo B nx : Nat} {S : Nat → Prop} {rv csv cmv ssv smv : Value} {M : List TxM} {N : List CmM} (h : OwnW W lo B S rv M N nx csv cmv ssv smv) (rv' : Value) : OwnW (W.setCell ⟨B, 0, none⟩ rv') lo B S rv' M N nx csv cmv ssv smv := by
  have hk : ∀ (b : Nat) (Z : Array Value) (T : Nat), W.heap[b]? = some (.cells Z T (0, 0)) → T ≠ 87 → (W.setCell ⟨B, 0, none⟩ rv').heap[b]? = W.heap[b]? := fun b Z T hZ hT => Below.heap_setCell _ _ _ _ (fun e => by rw [show b = B from e, h.wd] at hZ; cases hZ; exact hT rfl)
  exact ⟨(blkSet (i := 0) h.wd _).trans rfl, h.ge, h.cs.other (fun g Z _ hZ _ => hk g Z 28 hZ (by decide)), h.cm.other (fun g Z _ hZ _ => hk g Z 3 hZ (by decide)), h.ss.other (fun g Z _ hZ _ => hk g Z 34 hZ (by decide)), h.sm.other (fun g Z _ hZ _ => hk g Z 9 hZ (by decide)),
    fun e he => ⟨(h.tk e he).1.other (fun g Z _ hZ _ => hk g Z 9 hZ (by decide)), (h.tk e he).2⟩, fun e he => ⟨(h.nk e he).1.other (fun g Z _ hZ _ => hk g Z 36 hZ (by decide)), (h.nk e he).2⟩, h.smS⟩
/-- The world with one reader more, ahead of its row. -/
def W3of (W : World) (d : Int) : World := ((W.alloc (rdO (tyOf d) (.slice none 0 0) 0 false false)).alloc (refO d st0)).alloc (.cells #[.pointer (some ⟨W.heap.size, 0, none⟩), .pointer (some ⟨W.heap.size + 1, 0, none⟩)] 193)
/-- One reader more. -/
theorem rds_snoc {W W5 : World} {lo B nx : Nat} {d : Int} {S : Nat → Prop} {rv rv' csv cmv ssv smv : Value} {M : List TxM} {N : List CmM} {rs : List RdI} {A : Obj} (h : RdsAt W lo rv rs) (hO : OwnW W lo B S rv M N nx csv cmv ssv smv) (hd : d = 1 ∨ d = 2 ∨ d = 3) (hlo : lo ≤ W.heap.size) (hrow : Row W5 lo 151 1 rv' (rs.length + 1) ((rs.map fun r => Value.pointer (some ⟨r.P, 0, none⟩)) ++ [.pointer (some ⟨W.heap.size + 2, 0, none⟩)])) (hg : ((W3of W d).alloc A).grownBy W5 rv.ownBlock) :
    OwnW (W5.setCell ⟨B, 0, none⟩ rv') lo B S rv' M N nx csv cmv ssv smv ∧ RdsAt (W5.setCell ⟨B, 0, none⟩ rv') lo rv' (rs ++ [⟨W.heap.size + 2, W.heap.size, none, W.heap.size + 1, d, st0⟩]) ∧ Below lo W (W5.setCell ⟨B, 0, none⟩ rv') ∧ Kept95 W (W5.setCell ⟨B, 0, none⟩ rv') ∧ W5.heap[B]? = some (.cells #[rv, .slice none 0 0, csv, cmv, ssv, smv, .int .i64 (nx : Int)] 87 (0, 0)) := by
  have hB1 : Below W.heap.size W ((W3of W d).alloc A) := ((((Below.refl _ _).alloc (Nat.le_refl _) _).alloc (by simp) _).alloc (by simp; omega) _).alloc (by simp; omega) _
  have n1 : ((W3of W d).alloc A).heap[W.heap.size]? = some (rdO (tyOf d) (.slice none 0 0) 0 false false) := hs_alloc (hs_alloc (hs_alloc (blkNew W _) _) _) _
  have n2 : ((W3of W d).alloc A).heap[W.heap.size + 1]? = some (refO d st0) := hs_alloc (hs_alloc (hs_new (by simp)) _) _
  have n3 : ((W3of W d).alloc A).heap[W.heap.size + 2]? = some (.cells #[.pointer (some ⟨W.heap.size, 0, none⟩), .pointer (some ⟨W.heap.size + 1, 0, none⟩)] 193 (0, 0)) := hs_alloc (hs_new (by simp)) _
  have hsz := hB1.size
  generalize (W3of W d).alloc A = W4 at *
  have hrow4 : Row W4 lo 151 1 rv rs.length (rs.map fun r => Value.pointer (some ⟨r.P, 0, none⟩)) := h.row.other (fun g Z _ hZ _ => hB1.block g (blkLt hZ))
  have hO4 := hO.below hB1
  have h4 := h.below hB1
  have k5 : ∀ (b : Nat) (Z : Array Value) (T : Nat), W4.heap[b]? = some (.cells Z T (0, 0)) → T ≠ 151 → W5.heap[b]? = some (.cells Z T (0, 0)) := fun b Z T hb hT => (hg.block b (blkLt hb) (row_ne hrow4 hb hT)).trans hb
  have wB5 := k5 B _ 87 hO4.wd (by decide)
  have k6 : ∀ (b : Nat) (Z : Array Value) (T : Nat), W4.heap[b]? = some (.cells Z T (0, 0)) → T ≠ 151 → T ≠ 87 → (W5.setCell ⟨B, 0, none⟩ rv').heap[b]? = some (.cells Z T (0, 0)) := fun b Z T hb hT h87 => hs_set (k5 b Z T hb hT) (fun e => by rw [e, hO4.wd] at hb; cases hb; exact h87 rfl)
  have hO5 : OwnW W5 lo B S rv M N nx csv cmv ssv smv := hO4.keep (fun b Z T hZ hT => (k5 b Z T hZ (by rcases hT with h | h | h | h <;> rw [h] <;> decide)).trans hZ.symm) (fun b Z T hZ hT _ => (k5 b Z T hZ (by rcases hT with h | h <;> rw [h] <;> decide)).trans hZ.symm)
  refine ⟨hO5.setRv rv', ⟨?_, fun r hr => ?_, fun i j ri rj hij hi hj => ?_⟩, ?_, fun b Z hb => k6 b Z 95 ((hB1.block b (blkLt hb)).trans hb) (by decide) (by decide), wB5⟩
  · rw [List.length_append, List.map_append]
    exact hrow.other (fun g Z _ hZ _ => Below.heap_setCell _ _ _ _ (fun e => by rw [show g = B from e, wB5] at hZ; cases hZ))
  · rcases List.mem_append.1 hr with hr | hr
    · exact (h4.all r hr).keep (fun b Z T hZ hT => (k6 b Z T hZ (by rcases hT with h | h | h | h <;> rw [h] <;> decide) (by rcases hT with h | h | h | h <;> rw [h] <;> decide)).trans hZ.symm)
    · rw [List.mem_singleton] at hr
      subst hr
      refine ⟨k6 _ _ 193 n3 (by decide) (by decide), ⟨⟨.slice none 0 0, 0, k6 _ _ 134 n1 (by decide) (by decide), ⟨⟨[], World.ownsRow_nil _ _ _ _, Nat.le_refl _, rfl, by simp⟩, rfl⟩, .inl rfl⟩, by simp⟩, ⟨k6 _ _ 195 n2 (by decide) (by decide), st0_ok⟩, hd, hlo, Nat.le_succ_of_le hlo, fun b hb => by cases hb⟩
  · have old : ∀ (a : Nat) (ra : RdI), rs[a]? = some ra → ra.D < W.heap.size ∧ ra.Y < W.heap.size := fun a ra ha => by
      have hra := h.all ra (List.mem_of_getElem? ha)
      obtain ⟨Z, hZ⟩ := hra.rd.dO
      exact ⟨blkLt hZ, blkLt hra.rf.at_⟩
    have look : ∀ (a : Nat) (ra : RdI), (rs ++ [⟨W.heap.size + 2, W.heap.size, none, W.heap.size + 1, d, st0⟩])[a]? = some ra → rs[a]? = some ra ∨ (a = rs.length ∧ ra = ⟨W.heap.size + 2, W.heap.size, none, W.heap.size + 1, d, st0⟩) := fun a ra ha => by
      by_cases hl : a < rs.length
      · rw [List.getElem?_append_left hl] at ha; exact .inl ha
      · rw [List.getElem?_append_right (by omega)] at ha
        have hlt : a - rs.length < 1 := by have := (List.getElem?_eq_some_iff.1 ha).1; simpa using this
        have h0 : a - rs.length = 0 := by omega
        rw [h0] at ha
        simp at ha
        exact .inr ⟨by omega, ha.symm⟩
    rcases look i ri hi with hi' | ⟨ei, rfl⟩
    · rcases look j rj hj with hj' | ⟨ej, rfl⟩
      · exact h.apart i j ri rj hij hi' hj'
      · have := old i ri hi'
        exact ⟨by simp only; omega, by simp only; omega, fun b _ e => by cases e⟩
    · rcases look j rj hj with hj' | ⟨ej, rfl⟩
      · have := old j rj hj'
        exact ⟨by simp only; omega, by simp only; omega, fun b hb => by cases hb⟩
      · omega
  · exact ((hB1.mono hlo).trans (row_below hrow4 hg (by omega))).setCell (p := ⟨B, 0, none⟩) hO.ge _
end Go.Proofs.YtlonjggfnleolaaGreatDoor


/-
  decoded: one reader more; pick.
-/

namespace Go.Proofs.YtlonjggfnleolaaGreatDoor
open Go.RowKit Go.Shelf
set_option linter.unusedVariables false

theorem info151 : ∃ i, Tryz.prog.info? 151 = some i ∧ i.zero = some (.pointer none) ∧ i.size = 1 ∧ i.bytes = 8 := by
  have h : (Tryz.prog.info? 151).map (fun i => (i.zero, i.size, i.bytes)) = some (some (.pointer none), 1, 8) := by kernel_rfl
  cases hi : Tryz.prog.info? 151 with
  | none => rw [hi] at h; cases h
  | some i =>
    rw [hi] at h
    simp only [Option.map_some, Option.some.injEq, Prod.mk.injEq] at h
    exact ⟨i, rfl, h.1, h.2.1, h.2.2⟩

theorem lawnum (n : Int) (w : World) : Calls Tryz.prog 99 #[.int .i64 n] w fun e w' => e = .returned (.int .i64 n) ∧ w' = w := by
  go_enter Tryz.func99, Tryz.ntmps99
  go_wp2
  go_ret
  exact ⟨rfl, rfl⟩
set_option maxRecDepth 20000 in
set_option maxHeartbeats 2000000 in
theorem decoded_no (p : Value) (d : Int) (w : World) (hd : d < 1 ∨ 3 < d) :
    Calls Tryz.prog 67 #[p, .int .i64 d] w fun e w' => e = .returned (.bool true) ∧ Below w.heap.size w w' := by
  have H1 := hide' (decoder_no d w hd)
  have H2 := hide' (fun W => refdecoder_no d W hd)
  clear hd
  go_enter Tryz.func67, Tryz.ntmps67
  go_wp2_with fail
  go_at_call 43
  refine H1.out.mono ?_
  rintro e w1 ⟨rfl, hb1⟩
  have HB := hide' hb1
  clear hb1
  go_wp2_with (first | (go_at_call 106; refine (H2.out _).mono ?_; rintro e w2 ⟨rfl, hw⟩; subst hw) | (go_at_call 99; refine (lawnum _ _).mono ?_; rintro e w2 ⟨rfl, hw⟩; subst hw) | fail)
  all_goals go_ret
  all_goals exact ⟨rfl, HB.out⟩

set_option maxRecDepth 20000 in
set_option maxHeartbeats 4000000 in
theorem decoded_yes (B nx lo : Nat) (d : Int) (S : Nat → Prop) (rv csv cmv ssv smv : Value) (M : List TxM) (N : List CmM) (rs : List RdI) (w : World) (hd : d = 1 ∨ d = 2 ∨ d = 3) (h : RdsAt w lo rv rs) (hO : OwnW w lo B S rv M N nx csv cmv ssv smv) (hlo : lo ≤ w.heap.size) (hr : rs.length ≤ 1000000000000) :
    Calls Tryz.prog 67 #[.pointer (some ⟨B, 0, none⟩), .int .i64 d] w fun e w' => e = .returned (.bool true) ∧ ∃ rv' r', r'.d = d ∧ r'.s = st0 ∧ OwnW w' lo B S rv' M N nx csv cmv ssv smv ∧ RdsAt w' lo rv' (rs ++ [r']) ∧ Below lo w w' ∧ Kept95 w w' := by
  have H1 := hide' (decoder_any d w hd)
  have H2 := hide' (fun W => refdecoder_any d W hd)
  have HS := hide' (fun W5 rv' A a b => rds_snoc (W5 := W5) (rv' := rv') (A := A) h hO hd hlo a b)
  have c0 := blkCell hO.wd 0
  have cf := blkFree hO.wd
  simp at c0
  have hBl := blkLt hO.wd
  obtain ⟨i151, hi1, hi2, hi3, hi4⟩ := info151
  have HI := hide' (And.intro hi1 (And.intro hi2 (And.intro hi3 hi4)))
  have hrow : Hid (∀ A, Row ((W3of w d).alloc A) lo 151 1 rv rs.length (rs.map fun r => Value.pointer (some ⟨r.P, 0, none⟩))) := fun A => h.row.other (fun g Z _ hZ _ => hs_alloc (hs_alloc (hs_alloc (hs_alloc hZ _) _) _) _ |>.trans hZ.symm)
  clear h hO hi1 hi2 hi3 hi4 hd
  go_enter Tryz.func67, Tryz.ntmps67
  go_wp2_with fail
  go_at_call 43
  refine H1.out.mono ?_
  rintro e w1 ⟨rfl, hw1⟩
  subst hw1
  go_wp2_with fail
  go_at_call 106
  refine (H2.out _).mono ?_
  rintro e w2 ⟨rfl, hw2⟩
  subst hw2
  clear H1 H2
  have hBl1 : B < w.heap.size + 1 := by omega
  have hBl2 : B < w.heap.size + 1 + 1 := by omega
  have HE : Hid (((w.alloc (rdO (tyOf d) (.slice none 0 0) 0 false false)).alloc (refO d st0)).alloc (.cells #[.pointer (some ⟨w.heap.size, 0, none⟩), .pointer (some ⟨w.heap.size + 1, 0, none⟩)] 193) = W3of w d) := (show _ = _ from rfl)
  have hszW : (W3of w d).heap.size = w.heap.size + 1 + 1 + 1 := by unfold W3of; simp
  have hrl : rs.length ≤ 1000000000000 := hr
  generalize hrn : rs.length = rn at *
  have HRN := hide' hrn
  clear hrn
  go_wp2_with (first
    | (go_at_call 99; refine (lawnum _ _).mono ?_; rintro e w3 ⟨rfl, hw3⟩; subst hw3)
    | (at_builtin; refine wpList_append_row _ rfl _ _ _ rfl lo 151 i151 (.pointer none) 1 8 Tryz.underlying82 HI.out.1 HI.out.2.1 HI.out.2.2.1 HI.out.2.2.2 rfl (by omega) rv rn (rs.map fun r => Value.pointer (some ⟨r.P, 0, none⟩)) rfl (by exact hrow.out _) ⟨w.heap.size + 1 + 1 + 1, 0, none⟩ 1 1 [.pointer (some ⟨w.heap.size + 1 + 1, 0, none⟩)] rfl rfl (World.news_of_block (hs_new (by simp))) (by simp [Value.oneCell']) (by omega) (by unfold maxLen; omega) (by omega) (by simp; omega) ?_; intro rv' w9 hrow9 hg hat hall; obtain ⟨ua, uc, huf⟩ := hrow9.form; subst huf; have hfin := HS.out w9 _ _ hrow9 hg; have HFin := hide' hfin; have wB9 := hfin.2.2.2.2; clear c0 cf; have c0 := blkCell wB9 0; have cf := blkFree wB9; simp at c0; have hBl9 := blkLt wB9; clear hrow9 hg hat hall hfin wB9)
    | fail)
  go_ret
  exact ⟨rfl, _, _, rfl, rfl, HFin.out.1, HFin.out.2.1, HFin.out.2.2.1, HFin.out.2.2.2.1⟩
end Go.Proofs.YtlonjggfnleolaaGreatDoor


/-
  What a reader tells is a command that may be, or something wrong; behind something fatal nothing is told.
-/

namespace Go.Proofs.YtlonjggfnleolaaGreatDoor
open Go.RowKit
set_option linter.unusedVariables false

/-- A command as a reader tells it. -/
structure OkC (d : Int) (c : Cmd) : Prop where
  or_ : (cmdB c.kind c.keys c.val = true ∧ c.word = noB ∧ c.fatal = false ∧ (d = 2 → c.keys.length = 1)) ∨ (c.kind = 4 ∧ c.keys = [] ∧ c.val = noB ∧ 1 ≤ c.word.size)
  line : c.fatal = true → d ≠ 1
theorem okC_wrong {d : Int} {word : ByteArray} {ft : Bool} (h : 1 ≤ word.size) (hl : ft = true → d ≠ 1) : OkC d (wrongC word ft) := ⟨.inr ⟨rfl, rfl, rfl, h⟩, hl⟩
theorem bytesOf_size (bs : List UInt8) (i k : Nat) : (bytesOf bs i k).size ≤ k := by
  unfold bytesOf
  show (List.take k (List.drop i bs)).toArray.size ≤ k
  simp
  omega
theorem bytesOf_none (bs : List UInt8) (i : Nat) : bytesOf bs i 0 = noB := by simp [bytesOf, noB]
theorem emptyNo : noB.toList.isEmpty = true := by decide +kernel
theorem cmdB_setA {s val : ByteArray} (hs : keyB s = true) (hv : val.size ≤ 40) : cmdB 2 [s] val = true := by
  have : (val.size : Int) ≤ 40 := by omega
  simp [cmdB, keysB, withinB, hs, this]
theorem fr_ok {bs : List UInt8} {t : StepR} (h : frR bs = some t) : OkC 2 t.c := by
  unfold frR at h
  split at h
  · cases h
  · split at h
    · cases h; exact okC_wrong (by decide) (fun _ => by decide)
    · rename_i hh
      split at h
      · cases h
      · split at h
        · cases h; exact okC_wrong (by decide) (fun _ => by decide)
        · rename_i hk
          cases h
          have hk' : keyB (bytesOf bs 7 (byAt bs 2)) = true := by simpa using hk
          have hf : frHead bs = true := by simpa using hh
          simp only [frHead, Bool.and_eq_true, Bool.or_eq_true, decide_eq_true_eq] at hf
          obtain ⟨⟨⟨⟨⟨_, h1⟩, h3⟩, _⟩, _⟩, hv⟩ := hf
          refine ⟨.inl ⟨?_, rfl, rfl, fun _ => rfl⟩, fun h => (by cases h)⟩
          show cmdB (byAt bs 1 : Int) [bytesOf bs 7 (byAt bs 2)] (bytesOf bs (7 + byAt bs 2) (numAt bs 3)) = true
          have hs := bytesOf_size bs (7 + byAt bs 2) (numAt bs 3)
          by_cases h2 : byAt bs 1 = 2
          · rw [h2]
            have : numAt bs 3 ≤ 40 := by rcases hv with h | h <;> omega
            exact cmdB_setA hk' (by omega)
          · have h0 : numAt bs 3 = 0 := by rcases hv with h | h <;> omega
            rw [h0, bytesOf_none]
            rcases (show byAt bs 1 = 1 ∨ byAt bs 1 = 3 by omega) with h | h
            · rw [h]
              simp [cmdB, keysB, withinB, hk', emptyNo]
            · rw [h]
              simp [cmdB, keysB, withinB, hk', emptyNo]
theorem set_ok {bs : List UInt8} {frm : Nat} {key : ByteArray} {size : Nat} {t : StepR} (hk : keyB key = true) (h : setR bs frm key size = some t) : OkC 1 t.c := by
  unfold setR at h
  split at h
  · cases h; exact okC_wrong (by decide) (fun h => by cases h)
  · rename_i h40
    split at h
    · cases h
    · split at h
      · cases h; exact okC_wrong (by decide) (fun h => by cases h)
      · cases h
        have hs := bytesOf_size bs frm size
        exact ⟨.inl ⟨cmdB_setA (val := bytesOf bs frm size) hk (by omega), rfl, rfl, fun h => (by cases h)⟩, fun h => (by cases h)⟩
theorem ln_ok {bs : List UInt8} {t : StepR} (h : lnR bs = some t) : OkC 1 t.c := by
  unfold lnR at h
  split at h
  · unfold lineR at h
    split at h
    · rename_i size hsz
      refine set_ok ?_ h
      unfold setSizeR at hsz
      split at hsz
      · rename_i hc; exact hc.2.2
      · cases hsz
    · split at h
      · cases h; exact okC_wrong (by decide) (fun h => by cases h)
      · rename_i hc
        cases h
        rw [not_or] at hc
        exact ⟨.inl ⟨by simpa using hc.2, rfl, rfl, fun h => (by cases h)⟩, fun h => (by cases h)⟩
  · split at h
    · cases h; exact okC_wrong (by decide) (fun h => by cases h)
    · cases h
theorem texts_ok {d : Int} (hd : d ≠ 1) (hd2 : d ≠ 2) (ts : List ByteArray) (used : Nat) : OkC d (textsR ts used).c := by
  unfold textsR
  simp only
  generalize (if kindB (ts.getD 0 noB) = 2 then (if (ts.drop 1).length = 2 then (ts.drop 1).take 1 else []) else ts.drop 1) = keys
  generalize (if kindB (ts.getD 0 noB) = 2 ∧ (ts.drop 1).length = 2 then (ts.drop 1).getD 1 noB else noB) = val
  generalize kindB (ts.getD 0 noB) = k
  cases hc : cmdB k keys val with
  | true => rw [if_pos rfl]; exact ⟨.inl ⟨hc, rfl, rfl, fun h => absurd h hd2⟩, fun h => (by cases h)⟩
  | false => rw [if_neg (by decide)]; exact okC_wrong (by decide) (fun _ => hd)
theorem ls_ok {d : Int} (hd : d ≠ 1) (hd2 : d ≠ 2) {bs : List UInt8} {t : StepR} (h : lsR bs = some t) : OkC d t.c := by
  unfold lsR at h
  simp only at h
  split at h
  · cases h; exact okC_wrong (by decide) (fun _ => hd)
  · split at h
    · cases h
    · cases h
      exact texts_ok hd hd2 _ _
theorem read_ok {d : Int} {bs : List UInt8} {t : StepR} (h : readR d bs = some t) : OkC d t.c := by
  unfold readR at h
  split at h
  · rename_i h1; subst h1; exact ln_ok h
  · split at h
    · rename_i h2; subst h2; exact fr_ok h
    · rename_i h1 h2; exact ls_ok h1 h2 h
/-- All that is told may be, and behind something fatal nothing is told or held. -/
structure Told (d : Int) (cs : List Cmd) (s : St) : Prop where
  ok : ∀ c ∈ cs, OkC d c
  last : ∀ i c, cs[i]? = some c → c.fatal = true → i + 1 = cs.length ∧ s.held = []
theorem drain_told (d : Int) : ∀ (n : Nat) (s : St), s.held.length ≤ n → Told d (drainS d s).1 (drainS d s).2 := by
  intro n
  induction n with
  | zero =>
    intro s hn
    have h0 : s.held = [] := List.length_eq_zero_iff.1 (by omega)
    have hr : readR d s.held = none := by rw [h0, readR_nil]
    rw [drainS_none hr]
    exact ⟨fun c h => (by cases h), fun i c h => (by simp at h)⟩
  | succ n ih =>
    intro s hn
    cases hr : readR d s.held with
    | none => rw [drainS_none hr]; exact ⟨fun c h => (by cases h), fun i c h => (by simp at h)⟩
    | some t =>
      have hl := afterS_len hr
      have I := ih (afterS s t) (by omega)
      rw [drainS_some hr]
      refine ⟨fun c h => ?_, fun i c h hf => ?_⟩
      · rcases List.mem_cons.1 h with h | h
        · rw [h]; exact read_ok hr
        · exact I.ok c h
      · cases i with
        | zero =>
          have e : t.c = c := by simpa using h
          have ha : afterS s t = ⟨[], false, true⟩ := by unfold afterS; rw [e, hf]; rfl
          have hz : drainS d (afterS s t) = ([], ⟨[], false, true⟩) := by rw [ha]; exact drainS_none (readR_nil d)
          simp [hz]
        | succ i =>
          have h' : (drainS d (afterS s t)).1[i]? = some c := by simpa using h
          obtain ⟨h1, h2⟩ := I.last i c h' hf
          exact ⟨by simp; omega, h2⟩
theorem feed_told (d : Int) (p : List UInt8) : Told d (feedS d st0 p).1 (feedS d st0 p).2 := drain_told d _ _ (Nat.le_refl _)
end Go.Proofs.YtlonjggfnleolaaGreatDoor


/-
  Feed, the program's and the reference's: what is as it was, and how much is told.
-/

namespace Go.Proofs.YtlonjggfnleolaaGreatDoor
open Go.RowKit Go.Shelf
set_option linter.unusedVariables false

theorem drain_count (d : Int) : ∀ (n : Nat) (s : St), s.held.length ≤ n → (drainS d s).1.length + (drainS d s).2.held.length ≤ s.held.length := by
  intro n
  induction n with
  | zero =>
    intro s h
    have h0 : s.held = [] := List.length_eq_zero_iff.1 (by omega)
    rw [drainS_none (by rw [h0, readR_nil])]
    simp
  | succ n ih =>
    intro s h
    cases hr : readR d s.held with
    | none => rw [drainS_none hr]; simp
    | some t =>
      have hl := afterS_len hr
      have := ih (afterS s t) (by omega)
      rw [drainS_some hr]
      simp only [List.length_cons]
      omega
theorem feed_count (d : Int) (s : St) (p : ByteArray) : (feedS d s p.data.toList).1.length + (feedS d s p.data.toList).2.held.length ≤ s.held.length + p.size := by
  have h1 := drain_count d _ (takeS s p.data.toList) (Nat.le_refl _)
  have h2 := takeS_len s p.data.toList
  rw [len_size] at h2
  unfold feedS
  omega
theorem feed_keys (d : Int) (s : St) (p : List UInt8) : ∀ c ∈ (feedS d s p).1, c.keys.length ≤ 4 ∧ ∀ k ∈ c.keys, k.size ≤ 8 := by
  intro c hc
  rcases ((drain_told d _ (takeS s p) (Nat.le_refl _)).ok c hc).or_ with ⟨g1, _⟩ | ⟨_, g2, _⟩
  · have A := askable_of g1
    exact ⟨A.len4, fun k hk => (keyB_size' (A.keys k hk)).2⟩
  · rw [g2]; exact ⟨by simp, fun k hk => by cases hk⟩

theorem cells6_at : ∀ (cs : List Cmd) (kvs : List Value) (j : Nat) (c : Cmd) (kv : Value), cs[j]? = some c → kvs[j]? = some kv → ∀ k, k < 6 → (cmdCells cs kvs)[j * 6 + k]? = (cmdA c kv)[k]? := by
  intro cs
  induction cs with
  | nil => intro kvs j c kv h; simp at h
  | cons x cs ih =>
    intro kvs j c kv h1 h2 k hk
    cases kvs with
    | nil => simp at h2
    | cons y kvs =>
      have hl : (cmdA x y).toList.length = 6 := rfl
      cases j with
      | zero =>
        simp only [List.getElem?_cons_zero, Option.some.injEq] at h1 h2
        subst h1 h2
        simp only [cmdCells, Nat.zero_mul, Nat.zero_add]
        rw [List.getElem?_append_left (by rw [hl]; exact hk)]
        simp
      | succ j =>
        rw [List.getElem?_cons_succ] at h1 h2
        simp only [cmdCells]
        rw [List.getElem?_append_right (by rw [hl]; omega), hl]
        have e : (j + 1) * 6 + k - 6 = j * 6 + k := by omega
        rw [e]
        exact ih kvs j c kv h1 h2 k hk
theorem cmdsIn_form {W : World} {lo : Nat} {v : Value} {cs : List Cmd} (h : CmdsIn W lo v cs) : ∃ a c, v = .slice a cs.length c := by
  obtain ⟨kvs, _, ⟨_, g3⟩, _⟩ := h
  rcases g3 with ⟨hv, h0⟩ | ⟨g, cap, cur, hv, _⟩
  · exact ⟨none, 0, by rw [hv, h0]⟩
  · exact ⟨_, _, hv⟩
theorem cmdsIn_at {W : World} {lo n' cap' : Nat} {a : Option Addr} {cs : List Cmd} (h : CmdsIn W lo (.slice a n' cap') cs) {j : Nat} {c : Cmd} (hc : cs[j]? = some c) : ∃ g ka kn kc, a = some ⟨g, 0, none⟩ ∧ g < W.heap.size ∧ n' ≤ cap' ∧ KeysIn W lo (.slice ka kn kc) c.keys ∧ ∀ k, k < 6 → W.cell? ⟨g, j * 6 + k, none⟩ = (cmdA c (.slice ka kn kc))[k]? := by
  obtain ⟨kvs, g1, ⟨g2, g3⟩, g4, g5⟩ := h
  have hj : j < cs.length := (List.getElem?_eq_some_iff.1 hc).1
  obtain ⟨kv, hkv⟩ : ∃ kv, kvs[j]? = some kv := ⟨_, List.getElem?_eq_getElem (by omega)⟩
  obtain ⟨ka, kn, kc, rfl⟩ := g4 kv (List.mem_of_getElem? hkv)
  rcases g3 with ⟨_, h0⟩ | ⟨g, cap, cur, hv, hlo, hgc, hnc, hcm, hcs, htk⟩
  · omega
  · cases hv
    refine ⟨g, ka, kn, kc, rfl, blkLt hgc, by omega, g5 j c _ hc hkv, fun k hk => ?_⟩
    rw [← cells6_at cs kvs j c _ hc hkv k hk, ← htk, blkCell hgc]
    have hlt : j * 6 + k < cs.length * 6 := by omega
    rw [List.getElem?_take_of_lt hlt]
    simp

theorem CmdsR.at_ {W : World} {lo n' cap' : Nat} {a : Option Addr} {cs : List Cmd} (h : CmdsR W lo (.slice a n' cap') cs) {j : Nat} {c : Cmd} (hc : cs[j]? = some c) : ∃ g ka kn kc, a = some ⟨g, 0, none⟩ ∧ g < W.heap.size ∧ n' ≤ cap' ∧ KeysR W lo (.slice ka kn kc) c.keys ∧ ∀ k, k < 6 → W.cell? ⟨g, j * 6 + k, none⟩ = (cmdA c (.slice ka kn kc))[k]? := by
  obtain ⟨kvs, g1, ⟨g2, g3⟩, g4, g5⟩ := h
  have hj : j < cs.length := (List.getElem?_eq_some_iff.1 hc).1
  obtain ⟨kv, hkv⟩ : ∃ kv, kvs[j]? = some kv := ⟨_, List.getElem?_eq_getElem (by omega)⟩
  obtain ⟨ka, kn, kc, rfl⟩ := g4 kv (List.mem_of_getElem? hkv)
  rcases g3 with ⟨_, h0⟩ | ⟨g, cap, cur, hv, hlo, hgc, hnc, hcm, hcs, htk⟩
  · omega
  · cases hv
    refine ⟨g, ka, kn, kc, rfl, blkLt hgc, by omega, g5 j c _ hc hkv, fun k hk => ?_⟩
    rw [← cells6_at cs kvs j c _ hc hkv k hk, ← htk, blkCell hgc]
    have hlt : j * 6 + k < cs.length * 6 := by omega
    rw [List.getElem?_take_of_lt hlt]
    simp
theorem CmdsR.form {W : World} {lo : Nat} {v : Value} {cs : List Cmd} (h : CmdsR W lo v cs) : ∃ a c, v = .slice a cs.length c := by
  obtain ⟨kvs, _, ⟨_, g3⟩, _⟩ := h
  rcases g3 with ⟨hv, h0⟩ | ⟨g, cap, cur, hv, _⟩
  · exact ⟨none, 0, by rw [hv, h0]⟩
  · exact ⟨_, _, hv⟩

/-- Where the reference lies, behind the program's Feed. -/
theorem RefAt.turn2 {W W1 : World} {D t Y : Nat} {hb : Option Nat} {d : Int} {s s2 : St} (hY : RefAt W Y d s2) (hR : RdrAt W D hb t s) (hT : Turn2 D hb W W1) : RefAt W1 Y d s2 := by
  have ha := hR.apart (Z := #[.int .i64 d, .string (mkB s2.held), .bool s2.pass, .bool s2.closed]) hY.at_ (by decide) (by decide)
  exact ⟨(hT.block Y (blkLt hY.at_) ha.1 ha.2).trans hY.at_, hY.ok⟩
theorem block_two {W W1 W2 : World} {D t Y : Nat} {hb : Option Nat} {d : Int} {s s2 : St} (hY : RefAt W Y d s2) (hR : RdrAt W D hb t s) (hT : Turn2 D hb W W1) (hT2 : Turn Y W1 W2) {b T : Nat} {Z : Array Value} (hb : W.heap[b]? = some (.cells Z T (0, 0))) (h1 : T ≠ 134) (h2 : T ≠ 5) (h3 : T ≠ 195) : W1.heap[b]? = some (.cells Z T (0, 0)) ∧ W2.heap[b]? = some (.cells Z T (0, 0)) := by
  have ha := hR.apart hb h1 h2
  have e1 := (hT.block b (blkLt hb) ha.1 ha.2).trans hb
  exact ⟨e1, (hT2.block b (blkLt e1) (fun e => by have := hY.at_; rw [← e, hb] at this; unfold refO at this; cases this; exact h3 rfl)).trans e1⟩
/-- Both were fed. -/
theorem fed_two {w0 w1 w2 : World} {lo lo2 B nx i : Nat} {rv csv cmv ssv smv v : Value} {M : List TxM} {N : List CmM} {rs : List RdI} {r : RdI} {hb' : Option Nat} {s' : St} {cs : List Cmd} (hO : OwnW w0 lo B (fun g => g < lo2) rv M N nx csv cmv ssv smv) (hR : RdsAt w0 lo rv rs) (hi : rs[i]? = some r) (hlo : lo ≤ w0.heap.size) (A1 : CmdsAp w1 lo2 w1.heap.size v cs) (R1 : RdrAt w1 r.D hb' (tyOf r.d) s') (F1 : Fresh w0 r.hb hb') (T1 : Turn2 r.D r.hb w0 w1) (Y2 : RefAt w2 r.Y r.d s') (T2 : Turn r.Y w1 w2) :
    OwnW w2 lo B (fun g => g < lo2) rv M N nx csv cmv ssv smv ∧ RdsAt w2 lo rv (rs.set i { r with hb := hb', s := s' }) ∧ CmdsAp w2 lo2 w1.heap.size v cs ∧ Below lo w0 w2 ∧ Kept95 w0 w2 := by
  have hr := hR.all r (List.mem_of_getElem? hi)
  have Y1 := hr.rf.turn2 hr.rd T1
  have two : ∀ (b T : Nat) (Z : Array Value), w0.heap[b]? = some (.cells Z T (0, 0)) → T ≠ 134 → T ≠ 5 → T ≠ 195 → w2.heap[b]? = w0.heap[b]? := fun b T Z hb h1 h2 h3 => (block_two hr.rf hr.rd T1 T2 hb h1 h2 h3).2.trans hb.symm
  refine ⟨hO.keep (fun b Z T hZ hT => two b T Z hZ (by rcases hT with h | h | h | h <;> rw [h] <;> decide) (by rcases hT with h | h | h | h <;> rw [h] <;> decide) (by rcases hT with h | h | h | h <;> rw [h] <;> decide)) (fun b Z T hZ hT _ => two b T Z hZ (by rcases hT with h | h <;> rw [h] <;> decide) (by rcases hT with h | h <;> rw [h] <;> decide) (by rcases hT with h | h <;> rw [h] <;> decide)), hR.fed hi R1 F1 T1 Y2 T2 hlo, A1.keep (fun b Z T hZ hT _ => T2.block b (blkLt hZ) (fun e => ?_)), ?_, fun b Z hb => (two b 95 Z hb (by decide) (by decide) (by decide)).trans hb⟩
  · have := Y1.at_
    rw [← e, hZ] at this
    unfold refO at this
    cases this
    rcases hT with h | h <;> cases h
  · have b1 : Below lo w0 w1 := ⟨T1.os, T1.tape, T1.output, T1.size, fun k hk => T1.block k (by omega) (by have := hr.geD; omega) (fun e => by have := hr.geH k e.symm; omega)⟩
    exact b1.trans (T2.below hr.geY (by have := T1.size; omega))
end Go.Proofs.YtlonjggfnleolaaGreatDoor


/-
  read: Feed of one reader, the program's and the reference's.
-/

namespace Go.Proofs.YtlonjggfnleolaaGreatDoor
open Go.RowKit Go.Shelf
set_option linter.unusedVariables false

/-- What the law's world is behind a Feed. -/
def FedTo (w w' : World) (lo B i n ml nl nx : Nat) (rv : Value) (rs : List RdI) (r : RdI) (s' : St) : Prop :=
  ∃ M N csv cmv ssv smv hb', OwnW w' lo B (fun g => g < w'.heap.size) rv M N (nx + n + 1) csv cmv ssv smv ∧ RdsAt w' lo rv (rs.set i { r with hb := hb', s := s' }) ∧ M.length = ml + 4 * n ∧ N.length = nl + 4 ∧ Below lo w w' ∧ Kept95 w w'

set_option maxRecDepth 20000 in
set_option maxHeartbeats 4000000 in
theorem read_feed (B nx lo i n : Nat) (rv csv cmv ssv smv : Value) (M : List TxM) (N : List CmM) (rs : List RdI) (r : RdI) (at' ck : Int) (kv : Value) (val cw : ByteArray) (ft : Bool) (cid ak : Int) (fv vv : Value) (wd : ByteArray) (g0 g1 g2 : Int) (s : ByteArray) (x y : Int) (w : World)
    (hO : OwnW w lo B (fun g => g < w.heap.size) rv M N nx csv cmv ssv smv) (hR : RdsAt w lo rv rs) (hi : rs[i]? = some r) (hlo : lo ≤ w.heap.size) (hn : (feedS r.d r.s s.data.toList).1.length = n) (hsz : r.s.held.length + s.size ≤ 2000000) (hM : M.length ≤ 4900000000000) (hN : N.length ≤ 1000000000000) (hnx : nx ≤ 900000000000000) :
    Calls Tryz.prog 68 #[.pointer (some ⟨B, 0, none⟩), .pointer (some ⟨r.P, 0, none⟩), Value.agg #[.int .i64 5, .int .i64 at', .int .i64 ck, kv, .string val, .string cw, .bool ft, .int .i64 cid, .int .i64 ak, fv, vv, .string wd, .int .i64 g0, .int .i64 g1, .int .i64 g2, .string s, .int .i64 x, .int .i64 y]] w fun e w' => e = .returned (.bool true) ∧ FedTo w w' lo B i n M.length N.length nx rv rs r (feedS r.d r.s s.data.toList).2 := by
  obtain ⟨OB, hOB⟩ : ∃ OB, OB = Obj.cells #[.int .i64 5, .int .i64 at', .int .i64 ck, kv, .string val, .string cw, .bool ft, .int .i64 cid, .int .i64 ak, fv, vv, .string wd, .int .i64 g0, .int .i64 g1, .int .i64 g2, .string s, .int .i64 x, .int .i64 y] 95 := ⟨_, rfl⟩
  have hb0 : Below w.heap.size w (w.alloc OB) := (Below.refl _ _).alloc (Nat.le_refl _) _
  have hx15 : (w.alloc OB).cell? ⟨w.heap.size, 15, none⟩ = some (.string s) := by rw [hOB]; exact blkCell (blkNew w _) 15
  have hbx : (w.alloc OB).heap[w.heap.size]? = some OB := blkNew w _
  have hsz0 : (w.alloc OB).heap.size = w.heap.size + 1 := World.size_alloc _ _
  have hn2 : n ≤ 2000000 := by have := feed_count r.d r.s s; omega
  have hkeys := feed_keys r.d r.s s.data.toList
  have hO0 : OwnW (w.alloc OB) lo B (fun g => g < (w.alloc OB).heap.size) rv M N nx csv cmv ssv smv := (hO.below hb0).more (fun g hg => by rw [hsz0]; omega)
  have hR0 := hR.below hb0
  have hr := hR.all r (List.mem_of_getElem? hi)
  have hr0 := hR0.all r (List.mem_of_getElem? hi)
  have hlo0 : lo ≤ (w.alloc OB).heap.size := by omega
  have HF := hide' (feed_ap r.D (tyOf r.d) r.d r.hb r.s s (w.alloc OB).drew (dT_ty hr.di) (hr0.rd.other rfl (fun b hb => rfl)) (by omega))
  have cP0 := blkCell hr0.pair 0
  have cP1 := blkCell hr0.pair 1
  simp at cP0 cP1
  have HPr := hide' hr0.pair
  have HY0 := hide' hr0.rf
  have HD0 := hide' hr0.rd
  have HRef : Hid (∀ W, RefAt W r.Y r.d r.s → Calls Tryz.prog 108 #[.pointer (some ⟨r.Y, 0, none⟩), .string s] W fun e w' => ∃ v, e = .returned v ∧ CmdsR w' W.heap.size v (feedS r.d r.s s.data.toList).1 ∧ RefAt w' r.Y r.d (feedS r.d r.s s.data.toList).2 ∧ Turn r.Y W w') := fun W hW => reffeed_any r.Y r.d r.s s W hr.di hW (by omega)
  have HTwo := hide' (fun (w1 w2 : World) (v : Value) (hb' : Option Nat) A1 R1 F1 T1 Y2 T2 => fed_two (w1 := w1) (w2 := w2) (v := v) (hb' := hb') (s' := (feedS r.d r.s s.data.toList).2) (cs := (feedS r.d r.s s.data.toList).1) hO0 hR0 hi hlo0 A1 R1 F1 T1 Y2 T2)
  have HB0 := hide' (hb0.mono hlo)
  have HK0 := hide' (Kept95.of_below hb0)
  have HOB : Hid (∃ Z, OB = .cells Z 95 (0, 0)) := ⟨_, hOB⟩
  have HBX := hide' hbx
  have hPl := blkLt hr0.pair
  have hxl := blkLt hbx
  clear hb0 hO hR hO0 hR0 hr hr0 hi hbx
  unfold FedTo
  go_enter Tryz.func68, Tryz.ntmps68
  go_wp2_with fail
  rw [← hOB]
  generalize w.alloc OB = w0 at *
  generalize hcs : (feedS r.d r.s s.data.toList).1 = cs at *
  generalize hs2 : (feedS r.d r.s s.data.toList).2 = s2 at *
  have HS2 := hide' hs2
  clear hs2
  go_region_held3 (fun W' => W'.cell? ⟨r.P, 0, none⟩ = some (.pointer (some ⟨r.D, 0, none⟩)) ∧ W'.cell? ⟨w.heap.size, 15, none⟩ = some (.string s)) (go_keep) (first
    | (go_at_call 44; refine HF.out.mono ?_; rintro e w1 ⟨v, hb', rfl, A1, R1, F1, T1⟩; obtain ⟨la, lc, hv⟩ := cmdsIn_form A1.in_; rw [hn] at hv; subst hv; have T1' : Turn2 r.D r.hb w0 w1 := ⟨T1.os, T1.tape, T1.output, T1.size, T1.block⟩; have hp := HD0.out.apart HPr.out (by decide) (by decide); have hP1 := (T1.block r.P hPl hp.1 hp.2).trans HPr.out; have c1P0 := blkCell hP1 0; have c1P1 := blkCell hP1 1; simp at c1P0 c1P1; have hx1 : w1.heap[w.heap.size]? = some OB := (HOB.out.elim (fun Z hZ => T1.block w.heap.size hxl (HD0.out.apart (HBX.out.trans (congrArg some hZ)) (by decide) (by decide)).1 (HD0.out.apart (HBX.out.trans (congrArg some hZ)) (by decide) (by decide)).2)).trans HBX.out; have c1x : w1.cell? ⟨w.heap.size, 15, none⟩ = some (.string s) := (World.cell?_of_block (a := ⟨w.heap.size, 15, none⟩) (hx1.trans HBX.out.symm)).trans hx15; have Y1 := HY0.out.turn2 HD0.out T1'; have HG := hide' (HRef.out w1.drew ⟨Y1.at_, Y1.ok⟩); have HM1 : Hid (CmdsAp w1 w0.heap.size w1.heap.size (.slice la n lc) cs ∧ RdrAt w1 r.D hb' (tyOf r.d) s2 ∧ Fresh w0 r.hb hb' ∧ Turn2 r.D r.hb w0 w1) := ⟨A1, R1, F1, T1'⟩; have HN1 := hide' (And.intro Y1.at_ (And.intro hP1 hx1)); clear cP0 cP1 hx15 A1 R1 F1 T1 T1' Y1 hp hP1 hx1)
    | fail)
  have hP1l := blkLt HN1.out.2.1
  have hx1l := blkLt HN1.out.2.2
  clear HF HRef
  go_wp2_with fail
  go_region_held3 (fun W' => W'.cell? ⟨r.P, 1, none⟩ = some (.pointer (some ⟨r.Y, 0, none⟩)) ∧ W'.cell? ⟨w.heap.size, 15, none⟩ = some (.string s)) (go_keep) (first
    | (go_at_call 108; refine HG.out.mono ?_; rintro e w2 ⟨v, rfl, A2, Y2, T2⟩; obtain ⟨ra, rc, hv⟩ := A2.form; rw [hn] at hv; subst hv; have T2' : Turn r.Y w1 w2 := ⟨T2.os, T2.tape, T2.output, T2.size, T2.block⟩; have hall := HTwo.out w1 w2 _ _ HM1.out.1 HM1.out.2.1 HM1.out.2.2.1 HM1.out.2.2.2 Y2 T2'; have hPY : r.P ≠ r.Y := fun e => (by have h := HN1.out.1; rw [← e, HN1.out.2.1] at h; unfold refO at h; cases h); have hxY : w.heap.size ≠ r.Y := fun e => (by obtain ⟨Z, hZ⟩ := HOB.out; have h := HN1.out.1; rw [← e, HN1.out.2.2, hZ] at h; unfold refO at h; cases h); have c2P1 : w2.cell? ⟨r.P, 1, none⟩ = some (.pointer (some ⟨r.Y, 0, none⟩)) := (World.cell?_of_block (a := ⟨r.P, 1, none⟩) (T2'.block r.P hP1l hPY)).trans c1P1; have c2x : w2.cell? ⟨w.heap.size, 15, none⟩ = some (.string s) := (World.cell?_of_block (a := ⟨w.heap.size, 15, none⟩) (T2'.block w.heap.size hx1l hxY)).trans c1x; have HA := hide' hall; have HA2 : Hid (CmdsR w2 w1.heap.size (.slice ra n rc) cs) := A2; have hs12 : Hid (w0.heap.size ≤ w1.heap.size ∧ w1.heap.size ≤ w2.heap.size) := ⟨HM1.out.2.2.2.size, T2.size⟩; clear c1P0 c1P1 c1x hall A2 Y2 T2 T2' hPY hxY)
    | fail)
  clear HG HTwo HN1 HM1 HY0 HD0 HPr HBX HOB
  go_wp2_with fail
  have HOwn : Hid (∀ W, Below w2.heap.size w2 W → Calls Tryz.prog 110 #[.pointer (some ⟨B, 0, none⟩), .slice la n lc] W fun e w' => e = .returned (.tuple #[]) ∧ ∃ M' N' csv' cmv' ssv' smv', OwnW w' lo B (fun g => g < w'.heap.size) rv M' N' (nx + n + 1) csv' cmv' ssv' smv' ∧ M'.length = M.length + 4 * n ∧ N'.length = N.length + 4 ∧ CmTo W w' lo) := fun W hW => ownCommands_any B nx lo w0.heap.size w1.heap.size rv csv cmv ssv smv M N la lc n cs W (HA.out.1.below hW) hn (HA.out.2.2.1.below hW) (by have h1 := hs12.out; have h2 := hW.size; omega) hlo0 (by have h1 := hs12.out; have h2 := hW.size; omega) hn2 (fun c hc => by have := (hkeys c hc).1; omega) hM hN hnx
  clear hOB c2P1 c2x
  go_loopw [10, 11] (fun ok i wr => ∃ j : Nat, ok = .bool true ∧ i = .int .i64 (j : Int) ∧ j ≤ n ∧ Hid (Below w2.heap.size w2 wr)) (fun _ i _ => n - (intOf i).toNat)
  case atStart => exact ⟨0, rfl, rfl, Nat.zero_le _, Below.refl _ _⟩
  case round =>
    obtain ⟨j, rfl, rfl, hj, HJ⟩ := hrel
    by_cases hlt : j < n
    · have hlt' : (j : Int) < (n : Int) := by omega
      obtain ⟨c, hc⟩ : ∃ c, cs[j]? = some c := ⟨_, List.getElem?_eq_getElem (by omega)⟩
      have hk := hkeys c (List.mem_of_getElem? hc)
      obtain ⟨g, ka, kn, kc, rfl, hgl, hcap, hK1, hcell1⟩ := cmdsIn_at (HA.out.2.2.1.below HJ.out).in_ hc
      obtain ⟨g', ka', kn', kc', rfl, hgl', hcap', hK2, hcell2⟩ := (HA2.out.below HJ.out).at_ hc
      have hnk : kn' = kn := (keysR_cells hK2).1.symm.trans (keysIn_cells hK1).1
      subst hnk
      have hkl : c.keys.length = kn' := (keysIn_cells hK1).1
      have HSm : Hid (∀ W, Below wr.heap.size wr W → Calls Tryz.prog 109 #[.agg #[.int .i64 c.kind, .slice ka kn' kc, .string c.val, .string c.word, .bool c.fatal, .int .i64 c.id], .agg #[.int .i64 c.kind, .slice ka' kn' kc', .string c.val, .string c.word, .bool c.fatal, .int .i64 c.id]] W fun e w' => e = .returned (.bool true) ∧ Below W.heap.size W w') := fun W hW =>
        lawsame_yes c.kind ka ka' kn' kc kc' c.val c.word c.fatal c.id c.keys w0.heap.size w1.heap.size W (hK1.other (Nat.le_refl _) (fun b c Z hZ _ _ => hW.block b (blkLt hZ))) (hK2.other (Nat.le_refl _) (fun b Z hZ _ => hW.block b (blkLt hZ))) (by have := hk.1; omega) (fun s hs => by have := hk.2 s hs; omega)
      have p0 : wr.cell? ⟨g, j * 6, none⟩ = some (.int .i64 c.kind) := hcell1 0 (by omega)
      have p1 : wr.cell? ⟨g, j * 6 + 1, none⟩ = some (.slice ka kn' kc) := hcell1 1 (by omega)
      have p2 : wr.cell? ⟨g, j * 6 + 2, none⟩ = some (.string c.val) := hcell1 2 (by omega)
      have p3 : wr.cell? ⟨g, j * 6 + 3, none⟩ = some (.string c.word) := hcell1 3 (by omega)
      have p4 : wr.cell? ⟨g, j * 6 + 4, none⟩ = some (.bool c.fatal) := hcell1 4 (by omega)
      have p5 : wr.cell? ⟨g, j * 6 + 5, none⟩ = some (.int .i64 c.id) := hcell1 5 (by omega)
      have q0 : wr.cell? ⟨g', j * 6, none⟩ = some (.int .i64 c.kind) := hcell2 0 (by omega)
      have q1 : wr.cell? ⟨g', j * 6 + 1, none⟩ = some (.slice ka' kn' kc') := hcell2 1 (by omega)
      have q2 : wr.cell? ⟨g', j * 6 + 2, none⟩ = some (.string c.val) := hcell2 2 (by omega)
      have q3 : wr.cell? ⟨g', j * 6 + 3, none⟩ = some (.string c.word) := hcell2 3 (by omega)
      have q4 : wr.cell? ⟨g', j * 6 + 4, none⟩ = some (.bool c.fatal) := hcell2 4 (by omega)
      have q5 : wr.cell? ⟨g', j * 6 + 5, none⟩ = some (.int .i64 c.id) := hcell2 5 (by omega)
      clear hcell1 hcell2 hK1 hK2 hk hkl hc hkeys
      go_wp2
      go_region_law (first
        | (go_simp; go_at_call 109; refine (HSm.out _ ?hx).mono ?_; (case hx => repeat (first | with_reducible exact Below.refl _ _ | with_reducible refine Below.drew ?_)); rintro e w6 ⟨rfl, hb6⟩; have HB6 := hide' (below_undrew hb6); clear hb6))
      all_goals go_wp2
      all_goals
        go_roundw
        case rel => exact ⟨j + 1, rfl, by go_num, by omega, HJ.out.trans (HB6.out.mono HJ.out.size)⟩
        case measure => simp [intOf]; omega
    · have hlt' : ¬ (j : Int) < (n : Int) := by omega
      go_wp2_with fail
      go_at_call 110
      refine (HOwn.out _ HJ.out).mono ?_
      rintro e w3 ⟨rfl, M', N', csv', cmv', ssv', smv', h1, h2, h3, h4⟩
      have HZ := hide' (And.intro h1 (And.intro h2 (And.intro h3 h4)))
      clear h1 h2 h3 h4
      go_wp2
      go_ret
      rw [HS2.out]
      refine ⟨rfl, M', N', csv', cmv', ssv', smv', hb', HZ.out.1, (HA.out.2.1.below HJ.out).cm HZ.out.2.2.2, HZ.out.2.1, HZ.out.2.2.1, ?_, HK0.out.trans (HA.out.2.2.2.2.trans ((Kept95.of_below HJ.out).trans (Kept95.of_cm HZ.out.2.2.2)))⟩
      have h1 := hs12.out
      exact HB0.out.trans (HA.out.2.2.2.1.trans ((HJ.out.mono (by omega)).trans HZ.out.2.2.2.below))

set_option maxRecDepth 20000 in
set_option maxHeartbeats 1000000 in
theorem read_rest (p : Value) (lo : Nat) (r : RdI) (at' ck : Int) (kv : Value) (val cw : ByteArray) (ft : Bool) (cid ak : Int) (fv vv : Value) (wd : ByteArray) (g0 g1 g2 : Int) (s : ByteArray) (x y : Int) (w : World) (hr : RdOk w lo r) :
    Calls Tryz.prog 68 #[p, .pointer (some ⟨r.P, 0, none⟩), Value.agg #[.int .i64 6, .int .i64 at', .int .i64 ck, kv, .string val, .string cw, .bool ft, .int .i64 cid, .int .i64 ak, fv, vv, .string wd, .int .i64 g0, .int .i64 g1, .int .i64 g2, .string s, .int .i64 x, .int .i64 y]] w fun e w' => e = .returned (.bool true) ∧ Below w.heap.size w w' := by
  have HF : Hid (∀ o, Calls Tryz.prog 46 #[.pointer (some ⟨r.D, 0, none⟩)] (w.alloc o) fun e w' => e = .returned (.int .i64 (r.s.held.length : Int)) ∧ ∃ q, w' = (w.alloc o).drewN q) := fun o => rest_any r.D _ r.hb r.s _ (hr.rd.below ((Below.refl _ _).alloc (Nat.le_refl _) o))
  have HB : Hid (∀ o q, Below w.heap.size w ((w.alloc o).drewN q)) := fun o q => below_drewN ((Below.refl _ _).alloc (Nat.le_refl _) o) q
  have cP0 := blkCell hr.pair 0
  have cP1 := blkCell hr.pair 1
  have cY1 : w.cell? ⟨r.Y, 1, none⟩ = some (.string (mkB r.s.held)) := (refCells hr.rf.at_).2.1
  simp at cP0 cP1
  have hPl := blkLt hr.pair
  have hYl := blkLt hr.rf.at_
  have hPn : ¬ r.P = w.heap.size := by omega
  have hYn : ¬ r.Y = w.heap.size := by omega
  have hms := mkB_size r.s.held
  generalize mkB r.s.held = mb at *
  generalize r.s.held.length = hl at *
  clear hr
  go_enter Tryz.func68, Tryz.ntmps68
  go_wp2_with fail
  go_at_call 46
  refine (HF.out _).mono ?_
  rintro e w1 ⟨rfl, q, rfl⟩
  go_wp2
  go_ret
  exact ⟨rfl, HB.out _ _⟩

/-- The one that a step speaks of. -/
def pickI (k : Int) (n : Nat) : Nat := if k < 0 ∨ (n : Int) ≤ k then 0 else k.toNat
theorem pickI_lt (k : Int) {n : Nat} (hn : 0 < n) : pickI k n < n := by
  unfold pickI; split <;> omega
theorem pick_law (k : Int) (n : Nat) (w : World) :
    Calls Tryz.prog 69 #[.int .i64 k, .int .i64 (n : Int)] w fun e w' => e = .returned (.int .i64 ((pickI k n : Nat) : Int)) ∧ w' = w := by
  by_cases h1 : k < 0
  · have e : pickI k n = 0 := by unfold pickI; rw [if_pos (.inl h1)]
    rw [e]
    go_enter Tryz.func69, Tryz.ntmps69
    go_wp2
    go_ret
    exact ⟨rfl, rfl⟩
  · by_cases h2 : (n : Int) ≤ k
    · have e : pickI k n = 0 := by unfold pickI; rw [if_pos (.inr h2)]
      rw [e]
      go_enter Tryz.func69, Tryz.ntmps69
      go_wp2
      go_ret
      exact ⟨rfl, rfl⟩
    · have e : ((pickI k n : Nat) : Int) = k := by unfold pickI; rw [if_neg (by omega)]; omega
      rw [e]
      go_enter Tryz.func69, Tryz.ntmps69
      go_wp2
      go_ret
      exact ⟨rfl, rfl⟩
end Go.Proofs.YtlonjggfnleolaaGreatDoor
