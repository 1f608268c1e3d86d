/-
  joined: the program's call and the reference's, one behind the other.
-/
import Derived.Test.YtlonjggfnleolaaGreatDoorSayA
namespace Go.Proofs.YtlonjggfnleolaaGreatDoor
open Go.RowKit Go.Shelf
set_option linter.unusedVariables false

theorem tys_apart : ∀ t ∈ tysP, t ∉ tysQ := by decide
/-- Behind the program's call. -/
structure Half (w w1 : World) (lo : Nat) (d : JntI) (OB : Obj) (cv : Value) (cis : List CliI) (cs : List CliS) (vs : List SvI) (ss : List SrvS) : Prop where
  jun : JunAt w1 d.X d.sv d.pt d.win d.g d.sc cv cis cs vs ss
  ref : RJunAt w1 d.Xr d.sv d.pt d.win d.rcv d.rrv d.rcis d.cs d.rvs d.ss
  chg : Chg d.footP w w1
  lat : Later w d.footP (footJ d.X cv cis vs)
  ob : w1.heap[w.heap.size]? = some OB
  blk : w1.heap[d.D]? = some (.cells #[ptrV d.X, ptrV d.Xr] 201 (0, 0))
theorem JntOk.half {w W0 w1 : World} {lo : Nat} {d : JntI} {OB : Obj} {cv : Value} {cis : List CliI} {cs : List CliS} {vs : List SvI} {ss : List SrvS} (h : JntOk w lo d) (hb : Below w.heap.size w W0) (hO : W0.heap[w.heap.size]? = some OB) (hj : JunAt w1 d.X d.sv d.pt d.win d.g d.sc cv cis cs vs ss) (k : Chg d.footP W0 w1) (l : Later W0 d.footP (footJ d.X cv cis vs)) : Half w w1 lo d OB cv cis cs vs ss := by
  have kk : Chg d.footP w w1 := (Chg.of_below (M := d.footP) hb).trans k (Later.refl _ _)
  have kT : ∀ Ts : List Nat, (∀ t ∈ Ts, t ∉ tysP) → KeepT Ts w w1 := fun Ts hTs => keepTys kk (fun b hb Z T f hZ => h.jun.types hb hZ) hTs
  refine ⟨hj, h.ref.keep (fun b hm => kk.block b (h.ref.old hm) (fun hp => ?_)) (kT _ (by decide)), kk, fun b hb' => ?_, (k.block _ (blkLt hO) (fun hm => ?_)).trans hO, ((kT [201] (by decide)) _ _ _ _ h.blk (by simp)).trans h.blk⟩
  · obtain ⟨Z, T, h1, _⟩ := h.ref.types hm
    exact tys_apart T (h.jun.types hp h1) (h.ref.typesQ hm h1)
  · rcases l b hb' with e | e
    · exact .inl e
    · exact .inr (Nat.le_trans hb.size e)
  · have := h.jun.old hm
    omega
/-- Behind both. -/
theorem Half.whole {w w1 w2 : World} {lo : Nat} {d : JntI} {OB : Obj} {cv : Value} {cis : List CliI} {cs : List CliS} {vs : List SvI} {ss : List SrvS} (h : Half w w1 lo d OB cv cis cs vs ss) (h0 : JntOk w lo d) (hlo : lo ≤ w.heap.size) {rcv : Value} {rcis : List RCliI} (hr : RJunAt w2 d.Xr d.sv d.pt d.win rcv d.rrv rcis cs d.rvs ss) (ha : RApart rcis d.rvs) (k : Chg d.footQ w1 w2) (l : Later w1 d.footQ (footR d.Xr rcv rcis d.rvs)) :
    JntOk w2 lo { d with cv := cv, cis := cis, cs := cs, vs := vs, ss := ss, rcv := rcv, rcis := rcis } ∧ Chg d.foot w w2 ∧ Later w d.foot ({ d with cv := cv, cis := cis, cs := cs, vs := vs, ss := ss, rcv := rcv, rcis := rcis } : JntI).foot ∧ w2.heap[w.heap.size]? = some OB ∧ w2.heap[d.D]? = some (.cells #[ptrV d.X, ptrV d.Xr] 201 (0, 0)) := by
  have kT : ∀ Ts : List Nat, (∀ t ∈ Ts, t ∉ tysQ) → KeepT Ts w1 w2 := fun Ts hTs => keepTys k (fun b hb Z T f hZ => h.ref.typesQ hb hZ) hTs
  have l2 : Later w d.foot ({ d with cv := cv, cis := cis, cs := cs, vs := vs, ss := ss, rcv := rcv, rcis := rcis } : JntI).foot := fun b hb => by
    rcases List.mem_append.1 hb with e | e
    · rcases h.lat b e with e | e
      · exact .inl (List.mem_append.2 (.inl e))
      · exact .inr e
    · rcases l b e with e | e
      · exact .inl (List.mem_append.2 (.inr e))
      · exact .inr (Nat.le_trans h.chg.size e)
  have hD := ((kT [201] (by decide)) _ _ _ _ h.blk (by simp)).trans h.blk
  refine ⟨⟨hD, h.jun.keep (fun b hm => k.block b (h.jun.old hm) (fun hq => ?_)) (kT _ (by decide)), hr, ha, fun b hb => ?_⟩, ?_, l2, ?_, hD⟩
  · obtain ⟨Z, T, h1, _⟩ := h.ref.types hq
    exact tys_apart T (h.jun.types hm h1) (h.ref.typesQ hq h1)
  · rcases l2 b hb with e | e
    · exact h0.ge b e
    · omega
  · refine (h.chg.more (fun x hx => List.mem_append.2 (.inl hx))).trans k (fun b hb => .inl (List.mem_append.2 (.inr hb)))
  · refine (k.block _ (blkLt h.ob) (fun hm => ?_)).trans h.ob
    have := h0.ref.old hm
    omega

set_option maxRecDepth 20000 in
set_option maxHeartbeats 2000000 in
theorem joined_open (D X Xr : Nat) (at' ck : Int) (kv : Value) (val cw : ByteArray) (ft : Bool) (cid ak : Int) (fv vv : Value) (wd : ByteArray) (g0 g1 g2 : Int) (s : ByteArray) (x y : Int) (w : World) (a b : Int) (OB : Obj) (P1 P2 : World → Prop)
    (hOB : OB = .cells #[.int .i64 9, .int .i64 at', .int .i64 ck, kv, .string val, .string cw, .bool ft, .int .i64 cid, .int .i64 ak, fv, vv, .string wd, .int .i64 g0, .int .i64 g1, .int .i64 g2, .string s, .int .i64 x, .int .i64 y] 95)
    (hD : w.heap[D]? = some (.cells #[ptrV X, ptrV Xr] 201 (0, 0)))
    (h1 : Calls Tryz.prog 54 #[ptrV X, .int .i64 x] (w.alloc OB).drew fun e w1 => e = .returned (.tuple #[.int .i64 a, .int .i64 b]) ∧ P1 w1)
    (h2 : ∀ w1, P1 w1 → Calls Tryz.prog 112 #[ptrV Xr, .int .i64 x] w1.drew fun e w2 => e = .returned (.tuple #[.int .i64 a, .int .i64 b]) ∧ P2 w2)
    (k1 : ∀ w1, P1 w1 → w1.heap[D]? = some (.cells #[ptrV X, ptrV Xr] 201 (0, 0)) ∧ w1.heap[w.heap.size]? = some OB)
    (k2 : ∀ w2, P2 w2 → w2.heap[D]? = some (.cells #[ptrV X, ptrV Xr] 201 (0, 0)) ∧ w2.heap[w.heap.size]? = some OB) :
    Calls Tryz.prog 71 #[ptrV D, Value.agg #[.int .i64 9, .int .i64 at', .int .i64 ck, kv, .string val, .string cw, .bool ft, .int .i64 cid, .int .i64 ak, fv, vv, .string wd, .int .i64 g0, .int .i64 g1, .int .i64 g2, .string s, .int .i64 x, .int .i64 y]] w fun e w' => e = .returned (.bool true) ∧ P2 w' := by
  have hDl := blkLt hD
  have HC : Hid (∀ W : World, W.heap[D]? = some (.cells #[ptrV X, ptrV Xr] 201 (0, 0)) ∧ W.heap[w.heap.size]? = some OB → W.cell? ⟨D, 0, none⟩ = some (.pointer (some ⟨X, 0, none⟩)) ∧ W.cell? ⟨D, 1, none⟩ = some (.pointer (some ⟨Xr, 0, none⟩)) ∧ W.cell? ⟨w.heap.size, 0, none⟩ = some (.int .i64 9) ∧ W.cell? ⟨w.heap.size, 16, none⟩ = some (.int .i64 x) ∧ D < W.heap.size ∧ w.heap.size < W.heap.size) := fun W hW => by
    have hW2 := hW.2
    rw [hOB] at hW2
    exact ⟨blkCell hW.1 0, blkCell hW.1 1, blkCell hW2 0, blkCell hW2 16, blkLt hW.1, blkLt hW2⟩
  have hw0 : (w.alloc OB).heap[D]? = some (.cells #[ptrV X, ptrV Xr] 201 (0, 0)) ∧ (w.alloc OB).heap[w.heap.size]? = some OB := ⟨(Below.heap_alloc _ _ _ hDl).trans hD, blkNew w OB⟩
  obtain ⟨d0, d1, o0, o16, l1, l2⟩ := HC.out _ hw0
  have H1 := hide' h1
  have H2 := hide' h2
  have K1 := hide' k1
  have K2 := hide' k2
  clear h1 h2 k1 k2 hD hw0
  unfold ptrV at *
  go_enter Tryz.func71, Tryz.ntmps71
  go_wp2_with fail
  rw [← hOB]
  clear hOB
  generalize w.alloc OB = w0 at *
  go_region_held3 (fun W' => W'.cell? ⟨D, 0, none⟩ = some (.pointer (some ⟨X, 0, none⟩)) ∧ W'.cell? ⟨w.heap.size, 16, none⟩ = some (.int .i64 x)) (go_keep) (first
    | (go_at_call 54; refine H1.out.mono ?_; rintro e w1 ⟨rfl, hp1⟩; obtain ⟨d10, d11, o10, o116, l11, l12⟩ := HC.out _ (K1.out _ hp1); have HP1 := hide' hp1; clear hp1 d0 d1 o0 o16 l1 l2)
    | fail)
  have HQ := hide' (H2.out w1 HP1.out)
  go_wp2_with fail
  go_region_held3 (fun W' => W'.cell? ⟨D, 1, none⟩ = some (.pointer (some ⟨Xr, 0, none⟩)) ∧ W'.cell? ⟨w.heap.size, 16, none⟩ = some (.int .i64 x)) (go_keep) (first
    | (go_at_call 112; refine HQ.out.mono ?_; rintro e w2 ⟨rfl, hp2⟩; obtain ⟨d20, d21, o20, o216, l21, l22⟩ := HC.out _ (K2.out _ hp2); have HP2 := hide' hp2; clear hp2 d10 d11 o10 o116 l11 l12)
    | fail)
  go_wp2_with (first | (go_at_call 99; refine (lawnum _ _).mono ?_; rintro e w3 ⟨rfl, hw3⟩; subst hw3) | fail)
  go_ret
  exact ⟨rfl, HP2.out⟩
set_option maxRecDepth 20000 in
set_option maxHeartbeats 2000000 in
theorem joined_told (D X Xr : Nat) (at' ck : Int) (kv : Value) (val cw : ByteArray) (ft : Bool) (cid ak : Int) (fv vv : Value) (wd : ByteArray) (g0 g1 g2 : Int) (s : ByteArray) (x y : Int) (w : World) (a : ByteArray) (b : Int) (OB : Obj) (P1 P2 : World → Prop)
    (hOB : OB = .cells #[.int .i64 11, .int .i64 at', .int .i64 ck, kv, .string val, .string cw, .bool ft, .int .i64 cid, .int .i64 ak, fv, vv, .string wd, .int .i64 g0, .int .i64 g1, .int .i64 g2, .string s, .int .i64 x, .int .i64 y] 95)
    (hD : w.heap[D]? = some (.cells #[ptrV X, ptrV Xr] 201 (0, 0)))
    (h1 : Calls Tryz.prog 26 #[ptrV X, .int .i64 x] (w.alloc OB).drew fun e w1 => e = .returned (.tuple #[.string a, .int .i64 b]) ∧ P1 w1)
    (h2 : ∀ w1, P1 w1 → Calls Tryz.prog 113 #[ptrV Xr, .int .i64 x] w1.drew fun e w2 => e = .returned (.tuple #[.string a, .int .i64 b]) ∧ P2 w2)
    (k1 : ∀ w1, P1 w1 → w1.heap[D]? = some (.cells #[ptrV X, ptrV Xr] 201 (0, 0)) ∧ w1.heap[w.heap.size]? = some OB)
    (k2 : ∀ w2, P2 w2 → w2.heap[D]? = some (.cells #[ptrV X, ptrV Xr] 201 (0, 0)) ∧ w2.heap[w.heap.size]? = some OB) :
    Calls Tryz.prog 71 #[ptrV D, Value.agg #[.int .i64 11, .int .i64 at', .int .i64 ck, kv, .string val, .string cw, .bool ft, .int .i64 cid, .int .i64 ak, fv, vv, .string wd, .int .i64 g0, .int .i64 g1, .int .i64 g2, .string s, .int .i64 x, .int .i64 y]] w fun e w' => e = .returned (.bool true) ∧ P2 w' := by
  have hDl := blkLt hD
  have HC : Hid (∀ W : World, W.heap[D]? = some (.cells #[ptrV X, ptrV Xr] 201 (0, 0)) ∧ W.heap[w.heap.size]? = some OB → W.cell? ⟨D, 0, none⟩ = some (.pointer (some ⟨X, 0, none⟩)) ∧ W.cell? ⟨D, 1, none⟩ = some (.pointer (some ⟨Xr, 0, none⟩)) ∧ W.cell? ⟨w.heap.size, 0, none⟩ = some (.int .i64 11) ∧ W.cell? ⟨w.heap.size, 16, none⟩ = some (.int .i64 x) ∧ D < W.heap.size ∧ w.heap.size < W.heap.size) := fun W hW => by
    have hW2 := hW.2
    rw [hOB] at hW2
    exact ⟨blkCell hW.1 0, blkCell hW.1 1, blkCell hW2 0, blkCell hW2 16, blkLt hW.1, blkLt hW2⟩
  have hw0 : (w.alloc OB).heap[D]? = some (.cells #[ptrV X, ptrV Xr] 201 (0, 0)) ∧ (w.alloc OB).heap[w.heap.size]? = some OB := ⟨(Below.heap_alloc _ _ _ hDl).trans hD, blkNew w OB⟩
  obtain ⟨d0, d1, o0, o16, l1, l2⟩ := HC.out _ hw0
  have H1 := hide' h1
  have H2 := hide' h2
  have K1 := hide' k1
  have K2 := hide' k2
  clear h1 h2 k1 k2 hD hw0
  unfold ptrV at *
  go_enter Tryz.func71, Tryz.ntmps71
  go_wp2_with fail
  rw [← hOB]
  clear hOB
  generalize w.alloc OB = w0 at *
  go_region_held3 (fun W' => W'.cell? ⟨D, 0, none⟩ = some (.pointer (some ⟨X, 0, none⟩)) ∧ W'.cell? ⟨w.heap.size, 16, none⟩ = some (.int .i64 x)) (go_keep) (first
    | (go_at_call 26; refine H1.out.mono ?_; rintro e w1 ⟨rfl, hp1⟩; obtain ⟨d10, d11, o10, o116, l11, l12⟩ := HC.out _ (K1.out _ hp1); have HP1 := hide' hp1; clear hp1 d0 d1 o0 o16 l1 l2)
    | fail)
  have HQ := hide' (H2.out w1 HP1.out)
  go_wp2_with fail
  go_region_held3 (fun W' => W'.cell? ⟨D, 1, none⟩ = some (.pointer (some ⟨Xr, 0, none⟩)) ∧ W'.cell? ⟨w.heap.size, 16, none⟩ = some (.int .i64 x)) (go_keep) (first
    | (go_at_call 113; refine HQ.out.mono ?_; rintro e w2 ⟨rfl, hp2⟩; obtain ⟨d20, d21, o20, o216, l21, l22⟩ := HC.out _ (K2.out _ hp2); have HP2 := hide' hp2; clear hp2 d10 d11 o10 o116 l11 l12)
    | fail)
  go_wp2_with (first | (go_at_call 99; refine (lawnum _ _).mono ?_; rintro e w3 ⟨rfl, hw3⟩; subst hw3) | fail)
  go_ret
  exact ⟨rfl, HP2.out⟩
set_option maxRecDepth 20000 in
set_option maxHeartbeats 2000000 in
theorem joined_sent (D X Xr : Nat) (at' ck : Int) (kv : Value) (val cw : ByteArray) (ft : Bool) (cid ak : Int) (fv vv : Value) (wd : ByteArray) (g0 g1 g2 : Int) (s : ByteArray) (x y : Int) (w : World) (a : ByteArray) (b : Int) (OB : Obj) (P1 P2 : World → Prop)
    (hOB : OB = .cells #[.int .i64 12, .int .i64 at', .int .i64 ck, kv, .string val, .string cw, .bool ft, .int .i64 cid, .int .i64 ak, fv, vv, .string wd, .int .i64 g0, .int .i64 g1, .int .i64 g2, .string s, .int .i64 x, .int .i64 y] 95)
    (hD : w.heap[D]? = some (.cells #[ptrV X, ptrV Xr] 201 (0, 0)))
    (h1 : Calls Tryz.prog 30 #[ptrV X, .int .i64 x] (w.alloc OB).drew fun e w1 => e = .returned (.tuple #[.string a, .int .i64 b]) ∧ P1 w1)
    (h2 : ∀ w1, P1 w1 → Calls Tryz.prog 114 #[ptrV Xr, .int .i64 x] w1.drew fun e w2 => e = .returned (.tuple #[.string a, .int .i64 b]) ∧ P2 w2)
    (k1 : ∀ w1, P1 w1 → w1.heap[D]? = some (.cells #[ptrV X, ptrV Xr] 201 (0, 0)) ∧ w1.heap[w.heap.size]? = some OB)
    (k2 : ∀ w2, P2 w2 → w2.heap[D]? = some (.cells #[ptrV X, ptrV Xr] 201 (0, 0)) ∧ w2.heap[w.heap.size]? = some OB) :
    Calls Tryz.prog 71 #[ptrV D, Value.agg #[.int .i64 12, .int .i64 at', .int .i64 ck, kv, .string val, .string cw, .bool ft, .int .i64 cid, .int .i64 ak, fv, vv, .string wd, .int .i64 g0, .int .i64 g1, .int .i64 g2, .string s, .int .i64 x, .int .i64 y]] w fun e w' => e = .returned (.bool true) ∧ P2 w' := by
  have hDl := blkLt hD
  have HC : Hid (∀ W : World, W.heap[D]? = some (.cells #[ptrV X, ptrV Xr] 201 (0, 0)) ∧ W.heap[w.heap.size]? = some OB → W.cell? ⟨D, 0, none⟩ = some (.pointer (some ⟨X, 0, none⟩)) ∧ W.cell? ⟨D, 1, none⟩ = some (.pointer (some ⟨Xr, 0, none⟩)) ∧ W.cell? ⟨w.heap.size, 0, none⟩ = some (.int .i64 12) ∧ W.cell? ⟨w.heap.size, 16, none⟩ = some (.int .i64 x) ∧ D < W.heap.size ∧ w.heap.size < W.heap.size) := fun W hW => by
    have hW2 := hW.2
    rw [hOB] at hW2
    exact ⟨blkCell hW.1 0, blkCell hW.1 1, blkCell hW2 0, blkCell hW2 16, blkLt hW.1, blkLt hW2⟩
  have hw0 : (w.alloc OB).heap[D]? = some (.cells #[ptrV X, ptrV Xr] 201 (0, 0)) ∧ (w.alloc OB).heap[w.heap.size]? = some OB := ⟨(Below.heap_alloc _ _ _ hDl).trans hD, blkNew w OB⟩
  obtain ⟨d0, d1, o0, o16, l1, l2⟩ := HC.out _ hw0
  have H1 := hide' h1
  have H2 := hide' h2
  have K1 := hide' k1
  have K2 := hide' k2
  clear h1 h2 k1 k2 hD hw0
  unfold ptrV at *
  go_enter Tryz.func71, Tryz.ntmps71
  go_wp2_with fail
  rw [← hOB]
  clear hOB
  generalize w.alloc OB = w0 at *
  go_region_held3 (fun W' => W'.cell? ⟨D, 0, none⟩ = some (.pointer (some ⟨X, 0, none⟩)) ∧ W'.cell? ⟨w.heap.size, 16, none⟩ = some (.int .i64 x)) (go_keep) (first
    | (go_at_call 30; refine H1.out.mono ?_; rintro e w1 ⟨rfl, hp1⟩; obtain ⟨d10, d11, o10, o116, l11, l12⟩ := HC.out _ (K1.out _ hp1); have HP1 := hide' hp1; clear hp1 d0 d1 o0 o16 l1 l2)
    | fail)
  have HQ := hide' (H2.out w1 HP1.out)
  go_wp2_with fail
  go_region_held3 (fun W' => W'.cell? ⟨D, 1, none⟩ = some (.pointer (some ⟨Xr, 0, none⟩)) ∧ W'.cell? ⟨w.heap.size, 16, none⟩ = some (.int .i64 x)) (go_keep) (first
    | (go_at_call 114; refine HQ.out.mono ?_; rintro e w2 ⟨rfl, hp2⟩; obtain ⟨d20, d21, o20, o216, l21, l22⟩ := HC.out _ (K2.out _ hp2); have HP2 := hide' hp2; clear hp2 d10 d11 o10 o116 l11 l12)
    | fail)
  go_wp2_with (first | (go_at_call 99; refine (lawnum _ _).mono ?_; rintro e w3 ⟨rfl, hw3⟩; subst hw3) | fail)
  go_ret
  exact ⟨rfl, HP2.out⟩
set_option maxRecDepth 20000 in
set_option maxHeartbeats 2000000 in
theorem joined_say (D X Xr : Nat) (at' ck : Int) (kv : Value) (val cw : ByteArray) (ft : Bool) (cid ak : Int) (fv vv : Value) (wd : ByteArray) (g0 g1 g2 : Int) (s : ByteArray) (x y : Int) (w : World) (a : Int) (OB : Obj) (P1 P2 : World → Prop)
    (hOB : OB = .cells #[.int .i64 10, .int .i64 at', .int .i64 ck, kv, .string val, .string cw, .bool ft, .int .i64 cid, .int .i64 ak, fv, vv, .string wd, .int .i64 g0, .int .i64 g1, .int .i64 g2, .string s, .int .i64 x, .int .i64 y] 95)
    (hD : w.heap[D]? = some (.cells #[ptrV X, ptrV Xr] 201 (0, 0)))
    (h1 : Calls Tryz.prog 28 #[ptrV X, .int .i64 x, .string s] (w.alloc OB).drew fun e w1 => e = .returned (.int .i64 a) ∧ P1 w1)
    (h2 : ∀ w1, P1 w1 → Calls Tryz.prog 115 #[ptrV Xr, .int .i64 x, .string s] w1.drew fun e w2 => e = .returned (.int .i64 a) ∧ P2 w2)
    (k1 : ∀ w1, P1 w1 → w1.heap[D]? = some (.cells #[ptrV X, ptrV Xr] 201 (0, 0)) ∧ w1.heap[w.heap.size]? = some OB)
    (k2 : ∀ w2, P2 w2 → w2.heap[D]? = some (.cells #[ptrV X, ptrV Xr] 201 (0, 0)) ∧ w2.heap[w.heap.size]? = some OB) :
    Calls Tryz.prog 71 #[ptrV D, Value.agg #[.int .i64 10, .int .i64 at', .int .i64 ck, kv, .string val, .string cw, .bool ft, .int .i64 cid, .int .i64 ak, fv, vv, .string wd, .int .i64 g0, .int .i64 g1, .int .i64 g2, .string s, .int .i64 x, .int .i64 y]] w fun e w' => e = .returned (.bool true) ∧ P2 w' := by
  have hDl := blkLt hD
  have HC : Hid (∀ W : World, W.heap[D]? = some (.cells #[ptrV X, ptrV Xr] 201 (0, 0)) ∧ W.heap[w.heap.size]? = some OB → W.cell? ⟨D, 0, none⟩ = some (.pointer (some ⟨X, 0, none⟩)) ∧ W.cell? ⟨D, 1, none⟩ = some (.pointer (some ⟨Xr, 0, none⟩)) ∧ W.cell? ⟨w.heap.size, 0, none⟩ = some (.int .i64 10) ∧ W.cell? ⟨w.heap.size, 16, none⟩ = some (.int .i64 x) ∧ W.cell? ⟨w.heap.size, 15, none⟩ = some (.string s) ∧ D < W.heap.size ∧ w.heap.size < W.heap.size) := fun W hW => by
    have hW2 := hW.2
    rw [hOB] at hW2
    exact ⟨blkCell hW.1 0, blkCell hW.1 1, blkCell hW2 0, blkCell hW2 16, blkCell hW2 15, blkLt hW.1, blkLt hW2⟩
  have hw0 : (w.alloc OB).heap[D]? = some (.cells #[ptrV X, ptrV Xr] 201 (0, 0)) ∧ (w.alloc OB).heap[w.heap.size]? = some OB := ⟨(Below.heap_alloc _ _ _ hDl).trans hD, blkNew w OB⟩
  obtain ⟨d0, d1, o0, o16, o15, l1, l2⟩ := HC.out _ hw0
  have H1 := hide' h1
  have H2 := hide' h2
  have K1 := hide' k1
  have K2 := hide' k2
  clear h1 h2 k1 k2 hD hw0
  unfold ptrV at *
  go_enter Tryz.func71, Tryz.ntmps71
  go_wp2_with fail
  rw [← hOB]
  clear hOB
  generalize w.alloc OB = w0 at *
  go_region_held3 (fun W' => W'.cell? ⟨D, 0, none⟩ = some (.pointer (some ⟨X, 0, none⟩)) ∧ W'.cell? ⟨w.heap.size, 16, none⟩ = some (.int .i64 x) ∧ W'.cell? ⟨w.heap.size, 15, none⟩ = some (.string s)) (go_keep) (first
    | (go_at_call 28; refine H1.out.mono ?_; rintro e w1 ⟨rfl, hp1⟩; obtain ⟨d10, d11, o10, o116, o115, l11, l12⟩ := HC.out _ (K1.out _ hp1); have HP1 := hide' hp1; clear hp1 d0 d1 o0 o16 o15 l1 l2)
    | fail)
  have HQ := hide' (H2.out w1 HP1.out)
  go_wp2_with fail
  go_region_held3 (fun W' => W'.cell? ⟨D, 1, none⟩ = some (.pointer (some ⟨Xr, 0, none⟩)) ∧ W'.cell? ⟨w.heap.size, 16, none⟩ = some (.int .i64 x) ∧ W'.cell? ⟨w.heap.size, 15, none⟩ = some (.string s)) (go_keep) (first
    | (go_at_call 115; refine HQ.out.mono ?_; rintro e w2 ⟨rfl, hp2⟩; obtain ⟨d20, d21, o20, o216, o215, l21, l22⟩ := HC.out _ (K2.out _ hp2); have HP2 := hide' hp2; clear hp2 d10 d11 o10 o116 o115 l11 l12)
    | fail)
  go_wp2_with (first | (go_at_call 99; refine (lawnum _ _).mono ?_; rintro e w3 ⟨rfl, hw3⟩; subst hw3) | fail)
  go_ret
  exact ⟨rfl, HP2.out⟩
end Go.Proofs.YtlonjggfnleolaaGreatDoor
