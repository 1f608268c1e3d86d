/-
  The law's own step: Ask, Tell and Owner against the reference.
-/
import Derived.Test.YtlonjggfnleolaaGreatDoorTellAny
import Derived.Test.YtlonjggfnleolaaGreatDoorStill
import Derived.Test.YtlonjggfnleolaaGreatDoorOwners
namespace Go.Proofs.YtlonjggfnleolaaGreatDoor
open Go.RowKit
set_option linter.unusedVariables false

/-- One step's value. -/
def opV (k at' : Int) (ck : Int) (kv : Value) (val cw : ByteArray) (ft : Bool) (cid : Int) (ak : Int) (fv vv : Value) (wd : ByteArray) (g0 g1 g2 : Int) (s : ByteArray) (x y : Int) : Value :=
  .agg #[.int .i64 k, .int .i64 at', .int .i64 ck, kv, .string val, .string cw, .bool ft, .int .i64 cid, .int .i64 ak, fv, vv, .string wd, .int .i64 g0, .int .i64 g1, .int .i64 g2, .string s, .int .i64 x, .int .i64 y]

theorem own_any (x y : Int) (s : ByteArray) (hl : s.size ≤ maxLen) : ∃ N E : Int, (∀ W, Calls Tryz.prog 23 #[.int .i64 x, .int .i64 y, .string s] W fun e w' => e = .returned (.tuple #[.int .i64 N, .int .i64 E]) ∧ w' = W) ∧ (∀ W, Calls Tryz.prog 98 #[.int .i64 x, .int .i64 y, .string s] W fun e w' => e = .returned (.tuple #[.int .i64 N, .int .i64 E]) ∧ ∃ q, w' = W.drewN q) := by
  by_cases h : ownOk x y s
  · exact ⟨_, _, fun W => ownerG_ok x y s W hl h, fun W => refOwnerG_ok x y s W hl h⟩
  · exact ⟨_, _, fun W => ownerG_no x y s W hl h, fun W => (refOwnerG_no x y s W hl h).mono fun e w' ⟨h1, h2⟩ => ⟨h1, 0, h2⟩⟩

set_option maxRecDepth 20000 in
set_option maxHeartbeats 1000000 in
theorem written_owner (at' : Int) (ck : Int) (kv : Value) (val cw : ByteArray) (ft : Bool) (cid : Int) (ak : Int) (fv vv : Value) (wd : ByteArray) (g0 g1 g2 : Int) (s : ByteArray) (x y : Int) (w : World) (hl : s.size ≤ maxLen) :
    Calls Tryz.prog 66 #[opV 3 at' ck kv val cw ft cid ak fv vv wd g0 g1 g2 s x y] w fun e w' => e = .returned (.bool true) ∧ Below w.heap.size w w' := by
  obtain ⟨N, E, h1, h2⟩ := own_any x y s hl
  have H1 := hide' h1
  have H2 := hide' h2
  clear h1 h2
  unfold opV
  go_enter Tryz.func66, Tryz.ntmps66
  go_wp2_with fail
  go_at_call 23
  refine (H1.out _).mono ?_
  rintro e w1 ⟨rfl, hw1⟩
  subst hw1
  go_wp2_with fail
  go_at_call 98
  refine (H2.out _).mono ?_
  rintro e w1 ⟨rfl, q, rfl⟩
  go_wp2
  go_ret
  exact ⟨rfl, below_drewN ((Below.refl _ _).alloc (Nat.le_refl _) _) _⟩

/-- What lentTexts made of a list: nil of nil, else a block of its own, from g0 on and below g9. -/
structure LentOk (w : World) (g0 g9 : Nat) (a' : Option Addr) (n c' : Nat) (ss : List ByteArray) (a : Option Addr) : Prop where
  form : (a = none ∧ a' = none ∧ n = 0 ∧ c' = 0) ∨ (∃ g, g0 ≤ g ∧ g < g9 ∧ a' = some ⟨g, 0, none⟩ ∧ c' = n + 2 ∧ LentT w g n ss ∧ a ≠ none)

theorem lentT_lt {w : World} {g n : Nat} {ss : List ByteArray} (h : LentT w g n ss) : g < w.heap.size := by
  obtain ⟨Z, z1, _⟩ := h; exact blkLt z1
theorem lentT_strs {w : World} {g n : Nat} {ss : List ByteArray} (h : LentT w g n ss) (hl : ss.length = n) (sm : ss.length ≤ 140737488355328) (sz : ∀ s ∈ ss, s.size ≤ maxLen) : StrsIn w (some ⟨g, 0, none⟩) n (n + 2) ss := by
  obtain ⟨Z, z1, z2, z3, _⟩ := h
  refine ⟨hl, by omega, sm, sz, .inl ⟨g, 0, rfl, blkLt z1, fun i s hs => ?_⟩⟩
  rw [Nat.zero_add]
  exact (blkCell z1 i).trans (z3 i s hs)
theorem LentOk.strs {w : World} {g0 g9 : Nat} {a' a : Option Addr} {n c' : Nat} {ss : List ByteArray} (h : LentOk w g0 g9 a' n c' ss a) (hl : ss.length = n) (sm : ss.length ≤ 140737488355328) (sz : ∀ s ∈ ss, s.size ≤ maxLen) : StrsIn w a' n c' ss := by
  rcases h with ⟨_, rfl, rfl, rfl⟩ | ⟨g, hg, hg9, rfl, rfl, hT, hne⟩
  · exact ⟨hl, Nat.le_refl _, sm, sz, .inr ⟨List.eq_nil_of_length_eq_zero hl, rfl⟩⟩
  · exact lentT_strs hT hl sm sz
theorem LentOk.keep {w w' : World} {g0 g9 : Nat} {a' a : Option Addr} {n c' : Nat} {ss : List ByteArray} (h : LentOk w g0 g9 a' n c' ss a) (hB : ∀ g, g0 ≤ g → g < g9 → g < w.heap.size → w'.heap[g]? = w.heap[g]?) : LentOk w' g0 g9 a' n c' ss a := by
  rcases h with h | ⟨g, hg, hg9, h1, h2, hT, hne⟩
  · exact ⟨.inl h⟩
  · refine ⟨.inr ⟨g, hg, hg9, h1, h2, ?_, hne⟩⟩
    have hlt := lentT_lt hT
    obtain ⟨Z, z1, z⟩ := hT
    exact ⟨⟨Z, (hB g hg hg9 hlt).trans z1, z⟩⟩
theorem LentOk.later {w w' : World} {g0 g9 : Nat} {a' a : Option Addr} {n c' : Nat} {ss : List ByteArray} (h : LentOk w g0 g9 a' n c' ss a) (hB : Below w.heap.size w w') : LentOk w' g0 g9 a' n c' ss a :=
  h.keep fun g _ _ hlt => hB.block g hlt
theorem LentOk.set {w : World} {g0 g9 : Nat} {a' a : Option Addr} {n c' : Nat} {ss : List ByteArray} (h : LentOk w g0 g9 a' n c' ss a) (b i : Nat) (v : Value) (hb : b < g0 ∨ g9 ≤ b) : LentOk (w.setCell ⟨b, i, none⟩ v) g0 g9 a' n c' ss a :=
  h.keep fun g h1 h2 _ => Below.heap_setCell w ⟨b, i, none⟩ v g (by simp only; omega)

theorem lent_any (a : Option Addr) (n c : Nat) (ss : List ByteArray) (w : World) (hs : StrsIn w a n c ss) (hn : n ≤ 8796093022208) :
    Calls Tryz.prog 100 #[.slice a n c] w fun e w' => ∃ a' c', e = .returned (.slice a' n c') ∧ LentOk w' w.heap.size w'.heap.size a' n c' ss a ∧ Below w.heap.size w w' := by
  have hs0 := hs
  obtain ⟨hl, hc, sm, sz, hf⟩ := hs
  rcases hf with ⟨b, o, rfl, hb, hcell⟩ | ⟨rfl, rfl⟩
  · refine (lentTexts_some b o n c ss w hl hc hn hb hcell).mono fun e w' ⟨h1, h2, h3⟩ => ⟨_, _, h1, ⟨.inr ⟨_, Nat.le_refl _, lentT_lt h2, rfl, rfl, h2, by simp⟩⟩, h3⟩
  · simp at hl
    subst hl
    cases a with
    | none =>
      refine (lentTexts_nil w).mono fun e w' ⟨h1, h2⟩ => ?_
      subst h2
      exact ⟨none, 0, h1, ⟨.inl ⟨rfl, rfl, rfl, rfl⟩⟩, Below.refl _ _⟩
    | some x =>
      exact (lentTexts_empty x w).mono fun e w' ⟨h1, h2, h3⟩ => ⟨_, _, h1, ⟨.inr ⟨_, Nat.le_refl _, lentT_lt h2, rfl, rfl, h2, by simp⟩⟩, h3⟩

/-- Nothing is written but from g0 on and below g9. -/
structure StillX (g0 g9 : Nat) (w w' : World) : Prop where
  bel : Below g0 w w'
  rest : ∀ k, g9 ≤ k → w'.heap[k]? = w.heap[k]?

theorem LentOk.still {w w' : World} {g0 g9 h0 h9 : Nat} {a' a : Option Addr} {n c' : Nat} {ss : List ByteArray} (h : LentOk w g0 g9 a' n c' ss a) (hX : StillX h0 h9 w w') (hd : g9 ≤ h0 ∨ h9 ≤ g0) : LentOk w' g0 g9 a' n c' ss a :=
  h.keep fun g h1 h2 _ => by
    rcases hd with hd | hd
    · exact hX.bel.block g (by omega)
    · exact hX.rest g (by omega)

theorem still_any (g0 g9 : Nat) (a a' : Option Addr) (n c c' : Nat) (ss : List ByteArray) (w0 w : World) (hs : StrsIn w0 a n c ss) (hn : n ≤ 8796093022208) (h0 : w0.heap.size ≤ g0) (hB : Below w0.heap.size w0 w) (hL : LentOk w g0 g9 a' n c' ss a) :
    Calls Tryz.prog 102 #[.slice a' n c', .slice a n c] w fun e w' => e = .returned (.bool true) ∧ StillX g0 g9 w w' := by
  obtain ⟨hl, hc, sm, sz, hf⟩ := hs
  rcases hL with ⟨rfl, rfl, rfl, rfl⟩ | ⟨g, hg, hg9, rfl, rfl, hT, hne⟩
  · rcases hf with ⟨b, o, h, _⟩ | ⟨rfl, rfl⟩
    · cases h
    · exact (stillTexts_nil _ w).mono fun e w' ⟨h1, h2⟩ => ⟨h1, by subst h2; exact ⟨Below.refl _ _, fun _ _ => rfl⟩⟩
  · rcases hf with ⟨b, o, rfl, hb, hcell⟩ | ⟨rfl, rfl⟩
    · refine (stillTexts_some g b o n c ss w hT hl hc hn (by omega) fun i s h => (hB.cell (p := ⟨b, o + i, none⟩) hb).trans (hcell i s h)).mono fun e w' ⟨h1, h2⟩ => ⟨h1, h2.bel.mono hg, fun k hk => h2.rest k (by omega)⟩
    · cases a with
      | none => exact absurd rfl hne
      | some x =>
        simp at hl
        subst hl
        exact (stillTexts_empty x g w hT).mono fun e w' ⟨h1, h2⟩ => ⟨h1, h2.bel.mono hg, fun k hk => h2.rest k (by omega)⟩

/-- What lentBools made of a list: nil of nil, else a block of its own, from g0 on and below g9. -/
structure LentOkB (w : World) (g0 g9 : Nat) (a' : Option Addr) (n c' : Nat) (ss : List Bool) (a : Option Addr) : Prop where
  form : (a = none ∧ a' = none ∧ n = 0 ∧ c' = 0) ∨ (∃ g, g0 ≤ g ∧ g < g9 ∧ a' = some ⟨g, 0, none⟩ ∧ c' = n + 2 ∧ LentB w g n ss ∧ a ≠ none)

theorem lentB_lt {w : World} {g n : Nat} {ss : List Bool} (h : LentB w g n ss) : g < w.heap.size := by
  obtain ⟨Z, z1, _⟩ := h; exact blkLt z1
theorem lentB_bools {w : World} {g n : Nat} {ss : List Bool} (h : LentB w g n ss) (hl : ss.length = n) (sm : ss.length ≤ 140737488355328) : BoolsIn w (some ⟨g, 0, none⟩) n (n + 2) ss := by
  obtain ⟨Z, z1, z2, z3, _⟩ := h
  refine ⟨hl, by omega, sm, .inl ⟨g, 0, rfl, blkLt z1, fun i s hs => ?_⟩⟩
  rw [Nat.zero_add]
  exact (blkCell z1 i).trans (z3 i s hs)
theorem LentOkB.bools {w : World} {g0 g9 : Nat} {a' a : Option Addr} {n c' : Nat} {ss : List Bool} (h : LentOkB w g0 g9 a' n c' ss a) (hl : ss.length = n) (sm : ss.length ≤ 140737488355328) : BoolsIn w a' n c' ss := by
  rcases h with ⟨_, rfl, rfl, rfl⟩ | ⟨g, hg, hg9, rfl, rfl, hT, hne⟩
  · exact ⟨hl, Nat.le_refl _, sm, .inr ⟨List.eq_nil_of_length_eq_zero hl, rfl⟩⟩
  · exact lentB_bools hT hl sm
theorem LentOkB.keep {w w' : World} {g0 g9 : Nat} {a' a : Option Addr} {n c' : Nat} {ss : List Bool} (h : LentOkB w g0 g9 a' n c' ss a) (hB : ∀ g, g0 ≤ g → g < g9 → g < w.heap.size → w'.heap[g]? = w.heap[g]?) : LentOkB w' g0 g9 a' n c' ss a := by
  rcases h with h | ⟨g, hg, hg9, h1, h2, hT, hne⟩
  · exact ⟨.inl h⟩
  · refine ⟨.inr ⟨g, hg, hg9, h1, h2, ?_, hne⟩⟩
    have hlt := lentB_lt hT
    obtain ⟨Z, z1, z⟩ := hT
    exact ⟨⟨Z, (hB g hg hg9 hlt).trans z1, z⟩⟩
theorem LentOkB.later {w w' : World} {g0 g9 : Nat} {a' a : Option Addr} {n c' : Nat} {ss : List Bool} (h : LentOkB w g0 g9 a' n c' ss a) (hB : Below w.heap.size w w') : LentOkB w' g0 g9 a' n c' ss a :=
  h.keep fun g _ _ hlt => hB.block g hlt
theorem LentOkB.set {w : World} {g0 g9 : Nat} {a' a : Option Addr} {n c' : Nat} {ss : List Bool} (h : LentOkB w g0 g9 a' n c' ss a) (b i : Nat) (v : Value) (hb : b < g0 ∨ g9 ≤ b) : LentOkB (w.setCell ⟨b, i, none⟩ v) g0 g9 a' n c' ss a :=
  h.keep fun g h1 h2 _ => Below.heap_setCell w ⟨b, i, none⟩ v g (by simp only; omega)

theorem lentB_any (a : Option Addr) (n c : Nat) (ss : List Bool) (w : World) (hs : BoolsIn w a n c ss) (hn : n ≤ 140737488355328) :
    Calls Tryz.prog 103 #[.slice a n c] w fun e w' => ∃ a' c', e = .returned (.slice a' n c') ∧ LentOkB w' w.heap.size w'.heap.size a' n c' ss a ∧ Below w.heap.size w w' := by
  have hs0 := hs
  obtain ⟨hl, hc, sm, hf⟩ := hs
  rcases hf with ⟨b, o, rfl, hb, hcell⟩ | ⟨rfl, rfl⟩
  · refine (lentBools_some b o n c ss w hl hc hn hb hcell).mono fun e w' ⟨h1, h2, h3⟩ => ⟨_, _, h1, ⟨.inr ⟨_, Nat.le_refl _, lentB_lt h2, rfl, rfl, h2, by simp⟩⟩, h3⟩
  · simp at hl
    subst hl
    cases a with
    | none =>
      refine (lentBools_nil w).mono fun e w' ⟨h1, h2⟩ => ?_
      subst h2
      exact ⟨none, 0, h1, ⟨.inl ⟨rfl, rfl, rfl, rfl⟩⟩, Below.refl _ _⟩
    | some x =>
      exact (lentBools_empty x w).mono fun e w' ⟨h1, h2, h3⟩ => ⟨_, _, h1, ⟨.inr ⟨_, Nat.le_refl _, lentB_lt h2, rfl, rfl, h2, by simp⟩⟩, h3⟩

theorem LentOkB.still {w w' : World} {g0 g9 h0 h9 : Nat} {a' a : Option Addr} {n c' : Nat} {ss : List Bool} (h : LentOkB w g0 g9 a' n c' ss a) (hX : StillX h0 h9 w w') (hd : g9 ≤ h0 ∨ h9 ≤ g0) : LentOkB w' g0 g9 a' n c' ss a :=
  h.keep fun g h1 h2 _ => by
    rcases hd with hd | hd
    · exact hX.bel.block g (by omega)
    · exact hX.rest g (by omega)

theorem stillB_any (g0 g9 : Nat) (a a' : Option Addr) (n c c' : Nat) (ss : List Bool) (w0 w : World) (hs : BoolsIn w0 a n c ss) (hn : n ≤ 140737488355328) (h0 : w0.heap.size ≤ g0) (hB : Below w0.heap.size w0 w) (hL : LentOkB w g0 g9 a' n c' ss a) :
    Calls Tryz.prog 105 #[.slice a' n c', .slice a n c] w fun e w' => e = .returned (.bool true) ∧ StillX g0 g9 w w' := by
  obtain ⟨hl, hc, sm, hf⟩ := hs
  rcases hL with ⟨rfl, rfl, rfl, rfl⟩ | ⟨g, hg, hg9, rfl, rfl, hT, hne⟩
  · rcases hf with ⟨b, o, h, _⟩ | ⟨rfl, rfl⟩
    · cases h
    · exact (stillBools_nil _ w).mono fun e w' ⟨h1, h2⟩ => ⟨h1, by subst h2; exact ⟨Below.refl _ _, fun _ _ => rfl⟩⟩
  · rcases hf with ⟨b, o, rfl, hb, hcell⟩ | ⟨rfl, rfl⟩
    · refine (stillBools_some g b o n c ss w hT hl hc hn (by omega) fun i s h => (hB.cell (p := ⟨b, o + i, none⟩) hb).trans (hcell i s h)).mono fun e w' ⟨h1, h2⟩ => ⟨h1, h2.bel.mono hg, fun k hk => h2.rest k (by omega)⟩
    · cases a with
      | none => exact absurd rfl hne
      | some x =>
        simp at hl
        subst hl
        exact (stillBools_empty x g w hT).mono fun e w' ⟨h1, h2⟩ => ⟨h1, h2.bel.mono hg, fun k hk => h2.rest k (by omega)⟩

theorem said_parts (b : Bool) (s : ByteArray) : ∃ (S : ByteArray) (E : Int), saidV b s = .tuple #[.string S, .int .i64 E] := by
  cases b
  · exact ⟨_, _, rfl⟩
  · exact ⟨_, _, rfl⟩

set_option maxRecDepth 20000 in
set_option maxHeartbeats 4000000 in
theorem written_ask (at' : Int) (ck : Int) (a : Option Addr) (n c : Nat) (ss : List ByteArray) (val cw : ByteArray) (ft : Bool) (cid : Int) (ak : Int) (fv vv : Value) (wd : ByteArray) (g0 g1 g2 : Int) (s : ByteArray) (x y : Int) (w : World) (hs : StrsIn w a n c ss) (hv : val.size ≤ maxLen) (hn : n ≤ 8796093022208) :
    Calls Tryz.prog 66 #[opV 1 at' ck (.slice a n c) val cw ft cid ak fv vv wd g0 g1 g2 s x y] w fun e w' => e = .returned (.bool true) ∧ Below w.heap.size w w' := by
  have HB2 := hide' (show ∀ x y, Below w.heap.size w ((w.alloc x).alloc y) from fun x y => ((Below.refl _ _).alloc (Nat.le_refl _) _).alloc (by simp) _)
  obtain ⟨S, E, hSE⟩ := said_parts (cmdB ck ss val && sayB x ck n y) (askS x ck ss val y)
  have HL : Hid (∀ W, Below w.heap.size w W → Calls Tryz.prog 100 #[.slice a n c] W fun e w' => ∃ a' c', e = .returned (.slice a' n c') ∧ LentOk w' W.heap.size w'.heap.size a' n c' ss a ∧ Below W.heap.size W w') := fun W hW => lent_any a n c ss W (hs.later hW) hn
  have HA : Hid (∀ W a' c', StrsIn W a' n c' ss → Calls Tryz.prog 21 #[.int .i64 x, cmdV6 ck (.slice a' n c') val cw ft cid, .int .i64 y] W fun e w' => e = .returned (.tuple #[.string S, .int .i64 E]) ∧ Below W.heap.size W w') := fun W a' c' h => by rw [← hSE]; exact ask_any x ck a' n c' ss val cw ft cid y W h hv
  have HR : Hid (∀ W, Below w.heap.size w W → Calls Tryz.prog 101 #[.int .i64 x, cmdV6 ck (.slice a n c) val cw ft cid, .int .i64 y] W fun e w' => e = .returned (.tuple #[.string S, .int .i64 E]) ∧ Below W.heap.size W w') := fun W h => by rw [← hSE]; exact refask_any x ck a n c ss val cw ft cid y W (hs.later h) hv
  have HS : Hid (∀ W g g9 a' c', w.heap.size ≤ g → Below w.heap.size w W → LentOk W g g9 a' n c' ss a → Calls Tryz.prog 102 #[.slice a' n c', .slice a n c] W fun e w' => e = .returned (.bool true) ∧ StillX g g9 W w') := fun W g g9 a' c' hg hW hO => still_any g g9 a a' n c c' ss w W hs hn hg hW hO
  have HQ : Hid (∀ W g g9 a' c', LentOk W g g9 a' n c' ss a → StrsIn W a' n c' ss) := fun W g g9 a' c' h => h.strs hs.len hs.small hs.sizes
  clear hs hv hn hSE
  unfold cmdV6 opV at *
  go_enter Tryz.func66, Tryz.ntmps66
  go_wp2_with fail
  go_at_call 100
  refine (HL.out _ (HB2.out _ _)).mono ?_
  rintro e w1 ⟨a', c', rfl, hO1, hb1⟩
  obtain ⟨hc1, hf1⟩ := bcell hb1
  have hz1 : w.heap.size + 1 < w1.heap.size := by have := hb1.size; simp at this; omega
  have hy1 : w.heap.size < w1.heap.size := by omega
  have HB1 : Hid (Below w.heap.size w (w1.setCell ⟨w.heap.size + 1, 1, none⟩ (.slice a' n c'))) := ((HB2.out _ _).trans (hb1.mono (by simp; omega))).setCell (p := ⟨w.heap.size + 1, 1, none⟩) (by simp) _
  rw [World.size_alloc, World.size_alloc] at hO1
  have HO1 : Hid (LentOk (w1.setCell ⟨w.heap.size + 1, 1, none⟩ (.slice a' n c')) (w.heap.size + 1 + 1) w1.heap.size a' n c' ss a) := hO1.set (w.heap.size + 1) 1 _ (.inl (by omega))
  clear hb1 hO1 HL HB2
  go_wp2_with fail
  go_at_call 21
  refine (HA.out _ a' c' (HQ.out _ _ _ _ _ HO1.out)).mono ?_
  rintro e w2 ⟨rfl, hb2⟩
  obtain ⟨hc2, hf2⟩ := bcell hb2
  have hz2 : w.heap.size + 1 < w2.heap.size := by have := hb2.size; simp at this; omega
  have hy2 : w.heap.size < w2.heap.size := by omega
  have H2 : Hid (Below w.heap.size w w2) := HB1.out.trans (hb2.mono (by simp; omega))
  have HO2 : Hid (LentOk w2 (w.heap.size + 1 + 1) w1.heap.size a' n c' ss a) := HO1.out.later hb2
  clear hb2 HB1 HO1
  go_wp2_with fail
  go_at_call 101
  refine (HR.out _ H2.out).mono ?_
  rintro e w3 ⟨rfl, hb3⟩
  obtain ⟨hc3, hf3⟩ := bcell hb3
  have hz3 : w.heap.size + 1 < w3.heap.size := by have := hb3.size; omega
  have hy3 : w.heap.size < w3.heap.size := by omega
  have H3 : Hid (Below w.heap.size w w3) := H2.out.trans (hb3.mono H2.out.size)
  have HO3 : Hid (LentOk w3 (w.heap.size + 1 + 1) w1.heap.size a' n c' ss a) := HO2.out.later hb3
  clear hb3 H2 HO2
  go_wp2_with fail
  go_at_call 102
  refine (HS.out _ _ _ a' c' (by omega) H3.out HO3.out).mono ?_
  rintro e w4 ⟨rfl, hX⟩
  have H4 : Hid (Below w.heap.size w w4) := H3.out.trans (hX.bel.mono (by omega))
  clear hX
  go_wp2
  go_ret
  exact ⟨rfl, H4.out⟩
end Go.Proofs.YtlonjggfnleolaaGreatDoor
