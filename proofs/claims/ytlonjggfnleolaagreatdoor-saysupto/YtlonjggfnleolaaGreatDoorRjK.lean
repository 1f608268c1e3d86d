/-
  The reference: tells.
-/
import Derived.Test.YtlonjggfnleolaaGreatDoorRjI
namespace Go.Proofs.YtlonjggfnleolaaGreatDoor
open Go.RowKit Go.Shelf
set_option linter.unusedVariables false

/-- Tell of a wrong command. -/
theorem reftell_wrong (d : Int) (hd : d = 1 ∨ d = 2 ∨ d = 3) (c : Cmd) (ka : Option Addr) (kc : Nat) (W : World) (hS : StrsIn W ka 0 kc []) (h4 : c.kind = 4) (hv : c.val.size ≤ 40) (hw8 : c.word.size ≤ 8) (hwd : wordB c.word = true) (i0 : 0 ≤ c.id) (i1 : c.id ≤ 65535) :
    Calls Tryz.prog 104 #[.int .i64 d, cmdV6 c.kind (.slice ka 0 kc) c.val c.word c.fatal c.id, ansV 5 (.slice none 0 0) (.slice none 0 0) c.word, .int .i64 c.id] W fun e w' => e = .returned (.tuple #[.string (wrongB d c), .int .i64 0]) ∧ Below W.heap.size W w' := by
  have hf : BoolsIn W none 0 0 [] := ⟨rfl, Nat.le_refl _, by simp, .inr ⟨rfl, rfl⟩⟩
  have hvs : StrsIn W none 0 0 [] := ⟨rfl, Nat.le_refl _, by simp, by simp, .inr ⟨rfl, rfl⟩⟩
  have e2 : answerB 4 [] c.val 5 [] [] c.word = true := by
    unfold answerB
    simp [hwd]
  rw [h4]
  unfold wrongB
  rcases hd with rfl | rfl | rfl
  · rw [if_pos rfl]
    exact refTell_good1 4 ka 0 kc [] c.val c.word c.fatal c.id 5 none none 0 0 0 0 [] [] c.word c.id W hS (by unfold maxLen; omega) hf hvs (by unfold maxLen; omega) e2 (liTellB 5 c.word) (fun W' _ => refLines_plain 4 _ c.val c.word c.fatal c.id 5 _ _ c.word W' (by omega) (fun _ => hw8))
  · rw [if_neg (by decide), if_pos rfl]
    exact refTell_good2w ka 0 kc [] c.val c.word c.fatal c.id 5 none none 0 0 0 0 [] [] c.word c.id W hS (by unfold maxLen; omega) hf hvs (by unfold maxLen; omega) e2 (by unfold sayB dialB frSayB; simp [i0, i1]) (headB 2 2 0 0 0) (fun W' _ => refFrames_plain 5 _ _ c.word 0 W' (by decide) (by decide) (by decide))
  · rw [if_neg (by decide), if_neg (by decide)]
    exact refTell_good3 4 ka 0 kc [] c.val c.word c.fatal c.id 5 none none 0 0 0 0 [] [] c.word c.id W hS (by unfold maxLen; omega) hf hvs (by unfold maxLen; omega) e2 (lsTellB 5 c.word) (fun W' _ => refLists_plain 5 _ _ c.word W' (by omega) (fun _ => hw8))
/-- The list without its first, where it had room for one alone. -/
theorem OffRow.tail0 {w : World} {e : TypeId} {x : Value} {a : Addr} {c : Nat} (h : OffRow w e (.slice (some a) 1 c) [x]) : OffRow w e (.slice (some a) 0 0) [] := by
  rcases h with ⟨h, _⟩ | ⟨g, off, cap, cur, h, h1, h2, h3, h4⟩
  · cases h
  · cases h
    exact .inr ⟨g, off, 0, cur, rfl, h1, Nat.le_refl _, by omega, fun i y hy => by simp at hy⟩
/-- The first of what waits was told. -/
theorem RCliOk.told {W W5 : World} {ss : List SrvS} {v : RCliI} {s : CliS} {c : Cmd} {cs : List Cmd} {u : RWaitI} {ws : List RWaitI} {wv : Value} (h : RCliOk W ss v s) (hb : Below W.heap.size W W5) (hw : s.waits = c :: cs) (hu : v.ws = u :: ws) (hrow2 : OffRow W 263 wv (ws.map (fun u => ptrV u.B))) (how : wv.ownBlock = v.wv.ownBlock) (t : List UInt8) :
    RCliOk ((W5.setCell ⟨v.K, 3, none⟩ (.string (mkB t))).setCell ⟨v.K, 2, none⟩ wv) ss ⟨v.K, v.Y, wv, ws⟩ ⟨s.d, s.st, cs, t⟩ ∧ Chg v.foot W ((W5.setCell ⟨v.K, 3, none⟩ (.string (mkB t))).setCell ⟨v.K, 2, none⟩ wv) ∧ Later W v.foot (RCliI.foot ⟨v.K, v.Y, wv, ws⟩) := by
  have hK := h.blk
  have hK5 := (hb.block v.K (blkLt hK)).trans hK
  have k : Chg [v.K] W ((W5.setCell ⟨v.K, 3, none⟩ (.string (mkB t))).setCell ⟨v.K, 2, none⟩ wv) := ((Chg.of_below hb).set (.inl (by simp)) _).set (.inl (by simp)) _
  have kT : ∀ Ts : List Nat, 247 ∉ Ts → KeepT Ts W ((W5.setCell ⟨v.K, 3, none⟩ (.string (mkB t))).setCell ⟨v.K, 2, none⟩ wv) := fun Ts h1 => KeepT.chg k (fun b T Z f hm hZ hT => by
    simp at hm
    unfold rcO at hK
    rw [hm, hK] at hZ
    simp at hZ
    obtain ⟨_, rfl, _⟩ := hZ
    exact h1 hT)
  have hrd := h.rd.at_
  refine ⟨⟨(blkSet (i := 2) (blkSet (i := 3) hK5 _) _).trans rfl, ⟨?_, h.rd.ok⟩, (kT [263] (by simp)).off (by simp) hrow2, ?_, fun i u' c' hu' hc' => ?_⟩, k.more (fun x hx => ?_), fun b hb => ?_⟩
  · unfold refO at hrd ⊢
    exact ((kT [195] (by simp)) _ _ _ _ hrd (by simp)).trans hrd
  · have := h.len
    rw [hu, hw] at this
    simpa using this
  · have := h.ok (i + 1) u' c' (by rw [hu]; exact hu') (by rw [hw]; exact hc')
    exact ⟨this.1.keepT (kT _ (by simp)), this.2⟩
  · simp at hx
    rw [hx]
    simp [RCliI.foot]
  · refine .inl ?_
    unfold RCliI.foot at hb ⊢
    rw [← how]
    exact hb

set_option maxHeartbeats 1000000 in
set_option maxRecDepth 100000 in
theorem rtells_nil {w : World} {ss : List SrvS} {v : RCliI} {s : CliS} (h : RCliOk w ss v s) (hw : s.waits = []) :
    Calls Tryz.prog 166 #[.pointer (some ⟨v.K, 0, none⟩)] w fun e w' => e = .returned (.bool false) ∧ Below w.heap.size w w' := by
  have h0 : v.ws = [] := List.length_eq_zero_iff.1 (by rw [h.len, hw]; rfl)
  obtain ⟨wa, wc, hwv⟩ := h.row.len
  rw [h0] at hwv
  have hK := h.blk
  unfold rcO at hK
  rw [hwv] at hK
  have k2 := blkCell hK 2
  simp at k2
  have hKl := blkLt hK
  clear h hK hwv
  go_enter Tryz.func166, Tryz.ntmps166
  go_wp2
  go_ret
  exact ⟨rfl, Below.refl _ _⟩
set_option maxHeartbeats 1000000 in
set_option maxRecDepth 100000 in
theorem rtells_no {w : World} {ss : List SrvS} {v : RCliI} {s : CliS} {c : Cmd} {cs : List Cmd} (h : RCliOk w ss v s) (hw : s.waits = c :: cs) (hk : c.keys ≠ []) (hk4 : c.keys.length ≤ 4) (hwl : s.waits.length ≤ 1000000) :
    Calls Tryz.prog 166 #[.pointer (some ⟨v.K, 0, none⟩)] w fun e w' => e = .returned (.bool false) ∧ Below w.heap.size w w' := by
  have hlen := h.len
  rw [hw] at hlen
  obtain ⟨u, ws, hu⟩ : ∃ u ws, v.ws = u :: ws := by
    cases hws : v.ws with
    | nil => rw [hws] at hlen; simp at hlen
    | cons u ws => exact ⟨u, ws, rfl⟩
  have hok := (h.ok 0 u c (by rw [hu]; rfl) (by rw [hw]; rfl)).1
  obtain ⟨g, off, cap, hwv, hwc, hgl, hgc⟩ := h.row.at_ (i := 0) (x := ptrV u.B) (by rw [hu]; rfl)
  rw [List.length_map] at hwv hwc
  have hwn : v.ws.length ≤ 1000000 := by rw [h.len]; exact hwl
  have hw0 : 0 < v.ws.length := by rw [hu]; simp
  unfold ptrV at hgc
  rw [Nat.add_zero] at hgc
  have hK := h.blk
  unfold rcO at hK
  rw [hwv] at hK
  have k2 := blkCell hK 2
  simp at k2
  have hKl := blkLt hK
  have hB := hok.blk
  unfold rwO at hB
  have hpl : 0 < u.ps.length := by
    rw [hok.len]
    exact List.length_pos_iff.2 hk
  have hp4 : u.ps.length ≤ 4 := by rw [hok.len]; exact hk4
  obtain ⟨p, hp⟩ : ∃ p, u.ps[0]? = some p := ⟨_, List.getElem?_eq_getElem hpl⟩
  obtain ⟨g3, c3, hpv, hg3l, hg3c⟩ := row_at hok.row (by simp) (i := 0) (x := ptrV p.B) (by rw [List.getElem?_map, hp]; rfl)
  unfold ptrV at hg3c
  rw [hpv] at hB
  have b3 := blkCell hB 3
  have b6 := blkCell hB 6
  simp at b3 b6
  have hBl := blkLt hB
  obtain ⟨kd, val, hpb⟩ := (hok.ok p (List.mem_of_getElem? hp)).blk
  unfold rpO at hpb
  have p2 := blkCell hpb 2
  simp at p2
  have hpbl := blkLt hpb
  have hw0' : ¬ (v.ws.length : Int) = 0 := by omega
  have hpl' : (0 : Int) < (u.ps.length : Int) := by omega
  have HB : Hid (∀ o, Below w.heap.size w (w.alloc o)) := fun o => (Below.refl _ _).alloc (Nat.le_refl _) o
  clear h hok hK hB hwv hpv hpb hp hlen hu hk hk4 hwl hw
  generalize v.ws.length = n at *
  generalize u.ps.length = pn at *
  go_enter Tryz.func166, Tryz.ntmps166
  go_wp2
  go_loop [5, 6] (fun i _ => i = .int .i64 0) (fun _ _ => 0)
  case atStart => rfl
  case round =>
    subst hrel
    go_wp2
    go_ret
    exact ⟨rfl, HB.out _⟩
set_option maxHeartbeats 2000000 in
set_option maxRecDepth 100000 in
theorem rtells_yes {w : World} {ss : List SrvS} {v : RCliI} {s : CliS} {c : Cmd} {cs : List Cmd} (h : RCliOk w ss v s) (hd : s.d = 1 ∨ s.d = 2 ∨ s.d = 3) (hw : s.waits = c :: cs) (hk : c.keys = []) (hc : WOk s.d c) (hwl : s.waits.length ≤ 1000000) (hT : s.told.length ≤ 100000000000) :
    Calls Tryz.prog 166 #[.pointer (some ⟨v.K, 0, none⟩)] w fun e w' => e = .returned (.bool true) ∧ ∃ v', RCliOk w' ss v' (told1 s c cs) ∧ v'.K = v.K ∧ v'.Y = v.Y ∧ Chg v.foot w w' ∧ Later w v.foot v'.foot := by
  have hlen := h.len
  rw [hw] at hlen
  obtain ⟨u, ws, hu⟩ : ∃ u ws, v.ws = u :: ws := by
    cases hws : v.ws with
    | nil => rw [hws] at hlen; simp at hlen
    | cons u ws => exact ⟨u, ws, rfl⟩
  have hok := (h.ok 0 u c (by rw [hu]; rfl) (by rw [hw]; rfl)).1
  obtain ⟨g, off, cap, hwv, hwc, hgl, hgc⟩ := h.row.at_ (i := 0) (x := ptrV u.B) (by rw [hu]; rfl)
  rw [List.length_map, hu, List.length_cons] at hwv hwc
  have hrow0 := h.row
  rw [hu, hwv, List.map_cons] at hrow0
  have HFin : Hid (∀ W5, Below w.heap.size w W5 → ∀ wv, wv = Value.slice (some ⟨g, off + 1, none⟩) ws.length (cap - 1) ∨ (wv = Value.slice (some ⟨g, off, none⟩) ws.length 0 ∧ ws.length = 0) → RCliOk ((W5.setCell ⟨v.K, 3, none⟩ (.string (mkB (s.told ++ (wrongB s.d c).data.toList)))).setCell ⟨v.K, 2, none⟩ wv) ss ⟨v.K, v.Y, wv, ws⟩ (told1 s c cs) ∧ Chg v.foot w ((W5.setCell ⟨v.K, 3, none⟩ (.string (mkB (s.told ++ (wrongB s.d c).data.toList)))).setCell ⟨v.K, 2, none⟩ wv) ∧ Later w v.foot (RCliI.foot ⟨v.K, v.Y, wv, ws⟩)) := fun W5 hb wv hwv' => by
    refine h.told hb hw hu ?_ ?_ _
    · rcases hwv' with e | ⟨e, e0⟩
      · have hrow2 := OffRow.tail (a := ⟨g, off, none⟩) (c := cap) (xs := ws.map (fun u => ptrV u.B)) (by rw [List.length_map]; exact hrow0)
        rw [List.length_map] at hrow2
        rw [e]
        exact hrow2
      · have ew : ws = [] := List.length_eq_zero_iff.1 e0
        rw [e]
        rw [ew] at hrow0 ⊢
        exact OffRow.tail0 hrow0
    · rw [hwv]
      rcases hwv' with e | ⟨e, e0⟩ <;> rw [e] <;> rfl
  clear hrow0
  have hwn : ws.length ≤ 1000000 := by rw [hw] at hwl; simp at hlen hwl; rw [hu] at hlen; simp at hlen; omega
  unfold ptrV at hgc
  rw [Nat.add_zero] at hgc
  have hK := h.blk
  unfold rcO at hK
  rw [hwv] at hK
  have k0 := blkCell hK 0
  have k2 := blkCell hK 2
  have k3 := blkCell hK 3
  simp at k0 k2 k3
  have kf := blkFree hK
  have hKl := blkLt hK
  obtain ⟨ka, kc, hkv, hkn⟩ := hok.kn hk
  have hB := hok.blk
  unfold rwO at hB
  have hpl : u.ps.length = 0 := by rw [hok.len, hk]; rfl
  obtain ⟨pa, pc, hpv⟩ := row_form hok.row
  rw [hpl] at hpv
  rw [hkv, hpv] at hB
  have b0 := blkCell hB 0
  have b1 := blkCell hB 1
  have b2 := blkCell hB 2
  have b3 := blkCell hB 3
  have b4 := blkCell hB 4
  have b5 := blkCell hB 5
  have b6 := blkCell hB 6
  simp at b0 b1 b2 b3 b4 b5 b6
  have hBl := blkLt hB
  have hBK : ¬ u.B = v.K := fun e => by rw [e, hK] at hB; simp at hB
  have h4 := hc.cm.wrong hk
  have hwd := hc.wd hk
  have hw1 : 1 ≤ c.word.size := by
    unfold wordB withinB at hwd
    simp only [Bool.and_eq_true, decide_eq_true_eq] at hwd
    omega
  have HTl : Hid (∀ W, Below w.heap.size w W → Calls Tryz.prog 104 #[.int .i64 s.d, .agg #[.int .i64 c.kind, .slice ka 0 kc, .string c.val, .string c.word, .bool c.fatal, .int .i64 c.id], .agg #[.int .i64 5, .slice none 0 0, .slice none 0 0, .string c.word], .int .i64 c.id] W fun e w' => e = .returned (.tuple #[.string (wrongB s.d c), .int .i64 0]) ∧ Below W.heap.size W w') := fun W hW => by
    have hS : StrsIn W ka 0 kc [] := ⟨rfl, Nat.zero_le _, by simp, by simp, by
      rcases hkn with ⟨b, o, e, hb⟩ | e
      · have := hW.size
        exact .inl ⟨b, o, e, by omega, fun i s hs => by simp at hs⟩
      · exact .inr ⟨rfl, e⟩⟩
    exact reftell_wrong s.d hd c ka kc W hS h4.1 hc.cm.v40 h4.2 hwd hc.cm.id0 hc.cm.id1
  have hsz := wrongB_size (d := s.d) hc.cm hk
  rw [len_size] at hsz
  have hsz2 := mkB_size s.told
  have HMk := hide' (mkB_app s.told (wrongB s.d c))
  have hsz3 : ¬ 9223372036854775807 < (mkB s.told).size + (wrongB s.d c).size := by omega
  have hwne : ¬ c.word = ⟨#[]⟩ := fun e => by rw [e] at hw1; exact absurd hw1 (by decide)
  have HB : Hid (∀ o, Below w.heap.size w (w.alloc o)) := fun o => (Below.refl _ _).alloc (Nat.le_refl _) o
  have hlenw : ¬ ((ws.length + 1 : Nat) : Int) = 0 := by omega
  have hwe : c.word.toList.isEmpty = false := by
    cases he : c.word.toList.isEmpty with
    | false => rfl
    | true => exact absurd (emptyB' he) hwne
  have hB5 := hB
  have HBlk := hide' (And.intro hB hK)
  clear h hok hK hB hB5 hwv hpv hlen hu hk hwl hw hc hkv hkn h4 hwd hpl hd hT
  unfold told1 at HFin ⊢
  generalize wrongB s.d c = out at *
  generalize hmk : mkB s.told = tB at *
  have HMk2 := hide' hmk
  clear hmk
  go_enter Tryz.func166, Tryz.ntmps166
  go_wp2
  go_loop [5, 6] (fun i _ => i = .int .i64 0) (fun _ _ => 0)
  case atStart => rfl
  case round =>
    subst hrel
    go_wp2_with fail
    have hA0 := blkNew w (.cells #[.int .i64 5, .slice none 0 0, .slice none 0 0, .string c.word] 91)
    have hb0 : Below w.heap.size w (w.alloc (.cells #[.int .i64 5, .slice none 0 0, .slice none 0 0, .string c.word] 91)) := (Below.refl _ _).alloc (Nat.le_refl _) _
    have hKa := (hb0.block v.K hKl).trans HBlk.out.2
    have hBa := (hb0.block u.B hBl).trans HBlk.out.1
    generalize w.alloc (.cells #[.int .i64 5, .slice none 0 0, .slice none 0 0, .string c.word] 91) = wa at *
    clear k0 k2 k3 kf b0 b1 b2 b3 b4 b5 b6 hgc
    have k0 := blkCell hKa 0
    have b0 := blkCell hBa 0
    have b1 := blkCell hBa 1
    have b2 := blkCell hBa 2
    have b3 := blkCell hBa 3
    have b4 := blkCell hBa 4
    have b5 := blkCell hBa 5
    have q0 := blkCell hA0 0
    have q1 := blkCell hA0 1
    have q2 := blkCell hA0 2
    have q3 := blkCell hA0 3
    simp at k0 b0 b1 b2 b3 b4 b5 q0 q1 q2 q3
    have hKl2 := blkLt hKa
    have hBl2 := blkLt hBa
    have hAl := blkLt hA0
    have HWa := hide' (And.intro hb0 (And.intro hKa (And.intro hBa hA0)))
    clear hb0 hKa hBa hA0
    go_region_held3 (fun W' => W'.cell? ⟨v.K, 0, none⟩ = some (.int .i64 s.d) ∧ W'.cell? ⟨u.B, 0, none⟩ = some (.int .i64 c.kind) ∧ W'.cell? ⟨u.B, 1, none⟩ = some (.slice ka 0 kc) ∧ W'.cell? ⟨u.B, 2, none⟩ = some (.string c.val) ∧ W'.cell? ⟨u.B, 3, none⟩ = some (.string c.word) ∧ W'.cell? ⟨u.B, 4, none⟩ = some (.bool c.fatal) ∧ W'.cell? ⟨u.B, 5, none⟩ = some (.int .i64 c.id) ∧ W'.cell? ⟨w.heap.size, 0, none⟩ = some (.int .i64 5) ∧ W'.cell? ⟨w.heap.size, 1, none⟩ = some (.slice none 0 0) ∧ W'.cell? ⟨w.heap.size, 2, none⟩ = some (.slice none 0 0) ∧ W'.cell? ⟨w.heap.size, 3, none⟩ = some (.string c.word)) (go_keep) (first
      | (go_at_call 104; refine (HTl.out _ ?hx).mono ?_; (case hx => exact HWa.out.1.drew); rintro e w5 ⟨rfl, hb5⟩; have HB5 := hide' (below_undrew hb5); have r0 := (HB5.out.cell (p := ⟨v.K, 0, none⟩) hKl2).trans k0; have r1 := (HB5.out.cell (p := ⟨u.B, 0, none⟩) hBl2).trans b0; have r2 := (HB5.out.cell (p := ⟨u.B, 1, none⟩) hBl2).trans b1; have r3 := (HB5.out.cell (p := ⟨u.B, 2, none⟩) hBl2).trans b2; have r4 := (HB5.out.cell (p := ⟨u.B, 3, none⟩) hBl2).trans b3; have r5 := (HB5.out.cell (p := ⟨u.B, 4, none⟩) hBl2).trans b4; have r6 := (HB5.out.cell (p := ⟨u.B, 5, none⟩) hBl2).trans b5; have r7 := (HB5.out.cell (p := ⟨w.heap.size, 0, none⟩) hAl).trans q0; have r8 := (HB5.out.cell (p := ⟨w.heap.size, 1, none⟩) hAl).trans q1; have r9 := (HB5.out.cell (p := ⟨w.heap.size, 2, none⟩) hAl).trans q2; have r10 := (HB5.out.cell (p := ⟨w.heap.size, 3, none⟩) hAl).trans q3; clear hb5 k0 b0 b1 b2 b3 b4 b5 q0 q1 q2 q3)
      | fail)
    all_goals
      have hb5 : Below w.heap.size w w5 := HWa.out.1.trans (HB5.out.mono HWa.out.1.size)
      have hK5 := (HB5.out.block v.K hKl2).trans HWa.out.2.1
      have k2 := blkCell hK5 2
      have k3 := blkCell hK5 3
      simp at k2 k3
      have kf := blkFree hK5
      have hKl5 := blkLt hK5
      have HG := hide' (HFin.out w5 hb5)
      have hcap1 : 1 ≤ cap := by omega
      have hl1 : 1 ≤ ws.length + 1 := by omega
      clear hb5 hK5 HFin r0 r1 r2 r3 r4 r5 r6 r7 r8 r9 r10
      go_wp2
      · go_ret
        rw [HMk.out]
        exact ⟨rfl, _, (HG.out _ (.inr ⟨rfl, by omega⟩)).1, rfl, rfl, (HG.out _ (.inr ⟨rfl, by omega⟩)).2.1, (HG.out _ (.inr ⟨rfl, by omega⟩)).2.2⟩
      · go_ret
        rw [HMk.out]
        exact ⟨rfl, _, (HG.out _ (.inl rfl)).1, rfl, rfl, (HG.out _ (.inl rfl)).2.1, (HG.out _ (.inl rfl)).2.2⟩
end Go.Proofs.YtlonjggfnleolaaGreatDoor
