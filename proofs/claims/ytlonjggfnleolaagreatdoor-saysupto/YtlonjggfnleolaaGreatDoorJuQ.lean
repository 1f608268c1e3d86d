/-
  client.tell, while nothing comes from servers.
-/
import Derived.Test.YtlonjggfnleolaaGreatDoorJuQa
import Derived.Test.YtlonjggfnleolaaGreatDoorTells
namespace Go.Proofs.YtlonjggfnleolaaGreatDoor
open Go.RowKit Go.Shelf Go.Conc
set_option linter.unusedVariables false

/-- What waits and is told behind tell. -/
def tellL (d : Int) : List Cmd → List UInt8 → List Cmd × List UInt8
  | [], told => ([], told)
  | c :: cs, told => if c.keys = [] then tellL d cs (told ++ (wrongB d c).data.toList) else (c :: cs, told)
/-- How many wait, read off a client's block. -/
def waitLen (w : World) (C : Nat) : Nat := match w.cell? ⟨C, 2, none⟩ with | some (.slice _ n _) => n | _ => 0
theorem CliOk.waitLen {W : World} {win : Nat} {v : CliI} {s : CliS} (h : CliOk W win v s) : waitLen W v.C = s.waits.length := by
  have c2 := (clCells h.blk).2.2.1
  unfold YtlonjggfnleolaaGreatDoor.waitLen
  rw [c2]
  rcases h.row.2 with ⟨e, h0⟩ | ⟨g, cap, cur, e, _⟩
  · rw [e, h0]
  · rw [e]

set_option maxHeartbeats 1000000 in
set_option maxRecDepth 100000 in
theorem clientTell1 (win : Nat) (v : CliI) (s : CliS) (w : World) (h : CliOk w win v s) (ht : v.t = 160) (hd : s.d = 1) (hl : s.told.length + 1000 * s.waits.length ≤ 100000000000) (hwn : s.waits.length ≤ 1000) :
    Calls Tryz.prog 89 #[.pointer (some ⟨v.C, 0, none⟩)] w fun e w' => e = .returned (.tuple #[]) ∧ ∃ v', CliOk w' win v' { s with waits := (tellL s.d s.waits s.told).1, told := (tellL s.d s.waits s.told).2 } ∧ v'.C = v.C ∧ v'.R = v.R ∧ v'.ch = v.ch ∧ v'.t = v.t ∧ v'.hb = v.hb ∧ Chg v.foot w w' ∧ Later w v.foot v'.foot := by
  have HT : Hid (∀ (c : Cmd) (kv : Value) (W : World), CmdOk c → c.keys = [] → Calls Tryz.prog 212 #[.agg #[], cmdV6 c.kind kv c.val c.word c.fatal c.id, ansV 5 (.slice none 0 0) (.slice none 0 0) c.word, .int .i64 c.id] W fun e w' => e = .returned (.string (wrongB 1 c)) ∧ Below W.heap.size W w') := fun c kv W hc hk => by
    have h4 := hc.wrong hk
    rw [h4.1]; unfold wrongB; rw [if_pos rfl]; exact liTell_plain 4 kv c.val c.word c.fatal c.id 5 _ _ c.word c.id W (by omega) (fun _ => h4.2)
  have HSZ : Hid (∀ c : Cmd, CmdOk c → c.keys = [] → (wrongB 1 c).size ≤ 1000) := fun c hc hk => by
    have h4 := hc.wrong hk
    have h5 := h4.2; unfold wrongB liTellB; rw [if_pos rfl, if_neg (by decide), if_neg (by decide), if_neg (by decide), ByteArray.size_append, ByteArray.size_append]; show 5 + c.word.size + 1 ≤ 1000; omega
  have hm := m_tell1
  have H0 := hide' h
  have hlt := blkLt h.blk
  obtain ⟨C, R, ch, t, hb, wv, bp, bv, qs⟩ := v
  obtain ⟨sd, st, waits, told⟩ := s
  simp only at ht hd hl hwn hlt H0 ⊢
  subst ht hd
  clear h
  go_enter Tryz.func89, Tryz.ntmps89
  go_wp2_with fail
  go_loopw [2] (fun _ wr => ∃ (wv' bp' bv' : Value) (qs' : List Nat) (waits' : List Cmd) (told' : List UInt8), told'.length + 1000 * waits'.length ≤ 100000000000 ∧ waits'.length ≤ 1000 ∧ Hid (CliOk wr win ⟨C, R, ch, 160, hb, wv', bp', bv', qs'⟩ ⟨1, st, waits', told'⟩ ∧ tellL 1 waits' told' = tellL 1 waits told ∧ Chg (CliI.foot ⟨C, R, ch, 160, hb, wv, bp, bv, qs⟩) w wr ∧ Later w (CliI.foot ⟨C, R, ch, 160, hb, wv, bp, bv, qs⟩) (CliI.foot ⟨C, R, ch, 160, hb, wv', bp', bv', qs'⟩))) (fun _ wr => waitLen wr C)
  case atStart => exact ⟨wv, bp, bv, qs, waits, told, hl, hwn, H0.out, rfl, Chg.refl _ _, Later.refl _ _⟩
  case round =>
    obtain ⟨wv', bp', bv', qs', waits', told', hl', hwn', HJ⟩ := hrel
    obtain ⟨c0, c1, c2, c3, c4, cf⟩ := clCells HJ.out.1.blk
    simp only at c0 c1 c2 c3 c4
    have hltC := blkLt HJ.out.1.blk
    simp only at hltC
    have hfin : Hid (∀ wl wr', tellL 1 waits' told' = wl → Chg (CliI.foot ⟨C, R, ch, 160, hb, wv, bp, bv, qs⟩) w wr' → CliOk wr' win ⟨C, R, ch, 160, hb, wv', bp', bv', qs'⟩ ⟨1, st, wl.1, wl.2⟩ → ∃ v' : CliI, CliOk wr' win v' ⟨1, st, (tellL 1 waits told).1, (tellL 1 waits told).2⟩ ∧ v'.C = C ∧ v'.R = R ∧ v'.ch = ch ∧ v'.t = 160 ∧ v'.hb = hb ∧ Chg (CliI.foot ⟨C, R, ch, 160, hb, wv, bp, bv, qs⟩) w wr' ∧ Later w (CliI.foot ⟨C, R, ch, 160, hb, wv, bp, bv, qs⟩) v'.foot) := fun wl wr' e hc hk => ⟨⟨C, R, ch, 160, hb, wv', bp', bv', qs'⟩, by rw [← HJ.out.2.1, e]; exact hk, rfl, rfl, rfl, rfl, rfl, hc, HJ.out.2.2.2⟩
    cases waits' with
    | nil =>
      have hwv : ∃ a c, wv' = .slice a 0 c := by
        rcases HJ.out.1.row.2 with ⟨e, _⟩ | ⟨g, cap, cur, e, _⟩
        · exact ⟨_, _, e⟩
        · exact ⟨_, _, e⟩
      obtain ⟨wa, wc, rfl⟩ := hwv
      go_wp2
      go_end0
      exact ⟨rfl, hfin.out _ _ rfl HJ.out.2.2.1 HJ.out.1⟩
    | cons c cs =>
      obtain ⟨q, qs2, rfl⟩ : ∃ q qs2, qs' = q :: qs2 := by
        cases qs' with
        | nil => have := HJ.out.1.ql; simp at this
        | cons q qs2 => exact ⟨q, qs2, rfl⟩
      obtain ⟨g, cap, rfl, hgc⟩ : ∃ g cap, wv' = .slice (some ⟨g, 0, none⟩) (cs.length + 1) cap ∧ cs.length + 1 ≤ cap := by
        rcases HJ.out.1.row.2 with ⟨_, h0⟩ | ⟨g, cap, cur, e, _, _, h2, _⟩
        · simp at h0
        · exact ⟨g, cap, e, h2⟩
      have hqs : qs2.length = cs.length := by have := HJ.out.1.ql; simpa using this
      have hg0 : wr.cell? ⟨g, 0, none⟩ = some (.pointer (some ⟨q, 0, none⟩)) := by
        rcases HJ.out.1.row.2 with ⟨e, _⟩ | ⟨g', cap', cur, e, _, h1, _, _, _, h5⟩
        · cases e
        · cases e
          rw [blkCell h1 0]
          have h6 : (cur.toList.take ((c :: cs).length * 1))[0]? = ((q :: qs2).map ptrV)[0]? := by rw [h5]
          rw [List.getElem?_take_of_lt (by simp)] at h6
          simpa [ptrV] using h6
      have hgl : g < wr.heap.size := World.block_lt_of_cell? wr ⟨g, 0, none⟩ hg0
      have hQ := HJ.out.1.qu 0 q c rfl rfl
      obtain ⟨ka, kc, yv, vv, hqb⟩ := hQ.len
      have HAd := hide' (fun W (hW : Below wr.heap.size wr W) => answered_any q _ _ _ _ _ _ _ _ _ _ _ W ((hW.block q (blkLt hqb)).trans hqb))
      have hqlt := blkLt hqb
      have HQB := hide' hqb
      have hcok := HJ.out.1.ok c (by simp)
      have HCK := hide' hcok
      by_cases hk : c.keys = []
      · have hdk : decide ((c.keys.length : Int) = 0) = true := decide_eq_true (by rw [hk]; rfl)
        rw [hdk] at HAd
        have htl : tellL 1 (c :: cs) told' = tellL 1 cs (told' ++ (wrongB 1 c).data.toList) := by conv => lhs; unfold tellL; rw [if_pos hk]
        have HTL := hide' (And.intro htl hk)
        have h4 := (hcok.wrong hk).1
        have hqb2 := hqb
        rw [h4] at hqb2
        have HAn := hide' (fun W (hW : Below wr.heap.size wr W) => answer_wrong q _ _ _ _ _ _ _ _ _ _ W ((hW.block q (blkLt hqb2)).trans hqb2))
        have HTt := hide' (fun W => HT.out c (.slice ka c.keys.length kc) W hcok hk)
        unfold cmdV6 ansV at HTt
        unfold ansV at HAn
        have hqb3 := hqb
        unfold quO at hqb3
        have q0 := blkCell hqb3 0
        have q1 := blkCell hqb3 1
        have q2 := blkCell hqb3 2
        have q3 := blkCell hqb3 3
        have q4 := blkCell hqb3 4
        have q5 := blkCell hqb3 5
        simp at q0 q1 q2 q3 q4 q5
        obtain ⟨⟨rv, ru, hD, _⟩, _⟩ := HJ.out.1.rd
        simp only at hD
        unfold rdO at hD
        have r0 := blkCell hD 0
        simp at r0
        have hRl := blkLt hD
        have hszW := HSZ.out c hcok hk
        generalize hout : wrongB 1 c = out at *
        have HOUT := hide' hout
        generalize hknn : c.keys.length = kn at *
        have HBw : Hid (∀ W, Below wr.heap.size wr W → Calls Tryz.prog 128 #[.pointer (some ⟨C, 3, none⟩), .string out] W fun e w' => (∃ v, e = .returned v) ∧ ∃ v', w'.heap[C]? = some (clO R ch (.slice (some ⟨g, 0, none⟩) (cs.length + 1) cap) (.pointer (some ⟨C, 3, none⟩)) v') ∧ BldRow w' v' (told' ++ out.data.toList) ∧ Chg (C :: bv'.ownBlock.toList) W w' ∧ (v'.ownBlock = bv'.ownBlock ∨ ∃ g, v'.ownBlock = some g ∧ W.heap.size ≤ g)) := fun W hW => by
          have hbl := HJ.out.1.bld
          refine (bld_write C 3 125 5 _ bv' told' out W ((hW.block C hltC).trans HJ.out.1.blk) rfl (by omega) lies125 (by decide) ?_ rfl (hbl.other (fun g hg => by obtain ⟨cur, fz, hc⟩ := hbl.blk hg; exact hW.block g (blkLt hc))) (by simp at hl'; omega)).mono ?_
          · rcases HJ.out.1.bpv with h | h
            · exact .inl (by simp only at h; rw [h]; rfl)
            · exact .inr (by simp only at h; rw [h]; rfl)
          · rintro e w' ⟨he, v', h1, h2, h3, h4⟩
            exact ⟨he, v', h1, h2, h3, h4⟩
        have hRn : R ∉ C :: bv'.ownBlock.toList := by
          intro hm'
          rcases List.mem_cons.1 hm' with h | h
          · have hb0 := HJ.out.1.blk
            simp only at hb0
            rw [← h, hD] at hb0
            unfold clO at hb0
            cases hb0
          · obtain ⟨cur, fz, hc⟩ := HJ.out.1.bld.blk (mem_own h)
            rw [hD] at hc
            cases hc
        have hqn : q ∉ C :: bv'.ownBlock.toList := by
          intro hm'
          rcases List.mem_cons.1 hm' with h | h
          · have hb0 := HJ.out.1.blk
            simp only at hb0
            rw [← h, hqb3] at hb0
            unfold clO at hb0
            cases hb0
          · obtain ⟨cur, fz, hc⟩ := HJ.out.1.bld.blk (mem_own h)
            rw [hqb3] at hc
            cases hc
        clear hdk htl h4 hqb hqb2 hqb3 hQ hcok hD hout hknn hk
        go_wp2_with fail
        go_at_call 127
        refine (HAd.out _ (Below.refl _ _)).mono ?_
        rintro e w1 ⟨rfl, hw1⟩
        subst hw1
        go_wp2_with fail
        go_region_held3 (fun W' => W'.cell? ⟨C, 0, none⟩ = some (.pointer (some ⟨R, 0, none⟩)) ∧ W'.cell? ⟨R, 0, none⟩ = some (.iface 160 (.agg #[])) ∧ W'.cell? ⟨q, 0, none⟩ = some (.int .i64 c.kind) ∧ W'.cell? ⟨q, 1, none⟩ = some (.slice ka kn kc) ∧ W'.cell? ⟨q, 2, none⟩ = some (.string c.val) ∧ W'.cell? ⟨q, 3, none⟩ = some (.string c.word) ∧ W'.cell? ⟨q, 4, none⟩ = some (.bool c.fatal) ∧ W'.cell? ⟨q, 5, none⟩ = some (.int .i64 c.id)) (go_keep) (first
          | (go_at_call 129; refine (HAn.out _ ?hx).mono ?_; (case hx => repeat (first | with_reducible exact Below.refl _ _ | with_reducible refine Below.drew ?_)); rintro e w3 ⟨rfl, hb3⟩; have HB3 := hide' (below_undrew hb3); have x0 := (HB3.out.cell (p := ⟨C, 0, none⟩) hltC).trans c0; have x1 := (HB3.out.cell (p := ⟨R, 0, none⟩) hRl).trans r0; have x2 := (HB3.out.cell (p := ⟨q, 0, none⟩) hqlt).trans q0; have x3 := (HB3.out.cell (p := ⟨q, 1, none⟩) hqlt).trans q1; have x4 := (HB3.out.cell (p := ⟨q, 2, none⟩) hqlt).trans q2; have x5 := (HB3.out.cell (p := ⟨q, 3, none⟩) hqlt).trans q3; have x6 := (HB3.out.cell (p := ⟨q, 4, none⟩) hqlt).trans q4; have x7 := (HB3.out.cell (p := ⟨q, 5, none⟩) hqlt).trans q5; have hltC3 : C < w3.heap.size := Nat.lt_of_lt_of_le hltC HB3.out.size; have hRl3 : R < w3.heap.size := Nat.lt_of_lt_of_le hRl HB3.out.size; have hqlt3 : q < w3.heap.size := Nat.lt_of_lt_of_le hqlt HB3.out.size; clear hb3 c0 r0 q0 q1 q2 q3 q4 q5)
          | (go_at_call 212; refine (HTt.out _).mono ?_; rintro e w4 ⟨rfl, hb4⟩; have HB4 := hide' hb4; have y0 := (HB4.out.cell (p := ⟨C, 0, none⟩) hltC3).trans x0; have y1 := (HB4.out.cell (p := ⟨R, 0, none⟩) hRl3).trans x1; have y2 := (HB4.out.cell (p := ⟨q, 0, none⟩) hqlt3).trans x2; have y3 := (HB4.out.cell (p := ⟨q, 1, none⟩) hqlt3).trans x3; have y4 := (HB4.out.cell (p := ⟨q, 2, none⟩) hqlt3).trans x4; have y5 := (HB4.out.cell (p := ⟨q, 3, none⟩) hqlt3).trans x5; have y6 := (HB4.out.cell (p := ⟨q, 4, none⟩) hqlt3).trans x6; have y7 := (HB4.out.cell (p := ⟨q, 5, none⟩) hqlt3).trans x7; clear hb4 x0 x1 x2 x3 x4 x5 x6 x7)
          | (go_at_call 128; refine (HBw.out _ ?hx).mono ?_; (case hx => exact HB3.out.trans (HB4.out.mono HB3.out.size)); rintro e w5 ⟨⟨ev, rfl⟩, v5, h1, h2, h3, h4⟩; have z0 := (clCells h1).1; have z1 := (World.cell?_of_block (a := ⟨R, 0, none⟩) (h3.block R (Nat.lt_of_lt_of_le hRl3 HB4.out.size) hRn)).trans y1; have z2 := (World.cell?_of_block (a := ⟨q, 0, none⟩) (h3.block q (Nat.lt_of_lt_of_le hqlt3 HB4.out.size) hqn)).trans y2; have z3 := (World.cell?_of_block (a := ⟨q, 1, none⟩) (h3.block q (Nat.lt_of_lt_of_le hqlt3 HB4.out.size) hqn)).trans y3; have z4 := (World.cell?_of_block (a := ⟨q, 2, none⟩) (h3.block q (Nat.lt_of_lt_of_le hqlt3 HB4.out.size) hqn)).trans y4; have z5 := (World.cell?_of_block (a := ⟨q, 3, none⟩) (h3.block q (Nat.lt_of_lt_of_le hqlt3 HB4.out.size) hqn)).trans y5; have z6 := (World.cell?_of_block (a := ⟨q, 4, none⟩) (h3.block q (Nat.lt_of_lt_of_le hqlt3 HB4.out.size) hqn)).trans y6; have z7 := (World.cell?_of_block (a := ⟨q, 5, none⟩) (h3.block q (Nat.lt_of_lt_of_le hqlt3 HB4.out.size) hqn)).trans y7; have H5 := hide' (And.intro h1 (And.intro h2 (And.intro h3 h4))); clear h1 h2 h3 h4 y0 y1 y2 y3 y4 y5 y6 y7)
          | fail)
        rename_i hHeld
        clear hHeld
        have hk4 := HJ.out.1.below (HB3.out.trans (HB4.out.mono HB3.out.size))
        have hk5 := hk4.wrote v5 (told' ++ out.data.toList) H5.out.1 H5.out.2.1 H5.out.2.2.1 H5.out.2.2.2
        have HK5 := hide' (And.intro hk5 (Chg.of_below (M := []) (HB3.out.trans (HB4.out.mono HB3.out.size))))
        have hrow5 := hk5.1.row
        simp only [List.length_cons] at hrow5
        rw [← hqs] at hrow5
        have HDl := hide' (delFirst g cap q qs2 w5 hrow5)
        rw [hqs] at HDl
        have f2 := (clCells H5.out.1).2.2.1
        have hlt5 := blkLt H5.out.1
        clear hrow5 hk4 hk5 z0 z1 z2 z3 z4 z5 z6 z7 c1 c2 c3 c4 cf hg0 hgl
        go_wp2_with fail
        go_at_call 130
        refine HDl.out.mono ?_
        rintro e w6 ⟨rfl, h6, k6⟩
        have hC6 := k6.keep H5.out.1 (by simp; intro e; exact HK5.out.1.1.nC.2.2.2.1 (by simp only [e]; rfl))
        have d2 := (clCells hC6).2.2.1
        have df := (clCells hC6).2.2.2.2.2 2
        have hlt6 := blkLt hC6
        have H6 := hide' (And.intro hC6 (And.intro h6 k6))
        clear hC6 h6 k6
        go_upto_region 4 with fail
        obtain ⟨buf, sa, ra, tm, hch5, hbs⟩ := HK5.out.1.1.chan
        simp only [List.length_cons] at hch5 hbs
        have hgch := (HK5.out.1.1.nW (g := g) rfl).1
        have hcC := HK5.out.1.1.nC.1
        simp only at hgch hcC
        have hch6 := H6.out.2.2.keep hch5 (by simp; exact fun e => hgch e.symm)
        have hch7 : (w6.setCell ⟨C, 2, none⟩ (.slice (some ⟨g, 0, none⟩) cs.length cap)).heap[ch]? = some (.chan win buf false sa ra tm) := (Below.heap_setCell w6 ⟨C, 2, none⟩ _ ch (fun e => hcC e.symm)).trans hch6
        have hC7 := blkSet (i := 2) H6.out.1 (.slice (some ⟨g, 0, none⟩) cs.length cap)
        have e1 := (clCells (R := R) (ch := ch) (wv := .slice (some ⟨g, 0, none⟩) cs.length cap) (bp := .pointer (some ⟨C, 3, none⟩)) (bv := v5) hC7).2.1
        have HC7 := hide' hch7
        clear hch7 hC7 hch5 hch6 hgch hcC
        generalize hw7 : w6.setCell ⟨C, 2, none⟩ (.slice (some ⟨g, 0, none⟩) cs.length cap) = w7 at *
        refine wp_of_reg ?_
        show RegWp _ _ [0, 1, 2, 3, 4] _ _ _
        refine reg_value (v := .pointer (some ⟨C, 0, none⟩)) (w' := w7) rfl rfl (by simp [go_sem, execOp, Act.eval]) ?_
        refine reg_value (v := .pointer (some ⟨C, 0, none⟩)) (w' := w7) rfl rfl (by simp [go_sem, execOp, Act.eval, Act.put]) ?_
        refine reg_value (v := .pointer (some ⟨C, 1, none⟩)) (w' := w7) rfl rfl (by simp [go_sem, execOp, Act.eval, Act.put]) ?_
        refine reg_value (v := .chan (some ch)) (w' := w7) rfl rfl (by simp [go_sem, execOp, Act.eval, Act.put, e1]) ?_
        refine reg_recv (c := ch) (z := .agg #[]) rfl rfl (by simp [go_sem, execOp, rcase, Act.eval, Act.put]) HC7.out (by omega) ?_
        refine reg_end ?_
        simp only [Act.put]
        have hpop := HK5.out.1.1.popped (c := c) (cs := cs) (q := q) (qs := qs2) (g := g) (cap := cap) rfl rfl (by simp only [hqs]) (by rw [hqs]; exact H6.out.2.1) H6.out.2.2 (buf.extract 1 buf.size) sa (ra + 1) tm (by simp; omega) rfl
        simp only [hqs, hw7] at hpop
        have hml := hpop.1.waitLen
        simp only at hml
        have hml0 := HJ.out.1.waitLen
        simp only [List.length_cons] at hml0
        have HP := hide' hpop
        clear hpop
        generalize w7.setChan ch win (buf.extract 1 buf.size) false sa (ra + 1) tm = w8 at *
        have HM := hide' (show waitLen w8 C < waitLen w1 C by omega)
        clear hml hml0
        have sz14 := HK5.out.2.size
        have hww1 : w.heap.size ≤ w1.heap.size := HJ.out.2.2.1.size
        have hl5 := HJ.out.2.2.2.trans HK5.out.1.2.2 (Nat.le_trans hww1 sz14)
        have hchg := ((HJ.out.2.2.1.trans HK5.out.2 (fun b hm => by cases hm)).trans HK5.out.1.2.1 HJ.out.2.2.2).trans HP.out.2.1 hl5
        have hl8 : Later w (CliI.foot ⟨C, R, ch, 160, hb, wv, bp, bv, qs⟩) (CliI.foot ⟨C, R, ch, 160, hb, .slice (some ⟨g, 0, none⟩) cs.length cap, .pointer (some ⟨C, 3, none⟩), v5, qs2⟩) := by rw [HP.out.2.2]; exact hl5
        have hbd : (told' ++ out.data.toList).length + 1000 * cs.length ≤ 100000000000 := by
          rw [List.length_append]
          have h9 : out.data.toList.length ≤ 1000 := by rw [Array.length_toList]; exact hszW
          have h10 : told'.length + 1000 * (cs.length + 1) ≤ 100000000000 := hl'
          clear hl' hwn' hbs hszW
          omega
        have hbd2 : cs.length ≤ 1000 := by simp only [List.length_cons] at hwn'; omega
        refine ⟨?_, HM.out⟩
        (repeat apply Exists.intro)
        refine ⟨?_, rfl⟩
        exact ⟨_, _, _, qs2, cs, told' ++ out.data.toList, hbd, hbd2, HP.out.1, HTL.out.1.symm.trans HJ.out.2.1, hchg, hl8⟩
      · have hkn : ¬ (c.keys.length : Int) = 0 := by
          have : 0 < c.keys.length := List.length_pos_iff.2 hk
          omega
        have hdk : decide ((c.keys.length : Int) = 0) = false := decide_eq_false hkn
        rw [hdk] at HAd
        have htl : tellL 1 (c :: cs) told' = (c :: cs, told') := by unfold tellL; rw [if_neg hk]
        have HTL := hide' htl
        clear hkn hdk hk htl hqb hQ hcok
        go_wp2_with fail
        go_at_call 127
        refine (HAd.out _ (Below.refl _ _)).mono ?_
        rintro e w1 ⟨rfl, hw1⟩
        subst hw1
        go_wp2
        go_end0
        exact ⟨rfl, hfin.out _ _ HTL.out HJ.out.2.2.1 HJ.out.1⟩
end Go.Proofs.YtlonjggfnleolaaGreatDoor
