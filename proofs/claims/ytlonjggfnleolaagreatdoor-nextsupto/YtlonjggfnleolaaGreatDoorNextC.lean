/-
  nexted: Next of one reader, the program's and the reference's.
-/
import Derived.Test.YtlonjggfnleolaaGreatDoorLawF
import Derived.Test.YtlonjggfnleolaaGreatDoorNextB
import Derived.Test.YtlonjggfnleolaaGreatDoorNextR
namespace Go.Proofs.YtlonjggfnleolaaGreatDoor
open Go.RowKit Go.Shelf
set_option linter.unusedVariables false
attribute [local go_sem] Oper.semAt_some
set_option maxRecDepth 20000 in
set_option maxHeartbeats 4000000 in
theorem nexted_some (B nx lo i n : Nat) (rv csv cmv ssv smv : Value) (M : List TxM) (N : List CmM) (rs : List RdI) (r : RdI) (at' ck : Int) (kv : Value) (val cw : ByteArray) (ft : Bool) (cid ak : Int) (fv vv : Value) (wd : ByteArray) (g0 g1 g2 : Int) (s : ByteArray) (x y : Int) (w : World)
    (hO : OwnW w lo B (fun g => g < w.heap.size) rv M N nx csv cmv ssv smv) (hR : RdsAt w lo rv rs) (hi : rs[i]? = some r) (hlo : lo ≤ w.heap.size) (hn : (drainF r.d x.toNat (takeS r.s s.data.toList)).1.length = n) (hsz : r.s.held.length + s.size ≤ 2000000) (hM : M.length ≤ 4900000000000) (hN : N.length ≤ 1000000000000) (hnx : nx ≤ 900000000000000) (hx : 0 < x) :
    Calls Tryz.prog 107 #[.pointer (some ⟨B, 0, none⟩), .pointer (some ⟨r.P, 0, none⟩), Value.agg #[.int .i64 7, .int .i64 at', .int .i64 ck, kv, .string val, .string cw, .bool ft, .int .i64 cid, .int .i64 ak, fv, vv, .string wd, .int .i64 g0, .int .i64 g1, .int .i64 g2, .string s, .int .i64 x, .int .i64 y]] w fun e w' => e = .returned (.bool true) ∧ FedTo w w' lo B i n M.length N.length nx rv rs r (drainF r.d x.toNat (takeS r.s s.data.toList)).2 := by
  obtain ⟨OB, hOB⟩ : ∃ OB, OB = Obj.cells #[.int .i64 7, .int .i64 at', .int .i64 ck, kv, .string val, .string cw, .bool ft, .int .i64 cid, .int .i64 ak, fv, vv, .string wd, .int .i64 g0, .int .i64 g1, .int .i64 g2, .string s, .int .i64 x, .int .i64 y] 95 := ⟨_, rfl⟩
  have hb0 : Below w.heap.size w (w.alloc OB) := (Below.refl _ _).alloc (Nat.le_refl _) _
  have hx15 : (w.alloc OB).cell? ⟨w.heap.size, 15, none⟩ = some (.string s) := by rw [hOB]; exact blkCell (blkNew w _) 15
  have hx16 : (w.alloc OB).cell? ⟨w.heap.size, 16, none⟩ = some (.int .i64 x) := by rw [hOB]; exact blkCell (blkNew w _) 16
  have hbx : (w.alloc OB).heap[w.heap.size]? = some OB := blkNew w _
  have hsz0 : (w.alloc OB).heap.size = w.heap.size + 1 := World.size_alloc _ _
  have hcnt := drainF_count r.d x.toNat (takeS r.s s.data.toList)
  have htl := takeS_len r.s s.data.toList
  rw [len_size] at htl
  have hn2 : n ≤ 2000000 := by omega
  have hO0 : OwnW (w.alloc OB) lo B (fun g => g < (w.alloc OB).heap.size) rv M N nx csv cmv ssv smv := (hO.below hb0).more (fun g hg => by rw [hsz0]; omega)
  have hR0 := hR.below hb0
  have hr := hR.all r (List.mem_of_getElem? hi)
  have hr0 := hR0.all r (List.mem_of_getElem? hi)
  have hlo0 : lo ≤ (w.alloc OB).heap.size := by omega
  have hkeys : ∀ c ∈ (drainF r.d x.toNat (takeS r.s s.data.toList)).1, c.keys.length ≤ 4 ∧ ∀ k ∈ c.keys, k.size ≤ 8 := fun c hc => feed_keys r.d r.s s.data.toList c (drainF_sub r.d x.toNat _ c hc)
  have hat := drainF_at r.d x.toNat (takeS r.s s.data.toList)
  have hstop := drainF_stop r.d x.toNat (takeS r.s s.data.toList)
  have HRP := hide' (fun (W : World) (hW : RefAt W r.Y r.d r.s) => refpush_any r.Y r.d r.s s W hW (by omega))
  have HRN := hide' (fun (W : World) (j : Nat) (hW : RefAt W r.Y r.d (drainF r.d j (takeS r.s s.data.toList)).2) => refnext_any r.Y r.d _ W hr.di hW (by have := (drainF_count r.d j (takeS r.s s.data.toList)).2.1; omega))
  have HTwo := hide' (fun (w1 w2 : World) (v : Value) (hb' : Option Nat) A1 R1 F1 T1 Y2 T2 => fed_two (w1 := w1) (w2 := w2) (v := v) (hb' := hb') (s' := (drainF r.d x.toNat (takeS r.s s.data.toList)).2) (cs := (drainF r.d x.toNat (takeS r.s s.data.toList)).1) hO0 hR0 hi hlo0 A1 R1 F1 T1 Y2 T2)
  have HB0 := hide' (hb0.mono hlo)
  have HK0 := hide' (Kept95.of_below hb0)
  have HOB : Hid (∃ Z, OB = .cells Z 95 (0, 0)) := ⟨_, hOB⟩
  have HBX := hide' hbx
  have HR0 := hide' hr0
  have hPl := blkLt hr0.pair
  have hxl := blkLt hbx
  clear hb0 hO hR hO0 hR0 hr hi hbx
  -- behind the box of the list
  obtain ⟨LB, hLB⟩ : ∃ LB, LB = Obj.cells #[.slice none 0 0] 28 := ⟨_, rfl⟩
  have hb1 : Below (w.alloc OB).heap.size (w.alloc OB) ((w.alloc OB).alloc LB) := (Below.refl _ _).alloc (Nat.le_refl _) _
  have HB1 := hide' hb1
  have hP' := (hb1.block r.P hPl).trans hr0.pair
  have cP0 := blkCell hP' 0
  have cP1 := blkCell hP' 1
  simp at cP0 cP1
  have hx15' : ((w.alloc OB).alloc LB).cell? ⟨w.heap.size, 15, none⟩ = some (.string s) := (hb1.cell (p := ⟨w.heap.size, 15, none⟩) hxl).trans hx15
  have hx16' : ((w.alloc OB).alloc LB).cell? ⟨w.heap.size, 16, none⟩ = some (.int .i64 x) := (hb1.cell (p := ⟨w.heap.size, 16, none⟩) hxl).trans hx16
  have HLB : Hid (((w.alloc OB).alloc LB).heap[w.heap.size + 1]? = some (.cells #[.slice none 0 0] 28 (0, 0))) := by
    have h := blkNew (w.alloc OB) LB
    rw [hsz0, hLB] at h
    rw [hLB]
    exact h
  have HF := hide' (next_any r.D (tyOf r.d) r.hb r.s s ((w.alloc OB).alloc LB).drew ((hr0.rd.below hb1).other rfl (fun b hb => rfl)) (by omega))
  have HXX := hide' (And.intro hx15 hx16)
  clear hb1 hP' hr0 hx15 hx16
  unfold FedTo
  refine (callsIn_wide (n := 9)).1 ?_
  refine callsIn_of_wp_marks Tryz.func107 rfl trivial ?_ rfl
  simp only [Tryz.ntmps107, List.size_toArray, List.length_cons, List.length_nil, Nat.reduceAdd, Nat.reduceSub, Array.replicate_succ, Array.replicate_zero, List.push_toArray, List.append_toArray, List.nil_append, List.cons_append]
  refine wpIn_wide.2 ?_
  go_wp2_with fail
  rw [← hOB, ← hLB]
  generalize hW0 : (w.alloc OB).alloc LB = W0 at *
  go_region_held3 (fun W' => W'.cell? ⟨r.P, 0, none⟩ = some (.pointer (some ⟨r.D, 0, none⟩)) ∧ W'.cell? ⟨w.heap.size, 15, none⟩ = some (.string s)) (go_keep) (first
    | (go_at_call 73; refine HF.out.mono ?_; rintro e W7 ⟨rfl, hX1, hb7, R1, F1, T1⟩; have hN7 := nx_begin HR0.out HB1.out HBX.out HOB.out HLB.out R1 F1 T1; have HX1 := hide' hX1; have c7P0 := blkCell hN7.pr 0; have c7x15 : W7.cell? ⟨w.heap.size, 15, none⟩ = some (.string s) := (World.cell?_of_block (a := ⟨w.heap.size, 15, none⟩) (hN7.ob.trans HBX.out.symm)).trans HXX.out.1; have c7x16 : W7.cell? ⟨w.heap.size, 16, none⟩ = some (.int .i64 x) := (World.cell?_of_block (a := ⟨w.heap.size, 16, none⟩) (hN7.ob.trans HBX.out.symm)).trans HXX.out.2; simp at c7P0; have hP7 := blkLt hN7.pr; have hA7 := blkLt hN7.ob; have HN0 := hide' hN7; clear cP0 cP1 hx15' hx16' hX1 R1 F1 T1 hN7)
    | fail)
  clear HF HB1 HLB
  go_wp2_with fail
  rw [eqNil]
  go_wp2_with fail
  have hN0 := HN0.out
  have hX1 := HX1.out
  clear HN0 HX1 c7P0 c7x15 c7x16 hP7 hA7
  generalize hb0e : w.alloc OB = b0 at *
  rw [← hsz0]
  have hRd := readRd_any r.D (tyOf r.d) r.d (dT_ty HR0.out.di)
  refine wp_range120 W0.heap.size rfl ?_
  intro fn rec hrec
  generalize hW1 : (W7.alloc (.deferred (some []))).alloc (.loop (rec .ready none)) = W1
  have hsW : W1.heap.size = W7.heap.size + 2 := by rw [← hW1]; simp
  have hL1 : W1.heap[W7.heap.size + 1]? = some (.loop (rec .ready none)) := by
    rw [← hW1]; have := blkNew (W7.alloc (.deferred (some []))) (.loop (rec .ready none)); rwa [World.size_alloc] at this
  have hK1 : W1.heap[W7.heap.size]? = some (.deferred (some [])) := by
    rw [← hW1]; exact (Below.heap_alloc _ _ _ (by simp)).trans (blkNew W7 _)
  have hBW : Below W7.heap.size W7 W1 := by
    rw [← hW1]; exact (((Below.refl _ W7).alloc (Nat.le_refl _) _).alloc (by simp) _)
  have hX1' := (hBW.block _ (blkLt hX1)).trans hX1
  have hR1 := hN0.rd.below hBW
  have hSB : W1.heap[b0.heap.size]? = some (.cells #[.slice none 0 0] 28 (0, 0)) := by rw [hsz0]; exact (hBW.block _ (blkLt hN0.lb)).trans hN0.lb
  have hT1 : Turn2 r.D r.hb b0 W1 := hN0.tn.trans (.of_below (hb := none) hBW) (.inr (.inl rfl))
  have hs1 : b0.heap.size < W7.heap.size := by rw [hsz0]; exact blkLt hN0.lb
  have HS0 := hide' hsz0
  clear hW1 hsz0
  refine (next1_cut (W7.heap.size + 1) W0.heap.size r.D (tyOf r.d) x.toNat r.d W1
    (fun hb done W => Coll b0 W r.D (tyOf r.d) 1000000000000 r.hb hb (W7.heap.size + 1) W7.heap.size (.loop (rec .ready none)) done)
    (fun hb done W => Coll b0 W r.D (tyOf r.d) 1000000000000 r.hb hb (W7.heap.size + 1) W7.heap.size (.loop (rec .done (some (.exit 0)))) done)
    (by omega) hRd ?hB ?hY (takeS r.s s.data.toList) hb7 hR1 hX1' ⟨hL1, hK1, ⟨_, hSB, CmdsAp.nil _ _ _⟩, hT1, hN0.fr, _, hR1, by simp; omega⟩ (by omega)).mono ?hdone
  case hB =>
    rintro hb done A B ⟨h1, h2, ⟨v, h3, h4⟩, h5, h6, s, h7, h8⟩ hAB
    exact ⟨(hAB.block _ (blkLt h1)).trans h1, (hAB.block _ (blkLt h2)).trans h2, ⟨v, (hAB.block _ (blkLt h3)).trans h3, (h4.below hAB).top⟩, h5.trans (.of_below (hb := none) hAB) (.inr (.inl rfl)), h6, s, h7.below hAB, h8⟩
  case hY =>
    rintro hb done W st xx Wr ka kn kc ⟨h1, h2, ⟨v, h3, h4⟩, h5, h6, s', h7, h8⟩ hdN hR hxx hk T1 hXr
    have hlen : s'.held.length = st.held.length := by rw [← h7.len, hR.len]
    have hdrop := afterS_len hxx
    -- behind the read
    have r1 := T1.keep hR h1 (fun Z f e => by cases e) (fun Z f e => by cases e)
    have r2 := T1.keep hR h2 (fun Z f e => by cases e) (fun Z f e => by cases e)
    have r3 := T1.keep hR h3 (fun Z f e => by cases e) (fun Z f e => by cases e)
    have r4 := h4.rdr T1 hR
    have szW := T1.turn.size
    obtain ⟨⟨hb2, RR, FF⟩, TT⟩ := T1
    have T5 := h5.trans TT h6
    have F5 : Fresh b0 r.hb hb2 := h6.trans FF h5.size
    have hkb : ∀ b, (Value.slice ka kn kc).ownBlock = some b → W.heap.size ≤ b := fun b hb => (keys_lt hk hb).1
    have hkk : KeysIn Wr b0.heap.size (.slice ka kn kc) xx.c.keys := hk.other (by have := h5.size; omega) (fun _ _ _ _ _ _ => rfl)
    have hwW := h5.size
    have hL2 := blkLt r1
    have hK2 := blkLt r2
    have hS2 := blkLt r3
    clear hL1 hK1 hSB hX1' hR1 hBW hT1 h1 h2 h3 h4 h7 hR TT FF hk h5 h6
    -- the box of the iterator
    have B2 : Below Wr.heap.size Wr (Wr.alloc (.cells #[.int .i64 xx.c.kind, .slice ka kn kc, .string xx.c.val, .string xx.c.word, .bool xx.c.fatal, .int .i64 xx.c.id] 36)) := (Below.refl _ _).alloc (Nat.le_refl _) _
    generalize hW2 : Wr.alloc (.cells #[.int .i64 xx.c.kind, .slice ka kn kc, .string xx.c.val, .string xx.c.word, .bool xx.c.fatal, .int .i64 xx.c.id] 36) = W2 at *
    have l2 := (B2.block _ hL2).trans r1
    have k2 := (B2.block _ hK2).trans r2
    have s2 := (B2.block _ hS2).trans r3
    have c2 := r4.below B2
    have R2 := RR.below B2
    have X2 := (B2.block _ (blkLt hXr)).trans hXr
    have T2 := T5.trans (.of_below (hb := none) B2) (.inr (.inl rfl))
    have kk2 : KeysIn W2 b0.heap.size (.slice ka kn kc) xx.c.keys := hkk.other (Nat.le_refl _) (fun b c Z hZ _ _ => B2.block b (blkLt hZ))
    clear hW2 B2 r1 r2 r3 r4 RR hXr T5 hkk hL2 hK2 hS2 szW
    have hyr := run_yield (P := Tryz.prog) (args := #[.agg #[.int .i64 xx.c.kind, .slice ka kn kc, .string xx.c.val, .string xx.c.word, .bool xx.c.fatal, .int .i64 xx.c.id]]) l2 (by rw [hrec]; rfl)
    rw [hrec] at hyr
    refine ⟨fn, _, _, _, hyr, roundIn_of_wpIn trivial ?_⟩
    have H2 := hide' (And.intro l2 (And.intro k2 (And.intro s2 (And.intro c2 (And.intro R2 (And.intro X2 (And.intro T2 kk2)))))))
    clear hyr l2 k2 s2 c2 R2 X2 T2 kk2
    dsimp only
    gi_wp2
    obtain ⟨l2, k2, s2, c2, R2, X2, T2, kk2⟩ := H2.out
    clear H2
    have B3 : Below W2.heap.size W2 (W2.alloc (.cells #[.int .i64 xx.c.kind, .slice ka kn kc, .string xx.c.val, .string xx.c.word, .bool xx.c.fatal, .int .i64 xx.c.id] 36)) := (Below.refl _ _).alloc (Nat.le_refl _) _
    have hV3 := blkNew W2 (.cells #[.int .i64 xx.c.kind, .slice ka kn kc, .string xx.c.val, .string xx.c.word, .bool xx.c.fatal, .int .i64 xx.c.id] 36)
    generalize hW3 : W2.alloc (.cells #[.int .i64 xx.c.kind, .slice ka kn kc, .string xx.c.val, .string xx.c.word, .bool xx.c.fatal, .int .i64 xx.c.id] 36) = W3 at *
    have l3 := (B3.block _ (blkLt l2)).trans l2
    have k3 := (B3.block _ (blkLt k2)).trans k2
    have s3 := (B3.block _ (blkLt s2)).trans s2
    have c3 := c2.below B3
    have R3 := R2.below B3
    have X3 := (B3.block _ (blkLt X2)).trans X2
    have T3 := T2.trans (.of_below (hb := none) B3) (.inr (.inl rfl))
    have kk3 : KeysIn W3 b0.heap.size (.slice ka kn kc) xx.c.keys := kk2.other (Nat.le_refl _) (fun b c Z hZ _ _ => B3.block b (blkLt hZ))
    have sz3 : W2.heap.size < W3.heap.size := blkLt hV3
    have lW2 : W7.heap.size + 1 < W2.heap.size := blkLt l2
    clear hW3 B3 l2 k2 s2 c2 R2 X2 T2 kk2
    refine ⟨_, run_beginRound l3 (by rw [hrec]), ?_⟩
    have hlt3 := blkLt l3
    generalize hW4 : W3.putObj (W7.heap.size + 1) (.loop { rec .ready none with state := .busy }) = W4
    have oth : ∀ k, k ≠ W7.heap.size + 1 → W4.heap[k]? = W3.heap[k]? := fun k hk => by rw [← hW4]; exact World.putObj_heap_other hk
    have othc : ∀ k (Z : Array Value) (T : Nat) f, W3.heap[k]? = some (.cells Z T f) → k ≠ W7.heap.size + 1 := fun k Z T f hZ e => by rw [e, l3] at hZ; cases hZ
    have l4 : W4.heap[W7.heap.size + 1]? = some (.loop { rec .ready none with state := .busy }) := by rw [← hW4]; exact World.putObj_heap_same hlt3
    have sz4 : W4.heap.size = W3.heap.size := by rw [← hW4]; simp [World.putObj]
    have T4 : Turn2 r.D r.hb b0 W4 := by rw [← hW4]; exact putObj_below _ _ _ _ _ _ T3 (by omega)
    have s4 := (oth _ (show b0.heap.size ≠ W7.heap.size + 1 by omega)).trans s3
    have k4 := (oth _ (show W7.heap.size ≠ W7.heap.size + 1 by omega)).trans k3
    have c4 : CmdsAp W4 b0.heap.size W.heap.size v done := c3.keep (fun b Z T hZ _ _ => oth b (othc b Z T _ hZ))
    have hap := R3.apartO l3 (fun Z f e => by cases e) (fun Z f e => by cases e)
    have R4 : RdrAt W4 r.D hb2 (tyOf r.d) (afterS st xx) := R3.other (oth r.D (fun e => hap.1 e.symm)) (fun b hb' => oth b (fun e => hap.2 (by rw [hb', e])))
    have X4 := (oth W0.heap.size (othc W0.heap.size _ _ _ X3)).trans X3
    have V4 := (oth W2.heap.size (by omega)).trans hV3
    have kk4 : KeysIn W4 b0.heap.size (.slice ka kn kc) xx.c.keys := kk3.other (Nat.le_refl _) (fun b c Z hZ _ _ => oth b (othc b Z 9 _ hZ))
    clear oth othc l3 k3 s3 c3 R3 X3 T3 kk3 hV3 hW4 hlt3 hap
    have q0 := blkCell s4 0
    have qf := blkFree s4
    have v0 := blkCell V4 0
    have v1 := blkCell V4 1
    have v2 := blkCell V4 2
    have v3 := blkCell V4 3
    have v4 := blkCell V4 4
    have v5 := blkCell V4 5
    simp at q0 v0 v1 v2 v3 v4 v5
    have hob4 : W4.heap[w.heap.size]? = some OB := (HOB.out.elim (fun Z hZ => T4.block w.heap.size hxl (HR0.out.rd.apart (HBX.out.trans (congrArg some hZ)) (by decide) (by decide)).1 (HR0.out.rd.apart (HBX.out.trans (congrArg some hZ)) (by decide) (by decide)).2)).trans HBX.out
    have hA4 : w.heap.size < W4.heap.size := blkLt hob4
    have lt4 : b0.heap.size < W4.heap.size := blkLt s4
    have ltV : W2.heap.size < W4.heap.size := blkLt V4
    have HW := hide' (And.intro l4 (And.intro k4 (And.intro s4 (And.intro c4 (And.intro R4 (And.intro X4 (And.intro T4 kk4)))))))
    obtain ⟨kvs, hc1, hc2, hcf, hc4, hc5, hc6⟩ := c4
    obtain ⟨va, vn, vc, hvf⟩ := own_form hc2
    subst hvf
    obtain ⟨i36, z36, hi, hz0, hz1, hz2, hz3⟩ := info36
    have HI := hide' (And.intro hi (And.intro hz0 (And.intro hz1 (And.intro hz2 hz3))))
    have HC := hide' (And.intro hc1 (And.intro hc2 (And.intro hcf (And.intro hc4 (And.intro hc5 (And.intro hc6 hkb))))))
    have HNw := hide' (show ∀ (j : Nat) (u : Value), [Value.int IntKind.i64 xx.c.kind, .slice ka kn kc, .string xx.c.val, .string xx.c.word, .bool xx.c.fatal, .int .i64 xx.c.id][j]? = some u → (W4.alloc (.cells #[.int .i64 xx.c.kind, .slice ka kn kc, .string xx.c.val, .string xx.c.word, .bool xx.c.fatal, .int .i64 xx.c.id] 36)).cell? ((⟨W4.heap.size, 0, none⟩ : Addr).add j) = some u from World.news_of_block (cs := #[.int .i64 xx.c.kind, .slice ka kn kc, .string xx.c.val, .string xx.c.word, .bool xx.c.fatal, .int .i64 xx.c.id]) (blkNew W4 _))
    have HN : Hid (done.length + st.held.length ≤ 1000000000000) := by show _ ≤ _; omega
    have hd12 : done.length + 1 ≤ 1000000000000 := by omega
    have HZ1 := hide' (And.intro hs1 (And.intro hsW (And.intro hwW (And.intro lW2 (And.intro sz3 sz4)))))
    clear l4 k4 s4 R4 X4 T4 kk4 V4 hc1 hc2 hcf hc4 hc5 hc6 hkb hi hz0 hz1 hz2 hz3 hs1 hsW hwW lW2 sz3 sz4
    have hrow : ∀ g, (Value.slice va vn vc).ownBlock = some g → ∃ cur, W4.heap[g]? = some (.cells cur 36 (0, 0)) := fun g hg => by
      rcases HC.out.2.1.2 with ⟨e, _⟩ | ⟨g', cap, cur, e, _, h6, _⟩
      · rw [e] at hg; cases hg
      · rw [e] at hg; cases hg; exact ⟨cur, h6⟩
    have hneS : some b0.heap.size ≠ (Value.slice va vn vc).ownBlock := fun e => by
      obtain ⟨cur, hc⟩ := hrow _ e.symm
      rw [HW.out.2.2.1] at hc
      cases hc
    have HRow := hide' (And.intro hrow hneS)
    clear hrow hneS
    have HDL : Hid (done.length = done.length) := (show _ = _ from rfl)
    have HDN := hide' hdN
    clear hdN
    by_cases hge : x ≤ (done.length : Int) + 1
    · have hge2 : x ≤ ((done.length + 1 : Nat) : Int) := by omega
      gi_wp2_with (first
        | (gi_at_builtin; refine wpListIn_append_own_at _ rfl _ _ _ rfl b0.heap.size 36 i36 z36 6 80 Tryz.underlying28 HI.out.1 HI.out.2.1 HI.out.2.2.1 HI.out.2.2.2.1 HI.out.2.2.2.2 (by omega) (.slice va vn vc) done.length (cmdCells done kvs) rfl (World.ownsRow.alloc HC.out.2.1 _) ⟨W4.heap.size, 0, none⟩ 1 1 [Value.int IntKind.i64 xx.c.kind, .slice ka kn kc, .string xx.c.val, .string xx.c.word, .bool xx.c.fatal, .int .i64 xx.c.id] rfl rfl HNw.out (by simp [Value.oneCell']) (by unfold maxLen; omega) (by omega) (by simp; omega) ?_; intro v' w5 hown hgrow hnil hat; obtain ⟨ug, uc, huf⟩ := ownsRow_succ hown; subst huf; have es := (hgrow.block b0.heap.size (by simp; omega) HRow.out.2).trans ((Below.heap_alloc _ _ _ lt4).trans HW.out.2.2.1); have eob : (w5.setCell ⟨b0.heap.size, 0, none⟩ (.slice (some ⟨ug, 0, none⟩) (done.length + 1) uc)).heap[w.heap.size]? = some OB := (Below.heap_setCell w5 ⟨b0.heap.size, 0, none⟩ _ w.heap.size (by show w.heap.size ≠ b0.heap.size; have := HS0.out; omega)).trans ((hgrow.block w.heap.size (by simp; omega) (fun e => HOB.out.elim (fun Z hZ => by obtain ⟨cur, hc⟩ := HRow.out.1 w.heap.size e.symm; rw [hob4, hZ] at hc; cases hc))).trans ((Below.heap_alloc _ _ _ hA4).trans hob4)); have e16 : (w5.setCell ⟨b0.heap.size, 0, none⟩ (.slice (some ⟨ug, 0, none⟩) (done.length + 1) uc)).cell? ⟨w.heap.size, 16, none⟩ = some (.int .i64 x) := (World.cell?_of_block (a := ⟨w.heap.size, 16, none⟩) (eob.trans HBX.out.symm)).trans HXX.out.2; have e0 := blkCell es 0; have ef := blkFree es; simp at e0; have HG := hide' (And.intro hown (And.intro hgrow (And.intro hat es))); clear hown hgrow hnil hat es eob)
        | fail)
      obtain ⟨l4, k4, s4, c4, R4, X4, T4, kk4⟩ := HW.out
      obtain ⟨hown, hgrow, hat, es⟩ := HG.out
      obtain ⟨hrow, hneS⟩ := HRow.out
      obtain ⟨z1, z2, z3, z4, z5, z6⟩ := HZ1.out
      obtain ⟨hc1, hc2, hcf, hc4, hc5, hc6, hkb⟩ := HC.out
      clear HW HG HRow HZ1 HC HI HNw
      have hrg : ∀ g, (Value.slice va vn vc).ownBlock = some g → b0.heap.size ≤ g := fun g hg => by
        rcases hc2.2 with ⟨e, _⟩ | ⟨g', cap, cur, e, h5, h6, _⟩
        · rw [e] at hg; cases hg
        · rw [e] at hg; cases hg; exact h5
      have Ba : Below W4.heap.size W4 (W4.alloc (.cells #[.int .i64 xx.c.kind, .slice ka kn kc, .string xx.c.val, .string xx.c.word, .bool xx.c.fatal, .int .i64 xx.c.id] 36)) := (Below.refl _ _).alloc (Nat.le_refl _) _
      have keep5 : ∀ b o, W4.heap[b]? = some o → b ≠ b0.heap.size → (∀ Z f, o ≠ .cells Z 36 f) → (w5.setCell ⟨b0.heap.size, 0, none⟩ (.slice (some ⟨ug, 0, none⟩) (done.length + 1) uc)).heap[b]? = some o := fun b o h hb' hne =>
        (Below.heap_setCell w5 ⟨b0.heap.size, 0, none⟩ _ b hb').trans ((hgrow.block b (by have := blkLt h; have := Ba.size; omega) (fun e => by
          obtain ⟨cur, hc⟩ := hrow b e.symm
          rw [h] at hc
          exact hne _ _ (Option.some.inj hc))).trans ((Ba.block b (blkLt h)).trans h))
      have l5 := keep5 _ _ l4 (by omega) (fun Z f e => by cases e)
      have k5 := keep5 _ _ k4 (by omega) (fun Z f e => by cases e)
      have X5 := keep5 W0.heap.size _ X4 (fun e => by rw [e, s4] at X4; cases X4) (fun Z f e => by cases e)
      have c5 : CmdsAp w5 b0.heap.size w5.heap.size (.slice (some ⟨ug, 0, none⟩) (done.length + 1) uc) (done ++ [xx.c]) :=
        CmdsAp.snoc (W := W4.alloc (.cells #[.int .i64 xx.c.kind, .slice ka kn kc, .string xx.c.val, .string xx.c.word, .bool xx.c.fatal, .int .i64 xx.c.id] 36)) hc1 hcf (fun i c kv hci hkv => (hc4 i c kv hci hkv).other (Nat.le_refl _) (fun b c Z hZ _ _ => Ba.block b (blkLt hZ))) hc5 hc6
          (fun g hg Z f hZ => by
            obtain ⟨cur, hc⟩ := hrow g hg
            rw [(Ba.block g (blkLt hc)), hc] at hZ
            cases hZ) (kk4.other (Nat.le_refl _) (fun b c Z hZ _ _ => Ba.block b (blkLt hZ))) hkb hgrow hown
      have c6 : CmdsAp (w5.setCell ⟨b0.heap.size, 0, none⟩ (.slice (some ⟨ug, 0, none⟩) (done.length + 1) uc)) b0.heap.size w5.heap.size (.slice (some ⟨ug, 0, none⟩) (done.length + 1) uc) (done ++ [xx.c]) := c5.keep (fun b Z T hZ hT _ => Below.heap_setCell w5 ⟨b0.heap.size, 0, none⟩ _ b (fun e => by
        rw [show b = b0.heap.size from e, es] at hZ
        cases hZ
        rcases hT with h | h <;> cases h))
      have s6 := blkSet (i := 0) es (.slice (some ⟨ug, 0, none⟩) (done.length + 1) uc)
      have R5 : RdrAt (w5.setCell ⟨b0.heap.size, 0, none⟩ (.slice (some ⟨ug, 0, none⟩) (done.length + 1) uc)) r.D hb2 (tyOf r.d) (afterS st xx) := by
        obtain ⟨⟨rv, ru, hD, H, hiv⟩, hne⟩ := R4
        have hD5 := keep5 r.D _ hD (fun e => by rw [e, s4] at hD; cases hD) (fun Z f e => by cases e)
        refine ⟨⟨rv, ru, hD5, H.other (fun b hb' => ?_), hiv⟩, hne⟩
        obtain ⟨⟨all, ⟨e1, e2⟩, e3⟩, hbk⟩ := H
        rcases e2 with ⟨rfl, _⟩ | ⟨g, cap, cur, rfl, _, hg, _⟩
        · rw [hb'] at hbk; cases hbk
        · rw [hb'] at hbk
          cases hbk
          exact (keep5 g _ hg (fun e => by rw [e, s4] at hg; cases hg) (fun Z f e => by cases e)).trans hg.symm
      have T6 : Turn2 r.D r.hb b0 (w5.setCell ⟨b0.heap.size, 0, none⟩ (.slice (some ⟨ug, 0, none⟩) (done.length + 1) uc)) := by
        have sb : Below 0 w5 (w5.setCell ⟨b0.heap.size, 0, none⟩ (.slice (some ⟨ug, 0, none⟩) (done.length + 1) uc)) := (Below.refl 0 w5).setCell (p := ⟨b0.heap.size, 0, none⟩) (Nat.zero_le _) _
        refine ⟨by rw [sb.os, hgrow.os, Ba.os, T4.os], by rw [sb.tape, hgrow.tape, Ba.tape, T4.tape], by rw [sb.output, hgrow.output, Ba.output, T4.output], Nat.le_trans T4.size (Nat.le_trans Ba.size (Nat.le_trans hgrow.size sb.size)), fun k hk hn hh => ?_⟩
        have h4s := T4.size
        rw [Below.heap_setCell w5 ⟨b0.heap.size, 0, none⟩ _ k (by show k ≠ b0.heap.size; omega), hgrow.block k (by have := Ba.size; omega) (fun e => by have := hrg k e.symm; omega), Ba.block k (by omega), T4.block k hk hn hh]
      have sz6 : (w5.setCell ⟨b0.heap.size, 0, none⟩ (.slice (some ⟨ug, 0, none⟩) (done.length + 1) uc)).heap.size = w5.heap.size := by simp
      clear keep5 c5 hown hgrow es
      generalize w5.setCell ⟨b0.heap.size, 0, none⟩ (.slice (some ⟨ug, 0, none⟩) (done.length + 1) uc) = S6 at *
      have lk6 := blkLt l5
      refine ⟨_, _, run_endRound (P := Tryz.prog) (some (.exit 0)) l5, hb2, ?_, ?_, .inr ⟨rfl, by have := HDN.out; omega, ?_⟩⟩
      · have hap := R5.apartO l5 (fun Z f e => by cases e) (fun Z f e => by cases e)
        exact R5.other (World.putObj_heap_other (fun e => hap.1 e.symm)) (fun b hb' => World.putObj_heap_other (fun e => hap.2 (by rw [hb', e])))
      · exact (World.putObj_heap_other (fun e => by rw [e, l5] at X5; cases X5)).trans X5
      · refine ⟨?_, (World.putObj_heap_other (by omega)).trans k5, ⟨_, (World.putObj_heap_other (by omega)).trans (s6.trans rfl), (c6.keep (fun b Z T hZ _ _ => World.putObj_heap_other (fun e => by rw [e, l5] at hZ; cases hZ))).top⟩, putObj_below _ _ _ _ _ _ T6 (by omega), F5, afterS st xx, ?_, ?_⟩
        · rw [World.putObj_heap_same lk6]; simp [hrec]
        · have hap := R5.apartO l5 (fun Z f e => by cases e) (fun Z f e => by cases e)
          exact R5.other (World.putObj_heap_other (fun e => hap.1 e.symm)) (fun b hb' => World.putObj_heap_other (fun e => hap.2 (by rw [hb', e])))
        · have := HN.out
          rw [List.length_append]
          show done.length + 1 + _ ≤ _
          omega
    · have hge2 : ¬ x ≤ ((done.length + 1 : Nat) : Int) := by omega
      gi_wp2_with (first
        | (gi_at_builtin; refine wpListIn_append_own_at _ rfl _ _ _ rfl b0.heap.size 36 i36 z36 6 80 Tryz.underlying28 HI.out.1 HI.out.2.1 HI.out.2.2.1 HI.out.2.2.2.1 HI.out.2.2.2.2 (by omega) (.slice va vn vc) done.length (cmdCells done kvs) rfl (World.ownsRow.alloc HC.out.2.1 _) ⟨W4.heap.size, 0, none⟩ 1 1 [Value.int IntKind.i64 xx.c.kind, .slice ka kn kc, .string xx.c.val, .string xx.c.word, .bool xx.c.fatal, .int .i64 xx.c.id] rfl rfl HNw.out (by simp [Value.oneCell']) (by unfold maxLen; omega) (by omega) (by simp; omega) ?_; intro v' w5 hown hgrow hnil hat; obtain ⟨ug, uc, huf⟩ := ownsRow_succ hown; subst huf; have es := (hgrow.block b0.heap.size (by simp; omega) HRow.out.2).trans ((Below.heap_alloc _ _ _ lt4).trans HW.out.2.2.1); have eob : (w5.setCell ⟨b0.heap.size, 0, none⟩ (.slice (some ⟨ug, 0, none⟩) (done.length + 1) uc)).heap[w.heap.size]? = some OB := (Below.heap_setCell w5 ⟨b0.heap.size, 0, none⟩ _ w.heap.size (by show w.heap.size ≠ b0.heap.size; have := HS0.out; omega)).trans ((hgrow.block w.heap.size (by simp; omega) (fun e => HOB.out.elim (fun Z hZ => by obtain ⟨cur, hc⟩ := HRow.out.1 w.heap.size e.symm; rw [hob4, hZ] at hc; cases hc))).trans ((Below.heap_alloc _ _ _ hA4).trans hob4)); have e16 : (w5.setCell ⟨b0.heap.size, 0, none⟩ (.slice (some ⟨ug, 0, none⟩) (done.length + 1) uc)).cell? ⟨w.heap.size, 16, none⟩ = some (.int .i64 x) := (World.cell?_of_block (a := ⟨w.heap.size, 16, none⟩) (eob.trans HBX.out.symm)).trans HXX.out.2; have e0 := blkCell es 0; have ef := blkFree es; simp at e0; have HG := hide' (And.intro hown (And.intro hgrow (And.intro hat es))); clear hown hgrow hnil hat es eob)
        | fail)
      obtain ⟨l4, k4, s4, c4, R4, X4, T4, kk4⟩ := HW.out
      obtain ⟨hown, hgrow, hat, es⟩ := HG.out
      obtain ⟨hrow, hneS⟩ := HRow.out
      obtain ⟨z1, z2, z3, z4, z5, z6⟩ := HZ1.out
      obtain ⟨hc1, hc2, hcf, hc4, hc5, hc6, hkb⟩ := HC.out
      clear HW HG HRow HZ1 HC HI HNw
      have hrg : ∀ g, (Value.slice va vn vc).ownBlock = some g → b0.heap.size ≤ g := fun g hg => by
        rcases hc2.2 with ⟨e, _⟩ | ⟨g', cap, cur, e, h5, h6, _⟩
        · rw [e] at hg; cases hg
        · rw [e] at hg; cases hg; exact h5
      have Ba : Below W4.heap.size W4 (W4.alloc (.cells #[.int .i64 xx.c.kind, .slice ka kn kc, .string xx.c.val, .string xx.c.word, .bool xx.c.fatal, .int .i64 xx.c.id] 36)) := (Below.refl _ _).alloc (Nat.le_refl _) _
      have keep5 : ∀ b o, W4.heap[b]? = some o → b ≠ b0.heap.size → (∀ Z f, o ≠ .cells Z 36 f) → (w5.setCell ⟨b0.heap.size, 0, none⟩ (.slice (some ⟨ug, 0, none⟩) (done.length + 1) uc)).heap[b]? = some o := fun b o h hb' hne =>
        (Below.heap_setCell w5 ⟨b0.heap.size, 0, none⟩ _ b hb').trans ((hgrow.block b (by have := blkLt h; have := Ba.size; omega) (fun e => by
          obtain ⟨cur, hc⟩ := hrow b e.symm
          rw [h] at hc
          exact hne _ _ (Option.some.inj hc))).trans ((Ba.block b (blkLt h)).trans h))
      have l5 := keep5 _ _ l4 (by omega) (fun Z f e => by cases e)
      have k5 := keep5 _ _ k4 (by omega) (fun Z f e => by cases e)
      have X5 := keep5 W0.heap.size _ X4 (fun e => by rw [e, s4] at X4; cases X4) (fun Z f e => by cases e)
      have c5 : CmdsAp w5 b0.heap.size w5.heap.size (.slice (some ⟨ug, 0, none⟩) (done.length + 1) uc) (done ++ [xx.c]) :=
        CmdsAp.snoc (W := W4.alloc (.cells #[.int .i64 xx.c.kind, .slice ka kn kc, .string xx.c.val, .string xx.c.word, .bool xx.c.fatal, .int .i64 xx.c.id] 36)) hc1 hcf (fun i c kv hci hkv => (hc4 i c kv hci hkv).other (Nat.le_refl _) (fun b c Z hZ _ _ => Ba.block b (blkLt hZ))) hc5 hc6
          (fun g hg Z f hZ => by
            obtain ⟨cur, hc⟩ := hrow g hg
            rw [(Ba.block g (blkLt hc)), hc] at hZ
            cases hZ) (kk4.other (Nat.le_refl _) (fun b c Z hZ _ _ => Ba.block b (blkLt hZ))) hkb hgrow hown
      have c6 : CmdsAp (w5.setCell ⟨b0.heap.size, 0, none⟩ (.slice (some ⟨ug, 0, none⟩) (done.length + 1) uc)) b0.heap.size w5.heap.size (.slice (some ⟨ug, 0, none⟩) (done.length + 1) uc) (done ++ [xx.c]) := c5.keep (fun b Z T hZ hT _ => Below.heap_setCell w5 ⟨b0.heap.size, 0, none⟩ _ b (fun e => by
        rw [show b = b0.heap.size from e, es] at hZ
        cases hZ
        rcases hT with h | h <;> cases h))
      have s6 := blkSet (i := 0) es (.slice (some ⟨ug, 0, none⟩) (done.length + 1) uc)
      have R5 : RdrAt (w5.setCell ⟨b0.heap.size, 0, none⟩ (.slice (some ⟨ug, 0, none⟩) (done.length + 1) uc)) r.D hb2 (tyOf r.d) (afterS st xx) := by
        obtain ⟨⟨rv, ru, hD, H, hiv⟩, hne⟩ := R4
        have hD5 := keep5 r.D _ hD (fun e => by rw [e, s4] at hD; cases hD) (fun Z f e => by cases e)
        refine ⟨⟨rv, ru, hD5, H.other (fun b hb' => ?_), hiv⟩, hne⟩
        obtain ⟨⟨all, ⟨e1, e2⟩, e3⟩, hbk⟩ := H
        rcases e2 with ⟨rfl, _⟩ | ⟨g, cap, cur, rfl, _, hg, _⟩
        · rw [hb'] at hbk; cases hbk
        · rw [hb'] at hbk
          cases hbk
          exact (keep5 g _ hg (fun e => by rw [e, s4] at hg; cases hg) (fun Z f e => by cases e)).trans hg.symm
      have T6 : Turn2 r.D r.hb b0 (w5.setCell ⟨b0.heap.size, 0, none⟩ (.slice (some ⟨ug, 0, none⟩) (done.length + 1) uc)) := by
        have sb : Below 0 w5 (w5.setCell ⟨b0.heap.size, 0, none⟩ (.slice (some ⟨ug, 0, none⟩) (done.length + 1) uc)) := (Below.refl 0 w5).setCell (p := ⟨b0.heap.size, 0, none⟩) (Nat.zero_le _) _
        refine ⟨by rw [sb.os, hgrow.os, Ba.os, T4.os], by rw [sb.tape, hgrow.tape, Ba.tape, T4.tape], by rw [sb.output, hgrow.output, Ba.output, T4.output], Nat.le_trans T4.size (Nat.le_trans Ba.size (Nat.le_trans hgrow.size sb.size)), fun k hk hn hh => ?_⟩
        have h4s := T4.size
        rw [Below.heap_setCell w5 ⟨b0.heap.size, 0, none⟩ _ k (by show k ≠ b0.heap.size; omega), hgrow.block k (by have := Ba.size; omega) (fun e => by have := hrg k e.symm; omega), Ba.block k (by omega), T4.block k hk hn hh]
      have sz6 : (w5.setCell ⟨b0.heap.size, 0, none⟩ (.slice (some ⟨ug, 0, none⟩) (done.length + 1) uc)).heap.size = w5.heap.size := by simp
      clear keep5 c5 hown hgrow es
      generalize w5.setCell ⟨b0.heap.size, 0, none⟩ (.slice (some ⟨ug, 0, none⟩) (done.length + 1) uc) = S6 at *
      have lk6 := blkLt l5
      refine ⟨_, _, run_endRound (P := Tryz.prog) none l5, hb2, ?_, ?_, .inl ⟨rfl, ?_⟩⟩
      · have hap := R5.apartO l5 (fun Z f e => by cases e) (fun Z f e => by cases e)
        exact R5.other (World.putObj_heap_other (fun e => hap.1 e.symm)) (fun b hb' => World.putObj_heap_other (fun e => hap.2 (by rw [hb', e])))
      · exact (World.putObj_heap_other (fun e => by rw [e, l5] at X5; cases X5)).trans X5
      · refine ⟨?_, (World.putObj_heap_other (by omega)).trans k5, ⟨_, (World.putObj_heap_other (by omega)).trans (s6.trans rfl), (c6.keep (fun b Z T hZ _ _ => World.putObj_heap_other (fun e => by rw [e, l5] at hZ; cases hZ))).top⟩, putObj_below _ _ _ _ _ _ T6 (by omega), F5, afterS st xx, ?_, ?_⟩
        · rw [World.putObj_heap_same lk6]; simp [hrec]
        · have hap := R5.apartO l5 (fun Z f e => by cases e) (fun Z f e => by cases e)
          exact R5.other (World.putObj_heap_other (fun e => hap.1 e.symm)) (fun b hb' => World.putObj_heap_other (fun e => hap.2 (by rw [hb', e])))
        · have := HN.out
          rw [List.length_append]
          show done.length + 1 + _ ≤ _
          omega

  case hdone =>
    rintro e W6 ⟨⟨rv', rfl⟩, hb8, R6, hJ⟩
    obtain ⟨jump, o7, hend, hjump, ⟨lo', hl6⟩, ⟨v, hs6, G⟩, T6, F6, hk6⟩ : ∃ (jump : Option Code) (o7 : Obj), (Instr.endLoop (W7.heap.size + 1)).run Tryz.prog W6 = .ok jump (W6.putObj (W7.heap.size + 1) o7) ∧ (jump = none ∨ jump = some (.exit 0)) ∧ (∃ lo', W6.heap[W7.heap.size + 1]? = some (.loop lo')) ∧ (∃ v, W6.heap[b0.heap.size]? = some (.cells #[v] 28 (0, 0)) ∧ CmdsAp W6 b0.heap.size W6.heap.size v (drainF r.d x.toNat (takeS r.s s.data.toList)).1) ∧ Turn2 r.D r.hb b0 W6 ∧ Fresh b0 r.hb hb8 ∧ W6.heap[W7.heap.size]? = some (.deferred (some [])) := by
      rcases hJ with ⟨h1, h2, h3, h4, h5, h6⟩ | ⟨h1, h2, h3, h4, h5, h6⟩
      · exact ⟨_, _, run_endLoop (P := Tryz.prog) h1 (by rw [hrec]; simp), .inl (by rw [hrec]), ⟨_, h1⟩, h3, h4, h5, h2⟩
      · exact ⟨_, _, run_endLoop (P := Tryz.prog) h1 (by rw [hrec]; simp), .inr (by rw [hrec]), ⟨_, h1⟩, h3, h4, h5, h2⟩
    refine ⟨jump, _, hend, ?_⟩
    have hap := R6.apartO hl6 (fun Z f e => by cases e) (fun Z f e => by cases e)
    have G8 : CmdsAp (W6.putObj (W7.heap.size + 1) o7) b0.heap.size W6.heap.size v (drainF r.d x.toNat (takeS r.s s.data.toList)).1 := G.keep (fun b Z T hZ _ _ => World.putObj_heap_other (fun e => by rw [e, hl6] at hZ; cases hZ))
    have R8 : RdrAt (W6.putObj (W7.heap.size + 1) o7) r.D hb8 (tyOf r.d) (drainF r.d x.toNat (takeS r.s s.data.toList)).2 := R6.other (World.putObj_heap_other (fun e => hap.1 e.symm)) (fun b hb'' => World.putObj_heap_other (fun e => hap.2 (by rw [hb'', e])))
    have hs8 := (World.putObj_heap_other (w := W6) (r := W7.heap.size + 1) (o := o7) (show b0.heap.size ≠ W7.heap.size + 1 by omega)).trans hs6
    have hk8 := (World.putObj_heap_other (w := W6) (r := W7.heap.size + 1) (o := o7) (show W7.heap.size ≠ W7.heap.size + 1 by omega)).trans hk6
    have T8 := putObj_below W6 (W7.heap.size + 1) o7 b0 r.D r.hb T6 (by omega)
    have hj8 : (W6.putObj (W7.heap.size + 1) o7).heap.size = W6.heap.size := by simp [World.putObj]
    generalize W6.putObj (W7.heap.size + 1) o7 = W8 at *
    obtain ⟨la, lc, hv⟩ := cmdsIn_form G8.in_
    rw [hn] at hv
    subst hv
    rw [HS0.out] at hs8
    have HN7 : Hid (NxAt b0 W8 w.heap.size OB r hb8 (.slice la n lc) (drainF r.d x.toNat (takeS r.s s.data.toList)).1 (drainF r.d x.toNat (takeS r.s s.data.toList)).2) := nx_of HR0.out HBX.out HOB.out hs8 G8.top R8 F6 T8
    have HK8 := hide' (And.intro hk8 (show lo ≤ W7.heap.size by omega))
    have hxc : (n : Int) < x → n < x.toNat := by omega
    have HHH := hide' (And.intro hx (And.intro hs1 (And.intro hlo hlo0)))
    clear hend hap G8 R8 hs8 hk8 T8 hj8 R6 hJ hl6 hs6 G T6 F6 hk6 hL1 hK1 hBW hX1' hR1 hSB hT1 hRd hrec hN0 hX1 hsW hx
    rcases hjump with rfl | rfl
    all_goals
      dsimp only
      first
        | refine wpIn_exit ?_
        | skip
      rw [HS0.out]
      go_wp2_with fail
      have HC := hide' (And.intro hat (And.intro hkeys (And.intro hcnt (And.intro hstop (And.intro hn hxc)))))
      clear hat hkeys hcnt hstop hn hxc htl
      have c7P1 := blkCell HN7.out.pr 1
      have c7x15 : W8.cell? ⟨w.heap.size, 15, none⟩ = some (.string s) := (World.cell?_of_block (a := ⟨w.heap.size, 15, none⟩) (HN7.out.ob.trans HBX.out.symm)).trans HXX.out.1
      simp at c7P1
      have hP7 := blkLt HN7.out.pr
      have hA7 := blkLt HN7.out.ob
      go_region_held3 (fun W' => W'.cell? ⟨r.P, 1, none⟩ = some (.pointer (some ⟨r.Y, 0, none⟩)) ∧ W'.cell? ⟨w.heap.size, 15, none⟩ = some (.string s)) (go_keep) (first
        | (go_at_call 148; refine (HRP.out W8.drew ⟨HN7.out.rf.at_, HN7.out.rf.ok⟩).mono ?_; rintro e w2 ⟨rfl, Y2, T2⟩; have T2' : Turn r.Y W8 w2 := ⟨T2.os, T2.tape, T2.output, T2.size, T2.block⟩; have hk2 := HN7.out.turn HOB.out T2'; have c2P1 := blkCell hk2.2.1 1; have c2x : w2.cell? ⟨w.heap.size, 15, none⟩ = some (.string s) := (World.cell?_of_block (a := ⟨w.heap.size, 15, none⟩) (hk2.2.2.1.trans HBX.out.symm)).trans HXX.out.1; simp at c2P1; have HY2 := hide' (And.intro Y2 T2'); clear Y2 T2 T2' hk2 c7P1 c7x15)
        | fail)
      clear HRP c2P1 c2x
      go_wp2_with fail
      go_loopw [10, 11] (fun ok i wr => ∃ j : Nat, ok = .bool true ∧ i = .int .i64 (j : Int) ∧ j ≤ n ∧ Hid (RefAt wr r.Y r.d (drainF r.d j (takeS r.s s.data.toList)).2 ∧ Turn r.Y W8 wr)) (fun _ i _ => n - (intOf i).toNat)
      case atStart => exact ⟨0, rfl, rfl, Nat.zero_le _, HY2⟩
      case round =>
        obtain ⟨j, rfl, rfl, hj, HJ⟩ := hrel
        have hkj := HN7.out.turn HOB.out HJ.out.2
        have cjP0 := blkCell hkj.2.1 0
        have cjP1 := blkCell hkj.2.1 1
        have cjL := blkCell hkj.2.2.2 0
        simp at cjP0 cjP1 cjL
        have cjx : wr.cell? ⟨w.heap.size, 16, none⟩ = some (.int .i64 x) := (World.cell?_of_block (a := ⟨w.heap.size, 16, none⟩) (hkj.2.2.1.trans HBX.out.symm)).trans HXX.out.2
        have hPj := blkLt hkj.2.1
        have hLj := blkLt hkj.2.2.2
        have hAj := blkLt hkj.2.2.1
        clear hkj
        by_cases hlt : j < n
        · have hlt' : (j : Int) < (n : Int) := by omega
          obtain ⟨xx, hrd, hcj, hnx'⟩ := HC.out.1 j (by rw [HC.out.2.2.2.2.1]; exact hlt)
          have HRD := hide' (And.intro hrd (And.intro hnx' (And.intro hcj (HC.out.2.1 xx.c (List.mem_of_getElem? hcj)))))
          clear hrd hnx' hcj
          go_wp2_with fail
          go_at_call 149
          refine (HRN.out wr j HJ.out.1).mono ?_
          rintro e w3 ⟨hne, T3⟩
          unfold NextOut at hne
          rw [HRD.out.1] at hne
          obtain ⟨kv3, rfl, hk3, Y3⟩ := hne
          obtain ⟨ka', kc', rfl⟩ := hk3.form
          have hkk := HN7.out.turn HOB.out (HJ.out.2.trans T3)
          obtain ⟨g, ka, kn, kc, hla', hgl, hcap, hK1, hcell1⟩ := cmdsIn_at hkk.1.in_ HRD.out.2.2.1
          have hkl : xx.c.keys.length = kn := (keysIn_cells hK1).1
          subst hkl
          have c3L := blkCell hkk.2.2.2 0
          simp at c3L
          rw [hla'] at c3L
          have h3L := blkLt hkk.2.2.2
          have HT3 := hide' (And.intro T3 (And.intro Y3 (And.intro hK1 hk3)))
          clear T3 Y3 hK1 hk3 hkk cjL cjP0 cjP1 cjx
          generalize xx.c.keys.length = kn at *
          unfold cmdVR
          go_wp2_with fail
          have B4 : Below w3.heap.size w3 (w3.alloc (.cells #[.int .i64 xx.c.kind, .slice ka' kn kc', .string xx.c.val, .string xx.c.word, .bool xx.c.fatal, .int .i64 xx.c.id] 36)) := (Below.refl _ _).alloc (Nat.le_refl _) _
          have hq := blkNew w3 (.cells #[.int .i64 xx.c.kind, .slice ka' kn kc', .string xx.c.val, .string xx.c.word, .bool xx.c.fatal, .int .i64 xx.c.id] 36)
          generalize w3.alloc (.cells #[.int .i64 xx.c.kind, .slice ka' kn kc', .string xx.c.val, .string xx.c.word, .bool xx.c.fatal, .int .i64 xx.c.id] 36) = w4 at *
          have c4L := (B4.cell (p := ⟨w.heap.size + 1, 0, none⟩) h3L).trans c3L
          have p0 : w4.cell? ⟨g, j * 6, none⟩ = some (.int .i64 xx.c.kind) := (B4.cell (p := ⟨g, j * 6, none⟩) hgl).trans (hcell1 0 (by omega))
          have p1 : w4.cell? ⟨g, j * 6 + 1, none⟩ = some (.slice ka kn kc) := (B4.cell (p := ⟨g, j * 6 + 1, none⟩) hgl).trans (hcell1 1 (by omega))
          have p2 : w4.cell? ⟨g, j * 6 + 2, none⟩ = some (.string xx.c.val) := (B4.cell (p := ⟨g, j * 6 + 2, none⟩) hgl).trans (hcell1 2 (by omega))
          have p3 : w4.cell? ⟨g, j * 6 + 3, none⟩ = some (.string xx.c.word) := (B4.cell (p := ⟨g, j * 6 + 3, none⟩) hgl).trans (hcell1 3 (by omega))
          have p4 : w4.cell? ⟨g, j * 6 + 4, none⟩ = some (.bool xx.c.fatal) := (B4.cell (p := ⟨g, j * 6 + 4, none⟩) hgl).trans (hcell1 4 (by omega))
          have p5 : w4.cell? ⟨g, j * 6 + 5, none⟩ = some (.int .i64 xx.c.id) := (B4.cell (p := ⟨g, j * 6 + 5, none⟩) hgl).trans (hcell1 5 (by omega))
          have q0 : w4.cell? ⟨w3.heap.size, 0, none⟩ = some (.int .i64 xx.c.kind) := blkCell hq 0
          have q1 : w4.cell? ⟨w3.heap.size, 1, none⟩ = some (.slice ka' kn kc') := blkCell hq 1
          have q2 : w4.cell? ⟨w3.heap.size, 2, none⟩ = some (.string xx.c.val) := blkCell hq 2
          have q3 : w4.cell? ⟨w3.heap.size, 3, none⟩ = some (.string xx.c.word) := blkCell hq 3
          have q4 : w4.cell? ⟨w3.heap.size, 4, none⟩ = some (.bool xx.c.fatal) := blkCell hq 4
          have q5 : w4.cell? ⟨w3.heap.size, 5, none⟩ = some (.int .i64 xx.c.id) := blkCell hq 5
          have hg4 : g < w4.heap.size := Nat.lt_of_lt_of_le hgl B4.size
          have h4L : w.heap.size + 1 < w4.heap.size := Nat.lt_of_lt_of_le h3L B4.size
          have hb4 : w3.heap.size < w4.heap.size := blkLt hq
          have HSm : Hid (∀ W, Below w4.heap.size w4 W → Calls Tryz.prog 109 #[.agg #[.int .i64 xx.c.kind, .slice ka kn kc, .string xx.c.val, .string xx.c.word, .bool xx.c.fatal, .int .i64 xx.c.id], .agg #[.int .i64 xx.c.kind, .slice ka' kn kc', .string xx.c.val, .string xx.c.word, .bool xx.c.fatal, .int .i64 xx.c.id]] W fun e w' => e = .returned (.bool true) ∧ Below W.heap.size W w') := fun W hW => by
            have hbb := B4.trans (hW.mono B4.size)
            have h1 := HT3.out.2.2
            refine lawsame_yes xx.c.kind ka ka' kn kc kc' xx.c.val xx.c.word xx.c.fatal xx.c.id xx.c.keys b0.heap.size wr.heap.size W (h1.1.other (Nat.le_refl _) (fun b c Z hZ _ _ => hbb.block b (blkLt hZ))) (h1.2.other (Nat.le_refl _) (fun b Z hZ _ => hbb.block b (blkLt hZ))) ?_ (fun s hs => by have := HRD.out.2.2.2.2 s hs; omega)
            have h2 := (keysIn_cells h1.1).1
            have := HRD.out.2.2.2.1
            omega
          have HB4 := hide' B4
          clear hcell1 hq B4 c3L
          go_wp2_with fail
          go_region_held3 (fun W' => W'.cell? ⟨w.heap.size + 1, 0, none⟩ = some (.slice (some ⟨g, 0, none⟩) n lc) ∧ W'.cell? ⟨g, j * 6, none⟩ = some (.int .i64 xx.c.kind) ∧ W'.cell? ⟨g, j * 6 + 1, none⟩ = some (.slice ka kn kc) ∧ W'.cell? ⟨g, j * 6 + 2, none⟩ = some (.string xx.c.val) ∧ W'.cell? ⟨g, j * 6 + 3, none⟩ = some (.string xx.c.word) ∧ W'.cell? ⟨g, j * 6 + 4, none⟩ = some (.bool xx.c.fatal) ∧ W'.cell? ⟨g, j * 6 + 5, none⟩ = some (.int .i64 xx.c.id) ∧ W'.cell? ⟨w3.heap.size, 0, none⟩ = some (.int .i64 xx.c.kind) ∧ W'.cell? ⟨w3.heap.size, 1, none⟩ = some (.slice ka' kn kc') ∧ W'.cell? ⟨w3.heap.size, 2, none⟩ = some (.string xx.c.val) ∧ W'.cell? ⟨w3.heap.size, 3, none⟩ = some (.string xx.c.word) ∧ W'.cell? ⟨w3.heap.size, 4, none⟩ = some (.bool xx.c.fatal) ∧ W'.cell? ⟨w3.heap.size, 5, none⟩ = some (.int .i64 xx.c.id)) (go_keep) (first
            | (go_at_call 109; refine (HSm.out _ ?hx).mono ?_; (case hx => repeat (first | with_reducible exact Below.refl _ _ | with_reducible refine Below.drew ?_)); rintro e w6 ⟨rfl, hb6⟩; have HB6 := hide' (below_undrew hb6); have kc4L := (HB6.out.cell (p := ⟨w.heap.size + 1, 0, none⟩) h4L).trans c4L; have kp0 := (HB6.out.cell (p := ⟨g, j * 6, none⟩) hg4).trans p0; have kp1 := (HB6.out.cell (p := ⟨g, j * 6 + 1, none⟩) hg4).trans p1; have kp2 := (HB6.out.cell (p := ⟨g, j * 6 + 2, none⟩) hg4).trans p2; have kp3 := (HB6.out.cell (p := ⟨g, j * 6 + 3, none⟩) hg4).trans p3; have kp4 := (HB6.out.cell (p := ⟨g, j * 6 + 4, none⟩) hg4).trans p4; have kp5 := (HB6.out.cell (p := ⟨g, j * 6 + 5, none⟩) hg4).trans p5; have kq0 := (HB6.out.cell (p := ⟨w3.heap.size, 0, none⟩) hb4).trans q0; have kq1 := (HB6.out.cell (p := ⟨w3.heap.size, 1, none⟩) hb4).trans q1; have kq2 := (HB6.out.cell (p := ⟨w3.heap.size, 2, none⟩) hb4).trans q2; have kq3 := (HB6.out.cell (p := ⟨w3.heap.size, 3, none⟩) hb4).trans q3; have kq4 := (HB6.out.cell (p := ⟨w3.heap.size, 4, none⟩) hb4).trans q4; have kq5 := (HB6.out.cell (p := ⟨w3.heap.size, 5, none⟩) hb4).trans q5; clear hb6 c4L p0 p1 p2 p3 p4 p5 q0 q1 q2 q3 q4 q5)
            | fail)
          all_goals go_wp2
          all_goals
            go_roundw
            case rel =>
              have hbb : Below w3.heap.size w3 w6 := HB4.out.trans (HB6.out.mono HB4.out.size)
              refine ⟨j + 1, rfl, by go_num, by omega, ?_, HJ.out.2.trans (HT3.out.1.trans (Turn.of_below hbb))⟩
              rw [HRD.out.2.1]
              exact HT3.out.2.1.below' hbb
            case measure => simp [intOf]; omega
        · have hjn : j = n := by omega
          subst hjn
          clear hlt hj
          have HOwn : Hid (∀ W, RefAt W r.Y r.d (drainF r.d x.toNat (takeS r.s s.data.toList)).2 → Turn r.Y W8 W → Calls Tryz.prog 110 #[.pointer (some ⟨B, 0, none⟩), .slice la j lc] W fun e w' => e = .returned (.tuple #[]) ∧ ∃ M' N' csv' cmv' ssv' smv' hb', OwnW w' lo B (fun g => g < w'.heap.size) rv M' N' (nx + j + 1) csv' cmv' ssv' smv' ∧ RdsAt w' lo rv (rs.set i { r with hb := hb', s := (drainF r.d x.toNat (takeS r.s s.data.toList)).2 }) ∧ M'.length = M.length + 4 * j ∧ N'.length = N.length + 4 ∧ Below lo w w' ∧ Kept95 w w' ∧ CmTo W w' lo) := fun W hY hT => by
            have h2 := HTwo.out W8 W _ _ HN7.out.cm HN7.out.rd HN7.out.fr HN7.out.tn hY hT
            have h7 := HN7.out.tn.size
            have h8 := hT.size
            refine (ownCommands_any B nx lo b0.heap.size W8.heap.size rv csv cmv ssv smv M N la lc j _ W h2.1 HC.out.2.2.2.2.1 h2.2.2.1 h8 hlo0 (Nat.le_trans h7 h8) hn2 (fun c hc => by have := (HC.out.2.1 c hc).1; omega) hM hN hnx).mono ?_
            rintro e w' ⟨rfl, M', N', csv', cmv', ssv', smv', h11, h12, h13, h14⟩
            exact ⟨rfl, M', N', csv', cmv', ssv', smv', hb8, h11, h2.2.1.cm h14, h12, h13, HB0.out.trans (h2.2.2.2.1.trans h14.below), HK0.out.trans (h2.2.2.2.2.trans (Kept95.of_cm h14)), h14⟩
          have HST : Hid ((drainF r.d j (takeS r.s s.data.toList)).2 = (drainF r.d x.toNat (takeS r.s s.data.toList)).2) := by
            have h1 := HC.out.2.2.2.1
            rw [HC.out.2.2.2.2.1] at h1
            exact h1
          by_cases hjx : (j : Int) < x
          · have HRD : Hid (readR r.d (drainF r.d j (takeS r.s s.data.toList)).2.held = none) := by
              rw [HST.out]
              exact HC.out.2.2.1.2.2 (by rw [HC.out.2.2.2.2.1]; exact HC.out.2.2.2.2.2 hjx)
            go_wp2_with fail
            go_at_call 149
            refine (HRN.out wr j HJ.out.1).mono ?_
            rintro e w3 ⟨hne, T3⟩
            unfold NextOut at hne
            rw [HRD.out] at hne
            obtain ⟨rfl, Y3⟩ := hne
            rw [HST.out] at Y3
            have hkk := HN7.out.turn HOB.out (HJ.out.2.trans T3)
            have c3L := blkCell hkk.2.2.2 0
            simp at c3L
            have h3L := blkLt hkk.2.2.2
            have HT3 := hide' (And.intro (HJ.out.2.trans T3) Y3)
            clear T3 Y3 hkk cjL cjP0 cjP1 cjx
            unfold zCmdV
            go_wp2_with fail
            go_at_call 110
            refine (HOwn.out _ (HT3.out.2.below' ((Below.refl _ _).alloc (Nat.le_refl _) _)) (HT3.out.1.trans (Turn.of_below ((Below.refl _ _).alloc (Nat.le_refl _) _)))).mono ?_
            rintro e w6 ⟨rfl, h6⟩
            have H6 := hide' h6
            clear h6
            go_wp2
            obtain ⟨M', N', csv', cmv', ssv', smv', hb', e1, e2, e3, e4, e5, e6, e7⟩ := H6.out
            have hKe : w6.heap[W7.heap.size]? = some (.deferred (some [])) := e7.other _ _ ((Below.heap_alloc _ _ _ (blkLt (turn_keep HN7.out.rf HT3.out.1 HK8.out.1 (fun Z f e => by cases e)))).trans (turn_keep HN7.out.rf HT3.out.1 HK8.out.1 (fun Z f e => by cases e))) (fun _ _ _ e => by cases e)
            refine ⟨by simp, .inl ⟨_, _, rfl, run_takeDeferred hKe, ?_⟩⟩
            have hp := put_law (o := .deferred none) (fun Z T f e => by rw [hKe] at e; cases e) HK8.out.2 e1 e2 e5 e6
            exact ⟨_, results_tmp rfl _ _ _, rfl, M', N', csv', cmv', ssv', smv', hb', hp.1, hp.2.1, e3, e4, hp.2.2.1, hp.2.2.2⟩
          · go_wp2_with fail
            go_at_call 110
            refine (HOwn.out _ (by rw [← HST.out]; exact HJ.out.1) HJ.out.2).mono ?_
            rintro e w6 ⟨rfl, h6⟩
            have H6 := hide' h6
            clear h6
            go_wp2
            obtain ⟨M', N', csv', cmv', ssv', smv', hb', e1, e2, e3, e4, e5, e6, e7⟩ := H6.out
            have hKe : w6.heap[W7.heap.size]? = some (.deferred (some [])) := e7.other _ _ (turn_keep HN7.out.rf HJ.out.2 HK8.out.1 (fun Z f e => by cases e)) (fun _ _ _ e => by cases e)
            refine ⟨by simp, .inl ⟨_, _, rfl, run_takeDeferred hKe, ?_⟩⟩
            have hp := put_law (o := .deferred none) (fun Z T f e => by rw [hKe] at e; cases e) HK8.out.2 e1 e2 e5 e6
            exact ⟨_, results_tmp rfl _ _ _, rfl, M', N', csv', cmv', ssv', smv', hb', hp.1, hp.2.1, e3, e4, hp.2.2.1, hp.2.2.2⟩
end Go.Proofs.YtlonjggfnleolaaGreatDoor
