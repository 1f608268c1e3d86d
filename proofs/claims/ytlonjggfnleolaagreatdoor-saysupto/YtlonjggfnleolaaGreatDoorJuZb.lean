/-
  Lists that lie at the head of a block: append, where the old list is looked at again.
-/
import Derived.Test.YtlonjggfnleolaaGreatDoorRefC
import Derived.ArgAppend
import Derived.Maps.AppendAt
import Derived.Test.YtlonjggfnleolaaGreatDoorRjH
import Derived.Test.YtlonjggfnleolaaGreatDoorJuQa
import Derived.Deep.DeepCutAuto
import Derived.Test.YtlonjggfnleolaaGreatDoorLines
import Derived.Deep.QuietTactic
import Derived.BigQuiet
import Derived.RegionTactic
import Derived.Deep.RegionWith
import Derived.BigRegion
import Derived.Conc.SmallLaws
import Derived.Carry

namespace Go.Proofs.YtlonjggfnleolaaGreatDoor
open Go.RowKit
set_option linter.unusedVariables false

/-- A list at the head of a block. -/
def Row (w : World) (lo e size : Nat) (v : Value) (n : Nat) (xs : List Value) : Prop :=
  xs.length = n * size ∧ ((v = .slice none 0 0 ∧ n = 0) ∨ ∃ g cap cur, v = .slice (some ⟨g, 0, none⟩) n cap ∧ lo ≤ g ∧ w.heap[g]? = some (.cells cur e (0, 0)) ∧ n ≤ cap ∧ cur.size = cap * size ∧ cur.toList.take (n * size) = xs)
theorem Row.of_own {w : World} {lo e size n : Nat} {v : Value} {xs : List Value} (h : w.ownsRow lo e size v n xs) : Row w lo e size v n xs := by
  obtain ⟨h1, h2 | ⟨g, cap, cur, a, b, c, d, _, f, k⟩⟩ := h
  · exact ⟨h1, .inl h2⟩
  · exact ⟨h1, .inr ⟨g, cap, cur, a, b, c, d, f, k⟩⟩
theorem Row.nil (w : World) (lo e size : Nat) : Row w lo e size (.slice none 0 0) 0 [] := ⟨by simp, .inl ⟨rfl, rfl⟩⟩
theorem Row.lower {w : World} {lo lo' e size n : Nat} {v : Value} {xs : List Value} (h : Row w lo e size v n xs) (hl : lo' ≤ lo) : Row w lo' e size v n xs := by
  obtain ⟨h1, h2 | ⟨g, cap, cur, a, b, c⟩⟩ := h
  · exact ⟨h1, .inl h2⟩
  · exact ⟨h1, .inr ⟨g, cap, cur, a, by omega, c⟩⟩
theorem Row.other {w w' : World} {lo e size n : Nat} {v : Value} {xs : List Value} (h : Row w lo e size v n xs) (k : ∀ g Z, v.ownBlock = some g → w.heap[g]? = some (.cells Z e (0, 0)) → lo ≤ g → w'.heap[g]? = w.heap[g]?) : Row w' lo e size v n xs := by
  obtain ⟨h1, h2 | ⟨g, cap, cur, rfl, b, c, d⟩⟩ := h
  · exact ⟨h1, .inl h2⟩
  · exact ⟨h1, .inr ⟨g, cap, cur, rfl, b, (k g cur rfl c b).trans c, d⟩⟩
theorem Row.form {w : World} {lo e size n : Nat} {v : Value} {xs : List Value} (h : Row w lo e size v n xs) : ∃ a c, v = .slice a n c := by
  obtain ⟨h1, ⟨rfl, rfl⟩ | ⟨g, cap, cur, rfl, _⟩⟩ := h
  · exact ⟨_, _, rfl⟩
  · exact ⟨_, _, rfl⟩
theorem Row.blk {w : World} {lo e size n g : Nat} {v : Value} {xs : List Value} (h : Row w lo e size v n xs) (hg : v.ownBlock = some g) : ∃ cur, w.heap[g]? = some (.cells cur e (0, 0)) ∧ lo ≤ g ∧ g < w.heap.size := by
  obtain ⟨h1, ⟨rfl, rfl⟩ | ⟨g', cap, cur, rfl, b, c, _⟩⟩ := h
  · cases hg
  · cases hg; exact ⟨cur, c, b, blkLt c⟩

theorem run_append_row {P : Program} (w : World) (lo : Nat) (t ty e : TypeId) (i : TypeInfo) (z : Value) (size bytes : Nat) (ht : P.underlying t = some (.slice e)) (hi : P.info? e = some i) (hz : i.zero = some z)
    (hsize : i.size = size) (hby : i.bytes = bytes) (hzs : z.cells.size = size) (hsz : 0 < size)
    (v : Value) (n : Nat) (xs : List Value) (hrow : Row w lo e size v n xs)
    (a : Addr) (m c : Nat) (news : List Value) (hl : news.length = m * size) (hnews : ∀ j u, news[j]? = some u → w.cell? (a.add j) = some u) (h1 : ∀ u ∈ news, u.oneCell' = true)
    (hm : 0 < m) (h63 : n + m ≤ maxLen) (hbytes : (n + m) * bytes ≤ 140737488355328) (hlo : lo ≤ w.heap.size) :
    ∃ v' w', (Builtin.append_ #[t, t] ty #[v, .slice (some a) m c]).run P w = .ok v' w' ∧ Row w' lo e size v' (n + m) (xs ++ news) ∧ w.grownBy w' v.ownBlock ∧
      (v'.ownBlock = v.ownBlock ∨ (∃ g, v'.ownBlock = some g ∧ w.heap.size ≤ g ∧ w.grownBy w' none)) ∧
      ∀ u k ys, Row w lo e size u k ys → (u.ownBlock = v.ownBlock → k ≤ n + m ∧ ys = (xs ++ news).take (k * size)) → Row w' lo e size u k ys := by
  have hlen : (xs ++ news).length = (n + m) * size := by rw [List.length_append, hrow.1, hl, Nat.add_mul]
  have fresh : ∀ w', w.grownBy w' none → ∀ u k ys, Row w lo e size u k ys → Row w' lo e size u k ys := fun w' hg u k ys hu => hu.other (fun g Z _ hZ _ => hg.block g (blkLt hZ) (by simp))
  rcases hrow.2 with ⟨rfl, rfl⟩ | ⟨g, cap, cur, rfl, hbg, hg, hnc, hcs, htake⟩
  · have hx : xs = [] := List.eq_nil_of_length_eq_zero (by simpa using hrow.1)
    subst hx
    obtain ⟨v', w', hr, ho, hgr, _, hat⟩ := run_append_own_at (P := P) w w.heap.size t ty e i z size bytes ht hi hz hsize hby hzs hsz (.slice none 0 0) 0 [] (World.ownsRow_nil w _ e size) a m c news hl hnews h1 h63 hbytes (Nat.le_refl _)
    refine ⟨v', w', hr, (Row.of_own ho).lower hlo, hgr, .inr ?_, fun u k ys hu _ => fresh w' hgr u k ys hu⟩
    rcases ho.2 with ⟨_, h0⟩ | ⟨g, cap, cur, e1, e2, _⟩
    · omega
    · subst e1; exact ⟨g, rfl, e2, hgr⟩
  · by_cases hroom : n + m ≤ cap
    · subst hsize
      have hfit : n * i.size + news.length ≤ cur.size := by rw [hl, hcs, ← Nat.add_mul]; exact Nat.mul_le_mul_right _ hroom
      have hr := run_append_room (P := P) w t ty e i ht hi g n cap cur hg a m c news hl hnews h1 hroom hfit
      have hsz2 : (cur.toList.take (n * i.size) ++ news ++ cur.toList.drop (n * i.size + news.length)).length = cur.size := by
        simp only [List.length_append, List.length_take, List.length_drop, Array.length_toList]
        omega
      have hgr : ∀ o, w.grownBy (w.setRow g o) (some g) := fun o => ⟨rfl, rfl, rfl, by simp, fun k _ hk => setRow_other w g k _ (fun e => hk (by simp [e]))⟩
      have hh := setRow_heap w g cur (List.take (n * i.size) cur.toList ++ news ++ List.drop (n * i.size + news.length) cur.toList).toArray e _ hg
      refine ⟨_, _, hr, ⟨hlen, .inr ⟨g, cap, _, rfl, hbg, hh, hroom, ?_, ?_⟩⟩, hgr _, .inl rfl, ?_⟩
      · simp only [List.size_toArray]; omega
      · simp only
        rw [htake, ← hlen]
        exact List.take_left
      · intro u k ys hu hcond
        rcases hu with ⟨hul, ⟨rfl, rfl⟩ | ⟨gu, capu, curu, rfl, hub, huh, hun, hus, hut⟩⟩
        · exact ⟨hul, .inl ⟨rfl, rfl⟩⟩
        · by_cases hgg : gu = g
          · subst hgg
            obtain ⟨hk, hys⟩ := hcond rfl
            rw [hg] at huh
            cases huh
            refine ⟨hul, .inr ⟨gu, capu, _, rfl, hub, hh, hun, ?_, ?_⟩⟩
            · simp only [List.size_toArray]; omega
            · simp only
              rw [htake, hys]
              have hk2 : k * i.size ≤ (xs ++ news).length := by rw [hlen]; exact Nat.mul_le_mul_right _ hk
              rw [List.take_append_of_le_length hk2]
          · exact ⟨hul, .inr ⟨gu, capu, curu, rfl, hub, ((hgr _).block gu (blkLt huh) (by simpa using hgg)).trans huh, hun, hus, hut⟩⟩
    · have holds : ∀ j u, xs[j]? = some u → w.cell? ((⟨g, 0, none⟩ : Addr).add j) = some u := by
        intro j u hj
        have hadd : (⟨g, 0, none⟩ : Addr).add j = ⟨g, j, none⟩ := by unfold Addr.add; split <;> simp_all
        have hjl : j < n * size := by have := (List.getElem?_eq_some_iff.1 hj).1; rw [hrow.1] at this; exact this
        rw [hadd, blkCell hg]
        rw [← htake, List.getElem?_take_of_lt hjl] at hj
        simpa using hj
      obtain ⟨v', w', hr, ho, hgr⟩ := run_append_arg_grows (P := P) w t ty e i z size bytes ht hi hz hsize hby hzs hsz ⟨g, 0, none⟩ n cap xs hrow.1 holds a m c news hl hnews (by omega) h63 hbytes
      refine ⟨v', w', hr, (Row.of_own ho).lower hlo, ⟨hgr.os, hgr.tape, hgr.output, hgr.size, fun k hk _ => hgr.block k hk (by simp)⟩, .inr ?_, fun u k ys hu _ => fresh w' hgr u k ys hu⟩
      rcases ho.2 with ⟨_, h0⟩ | ⟨g', cap', cur', e1, e2, _⟩
      · omega
      · subst e1; exact ⟨g', rfl, e2, hgr⟩

theorem wpList_append_row {P : Program} (w : World) {ops : Array Oper} {rest : List Oper} {o : Oper} {a : Act} {Q : Exit → Act → World → Prop} (hgd : o.guard = none) (s x : Operand) (t : TypeId)
    (ho : o.op = .call { callee := .builtin .append, args := #[s, x], argTypes := #[t, t] })
    (lo : Nat) (e : TypeId) (i : TypeInfo) (z : Value) (size bytes : Nat) (ht : P.underlying t = some (.slice e)) (hi : P.info? e = some i) (hz : i.zero = some z)
    (hsize : i.size = size) (hby : i.bytes = bytes) (hzs : z.cells.size = size) (hsz : 0 < size)
    (v : Value) (n : Nat) (xs : List Value) (hs : a.eval s = v) (hrow : Row w lo e size v n xs)
    (ad : Addr) (m c : Nat) (news : List Value) (hx : a.eval x = .slice (some ad) m c) (hl : news.length = m * size) (hnews : ∀ j u, news[j]? = some u → w.cell? (ad.add j) = some u) (h1 : ∀ u ∈ news, u.oneCell' = true)
    (hm : 0 < m) (h63 : n + m ≤ maxLen) (hbytes : (n + m) * bytes ≤ 140737488355328) (hlo : lo ≤ w.heap.size)
    (h : ∀ v' w', Row w' lo e size v' (n + m) (xs ++ news) → w.grownBy w' v.ownBlock → (v'.ownBlock = v.ownBlock ∨ (∃ g, v'.ownBlock = some g ∧ w.heap.size ≤ g ∧ w.grownBy w' none)) →
      (∀ u k ys, Row w lo e size u k ys → (u.ownBlock = v.ownBlock → k ≤ n + m ∧ ys = (xs ++ news).take (k * size)) → Row w' lo e size u k ys) → wpList P ops Q rest (a.put o.dst v') w') :
    wpList P ops Q (o :: rest) a w := by
  refine wpList_plain hgd fun K hK => ?_
  obtain ⟨v', w', hr, h2, h3, h4, h5⟩ := run_append_row (P := P) w lo t o.type e i z size bytes ht hi hz hsize hby hzs hsz v n xs hrow ad m c news hl hnews h1 hm h63 hbytes hlo
  unfold Oper.wp execOp
  simp only [ho, resolve, invoke, builtin, Sem.run_bind, Sem.run_pure, Result.andThen_ok, List.map_toArray, List.map_cons, List.map_nil, hs, hx, hr]
  exact hK _ _ (h v' w' h2 h3 h4 h5)
end Go.Proofs.YtlonjggfnleolaaGreatDoor


/-
  A list of texts that came out: what the law then keeps.
-/

namespace Go.Proofs.YtlonjggfnleolaaGreatDoor
open Go.RowKit Go.Shelf
set_option linter.unusedVariables false

theorem row_ne {W : World} {lo e sz n b T : Nat} {v : Value} {xs : List Value} {Z : Array Value} {f : Nat × Nat} (h : Row W lo e sz v n xs) (hb : W.heap[b]? = some (.cells Z T f)) (hT : T ≠ e) : some b ≠ v.ownBlock := fun e' => by
  obtain ⟨cur, hc, _⟩ := h.blk e'.symm
  rw [hb] at hc
  cases hc
  exact hT rfl

end Go.Proofs.YtlonjggfnleolaaGreatDoor


/-
  The readers that a script has made, the program's and the reference's side by side.
-/

namespace Go.Proofs.YtlonjggfnleolaaGreatDoor
open Go.RowKit Go.Shelf
set_option linter.unusedVariables false

/-- The steps of a script are as they were. -/
def Kept95 (w w' : World) : Prop := ∀ (b : Nat) (Z : Array Value), w.heap[b]? = some (.cells Z 95 (0, 0)) → w'.heap[b]? = some (.cells Z 95 (0, 0))
theorem Kept95.trans {a b c : World} (h : Kept95 a b) (k : Kept95 b c) : Kept95 a c := fun x Z hx => k x Z (h x Z hx)
theorem Kept95.of_below {w w' : World} (h : Below w.heap.size w w') : Kept95 w w' := fun b Z hb => (h.block b (blkLt hb)).trans hb
end Go.Proofs.YtlonjggfnleolaaGreatDoor


/-
  decoded: one reader more.
-/

namespace Go.Proofs.YtlonjggfnleolaaGreatDoor
open Go.RowKit Go.Shelf
set_option linter.unusedVariables false

set_option maxHeartbeats 1000000 in
theorem decoder_no (d : Int) (w : World) (hd : d < 1 ∨ 3 < d) :
    Calls Tryz.prog 43 #[.int .i64 d] w fun e w' => e = .returned (.tuple #[.pointer none, .int .i64 1]) ∧ Below w.heap.size w w' := by
  have h1 : (d == 1) = false := by rw [beq_eq_false_iff_ne]; omega
  have h2 : (d == 2) = false := by rw [beq_eq_false_iff_ne]; omega
  have h3 : (d == 3) = false := by rw [beq_eq_false_iff_ne]; omega
  go_enter Tryz.func43, Tryz.ntmps43
  go_wp2
  go_ret2
  exact ⟨rfl, Below.refl _ _⟩
end Go.Proofs.YtlonjggfnleolaaGreatDoor


/-
  Told, Sent of a junction.
-/

namespace Go.Proofs.YtlonjggfnleolaaGreatDoor
open Go.RowKit Go.Shelf Go.Conc
set_option linter.unusedVariables false

theorem set_same {α : Type} {l : List α} {i : Nat} {x : α} (h : l[i]? = some x) : l.set i x = l := by
  apply List.ext_getElem?
  intro j
  rw [List.getElem?_set]
  split
  · rename_i e
    subst e
    rw [h]
    simp [(List.getElem?_eq_some_iff.1 h).1]
  · rfl
/-- What was told is looked at. -/
theorem CliOk.looked {W W' : World} {win : Nat} {v : CliI} {s : CliS} (h : CliOk W win v s) (k : Chg v.bv.ownBlock.toList W W') (hb : BldRow W' v.bv s.told) : CliOk W' win v s ∧ Chg v.foot W W' := by
  obtain ⟨n1, n2, n3, n4, n5⟩ := h.nC
  obtain ⟨m1, m2, m3, m4⟩ := h.nCh
  have k' : Chg v.foot W W' := k.more (fun b hb => by simp [CliI.foot, optMem hb])
  have kb : ∀ b ∈ v.foot, v.bv.ownBlock ≠ some b → W'.heap[b]? = W.heap[b]? := fun b hb h1 => k.block b (h.old b hb) (fun hm => h1 (optMem hm))
  obtain ⟨buf, a, b, tm, c1, c2⟩ := h.chan
  exact ⟨⟨(kb _ (by simp [CliI.foot]) n5).trans h.blk, h.rd.other (kb _ (by simp [CliI.foot]) (fun e => (h.nB e).2.1 rfl)) (fun b hb => kb b (by simp [CliI.foot, hb]) (fun e => (h.nB e).2.2.1 hb)), h.di, ⟨buf, a, b, tm, (kb _ (by simp [CliI.foot]) m4).trans c1, c2⟩, ownsRow_other h.row (fun g hg => kb g (by simp [CliI.foot, hg]) (h.nW hg).2.2.2), h.ql, fun i q c hq hc => (h.qu i q c hq hc).other (fun b T Z f hZ hT => k'.block b (blkLt hZ) (h.apart hZ (by rcases hT with e | e <;> (subst e; decide)))), h.bpv, hb, h.ab, h.ok⟩, k'⟩
theorem SvOk.looked {W W' : World} {v : SvI} {s : SrvS} (h : SvOk W v s) (k : Chg v.bv.ownBlock.toList W W') (hb : BldRow W' v.bv s.sent) : SvOk W' v s ∧ Chg v.foot W W' := by
  have k' : Chg v.foot W W' := k.more (fun b hb => by simp [SvI.foot, optMem hb])
  have n1 : v.S ∉ v.bv.ownBlock.toList := fun hm => by
    obtain ⟨cur, fz, hc⟩ := h.row.blk (optMem hm)
    rw [h.blk] at hc
    unfold svO at hc
    cases hc
  have n2 : v.m ∉ v.bv.ownBlock.toList := fun hm => by
    obtain ⟨cur, fz, hc⟩ := h.row.blk (optMem hm)
    obtain ⟨es, clock, ho, _⟩ := h.mp
    rw [ho] at hc
    cases hc
  exact ⟨⟨k.keep h.blk n1, h.mp.other (k.block _ h.mp.lt n2), h.pv, h.lt, h.bpv, hb⟩, k'⟩
/-- The servers turned. -/
theorem JunAt.srvTo {W W' : World} {X sv pt win g sc : Nat} {cv : Value} {cis : List CliI} {cs : List CliS} {vs vs' : List SvI} {ss ss' : List SrvS} (h : JunAt W X sv pt win g sc cv cis cs vs ss) (k : Chg (feetV vs) W W') (hl : Later W (feetV vs) (feetV vs')) (hc : SvsAt W' vs' ss') (hS : ∀ (j : Nat) (u' : SvI), vs'[j]? = some u' → ∃ u, vs[j]? = some u ∧ u'.S = u.S) (hn : vs'.length = sv) : JunAt W' X sv pt win g sc cv cis cs vs' ss' := by
  obtain ⟨Zg, h1, h2⟩ := h.gb
  refine ⟨k.keep h.blk (h.srv.apart h.blk (by decide) (by decide)), ⟨Zg, k.keep h1 (h.srv.apart h1 (by decide) (by decide)), fun j u' hu => ?_⟩, hn, h.s1, h.s4, h.sc_, h.pt_, ownsRow_other h.row (fun gg hg => ?_), h.cl, fun i v s hv hs => ?_, h.cap, hc, fun i v hv b hb hm => ?_⟩
  · obtain ⟨u, hu1, hu2⟩ := hS j u' hu
    rw [hu2]
    exact h2 j u hu1
  · obtain ⟨cur, hcur⟩ := ownsRow_blk h.row hg
    exact k.block gg (blkLt hcur) (h.srv.apart hcur (by decide) (by decide))
  · have hok := h.cli i v s hv hs
    exact hok.keep (fun b hb => k.block b (hok.old b hb) (h.ap i v hv b hb)) (fun b T Z f hZ hT => k.block b (blkLt hZ) (h.srv.apart hZ (by rcases hT with e | e <;> (subst e; decide)) (by rcases hT with e | e <;> (subst e; decide))))
  · rcases hl b hm with h3 | h3
    · exact h.ap i v hv b hb h3
    · obtain ⟨s, hs, hok⟩ := h.get hv
      have := hok.old b hb
      omega

set_option maxHeartbeats 1000000 in
set_option maxRecDepth 100000 in
theorem told_no {w : World} {X sv pt win g sc : Nat} {cv : Value} {cis : List CliI} {cs : List CliS} {vs : List SvI} {ss : List SrvS} (h : JunAt w X sv pt win g sc cv cis cs vs ss) (hn : cis.length ≤ 1000000) (k : Int) (hk : k < 0 ∨ (cis.length : Int) ≤ k) :
    Calls Tryz.prog 26 #[.pointer (some ⟨X, 0, none⟩), .int .i64 k] w fun e w' => e = .returned (.tuple #[.string ⟨#[]⟩, .int .i64 1]) ∧ w' = w := by
  obtain ⟨a, c, rfl⟩ := h.cvLen
  have c3 := (juCells h.blk).2.2.2.1
  have hlt := blkLt h.blk
  have HN := hide' (at_no 56 (.inl rfl) a cis.length c k w hn hk)
  clear h hk
  go_enter Tryz.func26, Tryz.ntmps26
  go_wp2_with fail
  go_at_call 56
  refine HN.out.mono ?_
  rintro e w1 ⟨rfl, hw1⟩
  subst hw1
  go_wp2
  go_ret2
  exact ⟨rfl, rfl⟩
set_option maxHeartbeats 1000000 in
set_option maxRecDepth 100000 in
theorem told_yes {w : World} {X sv pt win g sc : Nat} {cv : Value} {cis : List CliI} {cs : List CliS} {vs : List SvI} {ss : List SrvS} (h : JunAt w X sv pt win g sc cv cis cs vs ss) (hn : cis.length ≤ 1000000) {i : Nat} {v : CliI} {s : CliS} (hv : cis[i]? = some v) (hs : cs[i]? = some s) :
    Calls Tryz.prog 26 #[.pointer (some ⟨X, 0, none⟩), .int .i64 (i : Int)] w fun e w' => e = .returned (.tuple #[.string (mkB s.told), .int .i64 0]) ∧ JunAt w' X sv pt win g sc cv cis cs vs ss ∧ Chg (footJ X cv cis vs) w w' := by
  obtain ⟨gg, c, rfl, hgl, hgc⟩ := h.cvAt hv
  have hi := (List.getElem?_eq_some_iff.1 hv).1
  have hrun := h.run hv hs
  have c3 := (juCells h.blk).2.2.2.1
  have hlt := blkLt h.blk
  have hltC := blkLt hrun.cli.blk
  have HN := hide' (at_yes 56 (.inl rfl) gg cis.length c i v.C w hn hi hgc hgl)
  have HB := hide' (bld_string v.C 3 v.bv s.told w (clCells hrun.cli.blk).2.2.2.2.1 hrun.cli.bld)
  have HFin : Hid (∀ w', BldRow w' v.bv s.told → Chg v.bv.ownBlock.toList w w' → JunAt w' X sv pt win g sc (.slice (some ⟨gg, 0, none⟩) cis.length c) cis cs vs ss ∧ Chg (footJ X (.slice (some ⟨gg, 0, none⟩) cis.length c) cis vs) w w') := fun w' hb hk => by
    obtain ⟨a1, a2⟩ := hrun.cli.looked hk hb
    obtain ⟨r1, r2, r3⟩ := h.ran hv (hrun.cliTo a2 (Later.refl _ _) a1) rfl (a2.more (fun b hb => List.mem_append.2 (.inl hb))) (Later.refl _ _)
    rw [set_same hv, set_same hs] at r1
    exact ⟨r1, r2⟩
  clear h hrun hgc hgl
  go_enter Tryz.func26, Tryz.ntmps26
  go_wp2_with fail
  go_at_call 56
  refine HN.out.mono ?_
  rintro e w1 ⟨rfl, hw1⟩
  subst hw1
  go_wp2_with fail
  go_at_call 57
  refine HB.out.mono ?_
  rintro e w2 ⟨rfl, hb, hk⟩
  have HF := hide' (HFin.out w2 hb hk)
  clear hb hk
  go_wp2
  go_ret2
  exact ⟨rfl, HF.out⟩
set_option maxHeartbeats 1000000 in
set_option maxRecDepth 100000 in
theorem sent_no {w : World} {X sv pt win g sc : Nat} {cv : Value} {cis : List CliI} {cs : List CliS} {vs : List SvI} {ss : List SrvS} (h : JunAt w X sv pt win g sc cv cis cs vs ss) (k : Int) (hk : k < 0 ∨ (sv : Int) ≤ k) :
    Calls Tryz.prog 30 #[.pointer (some ⟨X, 0, none⟩), .int .i64 k] w fun e w' => e = .returned (.tuple #[.string ⟨#[]⟩, .int .i64 1]) ∧ w' = w := by
  have c4 := (juCells h.blk).2.2.2.2.1
  have hlt := blkLt h.blk
  have HN := hide' (at_no 60 (.inr rfl) (some ⟨g, 0, none⟩) sv sc k w (by have := h.s4; omega) hk)
  clear h hk
  go_enter Tryz.func30, Tryz.ntmps30
  go_wp2_with fail
  go_at_call 60
  refine HN.out.mono ?_
  rintro e w1 ⟨rfl, hw1⟩
  subst hw1
  go_wp2
  go_ret2
  exact ⟨rfl, rfl⟩
set_option maxHeartbeats 1000000 in
set_option maxRecDepth 100000 in
theorem sent_yes {w : World} {X sv pt win g sc : Nat} {cv : Value} {cis : List CliI} {cs : List CliS} {vs : List SvI} {ss : List SrvS} (h : JunAt w X sv pt win g sc cv cis cs vs ss) {i : Nat} {v : SvI} {s : SrvS} (hv : vs[i]? = some v) (hs : ss[i]? = some s) :
    Calls Tryz.prog 30 #[.pointer (some ⟨X, 0, none⟩), .int .i64 (i : Int)] w fun e w' => e = .returned (.tuple #[.string (mkB s.sent), .int .i64 0]) ∧ JunAt w' X sv pt win g sc cv cis cs vs ss ∧ Chg (footJ X cv cis vs) w w' := by
  have hi : i < sv := by rw [← h.len]; exact (List.getElem?_eq_some_iff.1 hv).1
  have hok := h.srv.ok i v s hv hs
  obtain ⟨Zg, g1, g2⟩ := h.gb
  have c4 := (juCells h.blk).2.2.2.2.1
  have hlt := blkLt h.blk
  have hltS := blkLt hok.blk
  have HN := hide' (at_yes 60 (.inr rfl) g sv sc i v.S w (by have := h.s4; omega) hi ((blkCell g1 i).trans (g2 i v hv)) (blkLt g1))
  have hb0 := hok.blk
  unfold svO at hb0
  have HB := hide' (bld_string v.S 7 v.bv s.sent w (blkCell hb0 8) hok.row)
  have HFin : Hid (∀ w', BldRow w' v.bv s.sent → Chg v.bv.ownBlock.toList w w' → JunAt w' X sv pt win g sc cv cis cs vs ss ∧ Chg (footJ X cv cis vs) w w') := fun w' hb hk => by
    obtain ⟨a1, a2⟩ := hok.looked hk hb
    obtain ⟨r1, r2⟩ := h.srv.step hv a2 a1 (Later.refl _ _)
    rw [set_same hv, set_same hs] at r1
    have k' : Chg (feetV vs) w w' := a2.more (fun b hb => mem_feetV.2 ⟨i, v, hv, hb⟩)
    exact ⟨h.srvTo k' (Later.refl _ _) r1 (fun j u hu => ⟨u, hu, rfl⟩) h.len, k'.more (fun b hb => by unfold footJ; exact List.mem_cons_of_mem _ (List.mem_append.2 (.inr (List.mem_append.2 (.inr hb)))))⟩
  clear h g1 g2 hb0
  go_enter Tryz.func30, Tryz.ntmps30
  go_wp2_with fail
  go_at_call 60
  refine HN.out.mono ?_
  rintro e w1 ⟨rfl, hw1⟩
  subst hw1
  go_wp2_with fail
  go_at_call 57
  refine HB.out.mono ?_
  rintro e w2 ⟨rfl, hb, hk⟩
  have HF := hide' (HFin.out w2 hb hk)
  clear hb hk
  go_wp2
  go_ret2
  exact ⟨rfl, HF.out⟩
end Go.Proofs.YtlonjggfnleolaaGreatDoor


/-
  A junction is made; a client is opened.
-/

namespace Go.Proofs.YtlonjggfnleolaaGreatDoor
open Go.RowKit Go.Shelf Go.Conc
set_option linter.unusedVariables false

theorem info159 : ∃ i, Tryz.prog.info? 159 = some i ∧ i.bytes = 0 := by
  have h : (Tryz.prog.info? 159).map (·.bytes) = some 0 := by kernel_rfl
  obtain ⟨i, hi, hz⟩ := Option.map_eq_some_iff.1 h
  exact ⟨i, hi, hz⟩
set_option maxHeartbeats 400000 in
set_option maxRecDepth 100000 in
theorem newClient_any (R win : Nat) (w : World) (hw : win ≤ 6) :
    Calls Tryz.prog 86 #[.pointer (some ⟨R, 0, none⟩), .int .i64 (win : Int)] w fun e w' => e = .returned (.pointer (some ⟨w.heap.size + 1, 0, none⟩)) ∧ w' = (w.alloc (.chan win #[] false 0 0 false)).alloc (clO R w.heap.size (.slice none 0 0) (.pointer none) (.slice none 0 0)) := by
  unfold clO
  have hmm : ∀ W : World, (Instr.makeChan 119 (.int .i64 (win : Int))).run Tryz.prog W = .ok (.chan (some W.heap.size)) (W.alloc (.chan win #[] false 0 0 false)) := fun W => by
    obtain ⟨i, hi, hb⟩ := info159
    exact run_makeChan (P := Tryz.prog) (w := W) Tryz.underlying119 hi .i64 win (by omega) (by rw [hb]; omega)
  go_enter Tryz.func86, Tryz.ntmps86
  go_wp2
  go_ret
  exact ⟨rfl, rfl⟩
set_option maxHeartbeats 400000 in
set_option maxRecDepth 100000 in
theorem newServer_any (w : World) :
    Calls Tryz.prog 85 #[] w fun e w' => e = .returned (.pointer (some ⟨w.heap.size + 1, 0, none⟩)) ∧ w' = (w.alloc (.map #[] 0)).alloc (svO false 0 w.heap.size (.slice none 0 0) 0 false false (.pointer none) (.slice none 0 0)) := by
  unfold svO
  have hmm := @run_makeMap Tryz.prog
  go_enter Tryz.func85, Tryz.ntmps85
  go_wp2
  go_ret
  exact ⟨rfl, rfl⟩
end Go.Proofs.YtlonjggfnleolaaGreatDoor


/-
  Open of a junction.
-/

namespace Go.Proofs.YtlonjggfnleolaaGreatDoor
open Go.RowKit Go.Shelf Go.Conc
set_option linter.unusedVariables false

theorem info116 : ∃ i, Tryz.prog.info? 116 = some i ∧ i.zero = some (.pointer none) ∧ i.size = 1 ∧ i.bytes = 8 := by
  have h : (Tryz.prog.info? 116).map (fun i => (i.zero, i.size, i.bytes)) = some (some (.pointer none), 1, 8) := by kernel_rfl
  obtain ⟨i, hi, hz⟩ := Option.map_eq_some_iff.1 h
  simp only [Prod.mk.injEq] at hz
  exact ⟨i, hi, hz.1, hz.2.1, hz.2.2⟩
set_option maxHeartbeats 1000000 in
set_option maxRecDepth 100000 in
theorem open_no {w : World} {X sv pt win g sc : Nat} {cv : Value} {cis : List CliI} {cs : List CliS} {vs : List SvI} {ss : List SrvS} (h : JunAt w X sv pt win g sc cv cis cs vs ss) (d : Int) (hd : (d < 1 ∨ 3 < d) ∨ cis.length = 4) :
    Calls Tryz.prog 54 #[.pointer (some ⟨X, 0, none⟩), .int .i64 d] w fun e w' => e = .returned (.tuple #[.int .i64 0, .int .i64 1]) ∧ Below w.heap.size w w' := by
  obtain ⟨a, c, rfl⟩ := h.cvLen
  have c3 := (juCells h.blk).2.2.2.1
  have hlt := blkLt h.blk
  clear h
  by_cases hdd : d < 1 ∨ 3 < d
  · have HN := hide' (decoder_no d w hdd)
    clear hd hdd
    go_enter Tryz.func54, Tryz.ntmps54
    go_wp2_with fail
    go_at_call 43
    refine HN.out.mono ?_
    rintro e w1 ⟨rfl, hb⟩
    have HB := hide' hb
    clear hb
    go_wp2
    go_ret2
    exact ⟨rfl, HB.out⟩
  · have h4 : cis.length = 4 := by rcases hd with h | h; exact absurd h hdd; exact h
    have HN := hide' (decoder_any d w (by omega))
    rw [h4] at c3
    have hB : Below w.heap.size w (w.alloc (rdO (tyOf d) (.slice none 0 0) 0 false false)) := (Below.refl _ _).alloc (Nat.le_refl _) _
    have d3 := (hB.cell (p := ⟨X, 3, none⟩) hlt).trans c3
    have hlt1 : X < (w.alloc (rdO (tyOf d) (.slice none 0 0) 0 false false)).heap.size := Nat.lt_of_lt_of_le hlt hB.size
    have HB := hide' hB
    clear hd hdd h4 hB c3
    generalize w.alloc (rdO (tyOf d) (.slice none 0 0) 0 false false) = w1 at *
    go_enter Tryz.func54, Tryz.ntmps54
    go_wp2_with fail
    go_at_call 43
    refine HN.out.mono ?_
    rintro e w2 ⟨rfl, hw2⟩
    subst hw2
    go_wp2
    go_ret2
    exact ⟨rfl, HB.out⟩

/-- A new client. -/
def newI (C R ch t : Nat) : CliI := ⟨C, R, ch, t, none, .slice none 0 0, .pointer none, .slice none 0 0, []⟩
def newC (d : Int) : CliS := ⟨d, st0, [], []⟩
theorem CliOk.new {W : World} {C R ch t win : Nat} {d : Int} (hd : dT d t) (hR : W.heap[R]? = some (rdO t (.slice none 0 0) 0 false false)) (hch : W.heap[ch]? = some (.chan win #[] false 0 0 false)) (hC : W.heap[C]? = some (clO R ch (.slice none 0 0) (.pointer none) (.slice none 0 0))) : CliOk W win (newI C R ch t) (newC d) :=
  ⟨hC, ⟨⟨.slice none 0 0, 0, hR, ⟨⟨[], World.ownsRow_nil _ _ _ _, Nat.le_refl _, rfl, by simp⟩, rfl⟩, .inl rfl⟩, by simp [newI]⟩, hd, ⟨#[], 0, 0, false, hch, rfl⟩, World.ownsRow_nil _ _ _ _, rfl, fun i q c hq _ => (by simp [newI] at hq), .inl rfl, BldRow.nil _, fun b hb => (by cases hb), fun c hc => (by simp [newC] at hc)⟩
theorem JunAt.opened {w W : World} {X sv pt win g sc : Nat} {cv : Value} {cis : List CliI} {cs : List CliS} {vs : List SvI} {ss : List SrvS} (h : JunAt w X sv pt win g sc cv cis cs vs ss) {C R ch t g2 cap2 : Nat} {d : Int} (hd : dT d t)
    (k : Chg (X :: cv.ownBlock.toList) w W) (hX : W.heap[X]? = some (juO sv pt win (.slice (some ⟨g2, 0, none⟩) (cis.length + 1) cap2) (.slice (some ⟨g, 0, none⟩) sv sc)))
    (hrow : W.ownsRow 0 116 1 (.slice (some ⟨g2, 0, none⟩) (cis.length + 1) cap2) (cis.length + 1) (cis.map (fun v => ptrV v.C) ++ [.pointer (some ⟨C, 0, none⟩)])) (hg2 : cv.ownBlock = some g2 ∨ w.heap.size ≤ g2)
    (lC : w.heap.size ≤ C) (lR : w.heap.size ≤ R) (lch : w.heap.size ≤ ch) (hR : W.heap[R]? = some (rdO t (.slice none 0 0) 0 false false)) (hch : W.heap[ch]? = some (.chan win #[] false 0 0 false)) (hC : W.heap[C]? = some (clO R ch (.slice none 0 0) (.pointer none) (.slice none 0 0))) :
    JunAt W X sv pt win g sc (.slice (some ⟨g2, 0, none⟩) (cis.length + 1) cap2) (cis ++ [newI C R ch t]) (cs ++ [newC d]) vs ss ∧ Chg (footJ X cv cis vs) w W ∧ Later w (footJ X cv cis vs) (footJ X (.slice (some ⟨g2, 0, none⟩) (cis.length + 1) cap2) (cis ++ [newI C R ch t]) vs) := by
  have hnew := CliOk.new hd hR hch hC
  have hfoot : ∀ b ∈ (newI C R ch t).foot, w.heap.size ≤ b := fun b hb => by
    simp [CliI.foot, newI, Value.ownBlock] at hb
    rcases hb with e | e | e <;> omega
  have nM : ∀ (b T : Nat) (Z : Array Value) (f : Nat × Nat), w.heap[b]? = some (.cells Z T f) → T ≠ 129 → T ≠ 116 → b ∉ X :: cv.ownBlock.toList := fun b T Z f hZ h1 h2 hm => by
    rcases List.mem_cons.1 hm with e | e
    · have hb := h.blk
      unfold juO at hb
      rw [← e, hZ] at hb
      simp at hb
      exact h1 hb.2.1
    · obtain ⟨cur, hc⟩ := ownsRow_blk h.row (optMem e)
      rw [hZ] at hc
      simp at hc
      exact h2 hc.2.1
  have nM2 : ∀ (b : Nat) (o : Obj), w.heap[b]? = some o → (∀ Z T f, o ≠ .cells Z T f) → b ∉ X :: cv.ownBlock.toList := fun b o ho h1 hm => by
    rcases List.mem_cons.1 hm with e | e
    · have hb := h.blk
      unfold juO at hb
      rw [← e, ho] at hb
      exact h1 _ _ _ (Option.some.inj hb)
    · obtain ⟨cur, hc⟩ := ownsRow_blk h.row (optMem e)
      rw [ho] at hc
      exact h1 _ _ _ (Option.some.inj hc)
  have old : ∀ (j : Nat) (u : CliI), cis[j]? = some u → ∀ b ∈ u.foot, b < w.heap.size := fun j u hu b hb => by
    obtain ⟨s, hs, hok⟩ := h.get hu
    exact hok.old b hb
  have kc : ∀ (j : Nat) (u : CliI), cis[j]? = some u → ∀ b ∈ u.foot, W.heap[b]? = w.heap[b]? := fun j u hu b hb => by
    obtain ⟨s, hs, hok⟩ := h.get hu
    rcases hok.kind b hb with ⟨Z, T, f, h1, h2⟩ | ⟨cap, buf, cl, a, c, tm, h1⟩
    · exact k.block b (blkLt h1) (nM b T Z f h1 (by rcases h2 with e | e | e | e <;> (subst e; decide)) (by rcases h2 with e | e | e | e <;> (subst e; decide)))
    · exact k.block b (blkLt h1) (nM2 b _ h1 (fun Z T f e => by cases e))
  have hsrv : SvsAt W vs ss := h.srv.keep (fun b hb => by
    obtain ⟨j, v, hv, hbv⟩ := mem_feetV.1 hb
    obtain ⟨v', s, hv', hs, hok⟩ := h.srv.get (List.getElem?_eq_some_iff.1 hv).1
    rw [hv] at hv'
    cases hv'
    rcases List.mem_cons.1 hbv with e | hbv
    · have hb0 := hok.blk
      unfold svO at hb0
      rw [e]
      exact k.block _ (blkLt hb0) (nM _ _ _ _ hb0 (by decide) (by decide))
    rcases List.mem_cons.1 hbv with e | hbv
    · obtain ⟨es, clock, h1, _⟩ := hok.mp
      rw [e]
      exact k.block _ (blkLt h1) (nM2 _ _ h1 (fun Z T f e => by cases e))
    · obtain ⟨cur, fz, hc⟩ := hok.row.blk (optMem hbv)
      exact k.block _ (blkLt hc) (nM _ _ _ _ hc (by decide) (by decide)))
  obtain ⟨Zg, z1, z2⟩ := h.gb
  have hcut : ∀ (j : Nat) (u : CliI), (cis ++ [newI C R ch t])[j]? = some u → (j < cis.length ∧ cis[j]? = some u) ∨ (j = cis.length ∧ u = newI C R ch t) := fun j u hu => by
    by_cases hj : j < cis.length
    · rw [List.getElem?_append_left hj] at hu
      exact .inl ⟨hj, hu⟩
    · have hj2 := (List.getElem?_eq_some_iff.1 hu).1
      simp at hj2
      have hj3 : j = cis.length := by omega
      subst hj3
      rw [List.getElem?_append_right (Nat.le_refl _)] at hu
      simp at hu
      exact .inr ⟨rfl, hu.symm⟩
  refine ⟨⟨hX, ⟨Zg, k.keep z1 (nM _ _ _ _ z1 (by decide) (by decide)), z2⟩, h.len, h.s1, h.s4, h.sc_, h.pt_, ?_, by simp [h.cl], fun i v s hv hs => ?_, fun i j v u hij hv hu b hb hb2 => ?_, hsrv, fun i v hv b hb hm => ?_⟩, k.more (fun b hb => ?_), fun b hb => ?_⟩
  · rw [List.length_append, List.length_singleton, List.map_append]
    exact hrow
  · rcases hcut i v hv with ⟨hi, hv'⟩ | ⟨hi, rfl⟩
    · rw [List.getElem?_append_left (by rw [← h.cl]; exact hi)] at hs
      have hok := h.cli i v s hv' hs
      exact hok.keep (fun b hb => kc i v hv' b hb) (fun b T Z f hZ hT => k.block b (blkLt hZ) (nM b T Z f hZ (by rcases hT with e | e <;> (subst e; decide)) (by rcases hT with e | e <;> (subst e; decide))))
    · rw [List.getElem?_append_right (by rw [hi, h.cl]; exact Nat.le_refl _)] at hs
      rw [hi, h.cl] at hs
      simp at hs
      rw [← hs]
      exact hnew
  · rcases hcut i v hv with ⟨hi, hv'⟩ | ⟨hi, rfl⟩
    · rcases hcut j u hu with ⟨hj, hu'⟩ | ⟨hj, rfl⟩
      · exact h.cap i j v u hij hv' hu' b hb hb2
      · have h1 := old i v hv' b hb
        have h2 := hfoot b hb2
        omega
    · rcases hcut j u hu with ⟨hj, hu'⟩ | ⟨hj, rfl⟩
      · have h1 := old j u hu' b hb2
        have h2 := hfoot b hb
        omega
      · omega
  · rcases hcut i v hv with ⟨hi, hv'⟩ | ⟨hi, rfl⟩
    · exact h.ap i v hv' b hb hm
    · have h1 := h.srv.old b hm
      have h2 := hfoot b hb
      omega
  · unfold footJ
    rcases List.mem_cons.1 hb with e | e
    · rw [e]; exact List.mem_cons_self ..
    · exact List.mem_cons_of_mem _ (List.mem_append.2 (.inl e))
  · unfold footJ at hb ⊢
    rcases List.mem_cons.1 hb with e | hb
    · exact .inl (by rw [e]; exact List.mem_cons_self ..)
    rcases List.mem_append.1 hb with hb | hb
    · have e' : b = g2 := by simpa [Value.ownBlock] using hb
      rcases hg2 with e2 | e2
      · exact .inl (List.mem_cons_of_mem _ (List.mem_append.2 (.inl (by rw [e2, e']; simp))))
      · exact .inr (by omega)
    rcases List.mem_append.1 hb with hb | hb
    · obtain ⟨j, u, hu, hbu⟩ := mem_cis.1 hb
      rcases hcut j u hu with ⟨hj, hu'⟩ | ⟨hj, rfl⟩
      · exact .inl (List.mem_cons_of_mem _ (List.mem_append.2 (.inr (List.mem_append.2 (.inl (mem_cis.2 ⟨j, u, hu', hbu⟩))))))
      · exact .inr (hfoot b hbu)
    · exact .inl (List.mem_cons_of_mem _ (List.mem_append.2 (.inr (List.mem_append.2 (.inr hb)))))

end Go.Proofs.YtlonjggfnleolaaGreatDoor
