/-
  A script with Next: step, plays.
-/
import Derived.Test.YtlonjggfnleolaaGreatDoorNextC
import Derived.Test.YtlonjggfnleolaaGreatDoorLawL
import Derived.Test.YtlonjggfnleolaaGreatDoorOpenB
namespace Go.Proofs.YtlonjggfnleolaaGreatDoor
open Go.RowKit Go.Shelf
set_option linter.unusedVariables false

theorem nexted_any (B nx lo i n : Nat) (rv csv cmv ssv smv : Value) (M : List TxM) (N : List CmM) (rs : List RdI) (r : RdI) (at' ck : Int) (kv : Value) (val cw : ByteArray) (ft : Bool) (cid ak : Int) (fv vv : Value) (wd : ByteArray) (g0 g1 g2 : Int) (s : ByteArray) (x y : Int) (w : World)
    (hO : OwnW w lo B (fun g => g < w.heap.size) rv M N nx csv cmv ssv smv) (hR : RdsAt w lo rv rs) (hi : rs[i]? = some r) (hlo : lo ≤ w.heap.size) (hn : (drainF r.d x.toNat (takeS r.s s.data.toList)).1.length = n) (hsz : r.s.held.length + s.size ≤ 2000000) (hM : M.length ≤ 4900000000000) (hN : N.length ≤ 1000000000000) (hnx : nx ≤ 900000000000000) :
    Calls Tryz.prog 107 #[.pointer (some ⟨B, 0, none⟩), .pointer (some ⟨r.P, 0, none⟩), Value.agg #[.int .i64 7, .int .i64 at', .int .i64 ck, kv, .string val, .string cw, .bool ft, .int .i64 cid, .int .i64 ak, fv, vv, .string wd, .int .i64 g0, .int .i64 g1, .int .i64 g2, .string s, .int .i64 x, .int .i64 y]] w fun e w' => e = .returned (.bool true) ∧ FedTo w w' lo B i n M.length N.length nx rv rs r (drainF r.d x.toNat (takeS r.s s.data.toList)).2 := by
  by_cases hx : 0 < x
  · exact nexted_some B nx lo i n rv csv cmv ssv smv M N rs r at' ck kv val cw ft cid ak fv vv wd g0 g1 g2 s x y w hO hR hi hlo hn hsz hM hN hnx hx
  · exact nexted_none B nx lo i n rv csv cmv ssv smv M N rs r at' ck kv val cw ft cid ak fv vv wd g0 g1 g2 s x y w hO hR hi hlo hn hsz hM hN hnx (by omega)

set_option maxRecDepth 20000 in
set_option maxHeartbeats 1000000 in
theorem read_next (B nx lo i n : Nat) (rv csv cmv ssv smv : Value) (M : List TxM) (N : List CmM) (rs : List RdI) (r : RdI) (at' ck : Int) (kv : Value) (val cw : ByteArray) (ft : Bool) (cid ak : Int) (fv vv : Value) (wd : ByteArray) (g0 g1 g2 : Int) (s : ByteArray) (x y : Int) (w : World)
    (hO : OwnW w lo B (fun g => g < w.heap.size) rv M N nx csv cmv ssv smv) (hR : RdsAt w lo rv rs) (hi : rs[i]? = some r) (hlo : lo ≤ w.heap.size) (hn : (drainF r.d x.toNat (takeS r.s s.data.toList)).1.length = n) (hsz : r.s.held.length + s.size ≤ 2000000) (hM : M.length ≤ 4900000000000) (hN : N.length ≤ 1000000000000) (hnx : nx ≤ 900000000000000) :
    Calls Tryz.prog 68 #[.pointer (some ⟨B, 0, none⟩), .pointer (some ⟨r.P, 0, none⟩), Value.agg #[.int .i64 7, .int .i64 at', .int .i64 ck, kv, .string val, .string cw, .bool ft, .int .i64 cid, .int .i64 ak, fv, vv, .string wd, .int .i64 g0, .int .i64 g1, .int .i64 g2, .string s, .int .i64 x, .int .i64 y]] w fun e w' => e = .returned (.bool true) ∧ FedTo w w' lo B i n M.length N.length nx rv rs r (drainF r.d x.toNat (takeS r.s s.data.toList)).2 := by
  have hb0 : ∀ o, Below w.heap.size w (w.alloc o) := fun o => (Below.refl _ _).alloc (Nat.le_refl _) o
  have HB0 := hide' hb0
  have HF := hide' (fun o => nexted_any B nx lo i n rv csv cmv ssv smv M N rs r at' ck kv val cw ft cid ak fv vv wd g0 g1 g2 s x y (w.alloc o) (hO.below (hb0 _)).take (hR.below (hb0 _)) hi (Nat.le_trans hlo (hb0 _).size) hn hsz hM hN hnx)
  clear hO hR hi hb0
  have HL := hide' hlo
  clear hlo hn
  generalize (drainF r.d x.toNat (takeS r.s s.data.toList)).2 = s2 at *
  go_enter Tryz.func68, Tryz.ntmps68
  go_wp2_with fail
  go_at_call 107
  refine (HF.out _).mono ?_
  rintro e w1 ⟨rfl, h1⟩
  have H1 := hide' h1
  clear h1
  go_wp2
  go_ret
  obtain ⟨M', N', csv', cmv', ssv', smv', hb', e1, e2, e3, e4, e5, e6⟩ := H1.out
  exact ⟨rfl, M', N', csv', cmv', ssv', smv', hb', e1, e2, e3, e4, ((HB0.out _).mono HL.out).trans e5, (Kept95.of_below (HB0.out _)).trans e6⟩

theorem step_next (B lo k T : Nat) (at' ck : Int) (kv : Value) (val cw : ByteArray) (ft : Bool) (cid ak : Int) (fv vv : Value) (wd : ByteArray) (g0 g1 g2 : Int) (s : ByteArray) (x y : Int) (w : World) (h : Lw w lo B k T) (hlo : lo ≤ w.heap.size) (hk : k ≤ 1048600) (hT : T + s.size ≤ 1048600) :
    Calls Tryz.prog 40 #[.pointer (some ⟨B, 0, none⟩), Value.agg #[.int .i64 7, .int .i64 at', .int .i64 ck, kv, .string val, .string cw, .bool ft, .int .i64 cid, .int .i64 ak, fv, vv, .string wd, .int .i64 g0, .int .i64 g1, .int .i64 g2, .string s, .int .i64 x, .int .i64 y]] w fun e w' => e = .returned (.bool true) ∧ LwTo w w' lo B (k + 1) (T + s.size) := by
  have hL := h
  obtain ⟨rv, csv, cmv, ssv, smv, M, N, nx, rs, h1, h2, h3, h4, h5, h6, h7⟩ := h
  have cB : w.cell? ⟨B, 0, none⟩ = some rv := blkCell h1.wd 0
  by_cases hne : 0 < rs.length
  · obtain ⟨j, hj⟩ : ∃ j, pickI at' rs.length = j := ⟨_, rfl⟩
    have hjl : j < rs.length := by rw [← hj]; exact pickI_lt at' hne
    obtain ⟨r, hr⟩ : ∃ r, rs[j]? = some r := ⟨_, List.getElem?_eq_getElem hjl⟩
    have hrT := h4 r (List.mem_of_getElem? hr)
    obtain ⟨g, c, rfl, hgc, hcell⟩ := row_cell (j := j) (u := .pointer (some ⟨r.P, 0, none⟩)) h2.row (by rw [List.getElem?_map, hr]; rfl)
    have hfc := (drainF_count r.d x.toNat (takeS r.s s.data.toList)).2.1
    have htl := takeS_len r.s s.data.toList
    rw [len_size] at htl
    have hb0 : ∀ o, Below w.heap.size w (w.alloc o).drew := fun o => ((Below.refl _ _).alloc (Nat.le_refl _) o).drew
    refine (step_read 7 (by omega) (by omega) at' ck kv val cw ft cid ak fv vv wd g0 g1 g2 s x y w B g rs.length c (.pointer (some ⟨r.P, 0, none⟩)) cB hne hgc (by omega) (by rw [hj]; exact hcell)
      (fun w' => LwTo w w' lo B (k + 1) (T + s.size) ∧ w'.cell? ⟨B, 0, none⟩ = some (.slice (some ⟨g, 0, none⟩) rs.length c) ∧ w'.cell? ⟨g, pickI at' rs.length, none⟩ = some (.pointer (some ⟨r.P, 0, none⟩)) ∧ w'.heap[w.heap.size]? = some (.cells #[.int .i64 7, .int .i64 at', .int .i64 ck, kv, .string val, .string cw, .bool ft, .int .i64 cid, .int .i64 ak, fv, vv, .string wd, .int .i64 g0, .int .i64 g1, .int .i64 g2, .string s, .int .i64 x, .int .i64 y] 95 (0, 0)))
      ((read_next B nx lo j _ _ csv cmv ssv smv M N rs r at' ck kv val cw ft cid ak fv vv wd g0 g1 g2 s x y _ (h1.below (hb0 _)).take (h2.below (hb0 _)) hr (Nat.le_trans hlo (hb0 _).size) rfl (by omega) (by omega) (by omega) (by omega)).mono ?_)
      (fun w' hw' => hw'.2)).mono (fun e w' hw' => ⟨hw'.1, hw'.2.1⟩)
    rintro e w' ⟨rfl, M', N', csv', cmv', ssv', smv', hb', hO, hR, hm, hn, hb, hK⟩
    obtain ⟨g', c', hv, _, hc2⟩ := row_cell (j := j) (u := .pointer (some ⟨r.P, 0, none⟩)) hR.row (by rw [List.getElem?_map, List.getElem?_set]; simp [hjl])
    rw [List.length_set] at hv
    cases hv
    refine ⟨rfl, ⟨⟨_, csv', cmv', ssv', smv', M', N', _, _, hO, hR, by rw [List.length_set]; omega, fun r' hr' => ?_, by omega, by omega, by omega⟩, ((hb0 _).mono hlo).trans hb, (Kept95.of_below (hb0 _)).trans hK⟩, blkCell hO.wd 0, by rw [hj]; exact hc2, hK _ _ (blkNew w _)⟩
    rcases List.mem_or_eq_of_mem_set hr' with hr' | rfl
    · have := h4 r' hr'; omega
    · show (drainF r.d x.toNat (takeS r.s s.data.toList)).2.held.length ≤ _
      omega
  · have h0 : rs.length = 0 := by omega
    obtain ⟨a, c, rfl⟩ := h2.row.form
    rw [h0] at cB
    refine (step_none 7 (by omega) (by omega) at' ck kv val cw ft cid ak fv vv wd g0 g1 g2 s x y w B c a cB).mono ?_
    rintro e w' ⟨rfl, hb⟩
    exact ⟨rfl, (hL.below hb).more (by omega) (by omega), hb.mono hlo, Kept95.of_below hb⟩

theorem stepLaw7 : StepLaw 7 := fun k0 h4 h7 B lo k T at' ck kv val cw ft cid ak fv vv wd g0 g1 g2 s x y w h hlo hk hT => by
  by_cases h : k0 ≤ 6
  · exact step_456 k0 h4 h B lo k T at' ck kv val cw ft cid ak fv vv wd g0 g1 g2 s x y w ‹_› hlo hk hT
  · obtain rfl : k0 = 7 := by omega
    exact step_next B lo k T at' ck kv val cw ft cid ak fv vv wd g0 g1 g2 s x y w ‹_› hlo hk hT
set_option maxRecDepth 20000 in
theorem nexts_some (b o N c : Nat) (kf : Nat → Int) (csf : Nat → List Value) (bk : Nat → Nat) (w : World) (hS : ScriptB w b o N kf csf bk) (hN : N ≤ c) (hN2 : N ≤ 1048576) (hbk : sumTo bk N ≤ 1048576) :
    Calls Tryz.prog 5 #[.slice (some ⟨b, o, none⟩) N c] w fun e w' => e = .returned (.bool true) ∧ Below w.heap.size w w' := by
  have HP := hide' (plays_law 7 (by decide) (by decide) stepLaw7 b o N c kf csf bk w hS hN hN2 hbk)
  clear hS hbk
  go_enter Tryz.func5, Tryz.ntmps5
  go_wp2_with fail
  go_at_call 15
  refine HP.out.mono ?_
  rintro e w1 ⟨rfl, hb⟩
  have HB := hide' hb
  clear hb
  go_wp2
  go_ret
  exact ⟨rfl, HB.out⟩
set_option maxRecDepth 20000 in
theorem nexts_nil (w : World) :
    Calls Tryz.prog 5 #[.slice none 0 0] w fun e w' => e = .returned (.bool true) ∧ Below w.heap.size w w' := by
  have HP := hide' (plays_law_nil 7 (by decide) (by decide) stepLaw7 w)
  go_enter Tryz.func5, Tryz.ntmps5
  go_wp2_with fail
  go_at_call 15
  refine HP.out.mono ?_
  rintro e w1 ⟨rfl, hb⟩
  have HB := hide' hb
  clear hb
  go_wp2
  go_ret
  exact ⟨rfl, HB.out⟩
end Go.Proofs.YtlonjggfnleolaaGreatDoor
