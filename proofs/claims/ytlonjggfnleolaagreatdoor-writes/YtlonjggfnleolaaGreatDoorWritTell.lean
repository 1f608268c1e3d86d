/-
  The law's own step: Tell against the reference.
-/
import Derived.Test.YtlonjggfnleolaaGreatDoorWritAsk
namespace Go.Proofs.YtlonjggfnleolaaGreatDoor
open Go.RowKit
set_option linter.unusedVariables false

theorem atB {B : Nat} {W w' : World} (h : Below B W w') {b : Nat} (hb : b < B) : (∀ o, w'.cell? ⟨b, o, none⟩ = W.cell? ⟨b, o, none⟩) ∧ (∀ o, w'.frozen? ⟨b, o, none⟩ = W.frozen? ⟨b, o, none⟩) :=
  ⟨fun o => World.cell?_of_block (w := W) (h.block b hb), fun o => by unfold World.frozen?; rw [h.block b hb]⟩
theorem atX {g0 g9 : Nat} {W w' : World} (h : StillX g0 g9 W w') {b : Nat} (hb : g9 ≤ b) : ∀ o, w'.cell? ⟨b, o, none⟩ = W.cell? ⟨b, o, none⟩ :=
  fun o => World.cell?_of_block (w := W) (h.rest b hb)

set_option maxRecDepth 20000 in
set_option maxHeartbeats 8000000 in
theorem written_tell (k at' : Int) (ck : Int) (a : Option Addr) (n c : Nat) (ss : List ByteArray) (val cw : ByteArray) (ft : Bool) (cid : Int) (ak : Int) (fa va : Option Addr) (fn fc vn vc : Nat) (bs : List Bool) (vs : List ByteArray) (wd : ByteArray) (g0 g1 g2 : Int) (s : ByteArray) (x y : Int) (w : World) (hk3 : (k == 3) = false) (hk1 : (k == 1) = false) (hs : StrsIn w a n c ss) (hval : val.size ≤ maxLen) (hf : BoolsIn w fa fn fc bs) (hv : StrsIn w va vn vc vs) (hw : wd.size ≤ maxLen) (hn : n ≤ 8796093022208) (hfn : fn ≤ 140737488355328) (hvn : vn ≤ 8796093022208) :
    Calls Tryz.prog 66 #[opV k at' ck (.slice a n c) val cw ft cid ak (.slice fa fn fc) (.slice va vn vc) wd g0 g1 g2 s x y] w fun e w' => e = .returned (.bool true) ∧ Below w.heap.size w w' := by
  have HB2 := hide' (show ∀ x y, Below w.heap.size w ((w.alloc x).alloc y) from fun x y => ((Below.refl _ _).alloc (Nat.le_refl _) _).alloc (by simp) _)
  obtain ⟨S, E, hSE⟩ := said_parts (answerB ck ss val ak bs vs wd && sayB x ck n y) (tellS x ck ak ss bs vs wd y)
  have HLK : Hid (∀ W, Below w.heap.size w W → Calls Tryz.prog 100 #[.slice a n c] W fun e w' => ∃ a' c', e = .returned (.slice a' n c') ∧ LentOk w' W.heap.size w'.heap.size a' n c' ss a ∧ Below W.heap.size W w') := fun W hW => lent_any a n c ss W (hs.later hW) hn
  have HLV : Hid (∀ W, Below w.heap.size w W → Calls Tryz.prog 100 #[.slice va vn vc] W fun e w' => ∃ a' c', e = .returned (.slice a' vn c') ∧ LentOk w' W.heap.size w'.heap.size a' vn c' vs va ∧ Below W.heap.size W w') := fun W hW => lent_any va vn vc vs W (hv.later hW) hvn
  have HLF : Hid (∀ W, Below w.heap.size w W → Calls Tryz.prog 103 #[.slice fa fn fc] W fun e w' => ∃ a' c', e = .returned (.slice a' fn c') ∧ LentOkB w' W.heap.size w'.heap.size a' fn c' bs fa ∧ Below W.heap.size W w') := fun W hW => lentB_any fa fn fc bs W (hf.later hW) hfn
  have HA : Hid (∀ W a1 c1 a2 c2 a3 c3, StrsIn W a1 n c1 ss → BoolsIn W a2 fn c2 bs → StrsIn W a3 vn c3 vs → Calls Tryz.prog 87 #[.int .i64 x, cmdV6 ck (.slice a1 n c1) val cw ft cid, ansV ak (.slice a2 fn c2) (.slice a3 vn c3) wd, .int .i64 y] W fun e w' => e = .returned (.tuple #[.string S, .int .i64 E]) ∧ Below W.heap.size W w') := fun W a1 c1 a2 c2 a3 c3 h1 h2 h3 => by rw [← hSE]; exact tell_any x ck a1 n c1 ss val cw ft cid ak a2 a3 fn c2 vn c3 bs vs wd y W h1 hval h2 h3 hw
  have HR : Hid (∀ W, Below w.heap.size w W → Calls Tryz.prog 104 #[.int .i64 x, cmdV6 ck (.slice a n c) val cw ft cid, ansV ak (.slice fa fn fc) (.slice va vn vc) wd, .int .i64 y] W fun e w' => e = .returned (.tuple #[.string S, .int .i64 E]) ∧ Below W.heap.size W w') := fun W h => by rw [← hSE]; exact reftell_any x ck a n c ss val cw ft cid ak fa va fn fc vn vc bs vs wd y W (hs.later h) hval (hf.later h) (hv.later h) hw
  have HSK : Hid (∀ W g g9 a' c', w.heap.size ≤ g → Below w.heap.size w W → LentOk W g g9 a' n c' ss a → Calls Tryz.prog 102 #[.slice a' n c', .slice a n c] W fun e w' => e = .returned (.bool true) ∧ StillX g g9 W w') := fun W g g9 a' c' hg hW hO => still_any g g9 a a' n c c' ss w W hs hn hg hW hO
  have HSV : Hid (∀ W g g9 a' c', w.heap.size ≤ g → Below w.heap.size w W → LentOk W g g9 a' vn c' vs va → Calls Tryz.prog 102 #[.slice a' vn c', .slice va vn vc] W fun e w' => e = .returned (.bool true) ∧ StillX g g9 W w') := fun W g g9 a' c' hg hW hO => still_any g g9 va a' vn vc c' vs w W hv hvn hg hW hO
  have HSF : Hid (∀ W g g9 a' c', w.heap.size ≤ g → Below w.heap.size w W → LentOkB W g g9 a' fn c' bs fa → Calls Tryz.prog 105 #[.slice a' fn c', .slice fa fn fc] W fun e w' => e = .returned (.bool true) ∧ StillX g g9 W w') := fun W g g9 a' c' hg hW hO => stillB_any g g9 fa a' fn fc c' bs w W hf hfn hg hW hO
  have HQK : Hid (∀ W g g9 a' c', LentOk W g g9 a' n c' ss a → StrsIn W a' n c' ss) := fun W g g9 a' c' h => h.strs hs.len hs.small hs.sizes
  have HQV : Hid (∀ W g g9 a' c', LentOk W g g9 a' vn c' vs va → StrsIn W a' vn c' vs) := fun W g g9 a' c' h => h.strs hv.len hv.small hv.sizes
  have HQF : Hid (∀ W g g9 a' c', LentOkB W g g9 a' fn c' bs fa → BoolsIn W a' fn c' bs) := fun W g g9 a' c' h => h.bools hf.len hf.small
  clear hs hv hn hSE hval hf hw hfn hvn
  unfold cmdV6 ansV opV at *
  go_enter Tryz.func66, Tryz.ntmps66
  go_wp2_with fail
  go_at_call 100
  refine (HLK.out _ (HB2.out _ _)).mono ?_
  rintro e w1 ⟨a1, c1, rfl, hO1, hb1⟩
  obtain ⟨hc1, hf1⟩ := bcell hb1
  have hz1 : w.heap.size + 1 < w1.heap.size := by have := hb1.size; simp at this; omega
  have hy1 : w.heap.size < w1.heap.size := by omega
  have HB1 : Hid (Below w.heap.size w (w1.setCell ⟨w.heap.size + 1, 1, none⟩ (.slice a1 n c1))) := ((HB2.out _ _).trans (hb1.mono (by simp; omega))).setCell (p := ⟨w.heap.size + 1, 1, none⟩) (by simp) _
  rw [World.size_alloc, World.size_alloc] at hO1
  have HO1 : Hid (LentOk (w1.setCell ⟨w.heap.size + 1, 1, none⟩ (.slice a1 n c1)) (w.heap.size + 1 + 1) w1.heap.size a1 n c1 ss a) := hO1.set (w.heap.size + 1) 1 _ (.inl (by omega))
  clear hb1 hO1 HLK HB2
  go_wp2_with fail
  go_at_call 103
  refine (HLF.out _ (HB1.out.alloc HB1.out.size _)).mono ?_
  rintro e w2 ⟨a2, c2, rfl, hO2, hb2⟩
  have hz2 : w1.heap.size < w2.heap.size := by have := hb2.size; simp at this; omega
  have hz2a : w.heap.size + 1 < w2.heap.size := by omega
  have hz2b : w.heap.size < w2.heap.size := by omega
  obtain ⟨ha2, fa2⟩ := atB hb2 (b := w.heap.size) (by simp; try omega)
  obtain ⟨hb2', fb2⟩ := atB hb2 (b := w.heap.size + 1) (by simp; try omega)
  obtain ⟨hm2, fm2⟩ := atB hb2 (b := w1.heap.size) (by simp; try omega)
  have HB2 : Hid (Below w.heap.size w (w2.setCell ⟨w1.heap.size, 1, none⟩ (.slice a2 fn c2))) := ((HB1.out.alloc HB1.out.size _).trans (hb2.mono (by simp; omega))).setCell (p := ⟨w1.heap.size, 1, none⟩) (by simp; omega) _
  have HO1' : Hid (LentOk (w2.setCell ⟨w1.heap.size, 1, none⟩ (.slice a2 fn c2)) (w.heap.size + 1 + 1) w1.heap.size a1 n c1 ss a) := ((HO1.out.later ((Below.refl _ _).alloc (Nat.le_refl _) _)).later hb2).set _ 1 _ (.inr (Nat.le_refl _))
  rw [World.size_alloc, World.size_setCell] at hO2
  have HO2 : Hid (LentOkB (w2.setCell ⟨w1.heap.size, 1, none⟩ (.slice a2 fn c2)) (w1.heap.size + 1) w2.heap.size a2 fn c2 bs fa) := hO2.set _ 1 _ (.inl (by omega))
  clear hb2 hO2 HLF HO1 HB1
  go_wp2_with fail
  go_at_call 100
  refine (HLV.out _ HB2.out).mono ?_
  rintro e w3 ⟨a3, c3, rfl, hO3, hb3⟩
  have hz3 : w2.heap.size ≤ w3.heap.size := by have := hb3.size; simpa using this
  have hz3a : w1.heap.size < w3.heap.size := by omega
  have hz3b : w.heap.size + 1 < w3.heap.size := by omega
  have hz3c : w.heap.size < w3.heap.size := by omega
  obtain ⟨ha3, fa3⟩ := atB hb3 (b := w.heap.size) (by simp; try omega)
  obtain ⟨hb3', fb3⟩ := atB hb3 (b := w.heap.size + 1) (by simp; try omega)
  obtain ⟨hm3, fm3⟩ := atB hb3 (b := w1.heap.size) (by simp; try omega)
  have HB3 : Hid (Below w.heap.size w (w3.setCell ⟨w1.heap.size, 2, none⟩ (.slice a3 vn c3))) := (HB2.out.trans (hb3.mono HB2.out.size)).setCell (p := ⟨w1.heap.size, 2, none⟩) (by simp; omega) _
  have HO1 : Hid (LentOk (w3.setCell ⟨w1.heap.size, 2, none⟩ (.slice a3 vn c3)) (w.heap.size + 1 + 1) w1.heap.size a1 n c1 ss a) := (HO1'.out.later hb3).set _ 2 _ (.inr (Nat.le_refl _))
  have HO2' : Hid (LentOkB (w3.setCell ⟨w1.heap.size, 2, none⟩ (.slice a3 vn c3)) (w1.heap.size + 1) w2.heap.size a2 fn c2 bs fa) := (HO2.out.later hb3).set _ 2 _ (.inl (by omega))
  rw [World.size_setCell] at hO3
  have HO3 : Hid (LentOk (w3.setCell ⟨w1.heap.size, 2, none⟩ (.slice a3 vn c3)) w2.heap.size w3.heap.size a3 vn c3 vs va) := hO3.set _ 2 _ (.inl (by omega))
  clear hb3 hO3 HLV HO1' HO2 HB2
  go_wp2_with fail
  go_at_call 87
  refine (HA.out _ a1 c1 a2 c2 a3 c3 (HQK.out _ _ _ _ _ HO1.out) (HQF.out _ _ _ _ _ HO2'.out) (HQV.out _ _ _ _ _ HO3.out)).mono ?_
  rintro e w4 ⟨rfl, hb4⟩
  have hz4 : w3.heap.size ≤ w4.heap.size := by have := hb4.size; simpa using this
  have hz4a : w1.heap.size < w4.heap.size := by omega
  have hz4b : w.heap.size + 1 < w4.heap.size := by omega
  have hz4c : w.heap.size < w4.heap.size := by omega
  obtain ⟨ha4, fa4⟩ := atB hb4 (b := w.heap.size) (by simp; try omega)
  obtain ⟨hb4', fb4⟩ := atB hb4 (b := w.heap.size + 1) (by simp; try omega)
  obtain ⟨hm4, fm4⟩ := atB hb4 (b := w1.heap.size) (by simp; try omega)
  have HB4 : Hid (Below w.heap.size w w4) := HB3.out.trans (hb4.mono HB3.out.size)
  have HO1' : Hid (LentOk w4 (w.heap.size + 1 + 1) w1.heap.size a1 n c1 ss a) := HO1.out.later hb4
  have HO2 : Hid (LentOkB w4 (w1.heap.size + 1) w2.heap.size a2 fn c2 bs fa) := HO2'.out.later hb4
  have HO3' : Hid (LentOk w4 w2.heap.size w3.heap.size a3 vn c3 vs va) := HO3.out.later hb4
  clear hb4 HO1 HO2' HO3 HA HB3 HQK HQF HQV
  go_wp2_with fail
  go_at_call 104
  refine (HR.out _ HB4.out).mono ?_
  rintro e w5 ⟨rfl, hb5⟩
  have hz5 : w4.heap.size ≤ w5.heap.size := hb5.size
  have hz5a : w1.heap.size < w5.heap.size := by omega
  have hz5b : w.heap.size + 1 < w5.heap.size := by omega
  have hz5c : w.heap.size < w5.heap.size := by omega
  obtain ⟨ha5, fa5⟩ := atB hb5 (b := w.heap.size) (by omega)
  obtain ⟨hb5', fb5⟩ := atB hb5 (b := w.heap.size + 1) (by omega)
  obtain ⟨hm5, fm5⟩ := atB hb5 (b := w1.heap.size) (by omega)
  have HB5 : Hid (Below w.heap.size w w5) := HB4.out.trans (hb5.mono HB4.out.size)
  have HO1 : Hid (LentOk w5 (w.heap.size + 1 + 1) w1.heap.size a1 n c1 ss a) := HO1'.out.later hb5
  have HO2' : Hid (LentOkB w5 (w1.heap.size + 1) w2.heap.size a2 fn c2 bs fa) := HO2.out.later hb5
  have HO3 : Hid (LentOk w5 w2.heap.size w3.heap.size a3 vn c3 vs va) := HO3'.out.later hb5
  clear hb5 HO1' HO2 HO3' HR HB4
  go_wp2_with fail
  go_at_call 102
  refine (HSK.out _ _ _ a1 c1 (by omega) HB5.out HO1.out).mono ?_
  rintro e w6 ⟨rfl, hX6⟩
  have hz6 : w5.heap.size ≤ w6.heap.size := hX6.bel.size
  have hz6a : w1.heap.size < w6.heap.size := by omega
  have hz6c : w.heap.size < w6.heap.size := by omega
  obtain ⟨ha6, fa6⟩ := atB hX6.bel (b := w.heap.size) (by omega)
  have hm6 := atX hX6 (b := w1.heap.size) (Nat.le_refl _)
  have HB6 : Hid (Below w.heap.size w w6) := HB5.out.trans (hX6.bel.mono (by omega))
  have HO2 : Hid (LentOkB w6 (w1.heap.size + 1) w2.heap.size a2 fn c2 bs fa) := HO2'.out.still hX6 (.inr (by omega))
  have HO3' : Hid (LentOk w6 w2.heap.size w3.heap.size a3 vn c3 vs va) := HO3.out.still hX6 (.inr (by omega))
  clear hX6 HO1 HO2' HO3 HSK HB5
  go_wp2_with fail
  go_at_call 102
  refine (HSV.out _ _ _ a3 c3 (by omega) HB6.out HO3'.out).mono ?_
  rintro e w7 ⟨rfl, hX7⟩
  have hz7 : w6.heap.size ≤ w7.heap.size := hX7.bel.size
  have hz7a : w1.heap.size < w7.heap.size := by omega
  have hz7c : w.heap.size < w7.heap.size := by omega
  obtain ⟨ha7, fa7⟩ := atB hX7.bel (b := w.heap.size) (by omega)
  obtain ⟨hm7, fm7⟩ := atB hX7.bel (b := w1.heap.size) (by omega)
  have HB7 : Hid (Below w.heap.size w w7) := HB6.out.trans (hX7.bel.mono (by omega))
  have HO2' : Hid (LentOkB w7 (w1.heap.size + 1) w2.heap.size a2 fn c2 bs fa) := HO2.out.still hX7 (.inl (by omega))
  clear hX7 HO2 HO3' HSV HB6
  go_wp2_with fail
  go_at_call 105
  refine (HSF.out _ _ _ a2 c2 (by omega) HB7.out HO2'.out).mono ?_
  rintro e w8 ⟨rfl, hX8⟩
  have HB8 : Hid (Below w.heap.size w w8) := HB7.out.trans (hX8.bel.mono (by omega))
  clear hX8 HO2' HSF HB7
  go_wp2
  go_ret
  exact ⟨rfl, HB8.out⟩
end Go.Proofs.YtlonjggfnleolaaGreatDoor
