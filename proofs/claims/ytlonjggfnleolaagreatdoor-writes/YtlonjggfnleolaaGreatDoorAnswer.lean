/-
  check: Answer, for every command and answer.
-/
import Derived.Test.YtlonjggfnleolaaGreatDoorFinds
namespace Go.Proofs.YtlonjggfnleolaaGreatDoor
open Go.RowKit
set_option linter.unusedVariables false

/-- May it be an answer to the command? -/
def answerB (ck : Int) (ss : List ByteArray) (val : ByteArray) (ak : Int) (bs : List Bool) (vs : List ByteArray) (wd : ByteArray) : Bool :=
  (decide (ck = 4) || cmdB ck ss val) && (if ak = 1 then decide (ck = 1) && findsB bs vs ss.length else if ak = 2 then decide (ck = 2) else if ak = 3 ∨ ak = 4 then decide (ck = 3) else if ak = 5 then wordB wd else false)

theorem beqZ (a b : Int) : (a == b) = decide (a = b) := by
  by_cases h : a = b
  · simp [h]
  · simp [h]
set_option maxRecDepth 20000 in
set_option maxHeartbeats 4000000 in
theorem answer_any (ck : Int) (a : Option Addr) (n c : Nat) (ss : List ByteArray) (val cw : ByteArray) (ft : Bool) (cid : Int) (ak : Int) (fa va : Option Addr) (fn fc vn vc : Nat) (bs : List Bool) (vs : List ByteArray) (wd : ByteArray) (w : World) (hs : StrsIn w a n c ss) (hval : val.size ≤ maxLen) (hf : BoolsIn w fa fn fc bs) (hv : StrsIn w va vn vc vs) (hw : wd.size ≤ maxLen) :
    Calls Tryz.prog 123 #[cmdV6 ck (.slice a n c) val cw ft cid, ansV ak (.slice fa fn fc) (.slice va vn vc) wd] w fun e w' => e = .returned (.bool (answerB ck ss val ak bs vs wd)) ∧ Below w.heap.size w w' := by
  have HB2 := hide' (show ∀ x y, Below w.heap.size w ((w.alloc x).alloc y) from fun x y => ((Below.refl _ _).alloc (Nat.le_refl _) _).alloc (by simp) _)
  have HC : Hid (∀ x y, Calls Tryz.prog 48 #[cmdV6 ck (.slice a n c) val cw ft cid] ((w.alloc x).alloc y) fun e w' => e = .returned (.bool (cmdB ck ss val)) ∧ Below ((w.alloc x).alloc y).heap.size ((w.alloc x).alloc y) w') := fun x y => cmd_any ck (.slice a n c) ss val cw ft cid _ (hs.later (HB2.out x y)).strs hval
  have HFi : Hid (∀ W, Below w.heap.size w W → Calls Tryz.prog 156 #[ansV ak (.slice fa fn fc) (.slice va vn vc) wd, .int .i64 n] W fun e w' => e = .returned (.bool (findsB bs vs ss.length)) ∧ Below W.heap.size W w') := fun W hW => by
    rw [hs.len]
    exact finds_any ak fa va fn fc vn vc bs vs wd n W (hf.later hW) (hv.later hW)
  have HWd : Hid (∀ W, Calls Tryz.prog 157 #[.string wd] W fun e w' => e = .returned (.bool (wordB wd)) ∧ w' = W) := fun W => word_any wd W hw
  have HA := hide' (show answerB ck ss val ak bs vs wd = ((decide (ck = 4) || cmdB ck ss val) && (if ak = 1 then decide (ck = 1) && findsB bs vs ss.length else if ak = 2 then decide (ck = 2) else if ak = 3 ∨ ak = 4 then decide (ck = 3) else if ak = 5 then wordB wd else false)) from rfl)
  generalize answerB ck ss val ak bs vs wd = A at *
  generalize findsB bs vs ss.length = F at *
  generalize wordB wd = D at *
  generalize cmdB ck ss val = C at *
  clear hs hval hf hv hw
  unfold cmdV6 ansV at *
  by_cases h4 : ck = 4
  · subst h4
    have HA2 := hide' HA.out
    by_cases k1 : ak = 1
    · subst k1
      have H := hide' (show A = false by rw [HA.out]; simp)
      clear HA HA2
      go_enter Tryz.func123, Tryz.ntmps123
      go_wp2
      go_ret
      exact ⟨ret_bool H.out.symm, HB2.out _ _⟩
    by_cases k2 : ak = 2
    · subst k2
      have H := hide' (show A = false by rw [HA.out]; simp)
      clear HA HA2
      go_enter Tryz.func123, Tryz.ntmps123
      go_wp2
      go_ret
      exact ⟨ret_bool H.out.symm, HB2.out _ _⟩
    by_cases k3 : ak = 3
    · subst k3
      have H := hide' (show A = false by rw [HA.out]; simp)
      clear HA HA2
      go_enter Tryz.func123, Tryz.ntmps123
      go_wp2
      go_ret
      exact ⟨ret_bool H.out.symm, HB2.out _ _⟩
    by_cases k4 : ak = 4
    · subst k4
      have H := hide' (show A = false by rw [HA.out]; simp)
      clear HA HA2
      go_enter Tryz.func123, Tryz.ntmps123
      go_wp2
      go_ret
      exact ⟨ret_bool H.out.symm, HB2.out _ _⟩
    by_cases k5 : ak = 5
    · subst k5
      have H := hide' (show A = D by rw [HA.out]; simp)
      clear HA HA2
      go_enter Tryz.func123, Tryz.ntmps123
      go_wp2_with (go_at_call 157; refine (HWd.out _).mono ?_; rintro e w' ⟨rfl, rfl⟩)
      go_ret
      exact ⟨ret_bool H.out.symm, HB2.out _ _⟩
    have H := hide' (show A = false by rw [HA.out]; simp [k1, k2, k3, k4, k5])
    have k1' : (ak == 1) = false := by simpa using k1
    have k2' : (ak == 2) = false := by simpa using k2
    have k3' : (ak == 3) = false := by simpa using k3
    have k4' : (ak == 4) = false := by simpa using k4
    have k5' : (ak == 5) = false := by simpa using k5
    clear HA HA2
    go_enter Tryz.func123, Tryz.ntmps123
    go_wp2
    go_ret
    exact ⟨ret_bool H.out.symm, HB2.out _ _⟩
  · have h4' : (ck != 4) = true := by simpa using h4
    cases C with
    | false =>
      have H := hide' (show A = false by rw [HA.out]; simp [h4])
      clear HA
      go_enter Tryz.func123, Tryz.ntmps123
      go_wp2_with fail
      go_at_call 48
      refine (HC.out _ _).mono ?_
      rintro e w1 ⟨rfl, hb1⟩
      have hW := (HB2.out _ _).trans (hb1.mono (by simp; omega))
      have k0 := (hb1.cell (p := ⟨w.heap.size, 0, none⟩) (by simp; omega))
      have k1c := (hb1.cell (p := ⟨w.heap.size, 1, none⟩) (by simp; omega))
      have m0 := (hb1.cell (p := ⟨w.heap.size + 1, 0, none⟩) (by simp))
      have m1 := (hb1.cell (p := ⟨w.heap.size + 1, 1, none⟩) (by simp))
      have m2 := (hb1.cell (p := ⟨w.heap.size + 1, 2, none⟩) (by simp))
      have m3 := (hb1.cell (p := ⟨w.heap.size + 1, 3, none⟩) (by simp))
      have HW := hide' hW
      clear hb1 hW HC HB2
      go_wp2
      go_ret
      exact ⟨ret_bool H.out.symm, HW.out⟩
    | true =>
      have HA2 := hide' (show A = (if ak = 1 then decide (ck = 1) && F else if ak = 2 then decide (ck = 2) else if ak = 3 ∨ ak = 4 then decide (ck = 3) else if ak = 5 then D else false) by rw [HA.out]; simp)
      clear HA
      by_cases k1 : ak = 1
      · subst k1
        by_cases c1 : ck = 1
        · subst c1
          have H := hide' (show A = F by rw [HA2.out]; simp)
          clear HA2 h4 h4'
          go_enter Tryz.func123, Tryz.ntmps123
          go_wp2_with fail
          go_at_call 48
          refine (HC.out _ _).mono ?_
          rintro e w1 ⟨rfl, hb1⟩
          have hW := (HB2.out _ _).trans (hb1.mono (by simp; omega))
          have k0 := (hb1.cell (p := ⟨w.heap.size, 0, none⟩) (by simp; omega))
          have k1c := (hb1.cell (p := ⟨w.heap.size, 1, none⟩) (by simp; omega))
          have m0 := (hb1.cell (p := ⟨w.heap.size + 1, 0, none⟩) (by simp))
          have m1 := (hb1.cell (p := ⟨w.heap.size + 1, 1, none⟩) (by simp))
          have m2 := (hb1.cell (p := ⟨w.heap.size + 1, 2, none⟩) (by simp))
          have m3 := (hb1.cell (p := ⟨w.heap.size + 1, 3, none⟩) (by simp))
          have HW := hide' hW
          clear hb1 hW HC HB2
          go_wp2_with fail
          go_at_call 156
          refine (HFi.out _ HW.out).mono ?_
          rintro e w2 ⟨rfl, hb2⟩
          have H2 := hide' (HW.out.trans (hb2.mono HW.out.size))
          clear hb2
          go_wp2
          go_ret
          exact ⟨ret_bool H.out.symm, H2.out⟩
        · have c1' : (ck == 1) = false := by simpa using c1
          have H := hide' (show A = false by rw [HA2.out]; simp [c1])
          clear HA2
          go_enter Tryz.func123, Tryz.ntmps123
          go_wp2_with fail
          go_at_call 48
          refine (HC.out _ _).mono ?_
          rintro e w1 ⟨rfl, hb1⟩
          have hW := (HB2.out _ _).trans (hb1.mono (by simp; omega))
          have k0 := (hb1.cell (p := ⟨w.heap.size, 0, none⟩) (by simp; omega))
          have k1c := (hb1.cell (p := ⟨w.heap.size, 1, none⟩) (by simp; omega))
          have m0 := (hb1.cell (p := ⟨w.heap.size + 1, 0, none⟩) (by simp))
          have m1 := (hb1.cell (p := ⟨w.heap.size + 1, 1, none⟩) (by simp))
          have m2 := (hb1.cell (p := ⟨w.heap.size + 1, 2, none⟩) (by simp))
          have m3 := (hb1.cell (p := ⟨w.heap.size + 1, 3, none⟩) (by simp))
          have HW := hide' hW
          clear hb1 hW HC HB2
          go_wp2
          go_ret
          exact ⟨ret_bool H.out.symm, HW.out⟩
      by_cases k2 : ak = 2
      · subst k2
        have H := hide' (show A = (ck == 2) by rw [HA2.out, beqZ]; simp)
        clear HA2
        go_enter Tryz.func123, Tryz.ntmps123
        go_wp2_with fail
        go_at_call 48
        refine (HC.out _ _).mono ?_
        rintro e w1 ⟨rfl, hb1⟩
        have hW := (HB2.out _ _).trans (hb1.mono (by simp; omega))
        have k0 := (hb1.cell (p := ⟨w.heap.size, 0, none⟩) (by simp; omega))
        have k1c := (hb1.cell (p := ⟨w.heap.size, 1, none⟩) (by simp; omega))
        have m0 := (hb1.cell (p := ⟨w.heap.size + 1, 0, none⟩) (by simp))
        have m1 := (hb1.cell (p := ⟨w.heap.size + 1, 1, none⟩) (by simp))
        have m2 := (hb1.cell (p := ⟨w.heap.size + 1, 2, none⟩) (by simp))
        have m3 := (hb1.cell (p := ⟨w.heap.size + 1, 3, none⟩) (by simp))
        have HW := hide' hW
        clear hb1 hW HC HB2
        go_wp2
        go_ret
        exact ⟨ret_bool H.out.symm, HW.out⟩
      by_cases k3 : ak = 3
      · subst k3
        have H := hide' (show A = (ck == 3) by rw [HA2.out, beqZ]; simp)
        clear HA2
        go_enter Tryz.func123, Tryz.ntmps123
        go_wp2_with fail
        go_at_call 48
        refine (HC.out _ _).mono ?_
        rintro e w1 ⟨rfl, hb1⟩
        have hW := (HB2.out _ _).trans (hb1.mono (by simp; omega))
        have k0 := (hb1.cell (p := ⟨w.heap.size, 0, none⟩) (by simp; omega))
        have k1c := (hb1.cell (p := ⟨w.heap.size, 1, none⟩) (by simp; omega))
        have m0 := (hb1.cell (p := ⟨w.heap.size + 1, 0, none⟩) (by simp))
        have m1 := (hb1.cell (p := ⟨w.heap.size + 1, 1, none⟩) (by simp))
        have m2 := (hb1.cell (p := ⟨w.heap.size + 1, 2, none⟩) (by simp))
        have m3 := (hb1.cell (p := ⟨w.heap.size + 1, 3, none⟩) (by simp))
        have HW := hide' hW
        clear hb1 hW HC HB2
        go_wp2
        go_ret
        exact ⟨ret_bool H.out.symm, HW.out⟩
      by_cases k4 : ak = 4
      · subst k4
        have H := hide' (show A = (ck == 3) by rw [HA2.out, beqZ]; simp)
        clear HA2
        go_enter Tryz.func123, Tryz.ntmps123
        go_wp2_with fail
        go_at_call 48
        refine (HC.out _ _).mono ?_
        rintro e w1 ⟨rfl, hb1⟩
        have hW := (HB2.out _ _).trans (hb1.mono (by simp; omega))
        have k0 := (hb1.cell (p := ⟨w.heap.size, 0, none⟩) (by simp; omega))
        have k1c := (hb1.cell (p := ⟨w.heap.size, 1, none⟩) (by simp; omega))
        have m0 := (hb1.cell (p := ⟨w.heap.size + 1, 0, none⟩) (by simp))
        have m1 := (hb1.cell (p := ⟨w.heap.size + 1, 1, none⟩) (by simp))
        have m2 := (hb1.cell (p := ⟨w.heap.size + 1, 2, none⟩) (by simp))
        have m3 := (hb1.cell (p := ⟨w.heap.size + 1, 3, none⟩) (by simp))
        have HW := hide' hW
        clear hb1 hW HC HB2
        go_wp2
        go_ret
        exact ⟨ret_bool H.out.symm, HW.out⟩
      by_cases k5 : ak = 5
      · subst k5
        have H := hide' (show A = D by rw [HA2.out]; simp)
        clear HA2
        go_enter Tryz.func123, Tryz.ntmps123
        go_wp2_with fail
        go_at_call 48
        refine (HC.out _ _).mono ?_
        rintro e w1 ⟨rfl, hb1⟩
        have hW := (HB2.out _ _).trans (hb1.mono (by simp; omega))
        have k0 := (hb1.cell (p := ⟨w.heap.size, 0, none⟩) (by simp; omega))
        have k1c := (hb1.cell (p := ⟨w.heap.size, 1, none⟩) (by simp; omega))
        have m0 := (hb1.cell (p := ⟨w.heap.size + 1, 0, none⟩) (by simp))
        have m1 := (hb1.cell (p := ⟨w.heap.size + 1, 1, none⟩) (by simp))
        have m2 := (hb1.cell (p := ⟨w.heap.size + 1, 2, none⟩) (by simp))
        have m3 := (hb1.cell (p := ⟨w.heap.size + 1, 3, none⟩) (by simp))
        have HW := hide' hW
        clear hb1 hW HC HB2
        go_wp2_with (go_at_call 157; refine (HWd.out _).mono ?_; rintro e w' ⟨rfl, rfl⟩)
        go_ret
        exact ⟨ret_bool H.out.symm, HW.out⟩
      have H := hide' (show A = false by rw [HA2.out]; simp [k1, k2, k3, k4, k5])
      have k1' : (ak == 1) = false := by simpa using k1
      have k2' : (ak == 2) = false := by simpa using k2
      have k3' : (ak == 3) = false := by simpa using k3
      have k4' : (ak == 4) = false := by simpa using k4
      have k5' : (ak == 5) = false := by simpa using k5
      clear HA2
      go_enter Tryz.func123, Tryz.ntmps123
      go_wp2_with fail
      go_at_call 48
      refine (HC.out _ _).mono ?_
      rintro e w1 ⟨rfl, hb1⟩
      have hW := (HB2.out _ _).trans (hb1.mono (by simp; omega))
      have k0 := (hb1.cell (p := ⟨w.heap.size, 0, none⟩) (by simp; omega))
      have k1c := (hb1.cell (p := ⟨w.heap.size, 1, none⟩) (by simp; omega))
      have m0 := (hb1.cell (p := ⟨w.heap.size + 1, 0, none⟩) (by simp))
      have m1 := (hb1.cell (p := ⟨w.heap.size + 1, 1, none⟩) (by simp))
      have m2 := (hb1.cell (p := ⟨w.heap.size + 1, 2, none⟩) (by simp))
      have m3 := (hb1.cell (p := ⟨w.heap.size + 1, 3, none⟩) (by simp))
      have HW := hide' hW
      clear hb1 hW HC HB2
      go_wp2
      go_ret
      exact ⟨ret_bool H.out.symm, HW.out⟩
end Go.Proofs.YtlonjggfnleolaaGreatDoor
