/-
  What the walk of package speech does at a count of one digit.
-/
import Derived.Test.YtlonjggfnleolaaGreatDoorStep
namespace Go.Proofs.YtlonjggfnleolaaGreatDoor
open Go.RowKit
set_option linter.unusedVariables false
set_option maxHeartbeats 1000000 in
theorem count1_ok (w : World) (B g o cap : Nat) (bs : List UInt8) (t : Nat) (d : UInt8) (lo hi : Int) (W : WalkAt w B g o cap bs t) (hb : bs[t]? = some d) (hb2 : bs[t + 1]? = some 10)
    (hd1 : 48 ≤ d.toNat) (hd2 : d.toNat ≤ 57) (hlo : lo ≤ (d.toNat : Int) - 48) (hhi : (d.toNat : Int) - 48 ≤ hi) :
    Calls Tryz.prog 254 #[.pointer (some ⟨B, 0, none⟩), .int .i64 lo, .int .i64 hi] w fun e w' => e = .returned (.int .i64 ((d.toNat : Int) - 48)) ∧ WalkAt w' B g o cap bs (t + 2) ∧ Only B w w' := by
  have ht := get_lt hb
  have ht2 := get_lt hb2
  have sm := W.small
  have HN := fun w W => next_ok w B g o cap bs t d W hb
  have HN2 := fun w W => next_ok w B g o cap bs (t + 1) 10 W hb2
  have x1 : (48 : Int) ≤ (d.toNat : Int) := by omega
  have x2 : (d.toNat : Int) ≤ 57 := by omega
  generalize (d.toNat : Int) = x at *
  clear hb hb2 hd1 hd2
  have HX : Hid (∀ (w : World), WalkAt w B g o cap bs t → Calls Tryz.prog 258 #[Value.pointer (some { block := B, off := 0 })] w fun e w' => e = Ending.returned (Value.tuple #[Value.int IntKind.u8 x, Value.bool true]) ∧ WalkAt w' B g o cap bs t ∧ Only B w w') := HN
  have HX2 : Hid (∀ (w : World), WalkAt w B g o cap bs (t + 1) → Calls Tryz.prog 258 #[Value.pointer (some { block := B, off := 0 })] w fun e w' => e = Ending.returned (Value.tuple #[Value.int IntKind.u8 10, Value.bool true]) ∧ WalkAt w' B g o cap bs (t + 1) ∧ Only B w w') := HN2
  clear HN HN2
  go_enter Tryz.func254, Tryz.ntmps254
  go_wp2
  refine wp_loop_rounds 2 ?_
  rw [rounds_succ]
  go_wp2_with fail
  go_at_call 258
  refine (HX.out _ W).mono ?_
  rintro e w1 ⟨rfl, W1, O1⟩
  have HW : Hid (WalkAt w1 B g o cap bs t) := W1
  obtain ⟨c0, c1, c2, c3, f1, f2, f3, gB, _, hbs⟩ := W1
  clear hbs W
  have y1 : ¬ x - 48 < 0 := by omega
  have y2 : ¬ 9 < x - 48 := by omega
  have y3 : ¬ hi < x - 48 := by omega
  have y4 : ¬ x - 48 < lo := by omega
  go_wp2
  have hO : Only B w1 (w1.setCell ⟨B, 1, none⟩ (.int .i64 ((t : Int) + 1))) := (Only.refl B w1).setCell rfl _
  have W2 : WalkAt (w1.setCell ⟨B, 1, none⟩ (.int .i64 ((t : Int) + 1))) B g o cap bs (t + 1) :=
    HW.out.kept hO (by go_simp) (by go_simp) (by go_simp) (by go_simp) (fun j => by go_simp)
  rw [rounds_succ]
  go_wp2_with fail
  go_at_call 258
  refine (HX2.out _ W2).mono ?_
  rintro e w3 ⟨rfl, W3, O3⟩
  have HW3 : Hid (WalkAt w3 B g o cap bs (t + 1)) := W3
  obtain ⟨d0, d1, d2, d3, k1, k2, k3, _, _, hbs⟩ := W3
  clear hbs W2
  go_wp2
  go_ret
  have hO2 : Only B w3 (w3.setCell ⟨B, 1, none⟩ (.int .i64 ((t : Int) + 1 + 1))) := (Only.refl B w3).setCell rfl _
  refine ⟨ret_int rfl, HW3.out.kept hO2 (by go_simp) (by go_simp; omega) (by go_simp) (by go_simp) (fun j => by go_simp), O1.trans (hO.trans (O3.trans hO2))⟩
end Go.Proofs.YtlonjggfnleolaaGreatDoor
