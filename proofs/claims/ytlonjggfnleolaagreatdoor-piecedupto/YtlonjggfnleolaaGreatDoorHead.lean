/-
  The seven bytes of a frame: the program and the reference write the same.
-/
import Derived.Test.YtlonjggfnleolaaGreatDoorCmds
import Derived.Laws.BytesArg
namespace Go.Proofs.YtlonjggfnleolaaGreatDoor
open Go.RowKit
set_option linter.unusedVariables false

theorem conv7 (w : World) (b0 b1 b2 b3 b4 b5 b6 : Int) :
    (convert 80 9 (.slice (some ⟨w.heap.size, 0, none⟩) 7 7)).run Tryz.prog (w.alloc (.cells #[.int .u8 b0, .int .u8 b1, .int .u8 b2, .int .u8 b3, .int .u8 b4, .int .u8 b5, .int .u8 b6] 5)) =
      .ok (.string (strOfNums [b0, b1, b2, b3, b4, b5, b6])) (w.alloc (.cells #[.int .u8 b0, .int .u8 b1, .int .u8 b2, .int .u8 b3, .int .u8 b4, .int .u8 b5, .int .u8 b6] 5)) :=
  run_convert_bytes_arg (P := Tryz.prog) _ 80 5 Tryz.underlying80 Tryz.underlying5 w.heap.size 0 7 7 [b0, b1, b2, b3, b4, b5, b6] rfl (fun i hi => by
    have h7 : i = 0 ∨ i = 1 ∨ i = 2 ∨ i = 3 ∨ i = 4 ∨ i = 5 ∨ i = 6 := by omega
    rcases h7 with rfl | rfl | rfl | rfl | rfl | rfl | rfl <;> simp) 9 Tryz.underlying9

def headB (a b c size id : Int) : ByteArray := strOfNums [a, b, c, size % 256, size / 256, id % 256, id / 256]

set_option maxHeartbeats 1000000 in
theorem frame_any (a b c size id : Int) (w : World) (ha : 0 ≤ a ∧ a < 256) (hb : 0 ≤ b ∧ b < 256) (hc : 0 ≤ c ∧ c < 256) (hs : 0 ≤ size ∧ size < 65536) (hi : 0 ≤ id ∧ id < 65536) :
    Calls Tryz.prog 180 #[.int .i64 a, .int .i64 b, .int .i64 c, .int .i64 size, .int .i64 id] w fun e w' => e = .returned (.string (headB a b c size id)) ∧ Below w.heap.size w w' := by
  have hcv := conv7
  obtain ⟨a1, a2⟩ := ha
  obtain ⟨b1, b2⟩ := hb
  obtain ⟨c1, c2⟩ := hc
  obtain ⟨s1, s2⟩ := hs
  obtain ⟨i1, i2⟩ := hi
  go_enter Tryz.func180, Tryz.ntmps180
  go_wp2
  go_ret
  exact ⟨rfl, (Below.refl _ _).alloc (Nat.le_refl _) _⟩

set_option maxHeartbeats 1000000 in
theorem head_any (a b c size id : Int) (w : World) (ha : 0 ≤ a ∧ a < 256) (hb : 0 ≤ b ∧ b < 256) (hc : 0 ≤ c ∧ c < 256) (hs : 0 ≤ size ∧ size < 65536) (hi : 0 ≤ id ∧ id < 65536) :
    Calls Tryz.prog 141 #[.int .i64 a, .int .i64 b, .int .i64 c, .int .i64 size, .int .i64 id] w fun e w' => e = .returned (.string (headB a b c size id)) ∧ Below w.heap.size w w' := by
  have hcv := conv7
  obtain ⟨a1, a2⟩ := ha
  obtain ⟨b1, b2⟩ := hb
  obtain ⟨c1, c2⟩ := hc
  obtain ⟨s1, s2⟩ := hs
  obtain ⟨i1, i2⟩ := hi
  go_enter Tryz.func141, Tryz.ntmps141
  go_wp2
  go_ret
  exact ⟨rfl, (Below.refl _ _).alloc (Nat.le_refl _) _⟩
end Go.Proofs.YtlonjggfnleolaaGreatDoor
