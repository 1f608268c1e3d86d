/-
  What Of and Decoder answer.
-/
import Derived.Test.YtlonjggfnleolaaGreatDoorBase
namespace Go.Proofs.YtlonjggfnleolaaGreatDoor
open Go.RowKit
set_option linter.unusedVariables false

set_option maxHeartbeats 400000 in
theorem of3 (w : World) :
    Calls Tryz.prog 47 #[.int .i64 3] w fun e w' => e = .returned (.tuple #[.iface 162 (.agg #[]), .bool true]) ∧ w' = w := by
  go_enter Tryz.func47, Tryz.ntmps47
  go_wp2
  go_ret2
  exact ⟨rfl, rfl⟩
set_option maxHeartbeats 400000 in
theorem of2 (w : World) :
    Calls Tryz.prog 47 #[.int .i64 2] w fun e w' => e = .returned (.tuple #[.iface 161 (.agg #[]), .bool true]) ∧ w' = w := by
  go_enter Tryz.func47, Tryz.ntmps47
  go_wp2
  go_ret2
  exact ⟨rfl, rfl⟩
set_option maxHeartbeats 400000 in
theorem of1 (w : World) :
    Calls Tryz.prog 47 #[.int .i64 1] w fun e w' => e = .returned (.tuple #[.iface 160 (.agg #[]), .bool true]) ∧ w' = w := by
  go_enter Tryz.func47, Tryz.ntmps47
  go_wp2
  go_ret2
  exact ⟨rfl, rfl⟩

set_option maxHeartbeats 400000 in
theorem decoder3 (w : World) :
    Calls Tryz.prog 43 #[.int .i64 3] w fun e w' => e = .returned (.tuple #[.pointer (some ⟨w.heap.size, 0, none⟩), .int .i64 0]) ∧
      w' = w.alloc (.cells #[.iface 162 (.agg #[]), .slice none 0 0, .int .i64 0, .bool false, .bool false] 134) := by
  go_enter Tryz.func43, Tryz.ntmps43
  go_wp2_with (go_at_call 47; refine (of3 _).mono ?_; rintro e w' ⟨rfl, rfl⟩)
  go_ret2
  exact ⟨rfl, rfl⟩
end Go.Proofs.YtlonjggfnleolaaGreatDoor
