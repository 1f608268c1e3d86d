/-
  The closed facts of the row Nexts.
-/
import Derived.Test.YtlonjggfnleolaaGreatDoorRows
import Derived.Test.YtlonjggfnleolaaGreatDoorChecked
import Derived.JoinedCond
import Derived.RowKit
namespace Go.Proofs.YtlonjggfnleolaaGreatDoor
open Go.RowKit
theorem nexts_named : Tryz.pinned.checked.prog.funcNamed Rows.nextsUptoRow.func = some 5 := by kernel_rfl
theorem nexts_closed : joinedFacts Tryz.pinned.checked.prog 5 Tryz.f5 (Rows.OpenSpec.upto Rows.nextsSpec).bare Rows.nextsUptoRow = true := by kernel_rfl
end Go.Proofs.YtlonjggfnleolaaGreatDoor
