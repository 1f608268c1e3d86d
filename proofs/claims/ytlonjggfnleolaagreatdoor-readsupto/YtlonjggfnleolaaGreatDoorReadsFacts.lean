/-
  The closed facts of the row Reads.
-/
import Derived.Test.YtlonjggfnleolaaGreatDoorRows
import Derived.Test.YtlonjggfnleolaaGreatDoorChecked
import Derived.JoinedCond
import Derived.RowKit
namespace Go.Proofs.YtlonjggfnleolaaGreatDoor
open Go.RowKit
theorem reads_named : Tryz.pinned.checked.prog.funcNamed Rows.readsUptoRow.func = some 4 := by kernel_rfl
theorem reads_closed : joinedFacts Tryz.pinned.checked.prog 4 Tryz.f4 (Rows.OpenSpec.upto Rows.readsSpec).bare Rows.readsUptoRow = true := by kernel_rfl
end Go.Proofs.YtlonjggfnleolaaGreatDoor
