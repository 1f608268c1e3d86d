/-
  The closed facts of the row Says.
-/
import Derived.Test.YtlonjggfnleolaaGreatDoorRows
import Derived.Test.YtlonjggfnleolaaGreatDoorChecked
import Derived.JoinedCond
import Derived.RowKit
namespace Go.Proofs.YtlonjggfnleolaaGreatDoor
open Go.RowKit
theorem says_named : Tryz.pinned.checked.prog.funcNamed Rows.saysUptoRow.func = some 9 := by kernel_rfl
theorem says_closed : joinedFacts Tryz.pinned.checked.prog 9 Tryz.f9 (Rows.OpenSpec.upto Rows.saysSpec).bare Rows.saysUptoRow = true := by kernel_rfl
end Go.Proofs.YtlonjggfnleolaaGreatDoor
