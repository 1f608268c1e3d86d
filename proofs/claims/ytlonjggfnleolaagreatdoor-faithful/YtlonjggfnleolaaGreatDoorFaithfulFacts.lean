import Derived.Test.YtlonjggfnleolaaGreatDoorRows
import Derived.JoinedCond
import Derived.RowKit
namespace Go.Proofs.YtlonjggfnleolaaGreatDoor
open Go.RowKit
theorem faithful_named:Tryz.pinned.checked.prog.funcNamed Rows.faithfulRow.func=some 11:=by kernel_rfl
theorem faithful_closed:joinedFacts Tryz.pinned.checked.prog 11 Tryz.f11 Rows.faithfulSpec Rows.faithfulRow=true:=by kernel_rfl
end Go.Proofs.YtlonjggfnleolaaGreatDoor
