import Derived.Test.YtlonjggfnleolaaGreatDoorRows
import Derived.JoinedCond
import Derived.RowKit
namespace Go.Proofs.YtlonjggfnleolaaGreatDoor
open Go.RowKit
theorem settled_named:Tryz.pinned.checked.prog.funcNamed Rows.settledRow.func=some 12:=by kernel_rfl
theorem settled_closed:joinedFacts Tryz.pinned.checked.prog 12 Tryz.f12 Rows.settledSpec Rows.settledRow=true:=by kernel_rfl
end Go.Proofs.YtlonjggfnleolaaGreatDoor
