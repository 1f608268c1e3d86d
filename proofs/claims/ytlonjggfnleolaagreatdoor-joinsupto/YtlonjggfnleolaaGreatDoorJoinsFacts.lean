import Derived.Test.YtlonjggfnleolaaGreatDoorRows
import Derived.JoinedCond
import Derived.RowKit
namespace Go.Proofs.YtlonjggfnleolaaGreatDoor
open Go.RowKit
theorem joins_named:Tryz.pinned.checked.prog.funcNamed Rows.joinsUptoRow.func=some 10:=by kernel_rfl
theorem joins_closed:joinedFacts Tryz.pinned.checked.prog 10 Tryz.f10 (Rows.OpenSpec.upto Rows.joinsSpec).bare Rows.joinsUptoRow=true:=by kernel_rfl
end Go.Proofs.YtlonjggfnleolaaGreatDoor
