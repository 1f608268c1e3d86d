import Derived.Test.YtlonjggfnleolaaGreatDoorRows
import Derived.JoinedCond
import Derived.RowKit
namespace Go.Proofs.YtlonjggfnleolaaGreatDoor
open Go.RowKit
theorem apart_named:Tryz.pinned.checked.prog.funcNamed Rows.apartRow.func=some 13:=by kernel_rfl
theorem apart_closed:joinedFacts Tryz.pinned.checked.prog 13 Tryz.f13 Rows.apartSpec Rows.apartRow=true:=by kernel_rfl
end Go.Proofs.YtlonjggfnleolaaGreatDoor
