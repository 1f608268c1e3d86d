import Derived.Test.YtlonjggfnleolaaGreatDoorRows
import Derived.JoinedCond
import Derived.RowKit
namespace Go.Proofs.YtlonjggfnleolaaGreatDoor
open Go.RowKit Go.Proofs.Tryz
theorem Gj:Tryz.pinned.checked.prog.funcNamed Rows.allUptoRow.func=some 14:=by kernel_rfl
theorem QN:joinedFacts Tryz.pinned.checked.prog 14 f14 (Rows.OpenSpec.upto Rows.allSpec).bare Rows.allUptoRow=true:=by kernel_rfl
end Go.Proofs.YtlonjggfnleolaaGreatDoor
