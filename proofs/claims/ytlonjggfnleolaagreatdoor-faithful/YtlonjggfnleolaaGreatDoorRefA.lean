import Derived.Test.YtlonjggfnleolaaGreatDoorKind
import Derived.Test.YtlonjggfnleolaaGreatDoorPure
namespace Go.Proofs.YtlonjggfnleolaaGreatDoor
open Go.RowKit
set_option linter.unusedVariables false
variable {s:ByteArray}{k:Nat}
theorem getD_str (h:k<s.size):s.data.toList.getD k 0=s[k]:=by
 rw[List.getD,List.getElem?_eq_getElem (by simpa using h)];rfl
theorem byAt_str (h:k<s.size):byAt s.data.toList k=s[k].toNat:=by
 show(s.data.toList.getD k 0).toNat=_;rw[getD_str h]
end Go.Proofs.YtlonjggfnleolaaGreatDoor
