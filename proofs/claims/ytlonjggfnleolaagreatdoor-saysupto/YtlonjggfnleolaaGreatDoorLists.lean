/-
  lists: Ask, for every right command.
-/
import Derived.Test.YtlonjggfnleolaaGreatDoorLines
import Derived.Test.YtlonjggfnleolaaGreatDoorReadEx
import Derived.Deep.Cut
namespace Go.Proofs.YtlonjggfnleolaaGreatDoor
open Go.RowKit
set_option linter.unusedVariables false

/-- Texts in a block T with room for cap. -/
def TextsAt (W : World) (T cap : Nat) (xs : List ByteArray) : Prop := ∃ Z : Array Value, W.heap[T]? = some (.cells Z 9 (0, 0)) ∧ Z.size = cap ∧ xs.length ≤ cap ∧ ∀ (i : Nat) (x : ByteArray), xs[i]? = some x → Z[i]? = some (.string x)

def textL (t : ByteArray) : List UInt8 := (ByteArray.mk #[36] ++ sizedB t).data.toList
def listsAskL (xs : List ByteArray) : List UInt8 := (ByteArray.mk #[42] ++ dec100 xs.length ++ ByteArray.mk #[10]).data.toList ++ xs.flatMap textL

end Go.Proofs.YtlonjggfnleolaaGreatDoor
