import Derived.Test.YtlonjggfnleolaaGreatDoorLines
namespace Go.Proofs.YtlonjggfnleolaaGreatDoor
open Go.RowKit
set_option linter.unusedVariables false
def TextsAt (W:World)(T cap:Nat)(xs:List ByteArray):Prop:=∃Z:Array Value,W.heap[T]?=some (.cells Z 9 (0,0))∧Z.size=cap∧xs.length≤cap∧∀(i:Nat) (x:ByteArray),xs[i]?=some x→Z[i]?=some (.string x)
def textL (t:ByteArray):List UInt8:=(ByteArray.mk #[36]++sizedB t).data.toList
def listsAskL (xs:List ByteArray):List UInt8:=(ByteArray.mk #[42]++dec100 xs.length++ByteArray.mk #[10]).data.toList++xs.flatMap textL
theorem starL_len (L:Nat):(ByteArray.mk #[42]++dec100 L++ByteArray.mk #[10]).size≤4:=by
 have:=dec100_size L;have e:(ByteArray.mk #[42]).size=1:=rfl;have e2:(ByteArray.mk #[10]).size=1:=rfl;rw[ByteArray.size_append,ByteArray.size_append];omega
end Go.Proofs.YtlonjggfnleolaaGreatDoor
