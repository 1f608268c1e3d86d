import Derived.Test.YtlonjggfnleolaaGreatDoorOwnA
import Derived.Test.YtlonjggfnleolaaGreatDoorRefD
import Derived.Test.YtlonjggfnleolaaGreatDoorDecode
import Derived.Test.YtlonjggfnleolaaGreatDoorRdrH
import Derived.Deep.RegionLaw
namespace Go.Proofs.YtlonjggfnleolaaGreatDoor
open Go.RowKit Go.Shelf
set_option linter.unusedVariables false
structure CmL (W wr:World)(lo B:Nat)(S:Nat→Prop)(rv:Value)(M:List TxM)(N:List CmM)(nx:Nat)(csv cmv ssv smv l:Value)(n:Nat)(ys:List Value):Prop where
 own:OwnW wr lo B S rv M N nx csv cmv ssv smv
 row:Row wr lo 36 6 l n ys
 kept:∀(b:Nat) (o:Obj),W.heap[b]?=some o→b≠B→l.ownBlock≠some b→wr.heap[b]?=some o
 below:Below lo W wr
end Go.Proofs.YtlonjggfnleolaaGreatDoor
