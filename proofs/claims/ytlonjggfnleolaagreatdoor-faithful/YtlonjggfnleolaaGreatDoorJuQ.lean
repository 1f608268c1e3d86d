import Derived.Test.YtlonjggfnleolaaGreatDoorJuQa
import Derived.Test.YtlonjggfnleolaaGreatDoorTells
namespace Go.Proofs.YtlonjggfnleolaaGreatDoor
open Go.RowKit Go.Shelf Go.Conc
set_option linter.unusedVariables false
def waitLen (w:World)(C:Nat):Nat:=match w.cell? ⟨C,2,none⟩with|some (.slice _ n _)=>n|_=>0
end Go.Proofs.YtlonjggfnleolaaGreatDoor
