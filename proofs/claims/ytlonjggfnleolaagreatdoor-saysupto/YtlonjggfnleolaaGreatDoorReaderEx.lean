/-
  What (*Reader).read tells of the example.
-/
import Derived.Test.YtlonjggfnleolaaGreatDoorInbox
import Derived.Deep.RegionHeld3
import Derived.Deep.Cut
namespace Go.Proofs.YtlonjggfnleolaaGreatDoor
open Go.RowKit
set_option linter.unusedVariables false

def zCmd : Array Value := #[.int .i64 0, .slice none 0 0, .string ⟨#[]⟩, .string ⟨#[]⟩, .bool false, .int .i64 0]

theorem setOther {w : World} {S k : Nat} (hk : k ≠ S) (v0 v1 v2 v3 v4 v5 v6 v7 : Value) :
    ((((((((w.setCell ⟨S, 0, none⟩ v0).setCell ⟨S, 1, none⟩ v1).setCell ⟨S, 2, none⟩ v2).setCell ⟨S, 3, none⟩ v3).setCell ⟨S, 4, none⟩ v4).setCell ⟨S, 5, none⟩ v5).setCell ⟨S, 6, none⟩ v6).setCell ⟨S, 7, none⟩ v7).heap[k]? = w.heap[k]? := by
  rw [Below.heap_setCell _ ⟨S, 7, none⟩ _ _ hk, Below.heap_setCell _ ⟨S, 6, none⟩ _ _ hk, Below.heap_setCell _ ⟨S, 5, none⟩ _ _ hk, Below.heap_setCell _ ⟨S, 4, none⟩ _ _ hk, Below.heap_setCell _ ⟨S, 3, none⟩ _ _ hk, Below.heap_setCell _ ⟨S, 2, none⟩ _ _ hk, Below.heap_setCell _ ⟨S, 1, none⟩ _ _ hk, Below.heap_setCell _ ⟨S, 0, none⟩ _ _ hk]
theorem setBelow {w a : World} {B S : Nat} (hb : Below B a w) (hS : B ≤ S) (v0 v1 v2 v3 v4 v5 v6 v7 : Value) :
    Below B a ((((((((w.setCell ⟨S, 0, none⟩ v0).setCell ⟨S, 1, none⟩ v1).setCell ⟨S, 2, none⟩ v2).setCell ⟨S, 3, none⟩ v3).setCell ⟨S, 4, none⟩ v4).setCell ⟨S, 5, none⟩ v5).setCell ⟨S, 6, none⟩ v6).setCell ⟨S, 7, none⟩ v7) :=
  (((((((hb.setCell (p := ⟨S, 0, none⟩) hS _).setCell (p := ⟨S, 1, none⟩) hS _).setCell (p := ⟨S, 2, none⟩) hS _).setCell (p := ⟨S, 3, none⟩) hS _).setCell (p := ⟨S, 4, none⟩) hS _).setCell (p := ⟨S, 5, none⟩) hS _).setCell (p := ⟨S, 6, none⟩) hS _).setCell (p := ⟨S, 7, none⟩) hS _

end Go.Proofs.YtlonjggfnleolaaGreatDoor
