/-
  check: Answer, for every command and answer.
-/
import Derived.Test.YtlonjggfnleolaaGreatDoorFinds
namespace Go.Proofs.YtlonjggfnleolaaGreatDoor
open Go.RowKit
set_option linter.unusedVariables false

/-- May it be an answer to the command? -/
def answerB (ck : Int) (ss : List ByteArray) (val : ByteArray) (ak : Int) (bs : List Bool) (vs : List ByteArray) (wd : ByteArray) : Bool :=
  (decide (ck = 4) || cmdB ck ss val) && (if ak = 1 then decide (ck = 1) && findsB bs vs ss.length else if ak = 2 then decide (ck = 2) else if ak = 3 ∨ ak = 4 then decide (ck = 3) else if ak = 5 then wordB wd else false)

theorem beqZ (a b : Int) : (a == b) = decide (a = b) := by
  by_cases h : a = b
  · simp [h]
  · simp [h]
end Go.Proofs.YtlonjggfnleolaaGreatDoor
