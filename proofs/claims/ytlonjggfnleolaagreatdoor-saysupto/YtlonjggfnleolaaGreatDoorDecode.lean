/-
  What Ask writes is read again: plain mathematics.
-/
import Derived.Test.YtlonjggfnleolaaGreatDoorRefC
namespace Go.Proofs.YtlonjggfnleolaaGreatDoor
set_option linter.unusedVariables false

theorem emptyB' {s : ByteArray} (h : s.toList.isEmpty = true) : s = noB := by
  have h2 : s.toList = [] := by simpa using h
  have h3 : s.data.toList = [] := by rw [← h2]; exact (ByteArray.toList_eq s).symm
  have h4 : s.data = #[] := by simpa using h3
  cases s
  simp only at h4
  rw [h4]
  rfl
theorem len_size' (s : ByteArray) : s.data.toList.length = s.size := by simp
end Go.Proofs.YtlonjggfnleolaaGreatDoor
