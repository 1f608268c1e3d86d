/-
  junction: Tell, upon what the dialects answer.
-/
import Derived.Test.YtlonjggfnleolaaGreatDoorRefTell
namespace Go.Proofs.YtlonjggfnleolaaGreatDoor
open Go.RowKit
set_option linter.unusedVariables false

theorem m_tell1 (w : World) : (method 432 160 (.agg #[]) "Tell").run Tryz.prog w = .ok (212, .agg #[]) w := by kernel_rfl
theorem m_tell2 (w : World) : (method 432 161 (.agg #[]) "Tell").run Tryz.prog w = .ok (245, .agg #[]) w := by kernel_rfl
theorem m_tell3 (w : World) : (method 432 162 (.agg #[]) "Tell").run Tryz.prog w = .ok (252, .agg #[]) w := by kernel_rfl

end Go.Proofs.YtlonjggfnleolaaGreatDoor
