import Derived.Test.YtgoohnencoipoaaRows
import Derived.ProofKit
set_option linter.unusedVariables false
set_option linter.unusedSimpArgs false
namespace Go.Proofs.Ytgoohnencoipoaa
open Go.ChangeShapes Go.WideShapes Go.ChangeAt Go.RowKit
set_option maxHeartbeats 0 in
theorem Qu1 : Try.pinned.checked.prog.mayEnter = true := by kernel_rfl
set_option maxHeartbeats 0 in
theorem Qu2 : Try.pinned.checked.prog.liftsFinal = false := by kernel_rfl
set_option maxHeartbeats 0 in
theorem Qog : laidOutB Try.pinned.checked.prog = true := by kernel_rfl
end Go.Proofs.Ytgoohnencoipoaa
