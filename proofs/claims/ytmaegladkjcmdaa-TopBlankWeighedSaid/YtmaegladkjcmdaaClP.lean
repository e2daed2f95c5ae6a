import Derived.Test.YtmaegladkjcmdaaRows
import Derived.ProofKit
set_option linter.unusedVariables false
set_option linter.unusedSimpArgs false
namespace Go.Proofs.Ytmaegladkjcmdaa
open Go.ChangeShapes Go.WideShapes Go.ChangeAt Go.RowKit
set_option maxHeartbeats 0 in
theorem Qyf : Try.pinned.checked.prog.mayEnter = true := by kernel_rfl
set_option maxHeartbeats 0 in
theorem Qyg : Try.pinned.checked.prog.liftsFinal = false := by kernel_rfl
set_option maxHeartbeats 0 in
theorem Qq7 : laidOutB Try.pinned.checked.prog = true := by kernel_rfl
end Go.Proofs.Ytmaegladkjcmdaa
