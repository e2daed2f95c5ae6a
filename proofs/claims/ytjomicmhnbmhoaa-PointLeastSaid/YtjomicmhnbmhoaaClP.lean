import Derived.Test.YtjomicmhnbmhoaaRows
import Derived.ProofKit
set_option linter.unusedVariables false
set_option linter.unusedSimpArgs false
namespace Go.Proofs.Ytjomicmhnbmhoaa
open Go.ChangeShapes Go.WideShapes Go.ChangeAt Go.RowKit
set_option maxHeartbeats 0 in
theorem Q4e : Try.pinned.checked.prog.mayEnter = true := by kernel_rfl
set_option maxHeartbeats 0 in
theorem Q4f : Try.pinned.checked.prog.liftsFinal = false := by kernel_rfl
set_option maxHeartbeats 0 in
theorem Q23 : laidOutB Try.pinned.checked.prog = true := by kernel_rfl
end Go.Proofs.Ytjomicmhnbmhoaa
