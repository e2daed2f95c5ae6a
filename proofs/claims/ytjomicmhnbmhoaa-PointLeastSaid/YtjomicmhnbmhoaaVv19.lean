import Derived.Test.YtjomicmhnbmhoaaVv22
import Derived.Test.YtjomicmhnbmhoaaProg
import Derived.KernelRfl
set_option linter.unusedVariables false
set_option linter.unusedSimpArgs false
namespace Go.Proofs.Ytjomicmhnbmhoaa.Vg
open Go Go.Proofs.Ytjomicmhnbmhoaa.Ev Go.Proofs.Ytjomicmhnbmhoaa.Vv
set_option maxHeartbeats 0 in
theorem pm : Try.prog.follows .mixedOrders = true := by kernel_rfl
set_option maxHeartbeats 0 in
theorem pn0 : Ev.Q2j Try.prog = true := by kernel_rfl
theorem pn : Named Try.prog := Ev.Q1l pn0
end Go.Proofs.Ytjomicmhnbmhoaa.Vg
