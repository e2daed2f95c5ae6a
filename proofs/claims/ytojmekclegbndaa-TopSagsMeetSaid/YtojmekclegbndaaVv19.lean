/- The program of a seat of chapter 2: its first call is walked like any other. -/
import Derived.Test.YtojmekclegbndaaVv22
import Derived.Test.YtojmekclegbndaaProg
import Derived.KernelRfl
set_option linter.unusedVariables false
set_option linter.unusedSimpArgs false
namespace Go.Proofs.Ytojmekclegbndaa.Vg
open Go Go.Proofs.Ytojmekclegbndaa.Ev Go.Proofs.Ytojmekclegbndaa.Vv
set_option maxHeartbeats 0 in
theorem pm : Go.Proofs.Try.prog.follows .mixedOrders = true := by kernel_rfl
set_option maxHeartbeats 0 in
theorem pn0 : Ev.namedB Go.Proofs.Try.prog = true := by kernel_rfl
theorem pn : Named Go.Proofs.Try.prog := Ev.named_of pn0
end Go.Proofs.Ytojmekclegbndaa.Vg
