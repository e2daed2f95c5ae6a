/- What every law of the chapter asks first. -/
import Derived.Test.YtokeimlnlmobpaaQa
set_option linter.unusedVariables false
set_option linter.unusedSimpArgs false
namespace Go.Proofs.Ytokeimlnlmobpaa
open Go.RowKit

/-- The first call gives true and leaves what was there. -/
def Awake : Prop := ∀ w : World, Calls Try.prog 21 #[] w fun e w' => e = .returned (.bool true) ∧ Below w.heap.size w w'

end Go.Proofs.Ytokeimlnlmobpaa
