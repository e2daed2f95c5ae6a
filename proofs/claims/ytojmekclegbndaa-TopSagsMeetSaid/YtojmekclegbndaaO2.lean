/- What a fraction in lowest terms is, told again. -/
import Derived.Test.YtojmekclegbndaaO1
set_option linter.unusedVariables false
set_option linter.unusedSimpArgs false
namespace Go.Proofs.Ytojmekclegbndaa.Vg
open Go Go.Proofs.Ytojmekclegbndaa.Ev Go.Proofs.Ytojmekclegbndaa.Vv
def nspeculumbase_IsLowest (k : Nat) (a0 : SFrac) : Option Bool :=
  if 0 < a0.Den then ((nspeculumbase_Gcd k a0.Num a0.Den).bind fun r1714 => (some (decide (r1714 = 1)))) else (some false)
end Go.Proofs.Ytojmekclegbndaa.Vg
