import Derived.Test.YtgoohnencoipoaaVv17
set_option linter.unusedVariables false
set_option linter.unusedSimpArgs false
namespace Go.Proofs.Ytgoohnencoipoaa.Vv
open Go Go.Proofs.Ytgoohnencoipoaa.Ev
open Go.RowKit (Below)
section
variable {P : Program} {gv : Nat -> Value} {base : Nat} {w0 : World} {m0 : MM} {sz : Nat} {s : VS} {o : OM} {m : MM} {a : Act} {w : World}
end
end Go.Proofs.Ytgoohnencoipoaa.Vv
