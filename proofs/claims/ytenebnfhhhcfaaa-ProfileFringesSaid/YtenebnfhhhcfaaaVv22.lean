import Derived.Test.YtenebnfhhhcfaaaVv17
set_option linter.unusedVariables false
set_option linter.unusedSimpArgs false
namespace Go.Proofs.Ytenebnfhhhcfaaa.Vv
open Go Go.Proofs.Ytenebnfhhhcfaaa.Ev
open Go.RowKit (Below)
section
variable {P : Program} {gv : Nat -> Value} {base : Nat} {w0 : World} {m0 : MM} {sz : Nat} {s : VS} {o : OM} {m : MM} {a : Act} {w : World}
end
end Go.Proofs.Ytenebnfhhhcfaaa.Vv
