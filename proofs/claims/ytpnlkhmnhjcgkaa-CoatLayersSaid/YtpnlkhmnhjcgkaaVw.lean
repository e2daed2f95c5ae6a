/- A calculus of calls over values that are trees: proofs whose statements are read off them. -/
import Derived.Test.YtpnlkhmnhjcgkaaVy
set_option linter.unusedVariables false
set_option linter.unusedSimpArgs false
namespace Go.Proofs.Ytpnlkhmnhjcgkaa.Vv
open Go Go.Proofs.Ytpnlkhmnhjcgkaa.Ev
theorem ti {p : Prop} (h : p) : True ∧ p := ⟨trivial, h⟩
theorem an {p q : Prop} (h : p) (h2 : q) : p ∧ q := ⟨h, h2⟩
theorem rt : true = true := rfl
theorem rf : false = false := rfl
theorem pkR {rd : Option Nat} {P : Program} {fn : Func} {k : Nat} {s s1 : VS} {ans : List An} {c : Cut} {e : Exit} {q : Prop} (hq : q) (h : vRound rd P fn k s ans c = some (e, s1, q)) : ∃ q : Prop, vRound rd P fn k s ans c = some (e, s1, q) ∧ q := ⟨q, h, hq⟩
end Go.Proofs.Ytpnlkhmnhjcgkaa.Vv
