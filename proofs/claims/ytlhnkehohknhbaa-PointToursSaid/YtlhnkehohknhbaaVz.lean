/- Texts that come in. -/
import Derived.Test.YtlhnkehohknhbaaVy
import Derived.Test.YtlhnkehohknhbaaVk
import Derived.ChangeArms
set_option linter.unusedVariables false
set_option linter.unusedSimpArgs false
namespace Go.Proofs.Ytlhnkehohknhbaa.Vv
open Go Go.Proofs.Ytlhnkehohknhbaa.Ev
variable {H : Type} {enc : TypeId × Value → H} {P : Program} {W : World}
theorem opens_string {t : TypeId} (ht : P.underlying t = some .string) : Opens H enc P W t ByteArray fun s => [vs s] := by
  intro fuel cs x h
  obtain ⟨n, e, _⟩ := DataW.trod_string ht h
  subst e
  refine ⟨n, rfl, fun j v v' a b => ?_⟩
  cases j with
  | zero => simp at a b; subst a; subst b; exact .c rfl
  | succ j => simp at a
end Go.Proofs.Ytlhnkehohknhbaa.Vv
