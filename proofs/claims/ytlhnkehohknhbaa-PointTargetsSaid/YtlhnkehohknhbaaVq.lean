/- Arguments that come in: read as natives of another type. -/
import Derived.Test.YtlhnkehohknhbaaVz
set_option linter.unusedVariables false
set_option linter.unusedSimpArgs false
namespace Go.Proofs.Ytlhnkehohknhbaa.Vv
open Go Go.Proofs.Ytlhnkehohknhbaa.Ev
variable {H : Type} {enc : TypeId × Value → H} {P : Program} {W : World}
theorem Opens.as {t : TypeId} {S A : Type} {f : S → List VV} (h : Opens H enc P W t S f) (mk : S → A) {g : A → List VV} (hfg : ∀ s, g (mk s) = f s) : Opens H enc P W t A g := by
  intro fuel cs x hx
  obtain ⟨s, h1, h2⟩ := h fuel cs x hx
  exact ⟨mk s, by rw [hfg]; exact h1, by rw [hfg]; exact h2⟩
/-- a list whose elements have a property. -/
theorem Opens.all {t : TypeId} {A : Type} {p : A → Prop} {g : A → List VV} (h : Opens H enc P W t (List { x : A // p x }) fun xs => [VV.tr (xs.flatMap fun x => g x.1) xs.length]) : Opens H enc P W t { xs : List A // ∀ x ∈ xs, p x } fun xs => [VV.tr (xs.1.flatMap g) xs.1.length] :=
  Opens.as (A := { xs : List A // ∀ x ∈ xs, p x }) (g := fun xs => [VV.tr (xs.1.flatMap g) xs.1.length]) h (fun xs => ⟨xs.map (·.1), fun x hx => by obtain ⟨y, _, rfl⟩ := List.mem_map.1 hx; exact y.2⟩)
    (fun xs => by
      show [VV.tr ((xs.map (·.1)).flatMap g) (xs.map (·.1)).length] = _
      rw [List.flatMap_map, List.length_map])
end Go.Proofs.Ytlhnkehohknhbaa.Vv
