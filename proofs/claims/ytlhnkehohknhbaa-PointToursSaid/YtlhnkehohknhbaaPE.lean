/- Chapter 9, plain: the law of tours. -/
import Derived.Test.YtlhnkehohknhbaaPD
import Derived.Test.YtlhnkehohknhbaaB5
set_option linter.unusedVariables false
set_option linter.unusedSimpArgs false
namespace Go.Proofs.Ytlhnkehohknhbaa.Vg
open Go Go.Proofs.Ytlhnkehohknhbaa.Ev Go.Proofs.Ytlhnkehohknhbaa.Vv
theorem law_tours (k : Nat) (x : STour) (hx : x.Targets.length ≤ 9223372036854775807) (hk : k = x.Targets.length + 1000) : nspeculumlaw09_PointTours k x = some true := by
  unfold nspeculumlaw09_PointTours
  rw [show nawake k = some true from rfl, Option.bind_some, if_pos rfl, short_any _ x (by omega) hx, Option.bind_some]
  cases h : shortB x with
  | false => rfl
  | true =>
    obtain ⟨a, b, c⟩ := short_facts h
    unfold npoint_CheckTour
    rw [if_pos rfl, mount_copy _ _ a b, Option.bind_some, targets_copy _ _ (by omega), Option.bind_some, tourOf_any _ (by omega) (by omega) _ (by omega) (by omega), Option.bind_some, Option.bind_some, tour_ref _ (by omega) (by omega) _ (by omega) (by omega), Option.bind_some, if_pos rfl, decide_eq_true rfl]
theorem vc_tours (x : STour) (hx : x.Targets.length ≤ 9223372036854775807) : VC Go.Proofs.Try.prog 11 [VV.ag (c_STour x)] (vb true) := nspeculumlaw09_PointTours_ok _ _ _ (law_tours _ x hx rfl)
end Go.Proofs.Ytlhnkehohknhbaa.Vg
