/- Chapter 9, plain: ways. -/
import Derived.Test.YtlhnkehohknhbaaPA
import Derived.Test.YtlhnkehohknhbaaP0
set_option linter.unusedVariables false
set_option linter.unusedSimpArgs false
namespace Go.Proofs.Ytlhnkehohknhbaa.Vg
open Go Go.Proofs.Ytlhnkehohknhbaa.Ev Go.Proofs.Ytlhnkehohknhbaa.Vv
def absI (n : Int) : Int := if n < 0 then -n else n
theorem wayBetween_any (k : Nat) {a b : Int} (ha : -1000000000000 ≤ a ∧ a ≤ 1000000000000) (hb : -1000000000000 ≤ b ∧ b ≤ 1000000000000) : npoint_wayBetween k a b = some (absI (b - a), decide (648000 < absI (b - a))) := by
  unfold npoint_wayBetween
  have e : maxI (w64 (b - a)) (w64 (a - b)) = absI (b - a) := by
    rw [w64_id (n := b - a) (by omega) (by omega), w64_id (n := a - b) (by omega) (by omega)]
    unfold maxI absI
    split <;> split <;> omega
  rw [e]
theorem way_ref (k : Nat) {a b : Int} (ha : -1000000000000 ≤ a ∧ a ≤ 1000000000000) (hb : -1000000000000 ≤ b ∧ b ≤ 1000000000000) : nspeculumref09_Way k a b = some (absI (b - a), decide (648000 < absI (b - a))) := by
  unfold nspeculumref09_Way nspeculumbase_Abs
  rw [w64_id (n := b - a) (by omega) (by omega)]
  unfold absI
  by_cases h : b - a < 0
  · rw [if_pos h, if_pos h, w64_id (by omega) (by omega), Option.bind_some, show 0 - (b - a) = -(b - a) by omega]
  · rw [if_neg h, if_neg h, Option.bind_some]
theorem isPos_ref (k : Nat) (a : Int) : nspeculumref09_IsPosition k a = some (inR (-25920000) 25920000 a) := by
  unfold nspeculumref09_IsPosition
  rw [within_base]; rfl
theorem law_ways (a b : Int) : nspeculumlaw09_PointWays 1000000 a b = some true := by
  unfold nspeculumlaw09_PointWays
  rw [show nawake 1000000 = some true from rfl, Option.bind_some, if_pos rfl]
  unfold npoint_Way
  rw [areSmall_2 _ _ _ _ (by decide) (by decide) (by decide), Option.bind_some, isPos_ref, isPos_ref]
  cases ha : inR (-25920000) 25920000 a with
  | false => rfl
  | true =>
    cases hb : inR (-25920000) 25920000 b with
    | false => rfl
    | true =>
      have ha := inR_t.1 ha
      have hb := inR_t.1 hb
      rw [show (true && true) = true from rfl, if_pos rfl, wayBetween_any _ (by omega) (by omega), Option.bind_some, Option.bind_some, Option.bind_some, if_pos rfl, Option.bind_some, if_pos rfl, way_ref _ (by omega) (by omega), Option.bind_some, if_pos rfl, if_pos rfl]
      simp
theorem vc_ways (a b : Int) : VC Go.Proofs.Try.prog 10 [vi a, vi b] (vb true) := nspeculumlaw09_PointWays_ok 1000000 _ _ _ (law_ways a b)
end Go.Proofs.Ytlhnkehohknhbaa.Vg
