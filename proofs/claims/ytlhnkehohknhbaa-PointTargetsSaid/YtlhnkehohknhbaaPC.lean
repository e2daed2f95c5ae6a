/- Chapter 9, plain: the law of targets. -/
import Derived.Test.YtlhnkehohknhbaaPB
import Derived.Test.YtlhnkehohknhbaaB3
set_option linter.unusedVariables false
set_option linter.unusedSimpArgs false
namespace Go.Proofs.Ytlhnkehohknhbaa.Vg
open Go Go.Proofs.Ytlhnkehohknhbaa.Ev Go.Proofs.Ytlhnkehohknhbaa.Vv
theorem law_targets (m : SSkyMount) (t : SSkyTarget) (d : Int) : nspeculumlaw09_PointTargets 1000000 m t d = some true := by
  unfold nspeculumlaw09_PointTargets
  rw [show nawake 1000000 = some true from rfl, Option.bind_some, if_pos rfl, light_any _ m, Option.bind_some]
  cases hl : lightB m with
  | false => rfl
  | true =>
    obtain ⟨l1, l2⟩ := light_len hl
    rw [if_pos rfl]
    split
    · rfl
    rw [mount_copy _ m l1 l2, Option.bind_some]
    rw [Apparent_any _ (by decide) (by decide) m t d (by omega) (by omega), Option.bind_some, Turns_any _ (by decide) (by decide) m t d (by omega) (by omega), Option.bind_some, mount_ref _ (by decide) (by decide) m (by omega) (by omega), Option.bind_some, mount_point _ (by decide) (by decide) m (by omega) (by omega), Option.bind_some, if_pos rfl, target_point _ (by decide) (by decide), Option.bind_some, target_ref _ (by decide), Option.bind_some, if_pos rfl, day_ref, Option.bind_some]
    by_cases c1 : mntE m = 0
    · rw [if_pos c1]
      by_cases c2 : tgtE t = 0
      · rw [if_pos c2]
        cases c3 : inR 0 100000 d with
        | true =>
          have c4 : sgtE m t d = 0 := by unfold sgtE; rw [if_pos c1, if_pos c2, if_pos c3]
          obtain ⟨a, b, f⟩ := sgt_zero c4
          simp only [if_pos c4, if_true]
          rw [turns_ref _ (by decide) a b f, Option.bind_some, apparent_ref _ (by decide) a b f, Option.bind_some]
          simp only [beq_self_eq_true, Bool.and_self, if_true]
          by_cases c5 : stpE m t d = 0
          · simp only [if_pos c5, if_true]
            rw [ints_same _ _ (by have := trn_len m (apA m t d); omega) (by decide)]; rfl
          · simp only [if_neg c5, if_true]
            rw [ints_same _ _ (by decide) (by decide)]; rfl
        | false =>
          have c4 : sgtE m t d = 2 := by unfold sgtE; rw [if_pos c1, if_pos c2, if_neg (by rw [c3]; decide)]
          rw [if_neg (by decide)]
          simp only [c4]
          rfl
      · have c4 : sgtE m t d = tgtE t := by unfold sgtE; rw [if_pos c1, if_neg c2]
        rw [if_neg c2]
        simp only [c4, if_neg c2]
        rfl
    · have c4 : sgtE m t d = mntE m := by unfold sgtE; rw [if_neg c1]
      rw [if_neg c1]
      simp only [c4, if_neg c1]
      rfl
theorem vc_targets (m : SSkyMount) (t : SSkyTarget) (d : Int) : VC Go.Proofs.Try.prog 8 [VV.ag (c_SSkyMount m), VV.ag (c_SSkyTarget t), vi d] (vb true) := nspeculumlaw09_PointTargets_ok 1000000 _ _ _ _ (law_targets m t d)
end Go.Proofs.Ytlhnkehohknhbaa.Vg
