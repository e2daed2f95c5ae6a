/- SupportBest, plain. -/
import Derived.Test.YtgicjogbpmpjeaaNC
import Derived.Test.YtgicjogbpmpjeaaP3
set_option linter.unusedVariables false
set_option linter.unusedSimpArgs false
namespace Go.Proofs.Ytgicjogbpmpjeaa.Vg
open Go Go.Proofs.Ytgicjogbpmpjeaa.Ev Go.Proofs.Ytgicjogbpmpjeaa.Vv
theorem law_best (k : Nat) (hk : 18446744073709551617 ≤ k) (r : SFrac) (h1 : In64 r.Num) (h2 : In64 r.Den) (x : A24) (g : SGearPair) : nspeculumlaw07_SupportBest k r x g = some true := by
  unfold nspeculumlaw07_SupportBest
  rw [show nawake k = some true from rfl, Option.bind_some, if_pos rfl, within_b, Option.bind_some]
  by_cases c : 61 ≤ x.e1 ∧ x.e1 ≤ 500
  · rw [if_pos (decide_eq_true c)]
  rw [if_neg (by rw [decide_eq_true_eq]; exact c), (choice_p k hk r x.e0 x.e1 h1 h2).2]
  by_cases h0 : chE r x.e0 x.e1 = 0
  · obtain ⟨b, e1, e2, e3⟩ := checkBest_p hk h1 h2 h0 g
    rw [e2, e3, Option.bind_some, Option.bind_some, if_pos h0, Option.bind_some, if_pos rfl]
    simp
  · have e : nsupport_CheckBest k r x.e0 x.e1 g = some (⟨0, 0⟩, chE r x.e0 x.e1) := by
      unfold nsupport_CheckBest
      rw [(choice_p k hk r x.e0 x.e1 h1 h2).1, Option.bind_some, if_neg h0]
    rw [e, Option.bind_some, Option.bind_some, if_neg h0, if_pos rfl]
    rfl
theorem vc_best (r : SFrac) (x : A24) (g : SGearPair) (hr : In64 r.Num ∧ In64 r.Den) : VC Go.Proofs.Try.prog 4 [VV.ag (c_SFrac r), VV.ag (c_A24 x), VV.ag (c_SGearPair g)] (vb true) := nspeculumlaw07_SupportBest_ok _ _ _ _ _ (law_best 100000000000000000000 (by decide) r hr.1 hr.2 x g)
end Go.Proofs.Ytgicjogbpmpjeaa.Vg
