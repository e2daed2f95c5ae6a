/- SupportPairs, plain. -/
import Derived.Test.YtgicjogbpmpjeaaNC
import Derived.Test.YtgicjogbpmpjeaaP2
set_option linter.unusedVariables false
set_option linter.unusedSimpArgs false
namespace Go.Proofs.Ytgicjogbpmpjeaa.Vg
open Go Go.Proofs.Ytgicjogbpmpjeaa.Ev Go.Proofs.Ytgicjogbpmpjeaa.Vv
theorem law_pairs (k : Nat) (hk : 18446744073709551617 ≤ k) (r : SFrac) (h1 : In64 r.Num) (h2 : In64 r.Den) (x : A24) (g : SGearPair) : nspeculumlaw07_SupportPairs k r x g = some true := by
  unfold nspeculumlaw07_SupportPairs
  rw [show nawake k = some true from rfl, Option.bind_some, if_pos rfl, within_b, Option.bind_some]
  by_cases c : 61 ≤ x.e1 ∧ x.e1 ≤ 500
  · rw [if_pos (decide_eq_true c)]
  rw [if_neg (by rw [decide_eq_true_eq]; exact c), (choice_p k hk r x.e0 x.e1 h1 h2).2]
  by_cases h0 : chE r x.e0 x.e1 = 0
  · have C := chE_ok h0
    obtain ⟨b, e1, e2, hbo, hmin, _⟩ := both (k := k) (by omega) C
    rw [bestPair_p hk h1 h2 h0 e2, Option.bind_some, Option.bind_some, if_pos h0, if_pos rfl, e1, Option.bind_some, if_pos (by simp)]
    obtain ⟨b', e1', e3, _⟩ := checkBest_p hk h1 h2 h0 b
    rw [e1] at e1'; injection e1' with e1'; subst e1'
    have hres : resB r b (decide (nea r.Num r.Den b b)) = lowS (ofI r.Num r.Den b) (b.Driven * r.Den) := by unfold resB; rw [decide_eq_false nea_irr]; rfl
    rw [e3, Option.bind_some, if_pos hbo, hres]
    have tail : ((nspeculumbase_Within k g.Driver x.e0 x.e1).bind fun r1070 => (if r1070 = true then ((nspeculumbase_Within k g.Driven x.e0 x.e1).bind fun r1076 => (if r1076 = true then ((nspeculumref07_Nearer k r g b).bind fun r1081 => (some (!r1081))) else (some true))) else (some true))) = some true := by
      rw [within_b, Option.bind_some]
      by_cases c1 : x.e0 ≤ g.Driver ∧ g.Driver ≤ x.e1
      · rw [if_pos (decide_eq_true c1), within_b, Option.bind_some]
        by_cases c2 : x.e0 ≤ g.Driven ∧ g.Driven ≤ x.e1
        · have hg : okG x.e0 x.e1 g := ⟨c1, c2⟩
          rw [if_pos (decide_eq_true c2), nearer_r C (okG_tth C hg) (okG_tth C hbo), Option.bind_some, decide_eq_false (hmin g hg)]; rfl
        · rw [if_neg (by rw [decide_eq_true_eq]; exact c2)]
      · rw [if_neg (by rw [decide_eq_true_eq]; exact c1)]
    rcases lowS_err (ofI r.Num r.Den b) (b.Driven * r.Den) with z | z
    · rw [if_pos z]; exact tail
    · rw [if_neg (by omega), if_pos z]; exact tail
  · have e : nsupport_BestPair k r x.e0 x.e1 = some (⟨0, 0⟩, chE r x.e0 x.e1) := by
      unfold nsupport_BestPair
      rw [(choice_p k hk r x.e0 x.e1 h1 h2).1, Option.bind_some, if_neg h0]
    rw [e, Option.bind_some, Option.bind_some, if_neg h0, if_pos rfl]
    rfl
theorem vc_pairs (r : SFrac) (x : A24) (g : SGearPair) (hr : In64 r.Num ∧ In64 r.Den) : VC Go.Proofs.Try.prog 3 [VV.ag (c_SFrac r), VV.ag (c_A24 x), VV.ag (c_SGearPair g)] (vb true) := nspeculumlaw07_SupportPairs_ok _ _ _ _ _ (law_pairs 100000000000000000000 (by decide) r hr.1 hr.2 x g)
end Go.Proofs.Ytgicjogbpmpjeaa.Vg
