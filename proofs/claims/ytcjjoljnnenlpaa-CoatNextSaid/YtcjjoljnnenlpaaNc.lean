/- CoatNext, plain. -/
import Derived.Test.YtcjjoljnnenlpaaX2
import Derived.Test.YtcjjoljnnenlpaaNb
set_option linter.unusedVariables false
set_option linter.unusedSimpArgs false
namespace Go.Proofs.Ytcjjoljnnenlpaa.Vg
open Go Go.Proofs.Ytcjjoljnnenlpaa.Ev Go.Proofs.Ytcjjoljnnenlpaa.Vv
theorem same_l (k : Nat) (y : List SCoatEvent) (hl : y.length ≤ 1000) : ∀ (d fuel i : Nat), y.length = i + d → d < fuel → nspeculumlaw08_Same_l0_0 k y y fuel (i : Int) = some (.inr ()) := by
  intro d
  induction d with
  | zero =>
    intro fuel i h hf
    obtain ⟨g, rfl⟩ : ∃ g, fuel = g + 1 := ⟨fuel - 1, by omega⟩
    rw [nspeculumlaw08_Same_l0_0.eq_2, if_neg (by omega)]
  | succ d ih =>
    intro fuel i h hf
    obtain ⟨g, rfl⟩ : ∃ g, fuel = g + 1 := ⟨fuel - 1, by omega⟩
    rw [nspeculumlaw08_Same_l0_0.eq_2, if_pos (by omega), if_pos (by omega), if_pos (by omega), if_pos (by simp), w64_succ (by omega)]
    exact ih g (i + 1) (by omega) (by omega)
theorem same_any (k : Nat) (hk : 1000 < k) (y : List SCoatEvent) (hl : y.length ≤ 100) : nspeculumlaw08_Same k y y = some true := by
  unfold nspeculumlaw08_Same
  rw [if_pos rfl, show nspeculumlaw08_Same_l0_0 k y y k 0 = _ from same_l k y (by omega) y.length k 0 (by omega) (by omega)]; rfl
theorem law_next (k : Nat) (hk : 1000 < k) (hk2 : k ≤ 1000000000) (a : SAging) (l : List SCoatEvent) (x : SCoatEvent) : nspeculumlaw08_CoatNext k a l x = some true := by
  unfold nspeculumlaw08_CoatNext
  obtain ⟨b, hb, hlen⟩ := past_any k (by omega) l
  rw [show nawake k = some true from rfl, Option.bind_some, if_pos rfl, hb, Option.bind_some]
  cases b with
  | false => rfl
  | true =>
    have hl := hlen rfl
    rw [if_pos rfl]
    by_cases c : 20 < (x.Mirror.size : Int)
    · rw [if_pos c]
    · have hcl : nslices_Clone_api_CoatEvent_api_CoatEvent_ k l = some l := by
        unfold nslices_Clone_api_CoatEvent_api_CoatEvent_; rw [if_pos (by simp; omega)]; rfl
      rw [if_neg c, events_any k (by omega), Option.bind_some]
      unfold ncoat_Next nspeculumlaw08_past nspeculumref08_Next
      simp only [history_coat k hk hk2, aging_ref k (show 10 < k by omega), hcl, Option.bind_some]
      have hL : l.length + ([x] : List SCoatEvent).length ≤ 1000000000 := by simp; omega
      have hL2 : l.length ≤ 1000000000 := by omega
      by_cases h0 : agE a = 0
      · obtain ⟨_, _, _, w1, w2⟩ := agE_W h0
        simp only [h0, history_ref k hk a ⟨w1, w2⟩, if_true, hL, hL2, Option.bind_some]
        by_cases h1 : (hiE a.Washes l).2 = 0
        · by_cases h2 : (hiE a.Washes (l ++ [x])).2 = 0
          · simp only [h1, h2, if_true, Option.bind_some]
            rw [same_any k hk (l ++ [x]) (by simp; omega)]; rfl
          · simp only [h1, if_neg h2, if_true, Option.bind_some]
            rw [same_any k hk [] (by simp)]; rfl
        · simp only [if_neg h1, Option.bind_some, if_true]
          simp
      · simp only [if_neg h0, Option.bind_some, if_true]
        simp
theorem vc_next (a : SAging) (l : List SCoatEvent) (x : SCoatEvent) : VC Go.Proofs.Try.prog 3 [VV.ag (c_SAging a), VV.tr (l.flatMap c_SCoatEvent) l.length, VV.ag (c_SCoatEvent x)] (vb true) := nspeculumlaw08_CoatNext_ok _ _ _ _ _ (law_next 100000000 (by omega) (by omega) a l x)
end Go.Proofs.Ytcjjoljnnenlpaa.Vg
