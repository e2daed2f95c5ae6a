/- BlankDemands, plain. -/
import Derived.Test.YtclabanknlmneaaAA
import Derived.Test.YtclabanknlmneaaA2
set_option linter.unusedVariables false
set_option linter.unusedSimpArgs false
namespace Go.Proofs.Ytclabanknlmneaa.Vg
open Go Go.Proofs.Ytclabanknlmneaa.Ev Go.Proofs.Ytclabanknlmneaa.Vv
theorem stressOf_any {a : SAnnealing} {k : Nat} (h : Lg a k) (i m : Int) : nblank_StressOf k a i m = some (if stE a i = 0 then (if inR 1 10000000 m = true then (rnd (work a i) m, 0) else (⟨0, 0⟩, 2)) else (⟨0, 0⟩, stE a i)) := by
  unfold nblank_StressOf
  rw [step_any h, Option.bind_some]
  by_cases c : stE a i = 0
  · rw [if_pos c, if_pos c, isWithin_b, Option.bind_some]
    unfold stE at c
    by_cases c1 : annE a = 0
    · rw [if_pos c1] at c
      cases c2 : inR 0 ((a.Steps.length : Int) - 1) i with
      | false => rw [c2] at c; cases c
      | true =>
        have hi := inR_t.1 c2
        have hi : 0 ≤ i ∧ i < (a.Steps.length : Int) := by omega
        have hA := Ann.of c1
        obtain ⟨_, _, f3, _⟩ := hA.wk hi
        cases c3 : inR 1 10000000 m with
        | false => rfl
        | true =>
          have hm := inR_t.1 c3
          simp only [if_true]
          rw [stress_b hA k hi, Option.bind_some, enclose_any k (by omega) (by omega)]; rfl
    · rw [if_neg c1] at c; exact absurd c c1
  · rw [if_neg c, if_neg c]
theorem leastOf_any {a : SAnnealing} {k : Nat} (h : Lg a k) (i : Int) : nblank_LeastMinutes k a i = some (if stE a i = 0 then (leastM a i, 0) else (0, stE a i)) := by
  unfold nblank_LeastMinutes
  rw [step_any h, Option.bind_some]
  by_cases c : stE a i = 0
  · rw [if_pos c, if_pos c]
    unfold stE at c
    by_cases c1 : annE a = 0
    · rw [if_pos c1] at c
      cases c2 : inR 0 ((a.Steps.length : Int) - 1) i with
      | false => rw [c2] at c; cases c
      | true =>
        have hi := inR_t.1 c2
        rw [least_b (Ann.of c1) k (by omega)]; rfl
    · rw [if_neg c1] at c; exact absurd c c1
  · rw [if_neg c, if_neg c]
theorem bq (x : Int) : (x == x) = true := by simp
theorem demands (k : Nat) (hk : 1000 < k) (a : SAnnealing) (i m : Int) : nspeculumlaw03_BlankDemands k a i m = some true := by
  unfold nspeculumlaw03_BlankDemands
  rw [show nawake k = some true from rfl, Option.bind_some, if_pos rfl, light_any, Option.bind_some]
  cases hL : lightB a with
  | false => rfl
  | true =>
  have hl := Lg.of hL hk
  have hlen := hl.l1
  rw [if_pos rfl, own_any k a hL, Option.bind_some]
  simp only [stressOf_any hl, leastOf_any hl, hl.r, hl.b, Option.bind_some]
  rw [if_pos trivial]
  by_cases c1 : annE a = 0
  · rw [if_pos c1, within_base, Option.bind_some, w64_id (by omega) (by omega)]
    cases c2 : inR 0 ((a.Steps.length : Int) - 1) i with
    | false =>
      have hs : stE a i = 6 := by unfold stE; rw [if_pos c1, c2]; rfl
      simp only [hs]
      rfl
    | true =>
      have hs : stE a i = 0 := by unfold stE; rw [if_pos c1, c2]; rfl
      have hi := inR_t.1 c2
      have hi : 0 ≤ i ∧ i < (a.Steps.length : Int) := by omega
      have hA := Ann.of c1
      obtain ⟨_, _, f3, f4⟩ := hA.wk hi
      simp only [hs, if_true, least_r hA k hi, Option.bind_some, within_base]
      cases c3 : inR 1 10000000 m with
      | false => rfl
      | true =>
        have hm := inR_t.1 c3
        simp only [if_true, stress_r hA k hi, Option.bind_some, rounded_any k (show -9000000000000000000 ≤ work a i ∧ work a i ≤ 9000000000000000000 by omega) (show 0 < m by omega), bq, Bool.and_self]
        rw [if_pos hi]
        have hn1 : 1 ≤ leastM a i ∧ cdiv (work a i) (a.Steps.getD i.toNat default).Limit ≤ leastM a i ∧ (leastM a i = 1 ∨ leastM a i = cdiv (work a i) (a.Steps.getD i.toNat default).Limit) := by
          unfold leastM maxI
          split <;> omega
        by_cases c4 : 10000000 < leastM a i
        · rw [if_pos c4]
        · rw [if_neg c4]
          have c5 : inR 1 10000000 (leastM a i) = true := inR_t.2 (by omega)
          simp only [c5, if_true]
          have g1 : cdiv (work a i) (leastM a i) ≤ (a.Steps.getD i.toNat default).Limit := by
            rw [cdiv_le (by omega)]
            have := (cdiv_le (c := leastM a i) (show 0 < (a.Steps.getD i.toNat default).Limit by omega)).1 hn1.2.1
            rw [Int.mul_comm]; exact this
          rw [if_neg (show ¬ (a.Steps.getD i.toNat default).Limit < (rnd (work a i) (leastM a i)).Hi from by show ¬ _ < cdiv _ _; omega)]
          by_cases c6 : leastM a i = 1
          · rw [if_pos c6]
          · rw [if_neg c6, w64_id (by omega) (by omega)]
            have c7 : inR 1 10000000 (leastM a i - 1) = true := inR_t.2 (by omega)
            simp only [c7, if_true]
            have g2 : (a.Steps.getD i.toNat default).Limit < cdiv (work a i) (leastM a i - 1) := by
              rcases Int.lt_or_le (a.Steps.getD i.toNat default).Limit (cdiv (work a i) (leastM a i - 1)) with h | h
              · exact h
              · exfalso
                rw [cdiv_le (by omega), Int.mul_comm, ← cdiv_le (by omega)] at h
                omega
            congr 1
            exact decide_eq_true g2
  · have hs : stE a i = annE a := by unfold stE; rw [if_neg c1]
    simp only [hs, if_neg c1]
    rfl
theorem vc_demands (a : SAnnealing) (i m : Int) : VC Try.prog 6 [VV.ag (c_SAnnealing a), vi i, vi m] (vb true) :=
  nspeculumlaw03_BlankDemands_ok 10000 a i m true (demands 10000 (by decide) a i m)
end Go.Proofs.Ytclabanknlmneaa.Vg
