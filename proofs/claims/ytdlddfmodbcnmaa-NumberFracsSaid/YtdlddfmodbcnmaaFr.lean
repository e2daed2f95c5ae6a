/- Fractions in lowest terms: order of sums and products; a quotient multiplied again. No Go in sight. -/
import Derived.Test.YtdlddfmodbcnmaaW29
set_option linter.unusedVariables false
set_option linter.unusedSimpArgs false
namespace Go.Proofs.Ytdlddfmodbcnmaa

theorem addN_comm {a b c d : Int} (h1 : ckF a b = 0) (h2 : ckF c d = 0) : addN c d a b = addN a b c d := by
  have e1 : ckFs [(a, b), (c, d)] = 0 := by rw [ckFs_two, if_neg (by simp [h1])]; exact h2
  have e2 : ckFs [(c, d), (a, b)] = 0 := by rw [ckFs_two, if_neg (by simp [h2])]; exact h1
  unfold addN
  rw [if_neg (by simp [e1, e2]), if_neg (by simp [e1, e2]), Int.add_comm (c * b), Int.mul_comm d b]
theorem mulN_comm {a b c d : Int} (h1 : ckF a b = 0) (h2 : ckF c d = 0) : mulN c d a b = mulN a b c d := by
  have e1 : ckFs [(a, b), (c, d)] = 0 := by rw [ckFs_two, if_neg (by simp [h1])]; exact h2
  have e2 : ckFs [(c, d), (a, b)] = 0 := by rw [ckFs_two, if_neg (by simp [h2])]; exact h1
  unfold mulN
  rw [if_neg (by simp [e1, e2]), if_neg (by simp [e1, e2]), Int.mul_comm c a, Int.mul_comm d b]
theorem lowN_of {a b n m : Int} (h : ckF a b = 0) (hm : 0 < m) (e : n * b = a * m) : lowN n m = (a, b, 0) := by
  obtain ⟨_, _, hb, _, hg⟩ := ckF_zero h
  have hg' : Int.gcd a b = 1 := by unfold gcdI at hg; omega
  have hd : b ∣ m := by
    have h1 : b ∣ a * m := ⟨n, by rw [← e, Int.mul_comm]⟩
    have h2 : b.natAbs ∣ a.natAbs * m.natAbs := by rw [← Int.natAbs_mul]; exact Int.natAbs_dvd_natAbs.2 h1
    have h3 : Nat.Coprime b.natAbs a.natAbs := by show Nat.gcd _ _ = 1; rw [Nat.gcd_comm]; exact hg'
    exact Int.natAbs_dvd_natAbs.1 (h3.dvd_of_dvd_mul_left h2)
  obtain ⟨t, rfl⟩ := hd
  have ht : 0 < t := by
    rcases Int.lt_or_le 0 t with h1 | h1
    · exact h1
    · have := Int.mul_nonpos_of_nonneg_of_nonpos (show 0 ≤ b by omega) h1; omega
  have hn : n = a * t := by
    have h2 : n * b = (a * t) * b := by rw [e, Int.mul_assoc, Int.mul_comm t b]
    exact Int.eq_of_mul_eq_mul_right (by omega) h2
  subst hn
  have hgt : gcdI (a * t) (b * t) = t := by
    unfold gcdI
    rw [Int.gcd_mul_right, hg', Nat.one_mul]; omega
  have hF : lowF (a * t) (b * t) = (a, b) := by
    unfold lowF
    rw [if_neg (by omega), if_neg (by omega), hgt, Int.mul_tdiv_cancel _ (by omega), Int.mul_tdiv_cancel _ (by omega)]
  rw [lowN_F, hF, if_neg (by simp [h])]
theorem quo_mul {a b c d x y : Int} (h1 : ckF a b = 0) (h2 : ckF c d = 0) (h0 : c ≠ 0) (h : lowN (a * d) (b * c) = (x, y, 0)) : mulN x y c d = (a, b, 0) := by
  obtain ⟨_, _, hb, _, hg⟩ := ckF_zero h1
  obtain ⟨_, _, hd, _, hg2⟩ := ckF_zero h2
  have hbc : b * c ≠ 0 := fun h => by rcases Int.mul_eq_zero.1 h with h | h <;> omega
  have g1 := gcdI_pos (n := a * d) (d := b * c) hbc
  rw [lowN_F] at h
  have hk : ckF (lowF (a * d) (b * c)).1 (lowF (a * d) (b * c)).2 = 0 := by
    by_cases hh : ckF (lowF (a * d) (b * c)).1 (lowF (a * d) (b * c)).2 = 0
    · exact hh
    · rw [if_pos hh] at h; simp at h
  rw [if_neg (by simp [hk])] at h
  simp only [Prod.mk.injEq, and_true] at h
  obtain ⟨hx, hy⟩ := h
  rw [hx, hy] at hk
  obtain ⟨_, _, hy1, _, _⟩ := ckF_zero hk
  have hcross : x * (b * c) = y * (a * d) := by
    generalize a * d = n at *
    generalize b * c = m at *
    have d1 : gcdI n m ∣ n := Int.gcd_dvd_left ..
    have d2 : gcdI n m ∣ m := Int.gcd_dvd_right ..
    have e1 : n.tdiv (gcdI n m) * gcdI n m = n := Int.tdiv_mul_cancel d1
    have e2 : m.tdiv (gcdI n m) * gcdI n m = m := Int.tdiv_mul_cancel d2
    unfold lowF at hx hy
    dsimp only at hx hy
    generalize gcdI n m = g at *
    have key : ∀ u v : Int, u * g = n → v * g = m → u * m = v * n := fun u v hu hv => by
      rw [← hu, ← hv, ← Int.mul_assoc, ← Int.mul_assoc, Int.mul_comm u v]
    by_cases hneg : m < 0
    · rw [if_pos hneg, Int.neg_tdiv] at hx hy
      have := key _ _ e1 e2
      rw [← hx, ← hy, Int.neg_mul, Int.neg_mul, this]
    · rw [if_neg hneg] at hx hy
      rw [← hx, ← hy]; exact key _ _ e1 e2
  have e1 : ckFs [(x, y), (c, d)] = 0 := by rw [ckFs_two, if_neg (by simp [hk])]; exact h2
  unfold mulN
  rw [if_neg (by simp [e1])]
  refine lowN_of h1 (Int.mul_pos (by omega) (by omega)) ?_
  have e3 : x * c * b = x * (b * c) := by rw [Int.mul_assoc, Int.mul_comm c b]
  have e4 : a * (y * d) = y * (a * d) := by rw [← Int.mul_assoc, Int.mul_comm a y, Int.mul_assoc]
  rw [e3, e4, hcross]

end Go.Proofs.Ytdlddfmodbcnmaa
