/- The value of a product of polynomials is the product of the values: no Go in sight. -/
import Derived.Test.YtdlddfmodbcnmaaP7
set_option linter.unusedVariables false
set_option linter.unusedSimpArgs false
namespace Go.Proofs.Ytdlddfmodbcnmaa

/-- The value at N / D times the power of D, from the first place on. -/
def hv (N D : Int) (z : Row) : Nat → Int
  | 0 => 0
  | n + 1 => hv N D z n * D + z n * N ^ n
theorem hv_congr (N D : Int) {z y : Row} : ∀ {n : Nat}, (∀ i, i < n → z i = y i) → hv N D z n = hv N D y n
  | 0, _ => rfl
  | n + 1, h => by unfold hv; rw [hv_congr N D (fun i hi => h i (by omega)), h n (by omega)]
theorem hv_low (N D : Int) (z : Row) : ∀ k, hv N D z (k + 1) = hv N D (fun i => z (i + 1)) k * N + z 0 * D ^ k
  | 0 => by simp [hv]
  | k + 1 => by
    rw [hv, hv_low N D z k, hv]
    simp only [Int.add_mul, Int.pow_succ, Int.mul_assoc]
    have e1 : D * (N : Int) = N * D := Int.mul_comm _ _
    rw [e1]
    omega
theorem vpN_pow (z : Row) (N D : Int) (n : Nat) : ∀ k, (vpN z N D n k).2 = D ^ k
  | 0 => by simp [vpN]
  | k + 1 => by unfold vpN vpStep; rw [vpN_pow z N D n k, Int.pow_succ]
theorem vpN_hv (z : Row) (N D : Int) (n : Nat) : ∀ k, k ≤ n → (vpN z N D n k).1 = hv N D (fun i => z (n - k + i)) k
  | 0, _ => by simp [vpN, hv]
  | k + 1, h => by
    rw [hv_low]
    unfold vpN vpStep
    dsimp only
    rw [vpN_pow, vpN_hv z N D n k (by omega), show n - (k + 1) + 0 = n - 1 - k by omega]
    congr 2
    exact hv_congr N D (fun i _ => by rw [show n - (k + 1) + (i + 1) = n - k + i by omega])
theorem sgAt_hv (n : Nat) (z : Row) (N D : Int) : sgAt n z N D = cmpI (hv N D z n) 0 := by
  unfold sgAt
  rw [vpN_hv z N D n n (Nat.le_refl n)]
  congr 1
  exact hv_congr N D (fun i _ => by rw [Nat.sub_self, Nat.zero_add])
theorem hv_add (N D : Int) (c d : Row) : ∀ n, hv N D (fun t => c t + d t) n = hv N D c n + hv N D d n
  | 0 => rfl
  | n + 1 => by unfold hv; rw [hv_add N D c d n]; simp only [Int.add_mul]; omega
theorem hv_nil (N D : Int) {s : Row} : ∀ {n : Nat}, (∀ t, t < n → s t = 0) → hv N D s n = 0
  | 0, _ => rfl
  | n + 1, h => by unfold hv; rw [hv_nil N D (fun t ht => h t (by omega)), h n (by omega)]; simp
/-- A row moved up by k and multiplied. -/
def mv (a : Int) (q : Row) (k m : Nat) : Row := fun t => if k ≤ t ∧ t < k + m then a * q (t - k) else 0
theorem hv_mv1 (N D a : Int) (q : Row) (k m : Nat) : ∀ l, l ≤ m → hv N D (mv a q k m) (k + l) = a * N ^ k * hv N D q l
  | 0, _ => by
    rw [Nat.add_zero, hv_nil N D (fun t ht => by unfold mv; rw [if_neg (by omega)])]; simp [hv]
  | l + 1, h => by
    rw [show k + (l + 1) = (k + l) + 1 by omega, hv, hv_mv1 N D a q k m l (by omega), hv]
    have e : mv a q k m (k + l) = a * q l := by unfold mv; rw [if_pos (by omega), show k + l - k = l by omega]
    rw [e, Int.pow_add, Int.mul_add]
    congr 1
    · rw [Int.mul_assoc]
    · rw [Int.mul_assoc, Int.mul_assoc, Int.mul_left_comm (q l)]
theorem hv_mv2 (N D a : Int) (q : Row) (k m : Nat) : ∀ r, hv N D (mv a q k m) (k + m + r) = a * N ^ k * hv N D q m * D ^ r
  | 0 => by rw [Nat.add_zero, hv_mv1 N D a q k m m (Nat.le_refl m)]; simp
  | r + 1 => by
    rw [show k + m + (r + 1) = (k + m + r) + 1 by omega, hv, hv_mv2 N D a q k m r]
    have e : mv a q k m (k + m + r) = 0 := by unfold mv; rw [if_neg (by omega)]
    rw [e, Int.pow_succ, Int.zero_mul, Int.add_zero, Int.mul_assoc _ (D ^ r) D]
theorem hv_cv (N D : Int) (p q : Row) (n m T : Nat) (hm : 1 ≤ m) (hT : n + m = T + 1) : ∀ k, k ≤ n → hv N D (cv m p q k) T = hv N D p k * D ^ (n - k) * hv N D q m
  | 0, _ => by
    have e : hv N D (cv m p q 0) T = 0 := hv_nil N D (s := cv m p q 0) (fun t _ => rfl)
    rw [e]; simp [hv]
  | k + 1, h => by
    have e : hv N D (cv m p q (k + 1)) T = hv N D (cv m p q k) T + hv N D (mv (p k) q k m) T := hv_add N D _ _ T
    rw [e, hv_cv N D p q n m T hm hT k (by omega), show T = k + m + (n - (k + 1)) by omega, hv_mv2, hv]
    rw [show n - k = (n - (k + 1)) + 1 by omega, Int.pow_succ]
    simp only [Int.add_mul]
    congr 1
    · rw [Int.mul_comm (D ^ (n - (k + 1))) D, Int.mul_assoc, Int.mul_assoc, Int.mul_assoc, Int.mul_assoc]
    · rw [Int.mul_assoc (p k * N ^ k), Int.mul_comm (hv N D q m), ← Int.mul_assoc]
theorem hv_prod (N D : Int) (p q : Row) (n m : Nat) (hn : 1 ≤ n) (hm : 1 ≤ m) : hv N D (cv m p q n) (n + m - 1) = hv N D p n * hv N D q m := by
  rw [hv_cv N D p q n m (n + m - 1) hm (by omega) n (Nat.le_refl n)]; simp
theorem cmpI_mul (x y : Int) : cmpI (x * y) 0 = cmpI x 0 * cmpI y 0 := by
  rcases Int.lt_trichotomy x 0 with hx | hx | hx
  · rcases Int.lt_trichotomy y 0 with hy | hy | hy
    · have := Int.mul_pos_of_neg_of_neg hx hy
      simp only [cmpI]; rw [if_neg (by omega), if_pos this, if_pos hx, if_pos hy]; rfl
    · subst hy; simp [cmpI]
    · have := Int.mul_neg_of_neg_of_pos hx hy
      simp only [cmpI]; rw [if_pos this, if_pos hx, if_neg (by omega), if_pos hy]; rfl
  · subst hx; simp [cmpI]
  · rcases Int.lt_trichotomy y 0 with hy | hy | hy
    · have := Int.mul_neg_of_pos_of_neg hx hy
      simp only [cmpI]; rw [if_pos this, if_neg (by omega), if_pos hx, if_pos hy]; rfl
    · subst hy; simp [cmpI]
    · have := Int.mul_pos hx hy
      simp only [cmpI]; rw [if_neg (by omega), if_pos this, if_neg (by omega), if_pos hx, if_neg (by omega), if_pos hy]; rfl
theorem sgAt_prod (N D : Int) (p q : Row) (n m : Nat) (hn : 1 ≤ n) (hm : 1 ≤ m) : sgAt (n + m - 1) (cv m p q n) N D = sgAt n p N D * sgAt m q N D := by
  rw [sgAt_hv, sgAt_hv, sgAt_hv, hv_prod N D p q n m hn hm, cmpI_mul]
theorem sgAt_bd (n : Nat) (z : Row) (N D : Int) : -1 ≤ sgAt n z N D ∧ sgAt n z N D ≤ 1 := by
  unfold sgAt cmpI; split <;> (try split) <;> omega

end Go.Proofs.Ytdlddfmodbcnmaa
