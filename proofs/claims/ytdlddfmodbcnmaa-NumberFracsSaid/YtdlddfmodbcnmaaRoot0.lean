/- Whole square roots, no Go in sight. -/
import Derived.Test.YtdlddfmodbcnmaaPlain
set_option linter.unusedVariables false
set_option linter.unusedSimpArgs false
namespace Go.Proofs.Ytdlddfmodbcnmaa

def IsRt (n r : Int) : Prop := 0 ≤ r ∧ r * r ≤ n ∧ n < (r + 1) * (r + 1)

theorem sq_le {a b : Int} (ha : 0 ≤ a) (h : a ≤ b) : a * a ≤ b * b := Int.mul_le_mul h h ha (by omega)
theorem sq_lt {a b : Int} (hb : 0 ≤ b) (h : a * a < b * b) : a < b := by
  rcases Int.lt_or_le a b with h1 | h1
  · exact h1
  · have := sq_le hb h1; omega
theorem IsRt.unique {n r s : Int} (h : IsRt n r) (k : IsRt n s) : r = s := by
  obtain ⟨h0, h1, h2⟩ := h
  obtain ⟨k0, k1, k2⟩ := k
  have a : r < s + 1 := sq_lt (by omega) (by omega)
  have b : s < r + 1 := sq_lt (by omega) (by omega)
  omega

def rtGo : Nat → Int → Int → Int
  | 0, _, r => r
  | k + 1, n, r => if (r + 2 ^ k) * (r + 2 ^ k) ≤ n then rtGo k n (r + 2 ^ k) else rtGo k n r
theorem rtGo_is (k : Nat) : ∀ (n r : Int), 0 ≤ r → r * r ≤ n → n < (r + 2 ^ k) * (r + 2 ^ k) → IsRt n (rtGo k n r) := by
  induction k with
  | zero => intro n r h0 h1 h2; exact ⟨h0, h1, h2⟩
  | succ k ih =>
    intro n r h0 h1 h2
    have hp : (0 : Int) < 2 ^ k := Int.pow_pos (by decide)
    unfold rtGo
    split
    · rename_i h
      refine ih n _ (by omega) h ?_
      have : r + 2 ^ k + 2 ^ k = r + 2 ^ (k + 1) := by rw [Int.pow_succ]; omega
      rw [this]; exact h2
    · rename_i h
      exact ih n r h0 h1 (by omega)
def rt (n : Int) : Int := rtGo 31 n 0
theorem rt_is {n : Int} (h : 0 ≤ n) (h' : n ≤ 1000000000000000000) : IsRt n (rt n) :=
  rtGo_is 31 n 0 (by omega) (by omega) (by
    have : (0 + 2 ^ 31 : Int) * (0 + 2 ^ 31) = 4611686018427387904 := by decide
    rw [this]; omega)
theorem rt_le {n B : Int} (h : 0 ≤ n) (h' : n ≤ 1000000000000000000) (hB : 0 ≤ B) (hn : n < B * B) : rt n < B := by
  obtain ⟨a, b, c⟩ := rt_is h h'
  exact sq_lt hB (by omega)

/-- Newton's step stays above. -/
theorem newton_up {n r : Int} (hn : 0 ≤ n) (hr : 1 ≤ r) : n < ((r + n / r) / 2 + 1) * ((r + n / r) / 2 + 1) := by
  have hq : n < r * (n / r + 1) := by
    have h1 := Int.mul_ediv_add_emod n r
    have h2 := Int.emod_lt_of_pos n (show 0 < r by omega)
    rw [Int.mul_add]; omega
  generalize hQ : n / r = q at *
  have hq0 : 0 ≤ q := by rw [← hQ]; exact Int.ediv_nonneg hn (by omega)
  have ht : r + (q + 1) ≤ 2 * ((r + q) / 2 + 1) := by omega
  generalize (r + q) / 2 + 1 = t at *
  have h1 := sq_le (a := r + (q + 1)) (b := 2 * t) (by omega) ht
  have h2 : 0 ≤ (r - (q + 1)) * (r - (q + 1)) := by
    rcases Int.le_total 0 (r - (q + 1)) with h | h
    · exact Int.mul_nonneg h h
    · exact Int.mul_nonneg_of_nonpos_of_nonpos h h
  have e1 : (r + (q + 1)) * (r + (q + 1)) = (r - (q + 1)) * (r - (q + 1)) + 4 * (r * (q + 1)) := by
    simp only [Int.add_mul, Int.mul_add, Int.sub_mul, Int.mul_sub, Int.mul_comm q r]; omega
  have e2 : 2 * t * (2 * t) = 4 * (t * t) := by
    rw [Int.mul_assoc, Int.mul_left_comm t 2 t, ← Int.mul_assoc]; rfl
  omega
theorem newton_end {n r : Int} (hn : 0 ≤ n) (hr : 1 ≤ r) (h : r ≤ (r + n / r) / 2) : r * r ≤ n := by
  have h1 : r ≤ n / r := by omega
  have h2 := Int.mul_ediv_self_le (x := n) (k := r) (by omega)
  have h3 : r * r ≤ r * (n / r) := Int.mul_le_mul_of_nonneg_left h1 (by omega)
  omega
theorem up_pos {n r : Int} (hn : 1 ≤ n) (hr : 0 ≤ r) (h : n < (r + 1) * (r + 1)) : 1 ≤ r := by
  rcases Int.lt_or_le r 1 with h1 | h1
  · obtain rfl : r = 0 := by omega
    simp at h; omega
  · exact h1

/-- The square root of a quotient, rounded down and up. -/
def sqN (num den : Int) : Int × Int := if rt (num / den) * rt (num / den) * den = num then (rt (num / den), rt (num / den)) else (rt (num / den), rt (num / den) + 1)
theorem sq_facts {num den r : Int} (h0 : 0 ≤ num) (h1 : num ≤ 1000000000000000000) (hd : 1 ≤ den) (hr : IsRt (num / den) r) :
    0 ≤ num / den ∧ num / den ≤ 1000000000000000000 ∧ 0 ≤ r ∧ r ≤ 1000000000 ∧ 0 ≤ r * r ∧ r * r ≤ 1000000000000000000 ∧ 0 ≤ r * r * den ∧ r * r * den ≤ 1000000000000000000 := by
  have a0 : 0 ≤ num / den := Int.ediv_nonneg h0 (by omega)
  have a1 : num / den ≤ num := Int.ediv_le_self _ h0
  obtain ⟨b0, b1, _⟩ := hr
  have c0 : 0 ≤ r * r := Int.mul_nonneg b0 b0
  have d0 : 0 ≤ r * r * den := Int.mul_nonneg c0 (by omega)
  have d1 : r * r * den ≤ num / den * den := Int.mul_le_mul_of_nonneg_right b1 (by omega)
  have d2 : num / den * den ≤ num := Int.ediv_mul_le _ (by omega)
  have e : r < 1000000001 := sq_lt (by omega) (by omega)
  omega
/-- Sqrt: times the square root of a fraction, or the error. -/
def sqrtN (a b t : Int) : Int × Int × Int := if ckF a b ≠ 0 then (0, 0, ckF a b) else if a < 0 ∨ t < 1 ∨ 10000 < t then (0, 0, 2) else ((sqN (t * t * a) b).1, (sqN (t * t * a) b).2, 0)

end Go.Proofs.Ytdlddfmodbcnmaa
