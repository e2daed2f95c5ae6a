/- Chapter 2, plain: roots of the program. -/
import Derived.Test.YtkffimkedibmnaaOPa
set_option linter.unusedVariables false
set_option linter.unusedSimpArgs false
namespace Go.Proofs.Ytkffimkedibmnaa.Vg
open Go Go.Proofs.Ytkffimkedibmnaa.Ev Go.Proofs.Ytkffimkedibmnaa.Vv
def IsRt (n r : Int) : Prop := 0 ≤ r ∧ r * r ≤ n ∧ n < (r + 1) * (r + 1)

theorem sq_le {a b : Int} (ha : 0 ≤ a) (h : a ≤ b) : a * a ≤ b * b := Int.mul_le_mul h h ha (by omega)
theorem sq_lt {a b : Int} (hb : 0 ≤ b) (h : a * a < b * b) : a < b := by
  rcases Int.lt_or_le a b with h1 | h1
  · exact h1
  · have := sq_le hb h1; omega
theorem IsRt.unique {n r s : Int} (h : IsRt n r) (k : IsRt n s) : r = s := by
  obtain ⟨h0, h1, h2⟩ := h
  obtain ⟨k0, k1, k2⟩ := k
  have a : r < s + 1 := sq_lt (by omega) (by omega)
  have b : s < r + 1 := sq_lt (by omega) (by omega)
  omega

/-- Newton's step stays above. -/
theorem newton_up {n r : Int} (hn : 0 ≤ n) (hr : 1 ≤ r) : n < ((r + n / r) / 2 + 1) * ((r + n / r) / 2 + 1) := by
  have hq : n < r * (n / r + 1) := by
    have h1 := Int.mul_ediv_add_emod n r
    have h2 := Int.emod_lt_of_pos n (show 0 < r by omega)
    rw [Int.mul_add]; omega
  generalize hQ : n / r = q at *
  have hq0 : 0 ≤ q := by rw [← hQ]; exact Int.ediv_nonneg hn (by omega)
  have ht : r + (q + 1) ≤ 2 * ((r + q) / 2 + 1) := by omega
  generalize (r + q) / 2 + 1 = t at *
  have h1 := sq_le (a := r + (q + 1)) (b := 2 * t) (by omega) ht
  have h2 : 0 ≤ (r - (q + 1)) * (r - (q + 1)) := by
    rcases Int.le_total 0 (r - (q + 1)) with h | h
    · exact Int.mul_nonneg h h
    · exact Int.mul_nonneg_of_nonpos_of_nonpos h h
  have e1 : (r + (q + 1)) * (r + (q + 1)) = (r - (q + 1)) * (r - (q + 1)) + 4 * (r * (q + 1)) := by
    simp only [Int.add_mul, Int.mul_add, Int.sub_mul, Int.mul_sub, Int.mul_comm q r]; omega
  have e2 : 2 * t * (2 * t) = 4 * (t * t) := by
    rw [Int.mul_assoc, Int.mul_left_comm t 2 t, ← Int.mul_assoc]; rfl
  omega
theorem newton_end {n r : Int} (hn : 0 ≤ n) (hr : 1 ≤ r) (h : r ≤ (r + n / r) / 2) : r * r ≤ n := by
  have h1 : r ≤ n / r := by omega
  have h2 := Int.mul_ediv_self_le (x := n) (k := r) (by omega)
  have h3 : r * r ≤ r * (n / r) := Int.mul_le_mul_of_nonneg_left h1 (by omega)
  omega
theorem up_pos {n r : Int} (hn : 1 ≤ n) (hr : 0 ≤ r) (h : n < (r + 1) * (r + 1)) : 1 ≤ r := by
  rcases Int.lt_or_le r 1 with h1 | h1
  · obtain rfl : r = 0 := by omega
    simp at h; omega
  · exact h1

/-- The square root of a quotient, rounded down and up. -/
theorem div_le {n d : Int} (hn : 0 ≤ n) (hd : 0 < d) : 0 ≤ n / d ∧ n / d ≤ n := ⟨Int.ediv_nonneg hn (by omega), Int.ediv_le_self d hn⟩
theorem tdiv_pos {n d : Int} (hn : 0 ≤ n) : n.tdiv d = n / d := Int.tdiv_eq_ediv_of_nonneg hn
theorem newton_l (k : Nat) {a : Int} (ha : 1 ≤ a) (ha2 : a ≤ 3000000000000000000) : ∀ (n fuel : Nat) (x : Int), 1 ≤ x → x ≤ 3000000000000000000 → a < (x + 1) * (x + 1) → x < (n : Int) → n ≤ fuel → ∃ r, noptics_rootDown_l0_0 k a fuel x ((x + a / x) / 2) = some r ∧ IsRt a r := by
  intro n
  induction n with
  | zero => intro fuel x h1 h2 h3 h; omega
  | succ n ih =>
    intro fuel x h1 h2 h3 h hf
    obtain ⟨g, rfl⟩ : ∃ g, fuel = g + 1 := ⟨fuel - 1, by omega⟩
    have hq := div_le (n := a) (d := x) (by omega) (by omega)
    rw [noptics_rootDown_l0_0.eq_2]
    by_cases c : (x + a / x) / 2 < x
    · have hup := newton_up (n := a) (by omega) h1
      have hy : 1 ≤ (x + a / x) / 2 := up_pos ha (by omega) hup
      have hq2 := div_le (n := a) (d := (x + a / x) / 2) (by omega) (by omega)
      rw [if_pos c, if_pos (by omega), tdiv_pos (n := a) (by omega), w64_id (n := a / _) (by omega) (by omega), w64_id (n := (x + a / x) / 2 + _) (by omega) (by omega), tdiv_pos (by omega), w64_id (by omega) (by omega)]
      exact ih g ((x + a / x) / 2) hy (by omega) hup (by omega) (by omega)
    · rw [if_neg c]
      exact ⟨x, rfl, by omega, newton_end (by omega) h1 (by omega), h3⟩
theorem rootDown_is (k : Nat) (hk : 100000000000000000000 ≤ k) {a : Int} (ha : 0 ≤ a) (ha2 : a ≤ 3000000000000000000) : ∃ r, noptics_rootDown k a = some r ∧ IsRt a r := by
  unfold noptics_rootDown
  rcases Int.lt_or_le 0 a with h | h
  · have e : w64 ((w64 (a + 1)).tdiv 2) = (a + a / a) / 2 := by
      rw [w64_id (n := a + 1) (by omega) (by omega), tdiv_pos (by omega), w64_id (by omega) (by omega), Int.ediv_self (by omega)]
    have h3 : a < (a + 1) * (a + 1) := by
      have := Int.mul_le_mul_of_nonneg_right (show 1 ≤ a + 1 by omega) (show 0 ≤ a + 1 by omega)
      omega
    obtain ⟨r, e1, e2⟩ := newton_l k h ha2 (a.toNat + 1) k a (by omega) ha2 h3 (by omega) (by omega)
    rw [e, e1]
    exact ⟨r, rfl, e2⟩
  · obtain rfl : a = 0 := by omega
    obtain ⟨g, rfl⟩ : ∃ g, k = g + 1 := ⟨k - 1, by omega⟩
    rw [show w64 ((w64 (0 + 1)).tdiv 2) = 0 from by decide, noptics_rootDown_l0_0.eq_2, if_neg (by decide)]
    exact ⟨0, rfl, by decide, by decide, by decide⟩
/-- the whole root of a number. -/
noncomputable def rtI (n : Int) : Int := Classical.epsilon (IsRt n)
theorem rtI_is {n : Int} (h : 0 ≤ n) (h' : n ≤ 3000000000000000000) : IsRt n (rtI n) := by
  obtain ⟨r, _, e⟩ := rootDown_is big (Nat.le_refl _) h h'
  exact Classical.epsilon_spec ⟨r, e⟩
theorem rootDown_any (k : Nat) (hk : 100000000000000000000 ≤ k) {a : Int} (ha : 0 ≤ a) (ha2 : a ≤ 3000000000000000000) : noptics_rootDown k a = some (rtI a) := by
  obtain ⟨r, e1, e2⟩ := rootDown_is k hk ha ha2
  rw [e1, e2.unique (rtI_is ha ha2)]
theorem rtI_le {n : Int} (h : 0 ≤ n) (h' : n ≤ 3000000000000000000) : 0 ≤ rtI n ∧ rtI n ≤ 1800000000 := by
  obtain ⟨a, b, c⟩ := rtI_is h h'
  refine ⟨a, ?_⟩
  have : rtI n < 1800000001 := sq_lt (by omega) (by omega)
  omega
/-- and rounded up. -/
noncomputable def upI (n : Int) : Int := if rtI n * rtI n < n then rtI n + 1 else rtI n
theorem rtI_sq {n : Int} (h : 0 ≤ n) (h' : n ≤ 3000000000000000000) : 0 ≤ rtI n * rtI n ∧ rtI n * rtI n ≤ 3000000000000000000 := by
  obtain ⟨a, b, c⟩ := rtI_is h h'
  exact ⟨Int.mul_nonneg a a, by omega⟩
theorem upI_le {n : Int} (h : 0 ≤ n) (h' : n ≤ 3000000000000000000) : rtI n ≤ upI n ∧ upI n ≤ rtI n + 1 := by
  unfold upI; split <;> omega
theorem rootUp_any (k : Nat) (hk : 100000000000000000000 ≤ k) {a : Int} (ha : 0 ≤ a) (ha2 : a ≤ 3000000000000000000) : noptics_rootUp k a = some (upI a) := by
  have h1 := rtI_le ha ha2
  have h2 := rtI_sq ha ha2
  unfold noptics_rootUp upI
  rw [rootDown_any k hk ha ha2, Option.bind_some, w64_id (by omega) (by omega)]
  by_cases c : rtI a * rtI a < a
  · rw [if_pos c, if_pos c, w64_id (by omega) (by omega)]
  · rw [if_neg c, if_neg c]
end Go.Proofs.Ytkffimkedibmnaa.Vg
