/- Directions by whole numbers. No Go in sight. -/
import Derived.Test.YtlkfkekglmjhhaaSo
set_option linter.unusedVariables false
set_option linter.unusedSimpArgs false
namespace Go.Proofs.Ytlkfkekglmjhhaa

/-- The program's pair of an angle of the first quarter, its end included. -/
structure Quart (m : Int) : Prop where
  p1 : -5 ≤ (arN m).1
  p2 : -5 ≤ (arN m).2
  l1 : (arN m).1 ≤ 1000000010
  l2 : (arN m).2 ≤ 1000000010
theorem arN_qr {m : Int} (h : 0 ≤ m) (h' : m < 324000) : arN m = qrN m := by
  unfold arN
  rw [show m / 324000 % 4 = 0 by omega, show m % 324000 = m by omega]; rfl
theorem arN_end : arN 324000 = ((qrN 0).2, -(qrN 0).1) := rfl
theorem qr_low {r : Int} (h : 0 ≤ r) (h' : r ≤ 162000) : qrN r = (nS (xN r.toNat), nC (xN r.toNat)) := by unfold qrN; rw [if_pos h', serN_at h h']
theorem qr_high {r : Int} (h : 162000 < r) (h' : r < 324000) : qrN r = (nC (xN (324000 - r).toNat), nS (xN (324000 - r).toNat)) := by unfold qrN; rw [if_neg (by omega), serN_at (by omega) (by omega)]
/-- From an angle to the next one. -/
theorem mono_ar {m : Int} (h : 0 ≤ m) (h' : m < 324000) : (arN m).1 ≤ (arN (m + 1)).1 + 10 ∧ (arN (m + 1)).2 ≤ (arN m).2 + 10 := by
  rcases (by omega : m < 162000 ∨ m = 162000 ∨ (162000 < m ∧ m < 323999) ∨ m = 323999) with c | rfl | ⟨c, c'⟩ | rfl
  · obtain ⟨s, k, S, C, s', k', N⟩ := near_all (a := m.toNat) (by omega)
    rw [arN_qr h h', arN_qr (by omega) (by omega), qr_low h (by omega), qr_low (by omega) (by omega), show (m + 1).toNat = m.toNat + 1 by omega, N.ns, N.nc, N.ns', N.nc']
    have := N.m1; have := N.m2
    dsimp only; omega
  · obtain ⟨s, k, S, C, s', k', N⟩ := near_all (a := 161999) (by omega)
    obtain ⟨s2, k2, S2, C2, s2', k2', N2⟩ := near_all (a := 162000) (by omega)
    rw [arN_qr h h', arN_qr (by omega) (by omega), qr_low h (by omega), qr_high (by omega) (by omega)]
    show nS (xN 162000) ≤ nC (xN 161999) + 10 ∧ nS (xN 161999) ≤ nC (xN 162000) + 10
    have h1 : (s' : Int) = s2 := by rw [← N.ns', ← N2.ns]
    have h2 : (k' : Int) = k2 := by rw [← N.nc', ← N2.nc]
    rw [N.ns, N.nc, N2.ns, N2.nc]
    have := N.m1; have := N.m2; have := N2.z1
    omega
  · obtain ⟨s, k, S, C, s', k', N⟩ := near_all (a := (324000 - (m + 1)).toNat) (by omega)
    rw [arN_qr h h', arN_qr (by omega) (by omega), qr_high c h', qr_high (by omega) (by omega), show (324000 - m).toNat = (324000 - (m + 1)).toNat + 1 by omega, N.ns, N.nc, N.ns', N.nc']
    have := N.m1; have := N.m2
    dsimp only; omega
  · obtain ⟨s, k, S, C, s', k', N⟩ := near_all (a := 0) (by omega)
    rw [show (323999 : Int) + 1 = 324000 from rfl, arN_end, arN_qr h h', qr_high (by omega) h', qr_low (by omega) (by omega)]
    show nC (xN (0 + 1)) ≤ nC (xN 0) + 10 ∧ -nS (xN 0) ≤ nS (xN (0 + 1)) + 10
    rw [N.ns, N.nc, N.ns', N.nc']
    have := N.m2
    omega
/-- An angle between 0 and a quarter has a sine that is not small. -/
theorem sine_big {m : Int} (h : 1 ≤ m) (h' : m < 324000) : 900 ≤ (arN m).1 := by
  rw [arN_qr (by omega) h']
  by_cases c : m ≤ 162000
  · obtain ⟨s, k, S, C, s', k', N⟩ := near_all (a := m.toNat) (by omega)
    rw [qr_low (by omega) c, N.ns]; have := N.z3; dsimp only; omega
  · obtain ⟨s, k, S, C, s', k', N⟩ := near_all (a := (324000 - m).toNat) (by omega)
    rw [qr_high (by omega) h', N.nc]; have := N.z4; dsimp only; omega
theorem quart_of {m : Int} (h : 0 ≤ m) (h' : m ≤ 324000) : Quart m := by
  have F0 := first_of (r := 0) (by omega) (by omega)
  have := ar_le m
  by_cases e : m = 324000
  · subst e
    obtain ⟨s, k, S, C, s', k', N⟩ := near_all (a := 0) (by omega)
    have hz : (qrN 0).1 = 0 := by rw [qr_low (by omega) (by omega)]; decide +kernel
    have := F0.p2
    refine ⟨?_, ?_, by omega, by omega⟩ <;> rw [arN_end] <;> dsimp only <;> omega
  · have F := first_of h (by omega)
    have := F.p1; have := F.p2; have := F.l1; have := F.l2
    exact ⟨by rw [arN_qr h (by omega)]; omega, by rw [arN_qr h (by omega)]; omega, by rw [arN_qr h (by omega)]; omega, by rw [arN_qr h (by omega)]; omega⟩

theorem sinR_half (a : Int) : sinR (a + 648000) = -sinR a := by
  have e2 : (a + 648000) % 1296000 % 324000 = a % 1296000 % 324000 := by omega
  unfold sinR
  rw [e2]
  rcases (by omega : a % 1296000 / 324000 = 0 ∨ a % 1296000 / 324000 = 1 ∨ a % 1296000 / 324000 = 2 ∨ a % 1296000 / 324000 = 3) with k | k | k | k <;> rw [k]
  · rw [show (a + 648000) % 1296000 / 324000 = 2 by omega]; simp
  · rw [show (a + 648000) % 1296000 / 324000 = 3 by omega]; simp
  · rw [show (a + 648000) % 1296000 / 324000 = 0 by omega]; simp
  · rw [show (a + 648000) % 1296000 / 324000 = 1 by omega]; simp

/-- How far a vector is ahead of an angle, and how far it goes along it. -/
def acr (a x y : Int) : Int := sinR (a + 324000) * y - sinR a * x
def alo (a x y : Int) : Int := sinR (a + 324000) * x + sinR a * y
theorem acr_turn (a x y : Int) : acr (a + 324000) x y = acr a y (-x) := by
  unfold acr
  rw [show a + 324000 + 324000 = a + 648000 by omega, sinR_half, Int.neg_mul, Int.mul_neg]; omega
theorem alo_turn (a x y : Int) : alo (a + 324000) x y = alo a y (-x) := by
  unfold alo
  rw [show a + 324000 + 324000 = a + 648000 by omega, sinR_half, Int.neg_mul, Int.mul_neg]; omega

/-- What the program finds in the first quarter. -/
structure FQ (x y lo hi : Int) : Prop where
  b1 : 0 ≤ lo
  b2 : lo ≤ hi
  b3 : hi ≤ 324000
  b4 : hi - lo ≤ 2
  b5 : y = 0 → lo = 0
  d1 : -(40 * (x + y)) ≤ acr lo x y
  d2 : acr hi x y ≤ 40 * (x + y)
  d3 : -(40 * (x + y)) ≤ alo lo x y
  d4 : -(40 * (x + y)) ≤ alo hi x y
/-- The program's measure at an angle. -/
def ahN (x y m : Int) : Int := y * (arN m).2 - x * (arN m).1
theorem acr_near {x y m : Int} (hx : 0 ≤ x) (hy : 0 ≤ y) : ahN x y m - 5 * (x + y) ≤ acr m x y ∧ acr m x y ≤ ahN x y m + 5 * (x + y) := by
  obtain ⟨⟨h1, h2⟩, ⟨h3, h4⟩⟩ := sine_near m
  unfold ahN acr
  have a1 := Int.mul_le_mul_of_nonneg_left h1 hx
  have a2 := Int.mul_le_mul_of_nonneg_left h2 hx
  have a3 := Int.mul_le_mul_of_nonneg_left h3 hy
  have a4 := Int.mul_le_mul_of_nonneg_left h4 hy
  rw [Int.mul_add] at a1 a2 a3 a4
  rw [Int.mul_comm (sinR (m + 324000)) y, Int.mul_comm (sinR m) x]
  omega
theorem alo_low {x y m : Int} (hx : 0 ≤ x) (hy : 0 ≤ y) (h : 0 ≤ m) (h' : m ≤ 324000) : -(40 * (x + y)) ≤ alo m x y := by
  obtain ⟨⟨h1, h2⟩, ⟨h3, h4⟩⟩ := sine_near m
  have Q := quart_of h h'
  have q1 := Q.p1
  have q2 := Q.p2
  unfold alo
  have a1 := Int.mul_le_mul_of_nonneg_right (show -10 ≤ sinR (m + 324000) by omega) hx
  have a2 := Int.mul_le_mul_of_nonneg_right (show -10 ≤ sinR m by omega) hy
  omega
theorem ah_next {x y m : Int} (hx : 0 ≤ x) (hy : 0 ≤ y) (h : 0 ≤ m) (h' : m < 324000) : ahN x y (m + 1) ≤ ahN x y m + 10 * (x + y) := by
  obtain ⟨h1, h2⟩ := mono_ar h h'
  unfold ahN
  have a1 := Int.mul_le_mul_of_nonneg_left h1 hx
  have a2 := Int.mul_le_mul_of_nonneg_left h2 hy
  rw [Int.mul_add] at a1 a2
  omega
theorem ah_zero {x y : Int} (hy : 0 ≤ y) : 0 ≤ ahN x y 0 := by
  have hz : (arN 0).1 = 0 := by decide +kernel
  have Q := (first_of (r := 0) (by omega) (by omega)).p2
  rw [← arN_qr (m := 0) (by omega) (by omega)] at Q
  unfold ahN
  rw [hz]
  have := Int.mul_nonneg hy Q
  omega
theorem ah_end {x y : Int} (hx : 0 ≤ x) : ahN x y 324000 ≤ 0 := by
  have hz : (arN 324000).2 = 0 := by decide +kernel
  have Q := (first_of (r := 0) (by omega) (by omega)).p2
  unfold ahN
  rw [hz, arN_end]
  have := Int.mul_nonneg hx Q
  dsimp only
  omega
/-- Between two neighbours. -/
theorem fq_next {x y lo : Int} (hx : 1 ≤ x) (hy : 0 ≤ y) (h0 : 0 ≤ lo) (h1 : lo < 324000) (hl : lo = 0 ∨ 20 * (x + y) < ahN x y lo) (hh : lo + 1 = 324000 ∨ ahN x y (lo + 1) < -(20 * (x + y))) : FQ x y lo (lo + 1) := by
  have n1 := acr_near (x := x) (y := y) (m := lo) (by omega) hy
  have n2 := acr_near (x := x) (y := y) (m := lo + 1) (by omega) hy
  refine ⟨h0, by omega, by omega, by omega, ?_, ?_, ?_, alo_low (by omega) hy h0 (by omega), alo_low (by omega) hy (by omega) (by omega)⟩
  · intro hy0
    rcases hl with hl | hl
    · exact hl
    · by_cases e : lo = 0
      · exact e
      · exfalso
        have := sine_big (m := lo) (by omega) h1
        subst hy0
        have a1 := Int.mul_le_mul_of_nonneg_left this (show 0 ≤ x by omega)
        unfold ahN at hl
        omega
  · rcases hl with hl | hl
    · subst hl; have := ah_zero (x := x) hy; omega
    · omega
  · rcases hh with hh | hh
    · rw [hh] at n2 ⊢; have := ah_end (x := x) (y := y) (by omega); omega
    · omega
/-- Around an angle that can't be told from the direction. -/
theorem fq_around {x y m : Int} (hx : 1 ≤ x) (hy : 0 ≤ y) (h0 : 1 ≤ m) (h1 : m < 324000) (hl : ahN x y m ≤ 20 * (x + y)) (hh : -(20 * (x + y)) ≤ ahN x y m) : FQ x y (m - 1) (m + 1) := by
  have n1 := acr_near (x := x) (y := y) (m := m - 1) (by omega) hy
  have n2 := acr_near (x := x) (y := y) (m := m + 1) (by omega) hy
  have k1 := ah_next (x := x) (y := y) (m := m - 1) (by omega) hy (by omega) (by omega)
  have k2 := ah_next (x := x) (y := y) (m := m) (by omega) hy (by omega) (by omega)
  rw [show m - 1 + 1 = m by omega] at k1
  refine ⟨by omega, by omega, by omega, by omega, ?_, by omega, by omega, alo_low (by omega) hy (by omega) (by omega), alo_low (by omega) hy (by omega) (by omega)⟩
  intro hy0
  exfalso
  have := sine_big (m := m) (by omega) h1
  subst hy0
  have a1 := Int.mul_le_mul_of_nonneg_left this (show 0 ≤ x by omega)
  unfold ahN at hh
  omega
theorem ah_bd {x y m : Int} (hx : 0 ≤ x) (hx' : x ≤ 10000) (hy : 0 ≤ y) (hy' : y ≤ 10000) : -10000000100000 ≤ y * (arN m).2 ∧ y * (arN m).2 ≤ 10000000100000 ∧ -10000000100000 ≤ x * (arN m).1 ∧ x * (arN m).1 ≤ 10000000100000 := by
  obtain ⟨h1, h2, h3, h4⟩ := ar_le m
  have a := mul_bd (x := y) (y := (arN m).2) (A := 10000) (B := 1000000010) (by omega) (by omega) (by omega) (by omega)
  have b := mul_bd (x := x) (y := (arN m).1) (A := 10000) (B := 1000000010) (by omega) (by omega) (by omega) (by omega)
  omega

/-- What is asked of the direction of any vector. -/
structure Dir (lo hi x y : Int) : Prop where
  b1 : 0 ≤ lo
  b2 : lo ≤ hi
  b3 : hi ≤ 1296000
  b4 : hi - lo ≤ 2
  h1 : 0 ≤ y → ¬ (y = 0 ∧ x < 0) → lo ≤ 648000
  h2 : y < 0 → 648000 ≤ hi
  h3 : y = 0 → 0 < x → lo ≤ 0
  d1 : -(40 * (sz x + sz y)) ≤ acr lo x y
  d2 : acr hi x y ≤ 40 * (sz x + sz y)
  d3 : -(40 * (sz x + sz y)) ≤ alo lo x y
  d4 : -(40 * (sz x + sz y)) ≤ alo hi x y
theorem sz_turn (x y : Int) : sz y + sz (-x) = sz x + sz y := by unfold sz; omega
theorem dir0 {x y lo hi : Int} (hx : 1 ≤ x) (hy : 0 ≤ y) (F : FQ x y lo hi) : Dir lo hi x y := by
  obtain ⟨b1, b2, b3, b4, b5, d1, d2, d3, d4⟩ := F
  have s1 : sz x = x := (sz_pos (by omega)).symm
  have s2 : sz y = y := (sz_pos hy).symm
  exact ⟨b1, b2, by omega, b4, by omega, by omega, fun h _ => by have := b5 h; omega, by rw [s1, s2]; exact d1, by rw [s1, s2]; exact d2, by rw [s1, s2]; exact d3, by rw [s1, s2]; exact d4⟩
theorem dir_turn1 {x y lo hi : Int} (hx : 1 ≤ y) (hy : 0 ≤ -x) (F : FQ y (-x) lo hi) : Dir (lo + 324000) (hi + 324000) x y := by
  obtain ⟨b1, b2, b3, b4, b5, d1, d2, d3, d4⟩ := F
  have s1 : sz x + sz y = y + -x := by unfold sz; omega
  exact ⟨by omega, by omega, by omega, by omega, by omega, by omega, by omega, by rw [s1, acr_turn]; exact d1, by rw [s1, acr_turn]; exact d2, by rw [s1, alo_turn]; exact d3, by rw [s1, alo_turn]; exact d4⟩
theorem dir_turn2 {x y lo hi : Int} (hx : 1 ≤ -x) (hy : 0 ≤ -y) (F : FQ (-x) (-y) lo hi) : Dir (lo + 648000) (hi + 648000) x y := by
  obtain ⟨b1, b2, b3, b4, b5, d1, d2, d3, d4⟩ := F
  have s1 : sz x + sz y = -x + -y := by unfold sz; omega
  have t1 : ∀ a, acr (a + 648000) x y = acr a (-x) (-y) := fun a => by rw [show a + 648000 = a + 324000 + 324000 by omega, acr_turn, acr_turn]
  have t2 : ∀ a, alo (a + 648000) x y = alo a (-x) (-y) := fun a => by rw [show a + 648000 = a + 324000 + 324000 by omega, alo_turn, alo_turn]
  refine ⟨by omega, by omega, by omega, by omega, ?_, by omega, by omega, by rw [s1, t1]; exact d1, by rw [s1, t1]; exact d2, by rw [s1, t2]; exact d3, by rw [s1, t2]; exact d4⟩
  intro h h2; exfalso; exact h2 ⟨by omega, by omega⟩
theorem dir_turn3 {x y lo hi : Int} (hx : 1 ≤ -y) (hy : 0 ≤ x) (F : FQ (-y) x lo hi) : Dir (lo + 972000) (hi + 972000) x y := by
  obtain ⟨b1, b2, b3, b4, b5, d1, d2, d3, d4⟩ := F
  have s1 : sz x + sz y = -y + x := by unfold sz; omega
  have t1 : ∀ a, acr (a + 972000) x y = acr a (-y) x := fun a => by rw [show a + 972000 = a + 324000 + 324000 + 324000 by omega, acr_turn, acr_turn, acr_turn, Int.neg_neg]
  have t2 : ∀ a, alo (a + 972000) x y = alo a (-y) x := fun a => by rw [show a + 972000 = a + 324000 + 324000 + 324000 by omega, alo_turn, alo_turn, alo_turn, Int.neg_neg]
  exact ⟨by omega, by omega, by omega, by omega, by omega, by omega, by omega, by rw [s1, t1]; exact d1, by rw [s1, t1]; exact d2, by rw [s1, t2]; exact d3, by rw [s1, t2]; exact d4⟩

end Go.Proofs.Ytlkfkekglmjhhaa
