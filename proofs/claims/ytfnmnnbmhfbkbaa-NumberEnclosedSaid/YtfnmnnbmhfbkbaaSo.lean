/- Sines by whole numbers, two ways: the whole circle. No Go in sight. -/
import Derived.Test.YtfnmnnbmhfbkbaaSn
set_option linter.unusedVariables false
set_option linter.unusedSimpArgs false
namespace Go.Proofs.Ytfnmnnbmhfbkbaa

def chkTie : Bool :=
  withSer (Nat.div (Nat.mul 162000 3141592654) 648000) fun s c =>
  withSer (Nat.div (Nat.div (Nat.mul 162000 3141592653590) 648000) 1000) fun S _ =>
  and (Nat.ble c (Nat.add S 5)) (and (Nat.ble S (Nat.add c 5)) (and (Nat.ble c (Nat.add s 5)) (Nat.ble s (Nat.add c 5))))
theorem tie_ok : chkTie = true := by decide +kernel
theorem tie : ∃ s c S : Nat, nS (xN 162000) = s ∧ nC (xN 162000) = c ∧ nS (xR 162000) = S ∧ c ≤ S + 5 ∧ S ≤ c + 5 ∧ c ≤ s + 5 ∧ s ≤ c + 5 := by
  have h := tie_ok
  unfold chkTie at h
  obtain ⟨s, c, h1, h2, h⟩ := withSer_out h
  obtain ⟨S, C, h3, h4, h⟩ := withSer_out h
  simp only [Bool.and_eq_true] at h
  obtain ⟨a1, a2, a3, a4⟩ := h
  exact ⟨s, c, S, h1, h2, h3, Nat.le_of_ble_eq_true a1, Nat.le_of_ble_eq_true a2, Nat.le_of_ble_eq_true a3, Nat.le_of_ble_eq_true a4⟩

/-- x is near y. -/
def By (D x y : Int) : Prop := x ≤ y + D ∧ y ≤ x + D

/-- The reference's sine in the first quarter, its end included, and of any angle. -/
def quR (r : Int) : Int := if 324000 - r < r then (serQ (324000 - r)).2 else (serQ r).1
def sinR (a : Int) : Int :=
  if 2 ≤ a % 1296000 / 324000 then -quR (if a % 1296000 / 324000 % 2 = 1 then 324000 - a % 1296000 % 324000 else a % 1296000 % 324000)
  else quR (if a % 1296000 / 324000 % 2 = 1 then 324000 - a % 1296000 % 324000 else a % 1296000 % 324000)

/-- What is known of the program's pair in the first quarter. -/
structure First (r : Int) : Prop where
  n1 : By 5 (qrN r).1 (quR r)
  n2 : By 5 (qrN r).2 (quR (324000 - r))
  p1 : 0 ≤ (qrN r).1
  p2 : 0 ≤ (qrN r).2
  l1 : (qrN r).1 ≤ 1000000010
  l2 : (qrN r).2 ≤ 1000000010
  q1 : ((qrN r).1.toNat - 20) * ((qrN r).1.toNat - 20) + ((qrN r).2.toNat - 20) * ((qrN r).2.toNat - 20) ≤ 1000000000000000000
  q2 : 1000000000000000000 ≤ ((qrN r).1.toNat + 20) * ((qrN r).1.toNat + 20) + ((qrN r).2.toNat + 20) * ((qrN r).2.toNat + 20)
theorem serQ_at {r : Int} (h : 0 ≤ r) (h' : r ≤ 162000) : serQ r = (nS (xR r.toNat), nC (xR r.toNat)) := by
  have := serQ_eq (a := r.toNat) (by omega)
  rwa [Int.toNat_of_nonneg h] at this
theorem serN_at {r : Int} (h : 0 ≤ r) (h' : r ≤ 162000) : serN r = (nS (xN r.toNat), nC (xN r.toNat)) := by
  have := serN_eq (a := r.toNat) (by omega)
  rwa [Int.toNat_of_nonneg h] at this
theorem first_of {r : Int} (h : 0 ≤ r) (h' : r < 324000) : First r := by
  by_cases hr : r ≤ 162000
  · obtain ⟨s, c, S, C, s', c', N⟩ := near_all (a := r.toNat) (by omega)
    have e : qrN r = ((s : Int), (c : Int)) := by unfold qrN; rw [if_pos hr, serN_at h hr, N.ns, N.nc]
    have e1 : quR r = (S : Int) := by unfold quR; rw [if_neg (by omega), serQ_at h hr, N.rs]
    have e2 : By 5 (c : Int) (quR (324000 - r)) := by
      by_cases ht : r = 162000
      · subst ht
        obtain ⟨s0, c0, S0, t1, t2, t3, t4, t5, _⟩ := tie
        have e4 : quR (324000 - 162000) = nS (xR 162000) := by
          show quR 162000 = _
          unfold quR; rw [if_neg (by omega), serQ_at (by omega) (by omega)]; rfl
        rw [e4, t3]
        have : (c : Int) = c0 := by rw [← N.nc, ← t2]; rfl
        unfold By; omega
      · have e4 : quR (324000 - r) = (C : Int) := by
          unfold quR; rw [if_pos (by omega), show 324000 - (324000 - r) = r by omega, serQ_at h hr, N.rc]
        rw [e4]; have := N.a3; have := N.a4; unfold By; omega
    have := N.a1; have := N.a2; have := N.z1; have := N.z2
    refine ⟨?_, ?_, ?_, ?_, ?_, ?_, ?_, ?_⟩ <;> rw [e]
    · rw [e1]; unfold By; dsimp only; omega
    · exact e2
    · dsimp only; omega
    · dsimp only; omega
    · dsimp only; omega
    · dsimp only; omega
    · exact N.q1
    · exact N.q2
  · obtain ⟨s, c, S, C, s', c', N⟩ := near_all (a := (324000 - r).toNat) (by omega)
    have e : qrN r = ((c : Int), (s : Int)) := by unfold qrN; rw [if_neg hr, serN_at (by omega) (by omega), N.ns, N.nc]
    have e1 : quR r = (C : Int) := by unfold quR; rw [if_pos (by omega), serQ_at (by omega) (by omega), N.rc]
    have e2 : quR (324000 - r) = (S : Int) := by unfold quR; rw [if_neg (by omega), serQ_at (by omega) (by omega), N.rs]
    have := N.a1; have := N.a2; have := N.a3; have := N.a4; have := N.z1; have := N.z2
    refine ⟨?_, ?_, ?_, ?_, ?_, ?_, ?_, ?_⟩ <;> rw [e]
    · rw [e1]; unfold By; dsimp only; omega
    · rw [e2]; unfold By; dsimp only; omega
    · dsimp only; omega
    · dsimp only; omega
    · dsimp only; omega
    · dsimp only; omega
    · have := N.q1; show (c - 20) * (c - 20) + (s - 20) * (s - 20) ≤ _; omega
    · have := N.q2; show _ ≤ (c + 20) * (c + 20) + (s + 20) * (s + 20); omega

theorem rot4 (p : Int × Int) : rot 0 p = p ∧ rot 1 p = (p.2, -p.1) ∧ rot 2 p = (-p.1, -p.2) ∧ rot 3 p = (-p.2, p.1) := by
  refine ⟨rfl, rfl, rfl, ?_⟩
  show (-p.2, - -p.1) = _
  rw [Int.neg_neg]
theorem quarter_cases (a : Int) : a / 324000 % 4 = 0 ∨ a / 324000 % 4 = 1 ∨ a / 324000 % 4 = 2 ∨ a / 324000 % 4 = 3 := by omega
/-- Both sines are near each other. -/
theorem sine_near (a : Int) : By 5 (arN a).1 (sinR a) ∧ By 5 (arN a).2 (sinR (a + 324000)) := by
  have F := first_of (r := a % 324000) (by omega) (by omega)
  obtain ⟨f1, f2⟩ := F.n1
  obtain ⟨f3, f4⟩ := F.n2
  have e1 : a % 1296000 % 324000 = a % 324000 := by omega
  have e2 : (a + 324000) % 1296000 % 324000 = a % 324000 := by omega
  have g1 : a % 1296000 / 324000 = a / 324000 % 4 := by omega
  obtain ⟨r0, r1, r2, r3⟩ := rot4 (qrN (a % 324000))
  unfold arN sinR
  rw [e1, e2, g1]
  rcases quarter_cases a with k | k | k | k <;> rw [k]
  · have g2 : (a + 324000) % 1296000 / 324000 = 1 := by omega
    rw [g2, show (0 : Int).toNat = 0 from rfl, r0, if_neg (by omega), if_neg (by omega), if_neg (by omega), if_pos (by omega)]
    exact ⟨F.n1, F.n2⟩
  · have g2 : (a + 324000) % 1296000 / 324000 = 2 := by omega
    rw [g2, show (1 : Int).toNat = 1 from rfl, r1, if_neg (by omega), if_pos (by omega), if_pos (by omega), if_neg (by omega)]
    refine ⟨F.n2, ?_⟩; unfold By; dsimp only; omega
  · have g2 : (a + 324000) % 1296000 / 324000 = 3 := by omega
    rw [g2, show (2 : Int).toNat = 2 from rfl, r2, if_pos (by omega), if_neg (by omega), if_pos (by omega), if_pos (by omega)]
    refine ⟨?_, ?_⟩ <;> (unfold By; dsimp only; omega)
  · have g2 : (a + 324000) % 1296000 / 324000 = 0 := by omega
    rw [g2, show (3 : Int).toNat = 3 from rfl, r3, if_pos (by omega), if_pos (by omega), if_neg (by omega), if_neg (by omega)]
    refine ⟨?_, F.n1⟩; unfold By; dsimp only; omega
/-- The pair of any angle, without signs: one of the first quarter. -/
theorem ar_sizes (a : Int) : ∃ v1 v2 : Nat, (arN a).1.natAbs = v1 ∧ (arN a).2.natAbs = v2 ∧ v1 ≤ 1000000010 ∧ v2 ≤ 1000000010 ∧
    (v1 - 20) * (v1 - 20) + (v2 - 20) * (v2 - 20) ≤ 1000000000000000000 ∧ 1000000000000000000 ≤ (v1 + 20) * (v1 + 20) + (v2 + 20) * (v2 + 20) := by
  have F := first_of (r := a % 324000) (by omega) (by omega)
  obtain ⟨_, _, p1, p2, l1, l2, q1, q2⟩ := F
  obtain ⟨r0, r1, r2, r3⟩ := rot4 (qrN (a % 324000))
  unfold arN
  generalize (qrN (a % 324000)) = p at *
  have n1 : p.1.natAbs = p.1.toNat := by omega
  have n2 : p.2.natAbs = p.2.toNat := by omega
  rcases quarter_cases a with k | k | k | k <;> rw [k]
  · rw [show (0 : Int).toNat = 0 from rfl, r0]; exact ⟨_, _, n1, n2, by omega, by omega, q1, q2⟩
  · rw [show (1 : Int).toNat = 1 from rfl, r1]; refine ⟨p.2.toNat, p.1.toNat, n2, ?_, by omega, by omega, by omega, by omega⟩; show (-p.1).natAbs = _; rw [Int.natAbs_neg]; exact n1
  · rw [show (2 : Int).toNat = 2 from rfl, r2]; refine ⟨p.1.toNat, p.2.toNat, ?_, ?_, by omega, by omega, q1, q2⟩
    · show (-p.1).natAbs = _; rw [Int.natAbs_neg]; exact n1
    · show (-p.2).natAbs = _; rw [Int.natAbs_neg]; exact n2
  · rw [show (3 : Int).toNat = 3 from rfl, r3]; refine ⟨p.2.toNat, p.1.toNat, ?_, n1, by omega, by omega, by omega, by omega⟩; show (-p.2).natAbs = _; rw [Int.natAbs_neg]; exact n2
theorem ar_le (a : Int) : -1000000010 ≤ (arN a).1 ∧ (arN a).1 ≤ 1000000010 ∧ -1000000010 ≤ (arN a).2 ∧ (arN a).2 ≤ 1000000010 := by
  obtain ⟨v1, v2, h1, h2, h3, h4, _⟩ := ar_sizes a
  omega
theorem quR_zero : quR 0 = 0 := by
  unfold quR
  rw [if_neg (by omega), serQ_at (by omega) (by omega)]
  decide +kernel
/-- What is left to a quarter. -/
theorem sinR_left (a : Int) : sinR (324000 - a) = sinR (a + 324000) := by
  have e2 : (a + 324000) % 1296000 % 324000 = a % 324000 := by omega
  unfold sinR
  rw [e2]
  by_cases hr : a % 324000 = 0
  · have e3 : (324000 - a) % 1296000 % 324000 = 0 := by omega
    rw [e3, hr]
    have z := quR_zero
    rcases quarter_cases a with k | k | k | k
    · have g1 : (324000 - a) % 1296000 / 324000 = 1 := by omega
      have g2 : (a + 324000) % 1296000 / 324000 = 1 := by omega
      rw [g1, g2]
    · have g1 : (324000 - a) % 1296000 / 324000 = 0 := by omega
      have g2 : (a + 324000) % 1296000 / 324000 = 2 := by omega
      rw [g1, g2]; simp [z]
    · have g1 : (324000 - a) % 1296000 / 324000 = 3 := by omega
      have g2 : (a + 324000) % 1296000 / 324000 = 3 := by omega
      rw [g1, g2]
    · have g1 : (324000 - a) % 1296000 / 324000 = 2 := by omega
      have g2 : (a + 324000) % 1296000 / 324000 = 0 := by omega
      rw [g1, g2]; simp [z]
  · have e3 : (324000 - a) % 1296000 % 324000 = 324000 - a % 324000 := by omega
    rw [e3]
    have e4 : 324000 - (324000 - a % 324000) = a % 324000 := by omega
    rcases quarter_cases a with k | k | k | k
    · have g1 : (324000 - a) % 1296000 / 324000 = 0 := by omega
      have g2 : (a + 324000) % 1296000 / 324000 = 1 := by omega
      rw [g1, g2]; simp
    · have g1 : (324000 - a) % 1296000 / 324000 = 3 := by omega
      have g2 : (a + 324000) % 1296000 / 324000 = 2 := by omega
      rw [g1, g2]; simp [e4]
    · have g1 : (324000 - a) % 1296000 / 324000 = 2 := by omega
      have g2 : (a + 324000) % 1296000 / 324000 = 3 := by omega
      rw [g1, g2]; simp
    · have g1 : (324000 - a) % 1296000 / 324000 = 1 := by omega
      have g2 : (a + 324000) % 1296000 / 324000 = 0 := by omega
      rw [g1, g2]; simp [e4]
theorem left_near (a : Int) : By 10 (arN (324000 - a)).1 (arN a).2 := by
  obtain ⟨⟨h1, h2⟩, _⟩ := sine_near (324000 - a)
  obtain ⟨_, ⟨h3, h4⟩⟩ := sine_near a
  rw [sinR_left] at h1 h2
  unfold By; omega

/-! Enclosed values. -/
/-- What is asked of a range that holds a number. -/
structure Hold (lo hi num t : Int) : Prop where
  b1 : -2000000 ≤ lo
  b2 : lo ≤ hi
  b3 : hi ≤ 2000000
  b4 : hi - lo ≤ 2
  b5 : lo * 1000000000 ≤ t * (num + 40)
  b6 : t * (num - 40) ≤ hi * 1000000000
theorem hold_of {v num t : Int} (hv : -1000000010 ≤ v) (hv' : v ≤ 1000000010) (hn : By 5 v num) (ht : 1 ≤ t) (ht' : t ≤ 1000000) : Hold (slN v t).1 (slN v t).2 num t := by
  obtain ⟨n1, n2⟩ := hn
  have m1 := mul_bd (x := v) (y := t) (A := 1000000010) (B := 1000000) (by omega) (by omega) (by omega) (by omega)
  have e1 : (v - 20) * t = v * t - 20 * t := by rw [Int.sub_mul]
  have e2 : (v + 20) * t = v * t + 20 * t := by rw [Int.add_mul]
  have e3 : t * (num + 40) = num * t + 40 * t := by rw [Int.mul_add, Int.mul_comm t num, Int.mul_comm t 40]
  have e4 : t * (num - 40) = num * t - 40 * t := by rw [Int.mul_sub, Int.mul_comm t num, Int.mul_comm t 40]
  have k1 : v * t ≤ (num + 20) * t := Int.mul_le_mul_of_nonneg_right (by omega) (by omega)
  have k2 : num * t ≤ (v + 20) * t := Int.mul_le_mul_of_nonneg_right (by omega) (by omega)
  rw [Int.add_mul] at k1 k2
  unfold slN
  rw [e1, e2]
  generalize v * t = p at *
  generalize num * t = z at *
  refine ⟨?_, ?_, ?_, ?_, ?_, ?_⟩ <;> dsimp only
  · omega
  · omega
  · omega
  · omega
  · rw [e3]; omega
  · rw [e4]; omega

/-- The farthest and the nearest number of a range. -/
def farI (lo hi : Int) : Int := max (lo.natAbs : Int) hi.natAbs
def nearI (lo hi : Int) : Int := if lo ≤ 0 ∧ 0 ≤ hi then 0 else min (lo.natAbs : Int) hi.natAbs
set_option maxRecDepth 100000 in
theorem far_near {v t : Int} (hv : -1000000010 ≤ v) (hv' : v ≤ 1000000010) (ht : 1 ≤ t) (ht' : t ≤ 1000000) :
    ((v.natAbs + 20) * t.toNat ≤ (farI (slN v t).1 (slN v t).2).toNat * 1000000000) ∧ ((nearI (slN v t).1 (slN v t).2).toNat * 1000000000 ≤ (v.natAbs - 20) * t.toNat) ∧ 0 ≤ farI (slN v t).1 (slN v t).2 ∧ 0 ≤ nearI (slN v t).1 (slN v t).2 ∧ farI (slN v t).1 (slN v t).2 ≤ 2000000 ∧ nearI (slN v t).1 (slN v t).2 ≤ 2000000 := by
  have m1 := mul_bd (x := v) (y := t) (A := 1000000010) (B := 1000000) (by omega) (by omega) (by omega) (by omega)
  have e1 : (v - 20) * t = v * t - 20 * t := by rw [Int.sub_mul]
  have e2 : (v + 20) * t = v * t + 20 * t := by rw [Int.add_mul]
  have c1 : (((v.natAbs + 20) * t.toNat : Nat) : Int) = (v.natAbs : Int) * t + 20 * t := by
    rw [Int.natCast_mul, Int.natCast_add, Int.toNat_of_nonneg (by omega), Int.add_mul]; rfl
  have hn : v * t = (v.natAbs : Int) * t ∨ v * t = -((v.natAbs : Int) * t) := by
    rcases Int.natAbs_eq v with h | h
    · left; rw [← h]
    · right; rw [← Int.neg_mul, ← h]
  have hvt : 0 ≤ (v.natAbs : Int) * t := Int.mul_nonneg (by omega) (by omega)
  have c2 : (((v.natAbs - 20) * t.toNat : Nat) : Int) = if v.natAbs ≤ 20 then 0 else (v.natAbs : Int) * t - 20 * t := by
    split
    · rename_i h; rw [show v.natAbs - 20 = 0 by omega, Nat.zero_mul]; rfl
    · rename_i h; rw [Int.natCast_mul, Int.natCast_sub (by omega), Int.toNat_of_nonneg (by omega), Int.sub_mul]; rfl
  have k20 : v.natAbs ≤ 20 → (v.natAbs : Int) * t ≤ 20 * t := fun h => Int.mul_le_mul_of_nonneg_right (by omega) (by omega)
  have k21 : ¬ v.natAbs ≤ 20 → 20 * t ≤ (v.natAbs : Int) * t := fun h => Int.mul_le_mul_of_nonneg_right (by omega) (by omega)
  have h20'' := k20
  have kn : v < 0 → v * t = -((v.natAbs : Int) * t) := fun h => by rw [← Int.neg_mul]; congr 1; omega
  have kp : 0 ≤ v → v * t = (v.natAbs : Int) * t := fun h => by congr 1; omega
  unfold slN farI nearI
  rw [e1, e2]
  generalize v * t = p at *
  generalize hz : (v.natAbs : Int) * t = z at *
  generalize (v.natAbs + 20) * t.toNat = A at *
  generalize (v.natAbs - 20) * t.toNat = B at *
  dsimp only
  have m2 : 0 ≤ z := hvt
  clear hvt hn k20 k21 e1 e2 hz
  have cA : (A : Int) = z + 20 * t := c1
  have cB : z - 20 * t ≤ (B : Int) ∨ (B = 0 ∧ z ≤ 20 * t) := by
    by_cases h20 : v.natAbs ≤ 20
    · rw [if_pos h20] at c2; right; exact ⟨by omega, h20'' h20⟩
    · rw [if_neg h20] at c2; left; omega
  clear c1 c2 h20''
  generalize hl : (p - 20 * t) / 1000000000 = lo
  generalize hh : -(-(p + 20 * t) / 1000000000) = hi
  have l1 : lo * 1000000000 ≤ p - 20 * t := by omega
  have l2 : p - 20 * t < lo * 1000000000 + 1000000000 := by omega
  have u1 : p + 20 * t ≤ hi * 1000000000 := by omega
  have u2 : hi * 1000000000 < p + 20 * t + 1000000000 := by omega
  clear hl hh
  by_cases hv0 : v < 0
  · have := kn hv0
    clear kn kp
    subst this
    refine ⟨by omega, ?_, by omega, by split <;> omega, by omega, by split <;> omega⟩
    split
    · rw [show Int.toNat 0 = 0 from rfl, Nat.zero_mul]; exact Nat.zero_le _
    · omega
  · have := kp (by omega)
    clear kn kp
    subst this
    refine ⟨by omega, ?_, by omega, by split <;> omega, by omega, by split <;> omega⟩
    split
    · rw [show Int.toNat 0 = 0 from rfl, Nat.zero_mul]; exact Nat.zero_le _
    · omega

theorem sq_scale {a b A B t : Nat} (h1 : a * 1000000000 ≤ A * t) (h2 : b * 1000000000 ≤ B * t) (h : A * A + B * B ≤ 1000000000000000000) : a * a + b * b ≤ t * t := by
  have k1 := Nat.mul_le_mul h1 h1
  have k2 := Nat.mul_le_mul h2 h2
  have r : ∀ x y : Nat, x * y * (x * y) = x * x * (y * y) := fun x y => by rw [Nat.mul_mul_mul_comm]
  rw [r, r] at k1 k2
  have k3 : (A * A + B * B) * (t * t) ≤ 1000000000000000000 * (t * t) := Nat.mul_le_mul_right _ h
  rw [Nat.add_mul] at k3
  generalize A * A * (t * t) = X at *
  generalize B * B * (t * t) = Y at *
  omega
theorem sq_scale' {a b A B t : Nat} (h1 : A * t ≤ a * 1000000000) (h2 : B * t ≤ b * 1000000000) (h : 1000000000000000000 ≤ A * A + B * B) : t * t ≤ a * a + b * b := by
  have k1 := Nat.mul_le_mul h1 h1
  have k2 := Nat.mul_le_mul h2 h2
  have r : ∀ x y : Nat, x * y * (x * y) = x * x * (y * y) := fun x y => by rw [Nat.mul_mul_mul_comm]
  rw [r, r] at k1 k2
  have k3 : 1000000000000000000 * (t * t) ≤ (A * A + B * B) * (t * t) := Nat.mul_le_mul_right _ h
  rw [Nat.add_mul] at k3
  generalize A * A * (t * t) = X at *
  generalize B * B * (t * t) = Y at *
  omega
/-- The circle. -/
theorem circle (a t : Int) (ht : 1 ≤ t) (ht' : t ≤ 1000000) :
    nearI (slN (arN a).1 t).1 (slN (arN a).1 t).2 * nearI (slN (arN a).1 t).1 (slN (arN a).1 t).2 + nearI (slN (arN a).2 t).1 (slN (arN a).2 t).2 * nearI (slN (arN a).2 t).1 (slN (arN a).2 t).2 ≤ t * t ∧
    t * t ≤ farI (slN (arN a).1 t).1 (slN (arN a).1 t).2 * farI (slN (arN a).1 t).1 (slN (arN a).1 t).2 + farI (slN (arN a).2 t).1 (slN (arN a).2 t).2 * farI (slN (arN a).2 t).1 (slN (arN a).2 t).2 := by
  obtain ⟨v1, v2, h1, h2, h3, h4, q1, q2⟩ := ar_sizes a
  obtain ⟨b1, b2, b3, b4⟩ := ar_le a
  obtain ⟨f1, n1, f10, n10, _, _⟩ := far_near b1 b2 ht ht'
  obtain ⟨f2, n2, f20, n20, _, _⟩ := far_near b3 b4 ht ht'
  rw [h1] at f1 n1
  rw [h2] at f2 n2
  generalize farI (slN (arN a).1 t).1 (slN (arN a).1 t).2 = F1 at *
  generalize farI (slN (arN a).2 t).1 (slN (arN a).2 t).2 = F2 at *
  generalize nearI (slN (arN a).1 t).1 (slN (arN a).1 t).2 = N1 at *
  generalize nearI (slN (arN a).2 t).1 (slN (arN a).2 t).2 = N2 at *
  obtain ⟨F1, rfl⟩ := Int.eq_ofNat_of_zero_le f10
  obtain ⟨F2, rfl⟩ := Int.eq_ofNat_of_zero_le f20
  obtain ⟨N1, rfl⟩ := Int.eq_ofNat_of_zero_le n10
  obtain ⟨N2, rfl⟩ := Int.eq_ofNat_of_zero_le n20
  obtain ⟨t, rfl⟩ := Int.eq_ofNat_of_zero_le (show 0 ≤ t by omega)
  simp only [Int.toNat_natCast] at *
  have r1 := sq_scale n1 n2 q1
  have r2 := sq_scale' f1 f2 q2
  refine ⟨?_, ?_⟩
  · rw [← Int.natCast_mul, ← Int.natCast_mul, ← Int.natCast_mul, ← Int.natCast_add]; exact Int.ofNat_le.2 r1
  · rw [← Int.natCast_mul, ← Int.natCast_mul, ← Int.natCast_mul, ← Int.natCast_add]; exact Int.ofNat_le.2 r2

end Go.Proofs.Ytfnmnnbmhfbkbaa
