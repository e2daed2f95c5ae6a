/- Sines by whole numbers, no Go in sight. -/
import Derived.Test.YtdlddfmodbcnmaaPlain
import Derived.Laws.BitsAllLaws
import Derived.Laws.BitsLemmas
set_option linter.unusedVariables false
set_option linter.unusedSimpArgs false
namespace Go.Proofs.Ytdlddfmodbcnmaa

def stE (n e q : Int) : Int := (-e * q).tdiv (1000000000 * (n - 1) * n)
def stO (n o q : Int) : Int := (-o * q).tdiv (1000000000 * n * (n + 1))
/-- The series: (sine, cosine). -/
def serGo : Nat → Int → Int → Int → Int → Int → Int → Int × Int
  | 0, _, _, _, c, s, _ => (s, c)
  | f + 1, n, e, o, c, s, q => if e = 0 then (s, c) else serGo f (n + 2) (stE n e q) (stO n o q) (c + stE n e q) (s + stO n o q) q
def arcN (a : Int) : Int := a * 3141592654 / 648000
def sqrN (a : Int) : Int := arcN a * arcN a / 1000000000
def serN (a : Int) : Int × Int := serGo 40 2 1000000000 (arcN a) 1000000000 (arcN a) (sqrN a)

theorem arc_bd {a : Int} (h : 0 ≤ a) (h' : a ≤ 162000) : 0 ≤ arcN a ∧ arcN a ≤ 785398164 := by unfold arcN; omega
theorem sqr_bd {a : Int} (h : 0 ≤ a) (h' : a ≤ 162000) : 0 ≤ sqrN a ∧ sqrN a ≤ 1000000000 ∧ 0 ≤ arcN a * arcN a ∧ arcN a * arcN a ≤ 1000000000000000000 := by
  obtain ⟨h1, h2⟩ := arc_bd h h'
  have m := mul_b9 (x := arcN a) (y := arcN a) (by omega) (by omega) (by omega) (by omega)
  have m0 := Int.mul_nonneg h1 h1
  unfold sqrN
  generalize arcN a * arcN a = p at *
  omega

theorem tdiv_half {x q m : Int} (hq : 0 ≤ q) (hq' : q ≤ 1000000000) (hm : 2000000000 ≤ m) : 2 * ((-x * q).tdiv m).natAbs ≤ x.natAbs := by
  rw [Int.natAbs_tdiv, Int.natAbs_mul, Int.natAbs_neg]
  show 2 * (x.natAbs * q.natAbs / m.natAbs) ≤ x.natAbs
  have h1 : x.natAbs * q.natAbs / m.natAbs * m.natAbs ≤ x.natAbs * q.natAbs := Nat.div_mul_le_self _ _
  have h2 : x.natAbs * q.natAbs ≤ x.natAbs * 1000000000 := Nat.mul_le_mul_left _ (by omega)
  have h3 : x.natAbs * q.natAbs / m.natAbs * 2000000000 ≤ x.natAbs * q.natAbs / m.natAbs * m.natAbs := Nat.mul_le_mul_left _ (by omega)
  omega
theorem den_e {n : Int} (h : 2 ≤ n) (h' : n ≤ 100) : 2000000000 ≤ 1000000000 * (n - 1) * n ∧ 1000000000 * (n - 1) * n ≤ 10000000000000 := by
  have a := mul_bd (x := n - 1) (y := n) (A := 100) (B := 100) (by omega) (by omega) (by omega) (by omega)
  have b : 1 * 2 ≤ (n - 1) * n := Int.mul_le_mul (by omega) h (by omega) (by omega)
  rw [Int.mul_assoc]
  omega
theorem den_o {n : Int} (h : 2 ≤ n) (h' : n ≤ 100) : 2000000000 ≤ 1000000000 * n * (n + 1) ∧ 1000000000 * n * (n + 1) ≤ 20000000000000 := by
  have a := mul_bd (x := n) (y := n + 1) (A := 100) (B := 101) (by omega) (by omega) (by omega) (by omega)
  have b : 2 * 3 ≤ n * (n + 1) := Int.mul_le_mul h (by omega) (by omega) (by omega)
  rw [Int.mul_assoc]
  omega

theorem serGo_bd (f : Nat) : ∀ (n e o c s q C : Int), 2 ≤ n → n + 2 * f ≤ 100 → -1000000000 ≤ e → e ≤ 1000000000 → -1000000000 ≤ o → o ≤ 1000000000 → 0 ≤ q → q ≤ 1000000000 → -C ≤ c → c ≤ C → -C ≤ s → s ≤ C →
    -(C + 1000000000 * f) ≤ (serGo f n e o c s q).1 ∧ (serGo f n e o c s q).1 ≤ C + 1000000000 * f ∧ -(C + 1000000000 * f) ≤ (serGo f n e o c s q).2 ∧ (serGo f n e o c s q).2 ≤ C + 1000000000 * f := by
  induction f with
  | zero => intro n e o c s q C _ _ _ _ _ _ _ _ h1 h2 h3 h4; simp only [serGo]; omega
  | succ f ih =>
    intro n e o c s q C hn hn' he he' ho ho' hq hq' h1 h2 h3 h4
    unfold serGo
    split
    · dsimp only; omega
    · have de := den_e hn (by omega)
      have d_o := den_o hn (by omega)
      have te : 2 * (stE n e q).natAbs ≤ e.natAbs := tdiv_half hq hq' de.1
      have to : 2 * (stO n o q).natAbs ≤ o.natAbs := tdiv_half hq hq' d_o.1
      have := ih (n + 2) (stE n e q) (stO n o q) (c + stE n e q) (s + stO n o q) q (C + 1000000000) (by omega) (by omega) (by omega) (by omega) (by omega) (by omega) hq hq' (by omega) (by omega) (by omega) (by omega)
      omega
/-- One round more. -/
theorem serGo_step {f : Nat} {n e o c s q : Int} {r : Int × Int} (h : serGo (f + 1) n e o c s q = r) (he : e ≠ 0) : serGo f (n + 2) (stE n e q) (stO n o q) (c + stE n e q) (s + stO n o q) q = r := by
  rw [← h]; show _ = if e = 0 then (s, c) else _
  rw [if_neg he]
theorem serGo_end {f : Nat} {n o c s q : Int} {r : Int × Int} (h : serGo f n 0 o c s q = r) : r = (s, c) := by
  rw [← h]
  cases f with
  | zero => rfl
  | succ f => show (if (0 : Int) = 0 then (s, c) else _) = _; rw [if_pos rfl]
theorem pow_le {j : Nat} {e : Int} (h : e.natAbs * 2 ^ j ≤ 1000000000) (he : e ≠ 0) : j ≤ 29 := by
  rcases Nat.lt_or_ge 29 j with h1 | h1
  · have h2 : 2 ^ 30 ≤ 2 ^ j := Nat.pow_le_pow_right (by omega) h1
    have h3 : 1 * 2 ^ j ≤ e.natAbs * 2 ^ j := Nat.mul_le_mul_right _ (by omega)
    omega
  · exact h1
theorem pow_step {j : Nat} {e e' : Int} (h : e.natAbs * 2 ^ j ≤ 1000000000) (he : 2 * e'.natAbs ≤ e.natAbs) : e'.natAbs * 2 ^ (j + 1) ≤ 1000000000 := by
  rw [Nat.pow_succ, Nat.mul_comm (2 ^ j) 2, ← Nat.mul_assoc, Nat.mul_comm e'.natAbs 2]
  exact Nat.le_trans (Nat.mul_le_mul_right _ he) h

theorem serN_bd {a : Int} (h : 0 ≤ a) (h' : a ≤ 162000) : -100000000000 ≤ (serN a).1 ∧ (serN a).1 ≤ 100000000000 ∧ -100000000000 ≤ (serN a).2 ∧ (serN a).2 ≤ 100000000000 := by
  have h1 := arc_bd h h'
  have h2 := sqr_bd h h'
  have := serGo_bd 40 2 1000000000 (arcN a) 1000000000 (arcN a) (sqrN a) 1000000000 (by omega) (by omega) (by omega) (by omega) (by omega) (by omega) (by omega) (by omega) (by omega) (by omega) (by omega) (by omega)
  unfold serN
  omega

/-- A turn by a quarter, k times. -/
def rot : Nat → Int × Int → Int × Int
  | 0, p => p
  | k + 1, p => rot k (p.2, -p.1)
theorem rot_snoc (k : Nat) : ∀ p : Int × Int, rot (k + 1) p = ((rot k p).2, -(rot k p).1) := by
  induction k with
  | zero => intro p; rfl
  | succ k ih => intro p; exact ih (p.2, -p.1)
/-- The first quarter. -/
def qrN (r : Int) : Int × Int := if r ≤ 162000 then serN r else ((serN (324000 - r)).2, (serN (324000 - r)).1)
/-- The sine and the cosine of any angle. -/
def arN (a : Int) : Int × Int := rot (a / 324000 % 4).toNat (qrN (a % 324000))
theorem qrN_bd {r : Int} (h : 0 ≤ r) (h' : r < 324000) : -100000000000 ≤ (qrN r).1 ∧ (qrN r).1 ≤ 100000000000 ∧ -100000000000 ≤ (qrN r).2 ∧ (qrN r).2 ≤ 100000000000 := by
  unfold qrN
  split
  · exact serN_bd h (by omega)
  · have := serN_bd (a := 324000 - r) (by omega) (by omega); dsimp only; omega
theorem rot_bd (k : Nat) : ∀ (p : Int × Int) (B : Int), -B ≤ p.1 → p.1 ≤ B → -B ≤ p.2 → p.2 ≤ B → -B ≤ (rot k p).1 ∧ (rot k p).1 ≤ B ∧ -B ≤ (rot k p).2 ∧ (rot k p).2 ≤ B := by
  induction k with
  | zero => intro p B h1 h2 h3 h4; exact ⟨h1, h2, h3, h4⟩
  | succ k ih => intro p B h1 h2 h3 h4; exact ih (p.2, -p.1) B h3 h4 (by dsimp only; omega) (by dsimp only; omega)
theorem arN_bd (a : Int) : -100000000000 ≤ (arN a).1 ∧ (arN a).1 ≤ 100000000000 ∧ -100000000000 ≤ (arN a).2 ∧ (arN a).2 ≤ 100000000000 := by
  obtain ⟨h1, h2, h3, h4⟩ := qrN_bd (r := a % 324000) (by omega) (by omega)
  exact rot_bd _ _ _ h1 h2 h3 h4

theorem and3 (a : Int) : bits .and .i64 a 3 = a % 4 := by
  show IntKind.i64.wrap ((BitVec.ofInt 64 a &&& BitVec.ofInt 64 3).toNat : Int) = _
  rw [BitVec.toNat_and]
  have h3 : (BitVec.ofInt 64 3).toNat = 2 ^ 2 - 1 := by decide
  rw [h3, Nat.and_two_pow_sub_one_eq_mod, BitVec.toNat_ofInt, IntKind.wrap_i64]
  omega

/-- Enclosed values. -/
def slN (v t : Int) : Int × Int := ((v - 20) * t / 1000000000, -(-((v + 20) * t) / 1000000000))
def sinN (a t : Int) : Int × Int × Int := if 1000000000 < sz a ∨ t < 1 ∨ 1000000 < t then (0, 0, 2) else ((slN (arN a).1 t).1, (slN (arN a).1 t).2, 0)
def cosN (a t : Int) : Int × Int × Int := if 1000000000 < sz a ∨ t < 1 ∨ 1000000 < t then (0, 0, 2) else ((slN (arN a).2 t).1, (slN (arN a).2 t).2, 0)

end Go.Proofs.Ytdlddfmodbcnmaa
