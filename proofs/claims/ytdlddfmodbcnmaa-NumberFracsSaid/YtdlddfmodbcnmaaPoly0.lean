/- Polynomials as rows of whole numbers (a length and a function of the place), no Go in sight. -/
import Derived.Test.YtdlddfmodbcnmaaWords
import Derived.Test.YtdlddfmodbcnmaaRoot0
set_option linter.unusedVariables false
set_option linter.unusedSimpArgs false
namespace Go.Proofs.Ytdlddfmodbcnmaa

abbrev Row := Nat → Int
/-- The derivative. -/
def dRow (z : Row) : Row := fun i => z (i + 1) * ((i : Int) + 1)
/-- The values and powers behind the last places. -/
def vpStep (z : Row) (N D : Int) (s : Int × Int) (i : Nat) : Int × Int := (s.1 * N + z i * s.2, s.2 * D)
/-- The value at N / D times a power of D, from the last place on: k places. -/
def vpN (z : Row) (N D : Int) (n : Nat) : Nat → Int × Int
  | 0 => (0, 1)
  | k + 1 => vpStep z N D (vpN z N D n k) (n - 1 - k)
/-- The same along places that have come. -/
def vpL {n : Nat} (z : Row) (N D : Int) (pre : List (Fin n)) : Int × Int := pre.foldl (fun s i => vpStep z N D s i.1) (0, 1)
theorem vpL_snoc {n : Nat} (z : Row) (N D : Int) (pre : List (Fin n)) (x : Fin n) : vpL z N D (pre ++ [x]) = vpStep z N D (vpL z N D pre) x.1 := by simp [vpL]
def sgAt (n : Nat) (z : Row) (N D : Int) : Int := cmpI (vpN z N D n n).1 0
/-- The sign just behind N / D. -/
def sgBehind (N D : Int) : Nat → Row → Int
  | 0, _ => 0
  | n + 1, z => if sgAt (n + 1) z N D ≠ 0 then sgAt (n + 1) z N D else sgBehind N D n (dRow z)
/-- Zeros at the end taken away. -/
def trimN : Nat → Row → Nat
  | 0, _ => 0
  | m + 1, z => if z m = 0 then trimN m z else m + 1
theorem trimN_le : ∀ (m : Nat) (z : Row), trimN m z ≤ m
  | 0, _ => Nat.le_refl _
  | m + 1, z => by
    unfold trimN; split
    · have := trimN_le m z; omega
    · exact Nat.le_refl _
theorem trimN_of {m k : Nat} {z : Row} (hk : k ≤ m) (h0 : ∀ i, k ≤ i → i < m → z i = 0) (h1 : 0 < k → z (k - 1) ≠ 0) : trimN m z = k := by
  induction m with
  | zero => obtain rfl : k = 0 := by omega
            rfl
  | succ m ih =>
    unfold trimN
    split
    · rename_i hz
      rcases Nat.eq_or_lt_of_le hk with e | e
      · subst e; exact absurd hz (h1 (by omega))
      · exact ih (by omega) (fun i a b => h0 i a (by omega))
    · rename_i hz
      rcases Nat.eq_or_lt_of_le hk with e | e
      · exact e.symm
      · exact absurd (h0 m (by omega) (by omega)) hz
/-- The factor of a step of division. -/
def facR (m : Nat) (r : Row) (last : Int) : Int := if last < 0 then -r (m - 1) else r (m - 1)
/-- One step of division: r times the size of q's last one, less what takes away the first one. -/
def stepR (m : Nat) (r : Row) (nq : Nat) (q : Row) : Row := fun i =>
  if m - nq ≤ i then r i * sz (q (nq - 1)) - q (i - (m - nq)) * facR m r (q (nq - 1)) else r i * sz (q (nq - 1))
theorem stepR_hi {a b : Nat} {r q : Row} {j : Nat} (h : a - b ≤ j) : stepR (a + 1) r (b + 1) q j = r j * sz (q b) - q (j - (a - b)) * facR (a + 1) r (q b) := by
  unfold stepR
  rw [if_pos (by omega), show a + 1 - (b + 1) = a - b by omega, show b + 1 - 1 = b by omega]
theorem stepR_lo {a b : Nat} {r q : Row} {j : Nat} (h : ¬ a - b ≤ j) : stepR (a + 1) r (b + 1) q j = r j * sz (q b) := by
  unfold stepR
  rw [if_neg (by omega), show b + 1 - 1 = b by omega]
theorem stepR_top {m : Nat} {r : Row} {nq : Nat} {q : Row} (hm : nq ≤ m) (hq : 0 < nq) : stepR m r nq q (m - 1) = 0 := by
  unfold stepR facR sz
  rw [if_pos (by omega), show m - 1 - (m - nq) = nq - 1 by omega]
  split
  · rw [Int.mul_neg, show ((q (nq - 1)).natAbs : Int) = -q (nq - 1) by omega, Int.mul_neg, Int.mul_comm]; omega
  · rw [show ((q (nq - 1)).natAbs : Int) = q (nq - 1) by omega, Int.mul_comm]; omega
def restR (nq : Nat) (q : Row) : Nat → Nat → Row → Nat × Row
  | 0, m, r => (m, r)
  | f + 1, m, r => if nq ≤ m then restR nq q f (trimN m (stepR m r nq q)) (stepR m r nq q) else (m, r)
/-- Sturm's chain behind its first two. -/
def chainR : Nat → Nat → Row → Nat → Row → List (Nat × Row)
  | 0, _, _, _, _ => []
  | f + 1, n, z, m, y => if m = 0 then [] else (m, y) :: chainR f m y (restR m y n n z).1 (fun i => -(restR m y n n z).2 i)
def sturmR (n : Nat) (z : Row) : List (Nat × Row) := (n, z) :: chainR n n z (n - 1) (dRow z)
/-- Changes of signs: (the changes, the sign before). -/
def chgStep (N D : Int) (s : Int × Int) (p : Nat × Row) : Int × Int := (if s.2 * sgBehind N D p.1 p.2 < 0 then s.1 + 1 else s.1, sgBehind N D p.1 p.2)
def chgR (N D : Int) (l : List (Nat × Row)) : Int := (l.foldl (chgStep N D) (0, 0)).1
def rootsR (n : Nat) (z : Row) (a b c d : Int) : Int := chgR a b (sturmR n z) - chgR c d (sturmR n z)

example : rootsR 3 (fun i => if i = 0 then -2 else if i = 1 then 0 else 1) (-2) 1 2 1 = 2 := by decide +kernel

end Go.Proofs.Ytdlddfmodbcnmaa
