/- Plain facts on integers and words, no Go in sight. -/
import Derived.Laws.Bits64
import Derived.IntWalk
set_option linter.unusedVariables false
set_option linter.unusedSimpArgs false
namespace Go.Proofs.Ytdlddfmodbcnmaa

theorem ret_int {k : IntKind} {a b : Int} (h : a = b) : Ending.returned (.int k a) = .returned (.int k b) := by rw [h]
theorem ret_bool {a b : Bool} (h : a = b) : Ending.returned (.bool a) = .returned (.bool b) := by rw [h]

/-- size: the word of a number without its sign. -/
def sz (n : Int) : Int := (n.natAbs : Int)

/-- The greatest common divisor. -/
def gcdI (a b : Int) : Int := (Int.gcd a b : Int)

theorem sz_nonneg (n : Int) : 0 ≤ sz n := by unfold sz; omega
theorem sz_le {n b : Int} (h1 : -b ≤ n) (h2 : n ≤ b) : sz n ≤ b := by unfold sz; omega
theorem sz_neg_wrap {n : Int} (h1 : -9223372036854775808 ≤ n) (h : n < 0) : IntKind.u64.wrap (-IntKind.u64.wrap n) = sz n := by
  unfold sz
  rw [IntKind.wrap_u64, IntKind.wrap_u64]; omega
theorem sz_pos {n : Int} (h : 0 ≤ n) : n = sz n := by unfold sz; omega
theorem sz_max {n : Int} (h1 : -9223372036854775808 ≤ n) (h2 : n ≤ 9223372036854775807) : sz n ≤ 9223372036854775808 := by unfold sz; omega

theorem gcdI_nonneg (a b : Int) : 0 ≤ gcdI a b := by unfold gcdI; omega
theorem gcdI_zero {a : Int} (h : 0 ≤ a) : gcdI a 0 = a := by unfold gcdI; rw [Int.gcd_zero_right]; omega
theorem gcdI_step {a b : Int} (ha : 0 ≤ a) (hb : 0 ≤ b) : gcdI b (a % b) = gcdI a b := by
  unfold gcdI
  obtain ⟨x, rfl⟩ := Int.eq_ofNat_of_zero_le ha
  obtain ⟨y, rfl⟩ := Int.eq_ofNat_of_zero_le hb
  rw [← Int.natCast_emod, Int.gcd_natCast_natCast, Int.gcd_natCast_natCast, Nat.gcd_comm x y, Nat.gcd_rec y x, Nat.gcd_comm]
theorem gcdI_sz (a b : Int) : gcdI (sz a) (sz b) = gcdI a b := by unfold gcdI sz; rw [Int.gcd_natCast_natCast]; rfl

/-- The error of a fraction: 3 (its form), 2 (too great), 0. -/
def ckF (n d : Int) : Int := if d ≤ 0 then 3 else if gcdI n d ≠ 1 then 3 else if 1000000000 < sz n then 2 else if 1000000000 < d then 2 else 0

/-- A number of an int. -/
def I64 (n : Int) : Prop := -9223372036854775808 ≤ n ∧ n ≤ 9223372036854775807

/-- The first error of fractions. -/
def ckFs : List (Int × Int) → Int
  | [] => 0
  | f :: l => if ckF f.1 f.2 ≠ 0 then ckF f.1 f.2 else ckFs l
theorem ckFs_snoc (l : List (Int × Int)) (f : Int × Int) (h : ckFs l = 0) : ckFs (l ++ [f]) = ckF f.1 f.2 := by
  induction l with
  | nil => simp only [ckFs, List.nil_append]; split <;> omega
  | cons g l ih =>
    simp only [ckFs, List.cons_append] at h ⊢
    split at h
    · contradiction
    · rename_i hg; rw [if_neg hg]; exact ih h
theorem ckFs_app (l m : List (Int × Int)) (h : ckFs l ≠ 0) : ckFs (l ++ m) = ckFs l := by
  induction l with
  | nil => simp [ckFs] at h
  | cons g l ih =>
    simp only [ckFs, List.cons_append] at h ⊢
    split
    · rfl
    · rename_i hg; rw [if_neg hg] at h; exact ih h

/-- A fraction in lowest terms (its parts), or the error 8. -/
def lowN (n d : Int) : Int × Int × Int :=
  if ckF ((if d < 0 then -n else n).tdiv (gcdI n d)) ((if d < 0 then -d else d).tdiv (gcdI n d)) ≠ 0 then (0, 0, 8)
  else ((if d < 0 then -n else n).tdiv (gcdI n d), (if d < 0 then -d else d).tdiv (gcdI n d), 0)
theorem gcdI_pos {n d : Int} (h : d ≠ 0) : 1 ≤ gcdI n d := by
  unfold gcdI
  have : Int.gcd n d ≠ 0 := by intro h0; exact h (Int.gcd_eq_zero_iff.1 h0).2
  omega
theorem gcdI_le {n d : Int} (h : d ≠ 0) : gcdI n d ≤ sz d := by
  unfold gcdI sz
  have : Int.gcd n d ≤ d.natAbs := Nat.le_of_dvd (by omega) (Int.gcd_dvd_natAbs_right n d)
  omega
theorem gcdI_neg_left (n d : Int) : gcdI (-n) d = gcdI n d := by unfold gcdI; rw [Int.neg_gcd]
theorem gcdI_neg_right (n d : Int) : gcdI n (-d) = gcdI n d := by unfold gcdI; rw [Int.gcd_neg]
theorem tdiv_bd {n g B : Int} (h1 : -B ≤ n) (h2 : n ≤ B) (hg : 1 ≤ g) : -B ≤ n.tdiv g ∧ n.tdiv g ≤ B := by
  have h : (n.tdiv g).natAbs ≤ n.natAbs := by rw [Int.natAbs_tdiv]; exact Nat.div_le_self _ _
  omega
theorem lowN_pos_ok {n d g : Int} (hg : g = gcdI n d) (hd : ¬ d < 0) (h : ckF (n.tdiv g) (d.tdiv g) = 0) : lowN n d = (n.tdiv g, d.tdiv g, 0) := by
  unfold lowN; rw [if_neg hd, if_neg hd, ← hg, if_neg (by simpa using h)]
theorem lowN_pos_no {n d g : Int} (hg : g = gcdI n d) (hd : ¬ d < 0) (h : ¬ ckF (n.tdiv g) (d.tdiv g) = 0) : lowN n d = (0, 0, 8) := by
  unfold lowN; rw [if_neg hd, if_neg hd, ← hg, if_pos h]
theorem lowN_neg_ok {n d g : Int} (hg : g = gcdI n d) (hd : d < 0) (h : ckF ((-n).tdiv g) ((-d).tdiv g) = 0) : lowN n d = ((-n).tdiv g, (-d).tdiv g, 0) := by
  unfold lowN; rw [if_pos hd, if_pos hd, ← hg, if_neg (by simpa using h)]
theorem lowN_neg_no {n d g : Int} (hg : g = gcdI n d) (hd : d < 0) (h : ¬ ckF ((-n).tdiv g) ((-d).tdiv g) = 0) : lowN n d = (0, 0, 8) := by
  unfold lowN; rw [if_pos hd, if_pos hd, ← hg, if_pos h]
theorem ckF_zero {n d : Int} (h : ckF n d = 0) : -1000000000 ≤ n ∧ n ≤ 1000000000 ∧ 1 ≤ d ∧ d ≤ 1000000000 ∧ gcdI n d = 1 := by
  unfold ckF sz at h
  (repeat' split at h) <;> first | contradiction | skip
  rename_i h1 h2 h3 h4
  have : gcdI n d = 1 := by simpa using h2
  omega
theorem ckFs_one (a : Int × Int) : ckFs [a] = ckF a.1 a.2 := by simp only [ckFs]; split <;> omega
theorem ckFs_two (a b : Int × Int) : ckFs [a, b] = if ckF a.1 a.2 ≠ 0 then ckF a.1 a.2 else ckF b.1 b.2 := by
  show (if ckF a.1 a.2 ≠ 0 then ckF a.1 a.2 else ckFs [b]) = _
  rw [ckFs_one]
theorem ckFs_two_zero {a b : Int × Int} (h : ckFs [a, b] = 0) : ckF a.1 a.2 = 0 ∧ ckF b.1 b.2 = 0 := by
  rw [ckFs_two] at h
  split at h
  · contradiction
  · rename_i h1; exact ⟨by simpa using h1, h⟩

/-- Bounds of a product. -/
theorem mul_bd {x y A B : Int} (hx : -A ≤ x) (hx' : x ≤ A) (hy : -B ≤ y) (hy' : y ≤ B) : -(A * B) ≤ x * y ∧ x * y ≤ A * B := by
  have hA : 0 ≤ A := by omega
  have hB : 0 ≤ B := by omega
  have h : (x * y).natAbs ≤ (A * B).natAbs := by
    rw [Int.natAbs_mul, Int.natAbs_mul]
    exact Nat.mul_le_mul (by omega) (by omega)
  have h2 : 0 ≤ A * B := Int.mul_nonneg hA hB
  omega
theorem mul_b9 {x y : Int} (hx : -1000000000 ≤ x) (hx' : x ≤ 1000000000) (hy : -1000000000 ≤ y) (hy' : y ≤ 1000000000) : -1000000000000000000 ≤ x * y ∧ x * y ≤ 1000000000000000000 :=
  mul_bd hx hx' hy hy'
theorem mul_pos9 {x y : Int} (hx : 1 ≤ x) (hy : 1 ≤ y) : 1 ≤ x * y := by
  have := Int.mul_pos (show 0 < x by omega) (show 0 < y by omega); omega

/-- The sum, the difference, the product, the quotient of fractions, or the error. -/
def addN (a b c d : Int) : Int × Int × Int := if ckFs [(a, b), (c, d)] ≠ 0 then (0, 0, ckFs [(a, b), (c, d)]) else lowN (a * d + c * b) (b * d)
def subN (a b c d : Int) : Int × Int × Int := if ckFs [(a, b), (c, d)] ≠ 0 then (0, 0, ckFs [(a, b), (c, d)]) else lowN (a * d - c * b) (b * d)
def mulN (a b c d : Int) : Int × Int × Int := if ckFs [(a, b), (c, d)] ≠ 0 then (0, 0, ckFs [(a, b), (c, d)]) else lowN (a * c) (b * d)
def quoN (a b c d : Int) : Int × Int × Int := if ckFs [(a, b), (c, d)] ≠ 0 then (0, 0, ckFs [(a, b), (c, d)]) else if c = 0 then (0, 0, 11) else lowN (a * d) (b * c)
def cmpI (a b : Int) : Int := if a < b then -1 else if b < a then 1 else 0
def cmpN (a b c d : Int) : Int × Int := if ckFs [(a, b), (c, d)] ≠ 0 then (0, ckFs [(a, b), (c, d)]) else (cmpI (a * d) (c * b), 0)

end Go.Proofs.Ytdlddfmodbcnmaa
