/- Walks: the law of products of polynomials, whatever comes in. -/
import Derived.Test.YtdlddfmodbcnmaaP9
set_option linter.unusedVariables false
set_option linter.unusedSimpArgs false
namespace Go.Proofs.Ytdlddfmodbcnmaa
open Go.RowKit

theorem sigN_ok {n : Nat} {p : Row} {a b : Int} (h : ckP n p = 0) (k : ckF a b = 0) : sigN n p a b = (sgAt n p a b, 0) := by
  unfold sigN; rw [if_neg (by simpa using h), if_neg (by simpa using k)]
theorem mul_bd1 {x y : Int} (h1 : -1 ≤ x) (h2 : x ≤ 1) (h3 : -1 ≤ y) (h4 : y ≤ 1) : -1 ≤ x * y ∧ x * y ≤ 1 := by
  have := mul_bd (x := x) (y := y) (A := 1) (B := 1) h1 h2 h3 h4
  omega
theorem numberTimes_any (HAW : Awake) (A B : Option Addr) (n m c d : Nat) (p q : Row) (a b : Int) (w : World) (hA : IS w A n p) (hB : IS w B m q) (sA : SV A n c) (sB : SV B m d) (ln : n ≤ 9223372036854775807) (lm : m ≤ 9223372036854775807) (ha : I64 a) (hb : I64 b) :
    Calls Try.prog 12 #[.slice A n c, .slice B m d, .agg #[.int .i64 a, .int .i64 b]] w fun e w' => e = .returned (.bool true) ∧ Below w.heap.size w w' := by
  by_cases hl : 10 < n ∨ 10 < m
  · exact times_long HAW A B n m c d a b w ln lm hl
  · have hn : n ≤ 10 := by omega
    have hm : m ≤ 10 := by omega
    by_cases z1 : ckP n p = 0
    · by_cases z2 : ckP m q = 0
      · obtain ⟨n1, _, _⟩ := ckP_zeroB z1
        obtain ⟨m1, _, _⟩ := ckP_zeroB z2
        have HT : timN n m p q = timO n m p q := by unfold timN; rw [if_neg (by simpa using z1), if_neg (by simpa using z2)]
        have ht : (timO n m p q).1 ≤ 20 := by unfold timO; split <;> (first | (simp; done) | (simp; omega))
        by_cases z3 : ckP (n + m - 1) (cv m p q n) = 0
        · have HO : timO n m p q = (n + m - 1, 0) := by unfold timO; rw [if_neg (by simpa using z3)]
          rw [HO] at ht
          by_cases z4 : ckFs [(a, b)] = 0
          · have k4 := z4
            rw [ckFs_one] at k4
            obtain ⟨u1, u2⟩ := sgAt_bd n p a b
            obtain ⟨v1, v2⟩ := sgAt_bd m q a b
            obtain ⟨x1, x2⟩ := mul_bd1 u1 u2 v1 v2
            exact times_G HAW A B n m c d p q (n + m - 1) a b (sgAt n p a b) (sgAt m q a b) w ⟨hA⟩ ⟨hB⟩ ⟨sA⟩ ⟨sB⟩ hn hm ha hb ⟨z1⟩ ⟨z2⟩ ⟨HT.trans HO⟩ ⟨HO⟩ ht ⟨z4⟩ ⟨sigN_ok z1 k4⟩ ⟨sigN_ok z2 k4⟩
              ⟨by rw [sigN_ok z3 k4, sgAt_prod a b p q n m n1 m1]⟩ ⟨wtB_yes u1 u2⟩ ⟨wtB_yes v1 v2⟩ x1 x2 (by omega)
          · exact times_F HAW A B n m c d p q (n + m - 1) a b _ w ⟨hA⟩ ⟨hB⟩ ⟨sA⟩ ⟨sB⟩ hn hm ha hb ⟨z1⟩ ⟨z2⟩ ⟨HT.trans HO⟩ ⟨HO⟩ ht ⟨rfl⟩ (by simpa using z4)
        · have HO : timO n m p q = (0, 8) := by unfold timO; rw [if_pos z3]
          exact times_E HAW A B n m c d p q 0 a b 8 w ⟨hA⟩ ⟨hB⟩ ⟨sA⟩ ⟨sB⟩ hn hm ha hb ⟨z1⟩ ⟨z2⟩ ⟨HT.trans HO⟩ ⟨HO⟩ (by omega) rfl
      · exact times_badB HAW A B n m c d p q a b (ckP m q) w ⟨hA⟩ ⟨hB⟩ ⟨sA⟩ ⟨sB⟩ hn hm ha hb ⟨z1⟩ ⟨rfl⟩ ⟨by unfold timN; rw [if_neg (by simpa using z1), if_pos z2]⟩ (by simpa using z2)
    · exact times_badA HAW A B n m c d p q a b (ckP n p) w ⟨hA⟩ ⟨hB⟩ ⟨sA⟩ ⟨sB⟩ hn hm ha hb ⟨rfl⟩ ⟨by unfold timN; rw [if_pos z1]⟩ (by simpa using z1) (by simpa using z1)

end Go.Proofs.Ytdlddfmodbcnmaa
