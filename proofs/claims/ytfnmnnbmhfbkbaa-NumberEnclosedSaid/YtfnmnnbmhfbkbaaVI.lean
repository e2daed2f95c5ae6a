/- Both RootIn, joined. -/
import Derived.Test.YtfnmnnbmhfbkbaaVH
set_option linter.unusedVariables false
set_option linter.unusedSimpArgs false
namespace Go.Proofs.Ytfnmnnbmhfbkbaa
open Go.RowKit

theorem HF.put {w : World} {b : Nat} {x y : Int} (h : HF w b x y) (u v : Int) : HF ((w.setCell ⟨b, 0, none⟩ (.int .i64 u)).setCell ⟨b, 1, none⟩ (.int .i64 v)) b u v := by
  obtain ⟨j0, j1⟩ := set2 (b := b) (x := .int .i64 x) (y := .int .i64 y) (.int .i64 u) (.int .i64 v) h.2.1 h.2.2
  exact ⟨by simpa [World.setCell] using h.1, j0, j1⟩
theorem div_bd {x b : Int} (h1 : -1000000000000000 ≤ x) (h2 : x ≤ 1000000000000000) (hb : 1 ≤ b) : -10000000000000000 ≤ x / b ∧ x / b ≤ 10000000000000000 := by
  constructor
  · exact (Int.le_ediv_iff_mul_le (by omega)).2 (by have := Int.mul_le_mul_of_nonpos_left (show (-10000000000000000 : Int) ≤ 0 by omega) hb; omega)
  · have h := Int.ediv_le_ediv (show 0 < b by omega) h2
    have h3 := Int.ediv_le_self b (show (0 : Int) ≤ 1000000000000000 by omega)
    omega
theorem up_bd {x b : Int} (h1 : -1000000000000000 ≤ x) (h2 : x ≤ 1000000000000000) (hb : 1 ≤ b) : -10000000000000000 ≤ -(-x / b) ∧ -(-x / b) ≤ 10000000000000000 := by
  have := div_bd (x := -x) (b := b) (by omega) (by omega) hb
  omega
theorem wholeN_ok {a b t : Int} (h : ckF a b = 0) (ht : ¬ (t < 1 ∨ 1000000 < t)) : wholeN a b t = (a * t / b, -(-(a * t) / b), 0) := by unfold wholeN; rw [if_neg (by simpa using h), if_neg ht]
theorem wholeN_no {a b t : Int} (h : ckF a b = 0) (ht : t < 1 ∨ 1000000 < t) : wholeN a b t = (0, 0, 2) := by unfold wholeN; rw [if_neg (by simpa using h), if_pos ht]
theorem ckR_fs {n : Nat} {p : Row} {a b c d : Int} (z : ckR n p a b c d = 0) : ckP n p = 0 ∧ ckFs [(a, b), (c, d)] = 0 := by
  obtain ⟨z1, z2, _⟩ := ckR_zero z
  refine ⟨z1, ?_⟩
  by_cases x : ckFs [(a, b), (c, d)] = 0
  · exact x
  · have e : cmpN a b c d = (0, ckFs [(a, b), (c, d)]) := by unfold cmpN; rw [if_pos x]
    rw [e] at z2; exact z2
theorem chainR_len : ∀ (f n : Nat) (z : Row) (m : Nat) (y : Row), (chainR f n z m y).length ≤ m
  | 0, _, _, _, _ => Nat.zero_le _
  | f + 1, n, z, m, y => by
    rcases Nat.eq_zero_or_pos m with h | h
    · subst h; rw [chainR_zero]; exact Nat.le_refl _
    · rw [chainR_step f n m z y h]
      have h1 := chainR_len f m y (restR m y n n z).1 (fun i => -(restR m y n n z).2 i)
      have h2 := restR_lt (q := y) h n n z (Nat.le_refl _)
      simp only [List.length_cons]
      omega
theorem sturmR_len {n : Nat} {p : Row} (h : n ≤ 7) : (sturmR n p).length ≤ 8 := by
  have := chainR_len n n p (n - 1) (dRow p)
  show (chainR n n p (n - 1) (dRow p)).length + 1 ≤ 8
  omega
theorem bne0 {x : Int} (h : x ≠ 0) : (x == 0) = false := by simpa using h
theorem rinR_1 {n : Nat} {p : Row} {a b c d t : Int} (h : rootsL (sturmR n p) a b c d < 1) : rinR n p a b c d t = (0, 0, 12) := by unfold rinR; rw [if_pos h]
theorem rinR_2 {n : Nat} {p : Row} {a b c d t : Int} (h : 1 < rootsL (sturmR n p) a b c d) : rinR n p a b c d t = (0, 0, 13) := by unfold rinR; rw [if_neg (by omega), if_pos h]
theorem rinR_3 {n : Nat} {p : Row} {a b c d t r : Int} (h : rootsL (sturmR n p) a b c d = 1) (hr : bisU (sturmR n p) (chgR a b (sturmR n p)) t (-(-(c * t) / d) - a * t / b).toNat (a * t / b) (-(-(c * t) / d)) = r) (h1 : r ≤ c * t / d) (h2 : sgAt n p r t = 0) : rinR n p a b c d t = (r, r, 0) := by
  unfold rinR; rw [if_neg (by omega), if_neg (by omega), hr, if_pos ⟨h1, h2⟩]
theorem rinR_4 {n : Nat} {p : Row} {a b c d t r : Int} (h : rootsL (sturmR n p) a b c d = 1) (hr : bisU (sturmR n p) (chgR a b (sturmR n p)) t (-(-(c * t) / d) - a * t / b).toNat (a * t / b) (-(-(c * t) / d)) = r) (h1 : ¬ (r ≤ c * t / d ∧ sgAt n p r t = 0)) : rinR n p a b c d t = (r - 1, r, 0) := by
  unfold rinR; rw [if_neg (by omega), if_neg (by omega), hr, if_neg h1]

theorem rootInN_any (A : Option Addr) (n cc : Nat) (p : Row) (a b c d t : Int) (w : World) (HA : Bx (IS w A n p)) (hn : n ≤ 1000) (ha : I64 a) (hb : I64 b) (hc : I64 c) (hd : I64 d) (ht : I64 t) :
    Calls Try.prog 78 #[.slice A n cc, .agg #[.int .i64 a, .int .i64 b], .agg #[.int .i64 c, .int .i64 d], .int .i64 t] w fun e w' => e = .returned (.tuple #[.agg #[.int .i64 (rinN n p a b c d t).1, .int .i64 (rinN n p a b c d t).2.1], .int .i64 (rinN n p a b c d t).2.2]) ∧ Below w.heap.size w w' := by
  by_cases z : ckR n p a b c d = 0
  · obtain ⟨z1, z2⟩ := ckR_fs z
    obtain ⟨f1, f2⟩ := ckFs_two_zero z2
    dsimp only at f1 f2
    by_cases y : t < 1 ∨ 1000000 < t
    · have e : rinN n p a b c d t = (0, 0, 2) := by unfold rinN; rw [if_neg (by simpa using z), if_pos y]
      rw [e]
      exact rin_T A n cc p a b c d t 2 w HA hn ha hb hc hd ht ⟨z⟩ ⟨wholeN_no f1 y⟩ rfl
    · have e : rinN n p a b c d t = rinR n p a b c d t := by unfold rinN; rw [if_neg (by simpa using z), if_neg y]
      rw [e]
      obtain ⟨n1, n7, _, _⟩ := ckP_all z1
      obtain ⟨a1, a2, b1, b2, _⟩ := ckF_zero f1
      obtain ⟨c1, c2, d1, d2, _⟩ := ckF_zero f2
      have m1 := mul_b9 (x := a) (y := t) a1 a2 (by omega) (by omega)
      have m2 := mul_b9 (x := c) (y := t) c1 c2 (by omega) (by omega)
      have mm1 := mul_bd (x := a) (y := t) (A := 1000000000) (B := 1000000) (by omega) (by omega) (by omega) (by omega)
      have mm2 := mul_bd (x := c) (y := t) (A := 1000000000) (B := 1000000) (by omega) (by omega) (by omega) (by omega)
      obtain ⟨q1, q2⟩ := div_bd (x := a * t) (b := b) (by omega) (by omega) b1
      obtain ⟨q3, q4⟩ := up_bd (x := c * t) (b := d) (by omega) (by omega) d1
      by_cases x1 : rootsL (sturmR n p) a b c d < 1
      · rw [rinR_1 x1]
        exact rin_none A n cc p a b c d t _ _ _ _ _ w HA hn ha hb hc hd ht ⟨z⟩ ⟨wholeN_ok f1 y⟩ ⟨wholeN_ok f2 y⟩ n1 n7 ⟨rfl⟩ x1
      · by_cases x2 : 1 < rootsL (sturmR n p) a b c d
        · rw [rinR_2 x2]
          exact rin_many A n cc p a b c d t _ _ _ _ _ w HA hn ha hb hc hd ht ⟨z⟩ ⟨wholeN_ok f1 y⟩ ⟨wholeN_ok f2 y⟩ n1 n7 ⟨rfl⟩ x2
        · have x3 : rootsL (sturmR n p) a b c d = 1 := by omega
          obtain ⟨r, hr⟩ : ∃ r, bisU (sturmR n p) (chgR a b (sturmR n p)) t (-(-(c * t) / d) - a * t / b).toNat (a * t / b) (-(-(c * t) / d)) = r := ⟨_, rfl⟩
          obtain ⟨q5, q6⟩ := bisU_bd (l := sturmR n p) (c0 := chgR a b (sturmR n p)) (t := t) (X := 10000000000000000) (-(-(c * t) / d) - a * t / b).toNat _ _ q1 q2 q3 q4
          rw [hr] at q5 q6
          by_cases x4 : r ≤ c * t / d
          · by_cases x5 : sgAt n p r t = 0
            · rw [rinR_3 x3 hr x4 x5]
              exact rin_at A n cc p a b c d t _ _ _ _ r w HA hn ha hb hc hd ht ⟨z⟩ ⟨wholeN_ok f1 y⟩ ⟨wholeN_ok f2 y⟩ n1 n7 ⟨x3⟩ ⟨hr⟩ q1 q2 q3 q4 q5 q6 ⟨x5⟩ x4
            · rw [rinR_4 x3 hr (fun h => x5 h.2)]
              exact rin_not A n cc p a b c d t _ _ _ _ r _ w HA hn ha hb hc hd ht ⟨z⟩ ⟨wholeN_ok f1 y⟩ ⟨wholeN_ok f2 y⟩ n1 n7 ⟨x3⟩ ⟨hr⟩ q1 q2 q3 q4 q5 q6 ⟨rfl⟩ x4 (bne0 x5)
          · rw [rinR_4 x3 hr (fun h => x4 h.1)]
            exact rin_off A n cc p a b c d t _ _ _ _ r w HA hn ha hb hc hd ht ⟨z⟩ ⟨wholeN_ok f1 y⟩ ⟨wholeN_ok f2 y⟩ n1 n7 ⟨x3⟩ ⟨hr⟩ q1 q2 q3 q4 q5 q6 x4
  · have e : rinN n p a b c d t = (0, 0, ckR n p a b c d) := by unfold rinN; rw [if_pos z]
    rw [e]
    exact rin_E A n cc p a b c d t _ w HA hn ha hb hc hd ht ⟨rfl⟩ (by simpa using z)

theorem rootInR_any (A : Option Addr) (n cc : Nat) (p : Row) (a b c d t : Int) (w : World) (HA : Bx (IS w A n p)) (z1 : ckP n p = 0) (z2 : ckFs [(a, b), (c, d)] = 0) (t1 : 1 ≤ t) (t2 : t ≤ 1000000) :
    Calls Try.prog 79 #[.slice A n cc, .agg #[.int .i64 a, .int .i64 b], .agg #[.int .i64 c, .int .i64 d], .int .i64 t] w fun e w' => e = .returned (.tuple #[.agg #[.int .i64 (rinR n p a b c d t).1, .int .i64 (rinR n p a b c d t).2.1], .int .i64 (rinR n p a b c d t).2.2]) ∧ Below w.heap.size w w' := by
  obtain ⟨f1, f2⟩ := ckFs_two_zero z2
  dsimp only at f1 f2
  obtain ⟨n1, n7, htp, hsz⟩ := ckP_all z1
  obtain ⟨a1, a2, b1, b2, _⟩ := ckF_zero f1
  obtain ⟨c1, c2, d1, d2, _⟩ := ckF_zero f2
  have mm1 := mul_bd (x := a) (y := t) (A := 1000000000) (B := 1000000) (by omega) (by omega) (by omega) (by omega)
  have mm2 := mul_bd (x := c) (y := t) (A := 1000000000) (B := 1000000) (by omega) (by omega) (by omega) (by omega)
  obtain ⟨q1, q2⟩ := div_bd (x := a * t) (b := b) (by omega) (by omega) b1
  obtain ⟨q3, q4⟩ := up_bd (x := c * t) (b := d) (by omega) (by omega) d1
  have hlen : (sturmR n p).length ≤ 8 := sturmR_len n7
  obtain ⟨k0, k1⟩ := chgR_bd a b (sturmR n p)
  obtain ⟨k2, k3⟩ := chgR_bd c d (sturmR n p)
  have HT := sturmR_tops n1 htp
  have hRL : rootsL (sturmR n p) a b c d = chgR a b (sturmR n p) - chgR c d (sturmR n p) := rfl
  by_cases x1 : rootsL (sturmR n p) a b c d < 1
  · rw [rinR_1 x1]
    exact rinR_none A n cc p a b c d t _ _ w HA ⟨htp⟩ ⟨hsz⟩ ⟨HT⟩ n1 n7 a1 a2 b1 b2 c1 c2 d1 d2 t1 t2 ⟨rfl⟩ ⟨rfl⟩ k0 (by omega) k2 (by omega) (by rw [← hRL]; exact x1)
  · by_cases x2 : 1 < rootsL (sturmR n p) a b c d
    · rw [rinR_2 x2]
      exact rinR_many A n cc p a b c d t _ _ w HA ⟨htp⟩ ⟨hsz⟩ ⟨HT⟩ n1 n7 a1 a2 b1 b2 c1 c2 d1 d2 t1 t2 ⟨rfl⟩ ⟨rfl⟩ k0 (by omega) k2 (by omega) (by rw [← hRL]; exact x2)
    · have x3 : rootsL (sturmR n p) a b c d = 1 := by omega
      obtain ⟨r, hr⟩ : ∃ r, bisU (sturmR n p) (chgR a b (sturmR n p)) t (-(-(c * t) / d) - a * t / b).toNat (a * t / b) (-(-(c * t) / d)) = r := ⟨_, rfl⟩
      by_cases x5 : sgAt n p r t = 0
      · by_cases x4 : r ≤ c * t / d
        · rw [rinR_3 x3 hr x4 x5]
          exact rinR_at A n cc p a b c d t _ _ _ _ _ r w HA ⟨htp⟩ ⟨hsz⟩ ⟨HT⟩ n1 n7 a1 a2 b1 b2 c1 c2 d1 d2 t1 t2 ⟨rfl⟩ ⟨rfl⟩ k0 (by omega) k2 (by omega) (by rw [← hRL]; exact x3) ⟨rfl⟩ ⟨rfl⟩ ⟨rfl⟩ ⟨hr⟩ q1 q2 q3 q4 ⟨x5⟩ x4
        · rw [rinR_4 x3 hr (fun h => x4 h.1)]
          exact rinR_off A n cc p a b c d t _ _ _ _ _ r w HA ⟨htp⟩ ⟨hsz⟩ ⟨HT⟩ n1 n7 a1 a2 b1 b2 c1 c2 d1 d2 t1 t2 ⟨rfl⟩ ⟨rfl⟩ k0 (by omega) k2 (by omega) (by rw [← hRL]; exact x3) ⟨rfl⟩ ⟨rfl⟩ ⟨rfl⟩ ⟨hr⟩ q1 q2 q3 q4 ⟨x5⟩ x4
      · rw [rinR_4 x3 hr (fun h => x5 h.2)]
        exact rinR_not A n cc p a b c d t _ _ _ _ _ r _ w HA ⟨htp⟩ ⟨hsz⟩ ⟨HT⟩ n1 n7 a1 a2 b1 b2 c1 c2 d1 d2 t1 t2 ⟨rfl⟩ ⟨rfl⟩ k0 (by omega) k2 (by omega) (by rw [← hRL]; exact x3) ⟨rfl⟩ ⟨rfl⟩ ⟨rfl⟩ ⟨hr⟩ q1 q2 q3 q4 ⟨rfl⟩ (bne0 x5)

end Go.Proofs.Ytfnmnnbmhfbkbaa
