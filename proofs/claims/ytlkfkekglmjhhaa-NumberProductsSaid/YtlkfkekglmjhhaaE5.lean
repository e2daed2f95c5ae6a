/- Walks: the reference's multiples of ranges, whole. -/
import Derived.Test.YtlkfkekglmjhhaaE4
set_option linter.unusedVariables false
set_option linter.unusedSimpArgs false
namespace Go.Proofs.Ytlkfkekglmjhhaa
open Go.RowKit

theorem least_any (x n m : Int) (w : World) (x1 : -1000000000000000 ≤ x) (x2 : x ≤ 1000000000000000) (n1 : 0 ≤ n) (n2 : n ≤ 1000000000) (m1 : 1 ≤ m) (m2 : m ≤ 1000000000) :
    Calls Try.prog 98 #[.int .i64 x, .agg #[.int .i64 n, .int .i64 m]] w fun e w' => e = .returned (.int .i64 (leaN x n m)) ∧ Below w.heap.size w w' := by
  by_cases hn : n = 0
  · exact least_z x n m w x1 x2 n1 n2 m1 m2 hn
  · by_cases c : 3000000000000000 / n < sz (x / m)
    · by_cases s : x / m < 0
      · exact least_n x n m w x1 x2 n1 n2 m1 m2 c s (by omega)
      · exact least_p x n m w x1 x2 n1 n2 m1 m2 c s (by omega)
    · exact least_k x n m w x1 x2 n1 n2 m1 m2 c (by omega)
theorem lea_bd2 {x n m : Int} (hm : 1 ≤ m) (hn : 0 ≤ n) (hn2 : n ≤ 1000000000) : -4000000000000000 ≤ leaN x n m ∧ leaN x n m ≤ 4000000000000000 := by
  unfold leaN
  by_cases c : 0 < n ∧ 3000000000000000 / n < sz (x / m)
  · rw [if_pos c]; split <;> omega
  · rw [if_neg c]
    have r1 : 0 ≤ x % m := Int.emod_nonneg _ (by omega)
    have r2 : x % m < m := Int.emod_lt_of_pos _ (by omega)
    have q1 := Int.mul_nonneg r1 hn
    have q3 : 0 ≤ x % m * n / m := Int.ediv_nonneg q1 (by omega)
    have q4 : x % m * n / m ≤ n := by
      have : x % m * n ≤ m * n := Int.mul_le_mul_of_nonneg_right (by omega) hn
      have h2 := Int.ediv_le_ediv (show 0 < m by omega) this
      rwa [Int.mul_ediv_cancel_left _ (by omega)] at h2
    by_cases h0 : n = 0
    · subst h0; omega
    · have h : sz (x / m) ≤ 3000000000000000 / n := by
        rcases Int.lt_or_le (3000000000000000 / n) (sz (x / m)) with h | h
        · exact absurd ⟨by omega, h⟩ c
        · exact h
      rw [Int.le_ediv_iff_mul_le (by omega)] at h
      have p0 : 0 ≤ sz (x / m) * n := Int.mul_nonneg (sz_nonneg _) hn
      have e : sz (x / m) = x / m ∨ sz (x / m) = -(x / m) := by unfold sz; omega
      rcases e with e | e <;> rw [e] at h p0
      · omega
      · rw [Int.neg_mul] at h p0; omega

theorem below_any2 {X Y Z : World} (h : Below X.heap.size X Y) (k : Below Y.heap.size Y Z) : Below X.heap.size X Z := h.trans (k.mono h.size)
set_option maxRecDepth 100000 in
set_option maxHeartbeats 8000000 in
theorem scaledR_pos (a b n m u v s1 s2 s3 : Int) (w : World) (a1 : -1000000000000000 ≤ a) (a2 : a ≤ 1000000000000000) (b1 : -1000000000000000 ≤ b) (b2 : b ≤ 1000000000000000) (n1 : 0 ≤ n) (n2 : n ≤ 1000000000) (m1 : 1 ≤ m) (m2 : m ≤ 1000000000) (HL1 : Bx (leaN a n m = u)) (HL2 : Bx (leaN (-b) n m = v)) (HS : Bx (nlR u (-v) = (s1, s2, s3)))
    (u1 : -4000000000000000 ≤ u) (u2 : u ≤ 4000000000000000) (v1 : -4000000000000000 ≤ v) (v2 : v ≤ 4000000000000000) :
    Calls Try.prog 55 #[.agg #[.int .i64 a, .int .i64 b], .agg #[.int .i64 n, .int .i64 m]] w fun e w' => e = .returned (.tuple #[.agg #[.int .i64 s1, .int .i64 s2], .int .i64 s3]) ∧ Below w.heap.size w w' := by
  have hn : ¬ n < 0 := by omega
  have hw1 : IntKind.i64.wrap (-b) = -b := IntWalk.i64_in _ (by omega)
  have hw2 : IntKind.i64.wrap (-v) = -v := IntWalk.i64_in _ (by omega)
  have g1 : -1000000000000000 ≤ -b := by omega
  have g2 : -b ≤ 1000000000000000 := by omega
  have iu : I64 u := by unfold I64; omega
  have iv : I64 (-v) := by unfold I64; omega
  have Q0 := Bx.mk (QS.new w a b n m 38 23 38)
  obtain ⟨lt0, q00, q10, q20, q30, k00, k10, k20, k30, -⟩ := Q0.out
  go_enter Try.func55, Try.ntmps55
  go_wp2
  go_region_held3 (fun w' => w'.cell? ⟨w.heap.size, 0, none⟩ = some (.int .i64 a) ∧ w'.cell? ⟨w.heap.size, 1, none⟩ = some (.int .i64 b) ∧ w'.cell? ⟨w.heap.size + 1, 0, none⟩ = some (.int .i64 n) ∧ w'.cell? ⟨w.heap.size + 1, 1, none⟩ = some (.int .i64 m))
    (first | (exact ⟨q00, q10, q20, q30⟩) | (exact ⟨q01, q11, q21, q31⟩) | (exact ⟨q02, q12, q22, q32⟩) | (exact ⟨q03, q13, q23, q33⟩) | (exact ⟨keep2 q03 (by omega), keep2 q13 (by omega), keep2 q23 (by omega), keep2 q33 (by omega)⟩))
    (first
      | (go_at_call 98; (with_reducible refine (least_any a n m _ a1 a2 n1 n2 m1 m2).mono ?_); rw [HL1.out]; rintro e w1 ⟨rfl, B1⟩; replace B1 : Below (((w.alloc (.cells #[.int .i64 a, .int .i64 b] 38)).alloc (.cells #[.int .i64 n, .int .i64 m] 23)).alloc (.cells #[.int .i64 0, .int .i64 0] 38)).heap.size (((w.alloc (.cells #[.int .i64 a, .int .i64 b] 38)).alloc (.cells #[.int .i64 n, .int .i64 m] 23)).alloc (.cells #[.int .i64 0, .int .i64 0] 38)) w1 := (by first | exact B1 | exact below_any2 (Below.refl _ _).drew B1 | exact below_any2 (below_drewN (Below.refl _ _) _) B1); have Q1 := Bx.mk (Q0.out.call B1); obtain ⟨lt1, q01, q11, q21, q31, k01, k11, k21, k31, -⟩ := Q1.out)
      | (go_at_call 98; (with_reducible refine (least_any (-b) n m _ g1 g2 n1 n2 m1 m2).mono ?_); rw [HL2.out]; rintro e w2 ⟨rfl, B2⟩; replace B2 : Below w1.heap.size w1 w2 := (by first | exact B2 | exact below_any2 (Below.refl _ _).drew B2 | exact below_any2 (below_drewN (Below.refl _ _) _) B2); have Q2 := Bx.mk (Q1.out.call B2); obtain ⟨lt2, q02, q12, q22, q32, k02, k12, k22, k32, -⟩ := Q2.out)
      | (go_at_call 97; (with_reducible refine (valid_any u (-v) _ iu iv).mono ?_); rw [HS.out]; rintro e w3 ⟨rfl, B3⟩; replace B3 : Below w2.heap.size w2 w3 := (by first | exact B3 | exact below_any2 (Below.refl _ _).drew B3 | exact below_any2 (below_drewN (Below.refl _ _) _) B3); have Q3 := Bx.mk (Q2.out.call B3); obtain ⟨lt3, q03, q13, q23, q33, k03, k13, k23, k33, -⟩ := Q3.out))
  all_goals (try go_wp2)
  all_goals
    obtain ⟨r0, r1⟩ := set2 (b := w.heap.size + 1 + 1) (x := .int .i64 0) (y := .int .i64 0) (.int .i64 s1) (.int .i64 s2) k03 k13
    refine bodyPost_ret (ret_range rfl _ _ _ _ _ _ rfl rfl r0 r1) rfl ⟨rfl, ?_⟩
    first
    | exact ((Q3.out.B).setCell (by show w.heap.size ≤ w.heap.size + 1 + 1; omega) _).setCell (by show w.heap.size ≤ w.heap.size + 1 + 1; omega) _
    | exact (((Q3.out.B).drew).setCell (by show w.heap.size ≤ w.heap.size + 1 + 1; omega) _).setCell (by show w.heap.size ≤ w.heap.size + 1 + 1; omega) _
    | exact (((Q3.out.B).setCell (by show w.heap.size ≤ w.heap.size + 1 + 1; omega) _).setCell (by show w.heap.size ≤ w.heap.size + 1 + 1; omega) _).drew


set_option maxRecDepth 100000 in
set_option maxHeartbeats 8000000 in
theorem scaledR_neg (a b n m u v s1 s2 s3 : Int) (w : World) (a1 : -1000000000000000 ≤ a) (a2 : a ≤ 1000000000000000) (b1 : -1000000000000000 ≤ b) (b2 : b ≤ 1000000000000000) (n0 : n < 0) (n1 : -1000000000 ≤ n) (m1 : 1 ≤ m) (m2 : m ≤ 1000000000) (HL1 : Bx (leaN (-b) (-n) m = u)) (HL2 : Bx (leaN (- -a) (-n) m = v)) (HS : Bx (nlR u (-v) = (s1, s2, s3)))
    (u1 : -4000000000000000 ≤ u) (u2 : u ≤ 4000000000000000) (v1 : -4000000000000000 ≤ v) (v2 : v ≤ 4000000000000000) :
    Calls Try.prog 55 #[.agg #[.int .i64 a, .int .i64 b], .agg #[.int .i64 n, .int .i64 m]] w fun e w' => e = .returned (.tuple #[.agg #[.int .i64 s1, .int .i64 s2], .int .i64 s3]) ∧ Below w.heap.size w w' := by
  have Q0 := Bx.mk (QS.new w a b n m 38 23 38)
  obtain ⟨lt0, q00, q10, q20, q30, k00, k10, k20, k30, -⟩ := Q0.out
  go_enter Try.func55, Try.ntmps55
  go_wp2_with (go_at_call 55; (with_reducible refine (scaledR_pos (-b) (-a) (-n) m u v s1 s2 s3 _ (by omega) (by omega) (by omega) (by omega) (by omega) (by omega) m1 m2 HL1 HL2 HS u1 u2 v1 v2).mono ?_); rintro e w3 ⟨rfl, B3⟩; have Q3 := Bx.mk (Q0.out.call B3); obtain ⟨lt3, q03, q13, q23, q33, k03, k13, k23, k33, -⟩ := Q3.out)
  obtain ⟨r0, r1⟩ := set2 (b := w.heap.size + 1 + 1) (x := .int .i64 0) (y := .int .i64 0) (.int .i64 s1) (.int .i64 s2) k03 k13
  refine bodyPost_ret (ret_range rfl _ _ _ _ _ _ rfl rfl r0 r1) rfl ⟨rfl, ?_⟩
  exact ((Q3.out.B).setCell (by show w.heap.size ≤ w.heap.size + 1 + 1; omega) _).setCell (by show w.heap.size ≤ w.heap.size + 1 + 1; omega) _
theorem scaledR_any (a b n m : Int) (w : World) (hz : ckRg a b = 0) (hy : ckF n m = 0) :
    Calls Try.prog 55 #[.agg #[.int .i64 a, .int .i64 b], .agg #[.int .i64 n, .int .i64 m]] w fun e w' => e = .returned (.tuple #[.agg #[.int .i64 (scaledN a b n m).1, .int .i64 (scaledN a b n m).2.1], .int .i64 (scaledN a b n m).2.2]) ∧ Below w.heap.size w w' := by
  obtain ⟨n1, n2, m1, m2, _⟩ := ckF_zero hy
  obtain ⟨a1, a2, b1, b2, ab⟩ := ckRg_zero hz
  by_cases hn : n < 0
  · rw [← scaR_neg hz hy hn]
    obtain ⟨p1, p2⟩ := lea_bd2 (x := -b) (n := -n) m1 (by omega) (by omega)
    obtain ⟨p3, p4⟩ := lea_bd2 (x := - -a) (n := -n) m1 (by omega) (by omega)
    exact scaledR_neg a b n m _ _ _ _ _ w a1 a2 b1 b2 hn n1 m1 m2 ⟨rfl⟩ ⟨rfl⟩ ⟨rfl⟩ p1 p2 p3 p4
  · rw [← scaR_pos hz hy (by omega)]
    obtain ⟨p1, p2⟩ := lea_bd2 (x := a) (n := n) m1 (by omega) (by omega)
    obtain ⟨p3, p4⟩ := lea_bd2 (x := -b) (n := n) m1 (by omega) (by omega)
    exact scaledR_pos a b n m _ _ _ _ _ w a1 a2 b1 b2 (by omega) n2 m1 m2 ⟨rfl⟩ ⟨rfl⟩ ⟨rfl⟩ p1 p2 p3 p4

end Go.Proofs.Ytlkfkekglmjhhaa