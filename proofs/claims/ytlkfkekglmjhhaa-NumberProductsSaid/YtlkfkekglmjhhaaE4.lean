/- Walks: the reference's multiples of ranges. -/
import Derived.Test.YtlkfkekglmjhhaaE3
import Derived.Test.YtlkfkekglmjhhaaT1
import Derived.Test.YtlkfkekglmjhhaaR2
set_option linter.unusedVariables false
set_option linter.unusedSimpArgs false
namespace Go.Proofs.Ytlkfkekglmjhhaa
open Go.RowKit

theorem min4_comm (a b c d : Int) : min4 (a * c) (a * d) (b * c) (b * d) = min4 (c * a) (d * a) (c * b) (d * b) ∧ max4 (a * c) (a * d) (b * c) (b * d) = max4 (c * a) (d * a) (c * b) (d * b) := by
  rw [Int.mul_comm a c, Int.mul_comm a d, Int.mul_comm b c, Int.mul_comm b d]; exact ⟨rfl, rfl⟩
theorem productR_any (a b c d : Int) (w : World) (z1 : ckRg a b = 0) (z2 : ckRg c d = 0) :
    Calls Try.prog 54 #[.agg #[.int .i64 a, .int .i64 b], .agg #[.int .i64 c, .int .i64 d]] w fun e w' => e = .returned (.tuple #[.agg #[.int .i64 (prodN a b c d).1, .int .i64 (prodN a b c d).2.1], .int .i64 (prodN a b c d).2.2]) ∧ Below w.heap.size w w' := by
  obtain ⟨a1, a2, b1, b2, _⟩ := ckRg_zero z1
  obtain ⟨c1, c2, d1, d2, _⟩ := ckRg_zero z2
  have he : ckRs [(a, b), (c, d)] = 0 := by rw [ckRs_two]; simp [z1, z2]
  obtain ⟨e1, e2⟩ := min4_comm a b c d
  have full : (f0 : sz a * sz c ≤ 1000000000000000 * 1) → (f1 : sz a * sz d ≤ 1000000000000000 * 1) → (f2 : sz b * sz c ≤ 1000000000000000 * 1) → (f3 : sz b * sz d ≤ 1000000000000000 * 1) → prodN a b c d = (min4 (a * c) (a * d) (b * c) (b * d), max4 (a * c) (a * d) (b * c) (b * d), 0) := fun f0 f1 f2 f3 => by
    rw [e1, e2]; unfold prodN; rw [if_neg (by simpa using he), if_pos ⟨f0, f1, f2, f3⟩]
  have none : ¬ (sz a * sz c ≤ 1000000000000000 * 1 ∧ sz a * sz d ≤ 1000000000000000 * 1 ∧ sz b * sz c ≤ 1000000000000000 * 1 ∧ sz b * sz d ≤ 1000000000000000 * 1) → prodN a b c d = (0, 0, 8) := fun h => by
    unfold prodN; rw [if_neg (by simpa using he), if_neg h]
  by_cases yc : c = 0
  · have f0 := fit_zero a yc
    have f2 := fit_zero b yc
    have yc' : (c != 0) = false := by simpa using yc
    by_cases yd : d = 0
    · have f1 := fit_zero a yd
      have f3 := fit_zero b yd
      rw [full f0 f1 f2 f3]
      exact productR_4zz a b c d w a1 a2 b1 b2 c1 c2 d1 d2 ⟨f0⟩ ⟨f1⟩ ⟨f2⟩ ⟨f3⟩ yc' (by simpa using yd)
    · have yd' : (d != 0) = true := by simpa using yd
      by_cases f1 : sz a * sz d ≤ 1000000000000000 * 1
      · by_cases f3 : sz b * sz d ≤ 1000000000000000 * 1
        · rw [full f0 f1 f2 f3]; exact productR_4zn a b c d w a1 a2 b1 b2 c1 c2 d1 d2 ⟨f0⟩ ⟨f1⟩ ⟨f2⟩ ⟨f3⟩ yc' yd'
        · rw [none (fun h => f3 h.2.2.2)]; exact productR_3zn a b c d w a1 a2 b1 b2 c1 c2 d1 d2 ⟨f0⟩ ⟨f1⟩ ⟨f2⟩ ⟨f3⟩ yc' yd'
      · rw [none (fun h => f1 h.2.1)]; exact productR_1zn a b c d w a1 a2 b1 b2 c1 c2 d1 d2 ⟨f0⟩ ⟨f1⟩ yc' yd'
  · have yc' : (c != 0) = true := by simpa using yc
    by_cases yd : d = 0
    · have f1 := fit_zero a yd
      have f3 := fit_zero b yd
      have yd' : (d != 0) = false := by simpa using yd
      by_cases f0 : sz a * sz c ≤ 1000000000000000 * 1
      · by_cases f2 : sz b * sz c ≤ 1000000000000000 * 1
        · rw [full f0 f1 f2 f3]; exact productR_4nz a b c d w a1 a2 b1 b2 c1 c2 d1 d2 ⟨f0⟩ ⟨f1⟩ ⟨f2⟩ ⟨f3⟩ yc' yd'
        · rw [none (fun h => f2 h.2.2.1)]; exact productR_2nz a b c d w a1 a2 b1 b2 c1 c2 d1 d2 ⟨f0⟩ ⟨f1⟩ ⟨f2⟩ yc' yd'
      · rw [none (fun h => f0 h.1)]; exact productR_0nz a b c d w a1 a2 b1 b2 c1 c2 d1 d2 ⟨f0⟩ yc' yd'
    · have yd' : (d != 0) = true := by simpa using yd
      by_cases f0 : sz a * sz c ≤ 1000000000000000 * 1
      · by_cases f1 : sz a * sz d ≤ 1000000000000000 * 1
        · by_cases f2 : sz b * sz c ≤ 1000000000000000 * 1
          · by_cases f3 : sz b * sz d ≤ 1000000000000000 * 1
            · rw [full f0 f1 f2 f3]; exact productR_4nn a b c d w a1 a2 b1 b2 c1 c2 d1 d2 ⟨f0⟩ ⟨f1⟩ ⟨f2⟩ ⟨f3⟩ yc' yd'
            · rw [none (fun h => f3 h.2.2.2)]; exact productR_3nn a b c d w a1 a2 b1 b2 c1 c2 d1 d2 ⟨f0⟩ ⟨f1⟩ ⟨f2⟩ ⟨f3⟩ yc' yd'
          · rw [none (fun h => f2 h.2.2.1)]; exact productR_2nn a b c d w a1 a2 b1 b2 c1 c2 d1 d2 ⟨f0⟩ ⟨f1⟩ ⟨f2⟩ yc' yd'
        · rw [none (fun h => f1 h.2.1)]; exact productR_1nn a b c d w a1 a2 b1 b2 c1 c2 d1 d2 ⟨f0⟩ ⟨f1⟩ yc' yd'
      · rw [none (fun h => f0 h.1)]; exact productR_0nn a b c d w a1 a2 b1 b2 c1 c2 d1 d2 ⟨f0⟩ yc' yd'

/-! The reference's least. -/
def leaN (x n m : Int) : Int := if 0 < n ∧ 3000000000000000 / n < sz (x / m) then (if x / m < 0 then -2000000000000000 else 2000000000000000) else x / m * n + x % m * n / m
theorem lea_eq {x n m : Int} (hm : 1 ≤ m) : x / m * n + x % m * n / m = n * x / m := by
  have h := Int.mul_ediv_add_emod x m
  have : n * x = (x / m * n) * m + x % m * n := by
    conv => lhs; rw [← h]
    rw [Int.mul_add, Int.mul_comm n (x % m), Int.mul_comm m (x / m), ← Int.mul_assoc, Int.mul_comm n (x / m)]
  rw [this, Int.add_comm (x / m * n * m), Int.add_mul_ediv_right _ _ (by omega), Int.add_comm]
/-- Where the number that is told is right or beyond all ranges. -/
theorem lea_is {x n m : Int} (hm : 1 ≤ m) (hm2 : m ≤ 1000000000) (hn : 0 ≤ n) (hn2 : n ≤ 1000000000) (hx : -1000000000000000 ≤ x) (hx2 : x ≤ 1000000000000000) :
    (leaN x n m = n * x / m) ∨ (leaN x n m = -2000000000000000 ∧ n * x / m < -1000000000000001) ∨ (leaN x n m = 2000000000000000 ∧ 1000000000000001 < n * x / m) := by
  unfold leaN
  by_cases c : 0 < n ∧ 3000000000000000 / n < sz (x / m)
  · rw [if_pos c]
    obtain ⟨c1, c2⟩ := c
    rw [Int.ediv_lt_iff_lt_mul c1] at c2
    have e := lea_eq (x := x) (n := n) hm
    have r0 : 0 ≤ x % m * n / m := Int.ediv_nonneg (Int.mul_nonneg (Int.emod_nonneg _ (by omega)) hn) (by omega)
    have r1 : x % m * n / m ≤ n := by
      have : x % m * n ≤ m * n := Int.mul_le_mul_of_nonneg_right (by have := Int.emod_lt_of_pos x (show 0 < m by omega); omega) hn
      have h2 := Int.ediv_le_ediv (show 0 < m by omega) this
      rwa [Int.mul_ediv_cancel_left _ (by omega)] at h2
    by_cases s : x / m < 0
    · right; left
      rw [if_pos s]
      refine ⟨rfl, ?_⟩
      have hs : sz (x / m) = -(x / m) := by unfold sz; omega
      rw [hs, Int.neg_mul] at c2
      omega
    · right; right
      rw [if_neg s]
      refine ⟨rfl, ?_⟩
      have hs : sz (x / m) = x / m := by unfold sz; omega
      rw [hs] at c2
      omega
  · left; rw [if_neg c]; exact lea_eq hm
theorem fit_iff {x n m : Int} (hm : 1 ≤ m) (hn : 0 ≤ n) : sz x * sz n ≤ 1000000000000000 * m ↔ (-1000000000000000 ≤ n * x / m ∧ -(-(n * x) / m) ≤ 1000000000000000) := by
  have hs : sz n = n := (sz_pos hn).symm
  have e : sz x * sz n = sz (n * x) := by unfold sz; rw [Int.natAbs_mul, Int.natCast_mul, Int.mul_comm]
  rw [e]
  constructor
  · intro h
    refine ⟨?_, ?_⟩
    · rw [Int.le_ediv_iff_mul_le (by omega)]; unfold sz at h; omega
    · have : -1000000000000000 ≤ -(n * x) / m := by rw [Int.le_ediv_iff_mul_le (by omega)]; unfold sz at h; omega
      omega
  · rintro ⟨h1, h2⟩
    have h3 : -1000000000000000 ≤ -(n * x) / m := by omega
    rw [Int.le_ediv_iff_mul_le (by omega)] at h1 h3
    unfold sz; omega
theorem floor_le_ceil {p m : Int} (hm : 1 ≤ m) : p / m ≤ -(-p / m) ∧ -(-p / m) ≤ p / m + 1 := by rw [ceil_of hm]; split <;> omega
theorem floor_mono {p q m : Int} (hm : 1 ≤ m) (h : p ≤ q) : p / m ≤ q / m := Int.ediv_le_ediv (by omega) h
/-- What the reference says of a fraction that is not negative. -/
def scaR (a b n m : Int) : Int × Int × Int := nlR (leaN a n m) (-(leaN (-b) n m))
theorem scaR_is {a b n m : Int} (hz : ckRg a b = 0) (hn : 0 ≤ n) (hn2 : n ≤ 1000000000) (hm : 1 ≤ m) (hm2 : m ≤ 1000000000) :
    scaR a b n m = if sz a * sz n ≤ 1000000000000000 * m ∧ sz b * sz n ≤ 1000000000000000 * m then (n * a / m, -(-(n * b) / m), 0) else (0, 0, 8) := by
  obtain ⟨a1, a2, b1, b2, ab⟩ := ckRg_zero hz
  have l1 := lea_is (x := a) hm hm2 hn hn2 a1 a2
  have l2 := lea_is (x := -b) hm hm2 hn hn2 (by omega) (by omega)
  rw [Int.mul_neg] at l2
  have f1 := fit_iff (x := a) hm hn
  have f2 := fit_iff (x := b) hm hn
  have mono : n * a ≤ n * b := Int.mul_le_mul_of_nonneg_left ab hn
  have g1 := floor_mono hm mono
  have g2 := floor_mono hm (show -(n * b) ≤ -(n * a) by omega)
  have k1 := floor_le_ceil (p := n * a) hm
  have k2 := floor_le_ceil (p := n * b) hm
  unfold scaR nlR
  generalize leaN a n m = u at *
  generalize leaN (-b) n m = v at *
  generalize n * a / m = p at *
  generalize n * b / m = q at *
  generalize -(n * a) / m = p' at *
  generalize -(n * b) / m = q' at *
  by_cases ok : sz a * sz n ≤ 1000000000000000 * m ∧ sz b * sz n ≤ 1000000000000000 * m
  · rw [if_pos ok]
    obtain ⟨o1, o2⟩ := f1.1 ok.1
    obtain ⟨o3, o4⟩ := f2.1 ok.2
    have hu : u = p := by omega
    have hv : v = q' := by omega
    subst hu hv
    rw [if_neg]
    have : ckRg u (-v) = 0 := by unfold ckRg sz; rw [if_neg (by omega), if_neg (by omega)]
    simp [this]
  · rw [if_neg ok, if_pos]
    have bad : ¬ (-1000000000000000 ≤ p ∧ -q' ≤ 1000000000000000) := by
      intro ⟨h1, h2⟩
      exact ok ⟨f1.2 ⟨h1, by omega⟩, f2.2 ⟨by omega, h2⟩⟩
    have : ckRg u (-v) = 2 := by unfold ckRg sz; rw [if_pos (by omega)]
    rw [this]; omega
theorem scaledN_ok {a b n m : Int} (hz : ckRg a b = 0) (hy : ckF n m = 0) : scaledN a b n m = if sz a * sz n ≤ 1000000000000000 * m ∧ sz b * sz n ≤ 1000000000000000 * m then (min (n * a / m) (n * b / m), max (-(-(n * a) / m)) (-(-(n * b) / m)), 0) else (0, 0, 8) := by
  unfold scaledN
  rw [if_neg (by rw [ckRs_one]; simpa using hz), if_neg (by rw [ckFs_one]; simpa using hy)]
theorem scaR_pos {a b n m : Int} (hz : ckRg a b = 0) (hy : ckF n m = 0) (hn : 0 ≤ n) : scaR a b n m = scaledN a b n m := by
  obtain ⟨n1, n2, m1, m2, _⟩ := ckF_zero hy
  obtain ⟨a1, a2, b1, b2, ab⟩ := ckRg_zero hz
  rw [scaR_is hz hn n2 m1 m2, scaledN_ok hz hy]
  have mono : n * a ≤ n * b := Int.mul_le_mul_of_nonneg_left ab hn
  have g1 := floor_mono m1 mono
  have g2 := floor_mono m1 (show -(n * b) ≤ -(n * a) by omega)
  split
  · rw [show min (n * a / m) (n * b / m) = n * a / m by omega, show max (-(-(n * a) / m)) (-(-(n * b) / m)) = -(-(n * b) / m) by omega]
  · rfl
theorem sz_neg (x : Int) : sz (-x) = sz x := by unfold sz; omega
theorem scaR_neg {a b n m : Int} (hz : ckRg a b = 0) (hy : ckF n m = 0) (hn : n < 0) : scaR (-b) (-a) (-n) m = scaledN a b n m := by
  obtain ⟨n1, n2, m1, m2, _⟩ := ckF_zero hy
  obtain ⟨a1, a2, b1, b2, ab⟩ := ckRg_zero hz
  have hz' : ckRg (-b) (-a) = 0 := by unfold ckRg sz; rw [if_neg (by omega), if_neg (by omega)]
  rw [scaR_is hz' (by omega) (by omega) m1 m2, scaledN_ok hz hy, sz_neg, sz_neg, sz_neg]
  have mono : n * b ≤ n * a := by
    have := Int.mul_le_mul_of_nonneg_left ab (show 0 ≤ -n by omega)
    rw [Int.neg_mul, Int.neg_mul] at this; omega
  have g1 := floor_mono m1 mono
  have g2 := floor_mono m1 (show -(n * a) ≤ -(n * b) by omega)
  rw [Int.neg_mul_neg, Int.neg_mul_neg]
  by_cases ok : sz a * sz n ≤ 1000000000000000 * m ∧ sz b * sz n ≤ 1000000000000000 * m
  · rw [if_pos ok, if_pos ⟨ok.2, ok.1⟩, show min (n * a / m) (n * b / m) = n * b / m by omega, show max (-(-(n * a) / m)) (-(-(n * b) / m)) = -(-(n * a) / m) by omega]
  · rw [if_neg ok, if_neg (fun h => ok ⟨h.2, h.1⟩)]


theorem quiet_left2 {P : Program} {f : FuncId} {args : Array Value} {w : World} {n : Nat} {v : Value}
    (h : Calls P f args (w.drewN n) fun e w' => e = .returned v ∧ w.drewN n = w') : Calls P f args (w.drewN n) fun e w'' => e = .returned v ∧ ∃ m, w'' = w.drewN m :=
  h.mono fun _ _ ⟨he, hm⟩ => ⟨he, n, hm.symm⟩
theorem quiet_add_left2 {P : Program} {f : FuncId} {args : Array Value} {w : World} {a n : Nat} {v : Value}
    (h : Calls P f args (w.drewN (a + n)) fun e w' => e = .returned v ∧ w.drewN (a + n) = w') :
    Calls P f args (w.drewN (a + n)) fun e w'' => e = .returned v ∧ ∃ m, w'' = w.drewN (a + m) :=
  h.mono fun _ _ ⟨he, hm⟩ => ⟨he, n, hm.symm⟩

set_option maxRecDepth 100000 in
set_option maxHeartbeats 4000000 in
theorem least_z (x n m : Int) (w : World) (x1 : -1000000000000000 ≤ x) (x2 : x ≤ 1000000000000000) (n1 : 0 ≤ n) (n2 : n ≤ 1000000000) (m1 : 1 ≤ m) (m2 : m ≤ 1000000000) (hn0 : n = 0) :
    Calls Try.prog 98 #[.int .i64 x, .agg #[.int .i64 n, .int .i64 m]] w fun e w' => e = .returned (.int .i64 (leaN x n m)) ∧ Below w.heap.size w w' := by
  subst hn0
  have HR := Bx.mk (show leaN x 0 m = x / m * 0 + x % m * 0 / m by unfold leaN; rw [if_neg (by omega)])
  have w1 : -1000000000000000 ≤ x / m := by rw [Int.le_ediv_iff_mul_le (by omega)]; omega
  have w2 : x / m ≤ 1000000000000000 := by
    have : x / m < 1000000000000001 := by rw [Int.ediv_lt_iff_lt_mul (by omega)]; omega
    omega
  have r1 : 0 ≤ x % m := Int.emod_nonneg _ (by omega)
  have r2 : x % m < m := Int.emod_lt_of_pos _ (by omega)
  have s1 := sz_nonneg (x / m)
  have hg : decide ((0 : Int) < 0) = false := rfl
  go_enter Try.func98, Try.ntmps98
  go_wp2
  go_quiet (first
    | (go_at_call 91; exact quiet_left2 (floorB_any _ _ _ (by omega) (by omega) (by omega) (by omega)))
    | (go_at_call 101; exact quiet_left2 (modB_any _ _ _ (by omega) (by omega) (by omega) (by omega)))
    | (go_at_call 63; exact quiet_left2 (absB_any _ _ (by omega) (by omega))))
  go_wp2
  go_quiet (first
    | (go_at_call 91; exact quiet_add_left2 (floorB_any _ _ _ (by omega) (by omega) (by omega) (by omega)))
    | (go_at_call 101; exact quiet_add_left2 (modB_any _ _ _ (by omega) (by omega) (by omega) (by omega)))
    | (go_at_call 63; exact quiet_add_left2 (absB_any _ _ (by omega) (by omega))))
  go_wp2
  go_quiet (first
    | (go_at_call 91; exact quiet_add_left2 (floorB_any _ _ _ (by omega) (by omega) (by omega) (by omega)))
    | (go_at_call 101; exact quiet_add_left2 (modB_any _ _ _ (by omega) (by omega) (by omega) (by omega)))
    | (go_at_call 63; exact quiet_add_left2 (absB_any _ _ (by omega) (by omega))))
  go_wp2
  go_ret
  refine ⟨by rw [HR.out]; first | rfl | simp, ?_⟩
  repeat (first | exact Below.refl _ _ | refine Below.drew ?_ | refine Below.drewN' ?_ _ | refine Below.alloc ?_ (by first | exact Nat.le_refl _ | (simp; done) | (simp; omega)) _)

set_option maxRecDepth 100000 in
set_option maxHeartbeats 4000000 in
theorem least_n (x n m : Int) (w : World) (x1 : -1000000000000000 ≤ x) (x2 : x ≤ 1000000000000000) (n1 : 0 ≤ n) (n2 : n ≤ 1000000000) (m1 : 1 ≤ m) (m2 : m ≤ 1000000000) (c : 3000000000000000 / n < sz (x / m)) (s : x / m < 0) (hn0 : 0 < n) :
    Calls Try.prog 98 #[.int .i64 x, .agg #[.int .i64 n, .int .i64 m]] w fun e w' => e = .returned (.int .i64 (leaN x n m)) ∧ Below w.heap.size w w' := by
  have HR := Bx.mk (show leaN x n m = -2000000000000000 by unfold leaN; rw [if_pos ⟨hn0, c⟩, if_pos s])
  have w1 : -1000000000000000 ≤ x / m := by rw [Int.le_ediv_iff_mul_le (by omega)]; omega
  have w2 : x / m ≤ 1000000000000000 := by
    have : x / m < 1000000000000001 := by rw [Int.ediv_lt_iff_lt_mul (by omega)]; omega
    omega
  have r1 : 0 ≤ x % m := Int.emod_nonneg _ (by omega)
  have r2 : x % m < m := Int.emod_lt_of_pos _ (by omega)
  have s1 := sz_nonneg (x / m)
  have d1 : 0 ≤ 3000000000000000 / n := Int.ediv_nonneg (by omega) (by omega)
  have d2 : 3000000000000000 / n ≤ 3000000000000000 := Int.ediv_le_self _ (by omega)
  have hs : decide (x / m < 0) = true := by simpa using s
  have hg : decide (0 < n) = true := by simpa using hn0
  have hc : decide (3000000000000000 / n < sz (x / m)) = true := by simpa using c
  have hnz : ¬ n = 0 := by omega
  go_enter Try.func98, Try.ntmps98
  go_wp2
  go_quiet (first
    | (go_at_call 91; exact quiet_left2 (floorB_any _ _ _ (by omega) (by omega) (by omega) (by omega)))
    | (go_at_call 101; exact quiet_left2 (modB_any _ _ _ (by omega) (by omega) (by omega) (by omega)))
    | (go_at_call 63; exact quiet_left2 (absB_any _ _ (by omega) (by omega))))
  go_wp2
  go_quiet (first
    | (go_at_call 91; exact quiet_add_left2 (floorB_any _ _ _ (by omega) (by omega) (by omega) (by omega)))
    | (go_at_call 101; exact quiet_add_left2 (modB_any _ _ _ (by omega) (by omega) (by omega) (by omega)))
    | (go_at_call 63; exact quiet_add_left2 (absB_any _ _ (by omega) (by omega))))
  go_wp2
  go_ret
  refine ⟨by rw [HR.out]; first | rfl | simp, ?_⟩
  repeat (first | exact Below.refl _ _ | refine Below.drew ?_ | refine Below.drewN' ?_ _ | refine Below.alloc ?_ (by first | exact Nat.le_refl _ | (simp; done) | (simp; omega)) _)

set_option maxRecDepth 100000 in
set_option maxHeartbeats 4000000 in
theorem least_p (x n m : Int) (w : World) (x1 : -1000000000000000 ≤ x) (x2 : x ≤ 1000000000000000) (n1 : 0 ≤ n) (n2 : n ≤ 1000000000) (m1 : 1 ≤ m) (m2 : m ≤ 1000000000) (c : 3000000000000000 / n < sz (x / m)) (s : ¬ x / m < 0) (hn0 : 0 < n) :
    Calls Try.prog 98 #[.int .i64 x, .agg #[.int .i64 n, .int .i64 m]] w fun e w' => e = .returned (.int .i64 (leaN x n m)) ∧ Below w.heap.size w w' := by
  have HR := Bx.mk (show leaN x n m = 2000000000000000 by unfold leaN; rw [if_pos ⟨hn0, c⟩, if_neg s])
  have w1 : -1000000000000000 ≤ x / m := by rw [Int.le_ediv_iff_mul_le (by omega)]; omega
  have w2 : x / m ≤ 1000000000000000 := by
    have : x / m < 1000000000000001 := by rw [Int.ediv_lt_iff_lt_mul (by omega)]; omega
    omega
  have r1 : 0 ≤ x % m := Int.emod_nonneg _ (by omega)
  have r2 : x % m < m := Int.emod_lt_of_pos _ (by omega)
  have s1 := sz_nonneg (x / m)
  have d1 : 0 ≤ 3000000000000000 / n := Int.ediv_nonneg (by omega) (by omega)
  have d2 : 3000000000000000 / n ≤ 3000000000000000 := Int.ediv_le_self _ (by omega)
  have hs : decide (x / m < 0) = false := by simpa using s
  have hg : decide (0 < n) = true := by simpa using hn0
  have hc : decide (3000000000000000 / n < sz (x / m)) = true := by simpa using c
  have hnz : ¬ n = 0 := by omega
  go_enter Try.func98, Try.ntmps98
  go_wp2
  go_quiet (first
    | (go_at_call 91; exact quiet_left2 (floorB_any _ _ _ (by omega) (by omega) (by omega) (by omega)))
    | (go_at_call 101; exact quiet_left2 (modB_any _ _ _ (by omega) (by omega) (by omega) (by omega)))
    | (go_at_call 63; exact quiet_left2 (absB_any _ _ (by omega) (by omega))))
  go_wp2
  go_quiet (first
    | (go_at_call 91; exact quiet_add_left2 (floorB_any _ _ _ (by omega) (by omega) (by omega) (by omega)))
    | (go_at_call 101; exact quiet_add_left2 (modB_any _ _ _ (by omega) (by omega) (by omega) (by omega)))
    | (go_at_call 63; exact quiet_add_left2 (absB_any _ _ (by omega) (by omega))))
  go_wp2
  go_ret
  refine ⟨by rw [HR.out]; first | rfl | simp, ?_⟩
  repeat (first | exact Below.refl _ _ | refine Below.drew ?_ | refine Below.drewN' ?_ _ | refine Below.alloc ?_ (by first | exact Nat.le_refl _ | (simp; done) | (simp; omega)) _)

set_option maxRecDepth 100000 in
set_option maxHeartbeats 4000000 in
theorem least_k (x n m : Int) (w : World) (x1 : -1000000000000000 ≤ x) (x2 : x ≤ 1000000000000000) (n1 : 0 ≤ n) (n2 : n ≤ 1000000000) (m1 : 1 ≤ m) (m2 : m ≤ 1000000000) (c : ¬ 3000000000000000 / n < sz (x / m)) (hn0 : 0 < n) :
    Calls Try.prog 98 #[.int .i64 x, .agg #[.int .i64 n, .int .i64 m]] w fun e w' => e = .returned (.int .i64 (leaN x n m)) ∧ Below w.heap.size w w' := by
  have HR := Bx.mk (show leaN x n m = x / m * n + x % m * n / m by unfold leaN; rw [if_neg (fun h => c h.2)])
  have w1 : -1000000000000000 ≤ x / m := by rw [Int.le_ediv_iff_mul_le (by omega)]; omega
  have w2 : x / m ≤ 1000000000000000 := by
    have : x / m < 1000000000000001 := by rw [Int.ediv_lt_iff_lt_mul (by omega)]; omega
    omega
  have r1 : 0 ≤ x % m := Int.emod_nonneg _ (by omega)
  have r2 : x % m < m := Int.emod_lt_of_pos _ (by omega)
  have s1 := sz_nonneg (x / m)
  have d1 : 0 ≤ 3000000000000000 / n := Int.ediv_nonneg (by omega) (by omega)
  have d2 : 3000000000000000 / n ≤ 3000000000000000 := Int.ediv_le_self _ (by omega)
  have c' : sz (x / m) * n ≤ 3000000000000000 := by
    have h : sz (x / m) ≤ 3000000000000000 / n := by omega
    rw [Int.le_ediv_iff_mul_le hn0] at h; exact h
  have p1 : -3000000000000000 ≤ x / m * n ∧ x / m * n ≤ 3000000000000000 := by
    have e : sz (x / m) = x / m ∨ sz (x / m) = -(x / m) := by unfold sz; omega
    have p0 : 0 ≤ sz (x / m) * n := Int.mul_nonneg s1 n1
    rcases e with e | e <;> rw [e] at c' p0
    · omega
    · rw [Int.neg_mul] at c' p0; omega
  obtain ⟨p1, p2⟩ := p1
  have q1 := Int.mul_nonneg r1 n1
  have q2 : x % m * n ≤ 1000000000 * 1000000000 := Int.mul_le_mul (by omega) n2 n1 (by omega)
  have q3 : 0 ≤ x % m * n / m := Int.ediv_nonneg q1 (by omega)
  have q4 : x % m * n / m ≤ x % m * n := Int.ediv_le_self _ q1
  have hw1 : IntKind.i64.wrap (x / m * n) = x / m * n := IntWalk.i64_in _ (by omega)
  have hw2 : IntKind.i64.wrap (x % m * n) = x % m * n := IntWalk.i64_in _ (by omega)
  have hw3 : IntKind.i64.wrap (x / m * n + x % m * n / m) = x / m * n + x % m * n / m := IntWalk.i64_in _ (by omega)
  have hg : decide (0 < n) = true := by simpa using hn0
  have hc : decide (3000000000000000 / n < sz (x / m)) = false := by simpa using c
  have hnz : ¬ n = 0 := by omega
  go_enter Try.func98, Try.ntmps98
  go_wp2
  go_quiet (first
    | (go_at_call 91; exact quiet_left2 (floorB_any _ _ _ (by omega) (by omega) (by omega) (by omega)))
    | (go_at_call 101; exact quiet_left2 (modB_any _ _ _ (by omega) (by omega) (by omega) (by omega)))
    | (go_at_call 63; exact quiet_left2 (absB_any _ _ (by omega) (by omega))))
  go_wp2
  go_quiet (first
    | (go_at_call 91; exact quiet_add_left2 (floorB_any _ _ _ (by omega) (by omega) (by omega) (by omega)))
    | (go_at_call 101; exact quiet_add_left2 (modB_any _ _ _ (by omega) (by omega) (by omega) (by omega)))
    | (go_at_call 63; exact quiet_add_left2 (absB_any _ _ (by omega) (by omega))))
  go_wp2
  go_quiet (first
    | (go_at_call 91; exact quiet_add_left2 (floorB_any _ _ _ (by omega) (by omega) (by omega) (by omega)))
    | (go_at_call 101; exact quiet_add_left2 (modB_any _ _ _ (by omega) (by omega) (by omega) (by omega)))
    | (go_at_call 63; exact quiet_add_left2 (absB_any _ _ (by omega) (by omega))))
  go_wp2
  go_ret
  refine ⟨by rw [HR.out]; first | rfl | simp, ?_⟩
  repeat (first | exact Below.refl _ _ | refine Below.drew ?_ | refine Below.drewN' ?_ _ | refine Below.alloc ?_ (by first | exact Nat.le_refl _ | (simp; done) | (simp; omega)) _)

end Go.Proofs.Ytlkfkekglmjhhaa