/- Chapter 2, plain: the true sag, and sags that grow. -/
import Derived.Test.YtgaopkhkabbcfaaOPd
import Derived.Test.YtgaopkhkabbcfaaOR
set_option linter.unusedVariables false
set_option linter.unusedSimpArgs false
namespace Go.Proofs.Ytgaopkhkabbcfaa.Vg
open Go Go.Proofs.Ytgaopkhkabbcfaa.Ev Go.Proofs.Ytgaopkhkabbcfaa.Vv
theorem rt_le_of {n r : Int} (h : 0 ≤ n) (h' : n ≤ 3000000000000000000) (hr : 0 ≤ r) (hs : r * r ≤ n) : r ≤ rtI n := by
  obtain ⟨a, b, c⟩ := rtI_is h h'
  have : r < rtI n + 1 := sq_lt (by omega) (by omega)
  omega
theorem up_ge_of {n r : Int} (h : 0 ≤ n) (h' : n ≤ 3000000000000000000) (hr : 0 ≤ r) (hs : n ≤ r * r) : upI n ≤ r := by
  obtain ⟨a, b, c⟩ := rtI_is h h'
  unfold upI
  split
  · rename_i h1
    have : rtI n < r := sq_lt hr (by omega)
    omega
  · have h2 : rtI n * rtI n ≤ r * r := by omega
    rcases Int.lt_or_le r (rtI n) with h3 | h3
    · have := sq_le (a := r + 1) (b := rtI n) (by omega) (by omega)
      have e : (r + 1) * (r + 1) = r * r + 2 * r + 1 := by rw [Int.add_mul, Int.mul_add, Int.mul_add]; omega
      omega
    · exact h3
theorem up_sq {n : Int} (h : 0 ≤ n) (h' : n ≤ 3000000000000000000) : n ≤ upI n * upI n ∧ 0 ≤ upI n := by
  obtain ⟨a, b, c⟩ := rtI_is h h'
  unfold upI
  split
  · exact ⟨by omega, by omega⟩
  · exact ⟨by omega, a⟩
theorem upI_mono {a b : Int} (h0 : 0 ≤ a) (h1 : a ≤ b) (h2 : b ≤ 3000000000000000000) : upI a ≤ upI b :=
  up_ge_of h0 (by omega) (up_sq (by omega) h2).2 (by have := (up_sq (n := b) (by omega) h2).1; omega)
/-- a quotient with a lesser divisor, or a greater number, is not less. -/
theorem div_mono {x y d e : Int} (h0 : 0 ≤ x) (h1 : x ≤ y) (h2 : 0 < e) (h3 : e ≤ d) : x / d ≤ y / e := by
  apply Int.le_ediv_of_mul_le h2
  have hd : x / d * d ≤ x := Int.ediv_mul_le x (by omega)
  have hq := (div_le h0 (show 0 < d by omega)).1
  have := Int.mul_le_mul_of_nonneg_left h3 hq
  omega
theorem ceil_ge {x d : Int} (hd : 0 < d) : x ≤ -((-x) / d) * d := by
  have : (-x) / d * d ≤ -x := Int.ediv_mul_le (-x) (by omega)
  rw [Int.neg_mul]; omega
theorem ceil_le_of {x d q : Int} (hd : 0 < d) (h : x ≤ q * d) : -((-x) / d) ≤ q := by
  have : -q ≤ (-x) / d := Int.le_ediv_of_mul_le hd (by rw [Int.neg_mul]; omega)
  omega
theorem ceil_mono {x y d e : Int} (h0 : 0 ≤ y) (h1 : x ≤ y) (h2 : 0 < e) (h3 : e ≤ d) : -((-x) / d) ≤ -((-y) / e) := by
  apply ceil_le_of (by omega)
  have h4 := ceil_ge (x := y) h2
  have h5 := ceil_bd h0 h2
  have := Int.mul_le_mul_of_nonneg_left h3 h5.1
  omega
theorem pos_eq {c : SConic} (h : ¬ c.Radius < 0) (r : Int) : sagV c r = posSag c r := by unfold sagV; rw [if_neg h]
/-- quotients by crosswise products. -/
theorem div_cross {x y d e : Int} (hd : 0 < d) (he : 0 < e) (h : x * e ≤ y * d) : x / d ≤ y / e := by
  apply Int.le_ediv_of_mul_le he
  have h1 : x / d * d ≤ x := Int.ediv_mul_le x (by omega)
  have h2 := Int.mul_le_mul_of_nonneg_right h1 (Int.le_of_lt he)
  have e1 : x / d * d * e = x / d * e * d := by rw [Int.mul_assoc, Int.mul_comm d e, ← Int.mul_assoc]
  exact Int.le_of_mul_le_mul_right (by omega) hd
theorem ceil_cross {x y d e : Int} (hd : 0 < d) (he : 0 < e) (h : x * e ≤ y * d) : -((-x) / d) ≤ -((-y) / e) := by
  have : (-y) / e ≤ (-x) / d := div_cross he hd (by rw [Int.neg_mul, Int.neg_mul]; omega)
  omega
theorem rad_paraboloid {R r : Int} (hR : 1 ≤ R ∧ R ≤ 10000000) : (rad ⟨R, ⟨-1, 1⟩⟩ r).Lo = 100 * R ∧ (rad ⟨R, ⟨-1, 1⟩⟩ r).Hi = 100 * R := by
  have e1 : radLo ⟨R, ⟨-1, 1⟩⟩ r = 10000 * (R * R) := by
    unfold radLo lessC sC; dsimp only; rw [show (-1 : Int) + 1 = 0 by decide, Int.zero_mul]; simp
  have e2 : radHi ⟨R, ⟨-1, 1⟩⟩ r = 10000 * (R * R) := by
    unfold radHi lessC sC; dsimp only; rw [show (-1 : Int) + 1 = 0 by decide, Int.zero_mul]; simp
  have hs := sq_bd (x := R) (B := 10000000) (by omega) hR.2
  have e3 : 100 * R * (100 * R) = 10000 * (R * R) := by grind
  have h1 := rt_le_of (n := 10000 * (R * R)) (r := 100 * R) (by omega) (by omega) (by omega) (by omega)
  have h2 := up_ge_of (n := 10000 * (R * R)) (r := 100 * R) (by omega) (by omega) (by omega) (by omega)
  have h3 := upI_le (n := 10000 * (R * R)) (by omega) (by omega)
  unfold rad
  rw [e1, e2]
  exact ⟨by dsimp only; omega, by dsimp only; omega⟩
theorem law_true (R r : Int) : nspeculumlaw02_OpticsTrue big R r = some true := by
  unfold nspeculumlaw02_OpticsTrue
  rw [awake_big, Option.bind_some, if_pos rfl, within_base, Option.bind_some]
  by_cases c1 : inR 1 10000000 R = true
  case neg => rw [if_neg c1]
  have hR := inR_t.1 c1
  rw [if_pos c1, within_base, Option.bind_some]
  by_cases c2 : inR 0 (minI R 1000000) r = true
  case neg => rw [if_neg c2]
  have hr' := inR_t.1 c2
  have hr : 0 ≤ r ∧ r ≤ R ∧ r ≤ 1000000 := by
    have : minI R 1000000 ≤ R ∧ minI R 1000000 ≤ 1000000 := by unfold minI; split <;> omega
    omega
  have i1 : IC ⟨R, ⟨-1, 1⟩⟩ := ⟨by unfold Vv.In64; dsimp only; omega, by unfold Vv.In64; dsimp only; omega, by unfold Vv.In64; dsimp only; omega⟩
  have i2 : IC ⟨R, ⟨0, 1⟩⟩ := ⟨by unfold Vv.In64; dsimp only; omega, by unfold Vv.In64; dsimp only; omega, by unfold Vv.In64; dsimp only; omega⟩
  have hin : inR (-10000000) 10000000 R = true := inR_t.2 ⟨by omega, by omega⟩
  have k1 : conE ⟨R, ⟨-1, 1⟩⟩ = 0 := by
    unfold conE; dsimp only
    rw [if_neg (by rw [hin]; simp; omega), if_neg (by decide), if_pos (by decide)]
  have k2 : conE ⟨R, ⟨0, 1⟩⟩ = 0 := by
    unfold conE; dsimp only
    rw [if_neg (by rw [hin]; simp; omega), if_neg (by decide), if_pos (by decide)]
  have hsR := sq_bd (x := R) (B := 10000000) (by omega) hR.2
  have hsr := sq_bd (x := r) (B := 1000000) (by omega) hr.2.2
  have hrR := sq_le hr.1 hr.2.1
  have p1 : plE ⟨R, ⟨-1, 1⟩⟩ r = 0 := by
    unfold plE beyB sC; dsimp only
    rw [if_pos (inR_t.2 ⟨hr.1, hr.2.2⟩), if_neg (by simp; omega)]
  have p2 : plE ⟨R, ⟨0, 1⟩⟩ r = 0 := by
    unfold plE beyB sC; dsimp only
    rw [if_pos (inR_t.2 ⟨hr.1, hr.2.2⟩), if_neg (by simp; omega)]
  have P1 := Pl.of (RC.of k1) p1
  have P2 := Pl.of (RC.of k2) p2
  have s1 := P1.sagB
  have s2 := P2.sagB
  obtain ⟨q1, q2⟩ := rad_paraboloid (r := r) hR
  have ab1 : absR ⟨R, ⟨-1, 1⟩⟩ = R := by unfold absR; rw [if_neg (by dsimp only; omega)]
  have ab2 : absR ⟨R, ⟨0, 1⟩⟩ = R := by unfold absR; rw [if_neg (by dsimp only; omega)]
  -- the ends of the paraboloid's sag
  have a1 : (posSag ⟨R, ⟨-1, 1⟩⟩ r).Lo * (200 * R) ≤ 100000 * (r * r) := by
    unfold posSag; dsimp only
    rw [ab1, q2, show 100 * R + 100 * R = 200 * R by omega]
    exact Int.ediv_mul_le _ (by omega)
  have a2 : 100000 * (r * r) ≤ (posSag ⟨R, ⟨-1, 1⟩⟩ r).Hi * (200 * R) := by
    unfold posSag; dsimp only
    rw [ab1, q1, show 100 * R + 100 * R = 200 * R by omega]
    exact ceil_ge (by omega)
  -- the sphere's root
  have w1 : radLo ⟨R, ⟨0, 1⟩⟩ r = 10000 * (R * R - r * r) := by
    unfold radLo lessC sC; dsimp only; rw [show (0 : Int) + 1 = 1 by decide, Int.one_mul, Int.ediv_one]; omega
  have w2 : radHi ⟨R, ⟨0, 1⟩⟩ r = 10000 * (R * R - r * r) := by
    unfold radHi lessC sC; dsimp only; rw [show (0 : Int) + 1 = 1 by decide, Int.one_mul, Int.ediv_one]; omega
  obtain ⟨l1, l2, l3⟩ := rtI_is (n := 10000 * (R * R - r * r)) (by omega) (by omega)
  have u1 := up_sq (n := 10000 * (R * R - r * r)) (by omega) (by omega)
  have lR : (rad ⟨R, ⟨0, 1⟩⟩ r).Lo = rtI (10000 * (R * R - r * r)) := by unfold rad; rw [w1]
  have uR : (rad ⟨R, ⟨0, 1⟩⟩ r).Hi = upI (10000 * (R * R - r * r)) := by unfold rad; rw [w2]
  have lu := P2.loHi
  have b1 : (posSag ⟨R, ⟨0, 1⟩⟩ r).Lo * (100 * R + (rad ⟨R, ⟨0, 1⟩⟩ r).Hi) ≤ 100000 * (r * r) := by
    have := Int.ediv_mul_le (100000 * (r * r)) (show 100 * R + (rad ⟨R, ⟨0, 1⟩⟩ r).Hi ≠ 0 by omega)
    unfold posSag; dsimp only; rw [ab2]; exact this
  have b2 : 100000 * (r * r) ≤ (posSag ⟨R, ⟨0, 1⟩⟩ r).Hi * (100 * R + (rad ⟨R, ⟨0, 1⟩⟩ r).Lo) := by
    have := ceil_ge (x := 100000 * (r * r)) (d := 100 * R + (rad ⟨R, ⟨0, 1⟩⟩ r).Lo) (by omega)
    unfold posSag; dsimp only; rw [ab2]; exact this
  have lo100 : (rad ⟨R, ⟨0, 1⟩⟩ r).Lo ≤ 100 * R := by
    have e3 : 100 * R * (100 * R) = 10000 * (R * R) := by grind
    have : rtI (10000 * (R * R - r * r)) < 100 * R + 1 := sq_lt (by omega) (by
      have e4 : (100 * R + 1) * (100 * R + 1) = 100 * R * (100 * R) + 200 * R + 1 := by grind
      omega)
    omega
  -- no end is above 1000 r
  have t1 : (posSag ⟨R, ⟨0, 1⟩⟩ r).Hi ≤ 1000 * r := by
    have := ceil_le_of (x := 100000 * (r * r)) (d := 100 * R + (rad ⟨R, ⟨0, 1⟩⟩ r).Lo) (q := 1000 * r) (by omega) (by
      have h1 := Int.mul_le_mul_of_nonneg_left (show 100 * r ≤ 100 * R + (rad ⟨R, ⟨0, 1⟩⟩ r).Lo by omega) (show 0 ≤ 1000 * r by omega)
      have e5 : 1000 * r * (100 * r) = 100000 * (r * r) := by grind
      omega)
    unfold posSag; dsimp only; rw [ab2]; exact this
  have t2 : (posSag ⟨R, ⟨-1, 1⟩⟩ r).Hi ≤ 1000 * r := by
    have := ceil_le_of (x := 100000 * (r * r)) (d := 200 * R) (q := 1000 * r) (by omega) (by
      have h1 := Int.mul_le_mul_of_nonneg_left (show 100 * r ≤ 200 * R by omega) (show 0 ≤ 1000 * r by omega)
      have e5 : 1000 * r * (100 * r) = 100000 * (r * r) := by grind
      omega)
    unfold posSag; dsimp only; rw [ab1, q1, show 100 * R + 100 * R = 200 * R by omega]; exact this
  have o1 : (posSag ⟨R, ⟨-1, 1⟩⟩ r).Lo ≤ (posSag ⟨R, ⟨-1, 1⟩⟩ r).Hi := Int.le_of_mul_le_mul_right (show (posSag ⟨R, ⟨-1, 1⟩⟩ r).Lo * (200 * R) ≤ (posSag ⟨R, ⟨-1, 1⟩⟩ r).Hi * (200 * R) by omega) (by omega)
  have o2 : (posSag ⟨R, ⟨0, 1⟩⟩ r).Lo ≤ (posSag ⟨R, ⟨0, 1⟩⟩ r).Hi := by
    have h1 := Int.mul_le_mul_of_nonneg_left (show 100 * R + (rad ⟨R, ⟨0, 1⟩⟩ r).Lo ≤ 100 * R + (rad ⟨R, ⟨0, 1⟩⟩ r).Hi by omega) s2.1.1
    exact Int.le_of_mul_le_mul_right (show (posSag ⟨R, ⟨0, 1⟩⟩ r).Lo * (100 * R + (rad ⟨R, ⟨0, 1⟩⟩ r).Lo) ≤ (posSag ⟨R, ⟨0, 1⟩⟩ r).Hi * (100 * R + (rad ⟨R, ⟨0, 1⟩⟩ r).Lo) by omega) (by omega)
  have o3 : (posSag ⟨R, ⟨-1, 1⟩⟩ r).Lo ≤ (posSag ⟨R, ⟨0, 1⟩⟩ r).Hi := by
    have h1 := Int.mul_le_mul_of_nonneg_left (show 100 * R + (rad ⟨R, ⟨0, 1⟩⟩ r).Lo ≤ 200 * R by omega) s2.2.1
    exact Int.le_of_mul_le_mul_right (show (posSag ⟨R, ⟨-1, 1⟩⟩ r).Lo * (200 * R) ≤ (posSag ⟨R, ⟨0, 1⟩⟩ r).Hi * (200 * R) by omega) (by omega)
  rw [if_pos c2]
  unfold nspeculumlaw02_whole
  rw [Option.bind_some, sag_opt _ (by decide) i1, Option.bind_some, Option.bind_some, sag_opt _ (by decide) i2, Option.bind_some, if_pos k1, if_pos p1, if_pos k2, if_pos p2]
  rw [if_pos rfl, if_pos rfl]
  dsimp only
  rw [pos_eq (by dsimp only; omega), pos_eq (by dsimp only; omega)]
  generalize posSag ⟨R, ⟨-1, 1⟩⟩ r = p at *
  generalize posSag ⟨R, ⟨0, 1⟩⟩ r = z at *
  rw [lR] at *
  rw [uR] at *
  generalize rtI (10000 * (R * R - r * r)) = L at *
  generalize upI (10000 * (R * R - r * r)) = U at *
  have e1 : 2 * R * p.Lo = p.Lo * (200 * R) - 99 * (p.Lo * (2 * R)) := by grind
  have e1' : p.Lo * (200 * R) = 100 * (p.Lo * (2 * R)) := by grind
  have e2 : 2 * R * p.Hi = p.Hi * (2 * R) := Int.mul_comm _ _
  have e2' : p.Hi * (200 * R) = 100 * (p.Hi * (2 * R)) := by grind
  have x1 : 0 ≤ p.Lo * (2 * R) := Int.mul_nonneg s1.1.1 (by omega)
  have x2 : 0 ≤ p.Hi * (2 * R) := Int.mul_nonneg s1.2.1 (by omega)
  have x3 : p.Hi * (2 * R) ≤ 1000000000 * 20000000 := Int.mul_le_mul (by omega) (by omega) (by omega) (by decide)
  rw [within_base, Option.bind_some, if_pos (inR_t.2 ⟨s1.1.1, o1⟩), within_base, Option.bind_some, if_pos (inR_t.2 ⟨s2.1.1, o2⟩), if_neg (by omega), if_neg (by omega)]
  rw [w64_id (n := 1000 * r) (by omega) (by omega), Int.mul_assoc 1000 r r, w64_id (n := 1000 * (r * r)) (by omega) (by omega), w64_id (n := 2 * R) (by omega) (by omega), w64_id (n := 2 * R * p.Lo) (by omega) (by omega), w64_id (n := 2 * R * p.Hi) (by omega) (by omega), if_neg (by omega), if_neg (by omega), if_neg (by omega)]
  rw [ceil_any _ (by omega) (by omega) (by decide), Option.bind_some, tdiv_pos s2.1.1]
  have low1 : 1000 * (z.Lo / 1000) ≤ z.Lo ∧ 0 ≤ z.Lo / 1000 := by omega
  have high1 := ceil_ge (x := z.Hi) (d := 1000) (by decide)
  have high0 := ceil_bd (x := z.Hi) (d := 1000) s2.2.1 (by decide)
  have high2 : -(-z.Hi / 1000) * 1000 ≤ z.Hi + 999 := by omega
  generalize z.Lo / 1000 = low at *
  generalize -(-z.Hi / 1000) = high at *
  have lowR : low ≤ R := by omega
  have n1 := sq_bd (x := R - low) (B := 10000000) (by omega) (by omega)
  rw [w64_id (n := low) (by omega) (by omega), w64_id (n := R - low) (by omega) (by omega), w64_id (n := (R - low) * (R - low)) (by omega) (by omega), w64_id (n := r * r) (by omega) (by omega), w64_id (n := R * R) (by omega) (by omega), w64_id (n := (R - low) * (R - low) + r * r) (by omega) (by omega)]
  have near : R * R ≤ (R - low) * (R - low) + r * r := by
    rcases Int.lt_or_le ((R - low) * (R - low) + r * r) (R * R) with h | h
    case inr => exact h
    exfalso
    have h1 : low * (100 * R + U) ≤ 100 * (r * r) := by
      have h2 := Int.mul_le_mul_of_nonneg_right low1.1 (show 0 ≤ 100 * R + U by omega)
      have e5 : 1000 * low * (100 * R + U) = 1000 * (low * (100 * R + U)) := by grind
      omega
    have h3 : 100 * (R - low) < U := sq_lt u1.2 (by
      have e6 : 100 * (R - low) * (100 * (R - low)) = 10000 * ((R - low) * (R - low)) := by grind
      omega)
    have e7 : (R - low) * (R - low) = R * R - low * (2 * R - low) := by grind
    have e8 : low * (100 * R + U) = low * (200 * R - 100 * low) + low * (U - 100 * (R - low)) := by grind
    have e9 : low * (200 * R - 100 * low) = 100 * (low * (2 * R - low)) := by grind
    have h4 : 0 ≤ low * (U - 100 * (R - low)) := Int.mul_nonneg low1.2 (by omega)
    omega
  rw [if_pos near]
  have hh : -(1000000 : Int) ≤ R - high ∧ R - high ≤ 10000000 := by omega
  rw [w64_id (n := R - high) (by omega) (by omega)]
  by_cases c3 : R - high ≤ 0
  · rw [if_pos c3]
  rw [if_neg c3]
  have n2 := sq_bd (x := R - high) (B := 10000000) (by omega) (by omega)
  rw [w64_id (n := (R - high) * (R - high)) (by omega) (by omega), w64_id (n := (R - high) * (R - high) + r * r) (by omega) (by omega)]
  congr 1
  refine decide_eq_true ?_
  rcases Int.lt_or_le (R * R) ((R - high) * (R - high) + r * r) with h | h
  case inr => exact h
  exfalso
  have h1 : 100 * (r * r) ≤ high * (100 * R + L) := by
    have h2 := Int.mul_le_mul_of_nonneg_right high1 (show 0 ≤ 100 * R + L by omega)
    have e5 : high * 1000 * (100 * R + L) = 1000 * (high * (100 * R + L)) := by grind
    omega
  have h3 : L < 100 * (R - high) := sq_lt (by omega) (by
    have e6 : 100 * (R - high) * (100 * (R - high)) = 10000 * ((R - high) * (R - high)) := by grind
    omega)
  have e7 : (R - high) * (R - high) = R * R - high * (2 * R - high) := by grind
  have e8 : high * (100 * R + L) = high * (200 * R - 100 * high) - high * (100 * (R - high) - L) := by grind
  have e9 : high * (200 * R - 100 * high) = 100 * (high * (2 * R - high)) := by grind
  have h4 : 0 ≤ high * (100 * (R - high) - L) := Int.mul_nonneg (by omega) (by omega)
  omega
theorem vc_true (R r : Int) : VC Go.Proofs.Try.prog 6 [vi R, vi r] (vb true) := nspeculumlaw02_OpticsTrue_ok _ _ _ _ (law_true R r)
end Go.Proofs.Ytgaopkhkabbcfaa.Vg
