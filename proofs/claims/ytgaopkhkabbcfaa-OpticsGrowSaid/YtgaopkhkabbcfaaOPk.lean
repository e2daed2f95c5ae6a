/- Joined texts: OPg, OPh. -/
import Derived.Test.YtgaopkhkabbcfaaOPd
import Derived.Test.YtgaopkhkabbcfaaOR
import Derived.Test.YtgaopkhkabbcfaaOG
set_option linter.unusedVariables false
set_option linter.unusedSimpArgs false
namespace Go.Proofs.Ytgaopkhkabbcfaa.Vg
open Go Go.Proofs.Ytgaopkhkabbcfaa.Ev Go.Proofs.Ytgaopkhkabbcfaa.Vv
theorem rt_le_of {n r : Int} (h : 0 ≤ n) (h' : n ≤ 3000000000000000000) (hr : 0 ≤ r) (hs : r * r ≤ n) : r ≤ rtI n := by
  obtain ⟨a, b, c⟩ := rtI_is h h'
  have : r < rtI n + 1 := sq_lt (by omega) (by omega)
  omega
theorem up_ge_of {n r : Int} (h : 0 ≤ n) (h' : n ≤ 3000000000000000000) (hr : 0 ≤ r) (hs : n ≤ r * r) : upI n ≤ r := by
  obtain ⟨a, b, c⟩ := rtI_is h h'
  unfold upI
  split
  · rename_i h1
    have : rtI n < r := sq_lt hr (by omega)
    omega
  · have h2 : rtI n * rtI n ≤ r * r := by omega
    rcases Int.lt_or_le r (rtI n) with h3 | h3
    · have := sq_le (a := r + 1) (b := rtI n) (by omega) (by omega)
      have e : (r + 1) * (r + 1) = r * r + 2 * r + 1 := by rw [Int.add_mul, Int.mul_add, Int.mul_add]; omega
      omega
    · exact h3
theorem up_sq {n : Int} (h : 0 ≤ n) (h' : n ≤ 3000000000000000000) : n ≤ upI n * upI n ∧ 0 ≤ upI n := by
  obtain ⟨a, b, c⟩ := rtI_is h h'
  unfold upI
  split
  · exact ⟨by omega, by omega⟩
  · exact ⟨by omega, a⟩
theorem upI_mono {a b : Int} (h0 : 0 ≤ a) (h1 : a ≤ b) (h2 : b ≤ 3000000000000000000) : upI a ≤ upI b :=
  up_ge_of h0 (by omega) (up_sq (by omega) h2).2 (by have := (up_sq (n := b) (by omega) h2).1; omega)
/-- a quotient with a lesser divisor, or a greater number, is not less. -/
theorem div_mono {x y d e : Int} (h0 : 0 ≤ x) (h1 : x ≤ y) (h2 : 0 < e) (h3 : e ≤ d) : x / d ≤ y / e := by
  apply Int.le_ediv_of_mul_le h2
  have hd : x / d * d ≤ x := Int.ediv_mul_le x (by omega)
  have hq := (div_le h0 (show 0 < d by omega)).1
  have := Int.mul_le_mul_of_nonneg_left h3 hq
  omega
theorem ceil_ge {x d : Int} (hd : 0 < d) : x ≤ -((-x) / d) * d := by
  have : (-x) / d * d ≤ -x := Int.ediv_mul_le (-x) (by omega)
  rw [Int.neg_mul]; omega
theorem ceil_le_of {x d q : Int} (hd : 0 < d) (h : x ≤ q * d) : -((-x) / d) ≤ q := by
  have : -q ≤ (-x) / d := Int.le_ediv_of_mul_le hd (by rw [Int.neg_mul]; omega)
  omega
theorem ceil_mono {x y d e : Int} (h0 : 0 ≤ y) (h1 : x ≤ y) (h2 : 0 < e) (h3 : e ≤ d) : -((-x) / d) ≤ -((-y) / e) := by
  apply ceil_le_of (by omega)
  have h4 := ceil_ge (x := y) h2
  have h5 := ceil_bd h0 h2
  have := Int.mul_le_mul_of_nonneg_left h3 h5.1
  omega
theorem pos_eq {c : SConic} (h : ¬ c.Radius < 0) (r : Int) : sagV c r = posSag c r := by unfold sagV; rw [if_neg h]
/-- quotients by crosswise products. -/
theorem div_cross {x y d e : Int} (hd : 0 < d) (he : 0 < e) (h : x * e ≤ y * d) : x / d ≤ y / e := by
  apply Int.le_ediv_of_mul_le he
  have h1 : x / d * d ≤ x := Int.ediv_mul_le x (by omega)
  have h2 := Int.mul_le_mul_of_nonneg_right h1 (Int.le_of_lt he)
  have e1 : x / d * d * e = x / d * e * d := by rw [Int.mul_assoc, Int.mul_comm d e, ← Int.mul_assoc]
  exact Int.le_of_mul_le_mul_right (by omega) hd
theorem ceil_cross {x y d e : Int} (hd : 0 < d) (he : 0 < e) (h : x * e ≤ y * d) : -((-x) / d) ≤ -((-y) / e) := by
  have : (-y) / e ≤ (-x) / d := div_cross he hd (by rw [Int.neg_mul, Int.neg_mul]; omega)
  omega
theorem rad_paraboloid {R r : Int} (hR : 1 ≤ R ∧ R ≤ 10000000) : (rad ⟨R, ⟨-1, 1⟩⟩ r).Lo = 100 * R ∧ (rad ⟨R, ⟨-1, 1⟩⟩ r).Hi = 100 * R := by
  have e1 : radLo ⟨R, ⟨-1, 1⟩⟩ r = 10000 * (R * R) := by
    unfold radLo lessC sC; dsimp only; rw [show (-1 : Int) + 1 = 0 by decide, Int.zero_mul]; simp
  have e2 : radHi ⟨R, ⟨-1, 1⟩⟩ r = 10000 * (R * R) := by
    unfold radHi lessC sC; dsimp only; rw [show (-1 : Int) + 1 = 0 by decide, Int.zero_mul]; simp
  have hs := sq_bd (x := R) (B := 10000000) (by omega) hR.2
  have e3 : 100 * R * (100 * R) = 10000 * (R * R) := by grind
  have h1 := rt_le_of (n := 10000 * (R * R)) (r := 100 * R) (by omega) (by omega) (by omega) (by omega)
  have h2 := up_ge_of (n := 10000 * (R * R)) (r := 100 * R) (by omega) (by omega) (by omega) (by omega)
  have h3 := upI_le (n := 10000 * (R * R)) (by omega) (by omega)
  unfold rad
  rw [e1, e2]
  exact ⟨by dsimp only; omega, by dsimp only; omega⟩
theorem law_true (R r : Int) : nspeculumlaw02_OpticsTrue big R r = some true := by
  unfold nspeculumlaw02_OpticsTrue
  rw [awake_big, Option.bind_some, if_pos rfl, within_base, Option.bind_some]
  by_cases c1 : inR 1 10000000 R = true
  case neg => rw [if_neg c1]
  have hR := inR_t.1 c1
  rw [if_pos c1, within_base, Option.bind_some]
  by_cases c2 : inR 0 (minI R 1000000) r = true
  case neg => rw [if_neg c2]
  have hr' := inR_t.1 c2
  have hr : 0 ≤ r ∧ r ≤ R ∧ r ≤ 1000000 := by
    have : minI R 1000000 ≤ R ∧ minI R 1000000 ≤ 1000000 := by unfold minI; split <;> omega
    omega
  have i1 : IC ⟨R, ⟨-1, 1⟩⟩ := ⟨by unfold Vv.In64; dsimp only; omega, by unfold Vv.In64; dsimp only; omega, by unfold Vv.In64; dsimp only; omega⟩
  have i2 : IC ⟨R, ⟨0, 1⟩⟩ := ⟨by unfold Vv.In64; dsimp only; omega, by unfold Vv.In64; dsimp only; omega, by unfold Vv.In64; dsimp only; omega⟩
  have hin : inR (-10000000) 10000000 R = true := inR_t.2 ⟨by omega, by omega⟩
  have k1 : conE ⟨R, ⟨-1, 1⟩⟩ = 0 := by
    unfold conE; dsimp only
    rw [if_neg (by rw [hin]; simp; omega), if_neg (by decide), if_pos (by decide)]
  have k2 : conE ⟨R, ⟨0, 1⟩⟩ = 0 := by
    unfold conE; dsimp only
    rw [if_neg (by rw [hin]; simp; omega), if_neg (by decide), if_pos (by decide)]
  have hsR := sq_bd (x := R) (B := 10000000) (by omega) hR.2
  have hsr := sq_bd (x := r) (B := 1000000) (by omega) hr.2.2
  have hrR := sq_le hr.1 hr.2.1
  have p1 : plE ⟨R, ⟨-1, 1⟩⟩ r = 0 := by
    unfold plE beyB sC; dsimp only
    rw [if_pos (inR_t.2 ⟨hr.1, hr.2.2⟩), if_neg (by simp; omega)]
  have p2 : plE ⟨R, ⟨0, 1⟩⟩ r = 0 := by
    unfold plE beyB sC; dsimp only
    rw [if_pos (inR_t.2 ⟨hr.1, hr.2.2⟩), if_neg (by simp; omega)]
  have P1 := Pl.of (RC.of k1) p1
  have P2 := Pl.of (RC.of k2) p2
  have s1 := P1.sagB
  have s2 := P2.sagB
  obtain ⟨q1, q2⟩ := rad_paraboloid (r := r) hR
  have ab1 : absR ⟨R, ⟨-1, 1⟩⟩ = R := by unfold absR; rw [if_neg (by dsimp only; omega)]
  have ab2 : absR ⟨R, ⟨0, 1⟩⟩ = R := by unfold absR; rw [if_neg (by dsimp only; omega)]
  -- the ends of the paraboloid's sag
  have a1 : (posSag ⟨R, ⟨-1, 1⟩⟩ r).Lo * (200 * R) ≤ 100000 * (r * r) := by
    unfold posSag; dsimp only
    rw [ab1, q2, show 100 * R + 100 * R = 200 * R by omega]
    exact Int.ediv_mul_le _ (by omega)
  have a2 : 100000 * (r * r) ≤ (posSag ⟨R, ⟨-1, 1⟩⟩ r).Hi * (200 * R) := by
    unfold posSag; dsimp only
    rw [ab1, q1, show 100 * R + 100 * R = 200 * R by omega]
    exact ceil_ge (by omega)
  -- the sphere's root
  have w1 : radLo ⟨R, ⟨0, 1⟩⟩ r = 10000 * (R * R - r * r) := by
    unfold radLo lessC sC; dsimp only; rw [show (0 : Int) + 1 = 1 by decide, Int.one_mul, Int.ediv_one]; omega
  have w2 : radHi ⟨R, ⟨0, 1⟩⟩ r = 10000 * (R * R - r * r) := by
    unfold radHi lessC sC; dsimp only; rw [show (0 : Int) + 1 = 1 by decide, Int.one_mul, Int.ediv_one]; omega
  obtain ⟨l1, l2, l3⟩ := rtI_is (n := 10000 * (R * R - r * r)) (by omega) (by omega)
  have u1 := up_sq (n := 10000 * (R * R - r * r)) (by omega) (by omega)
  have lR : (rad ⟨R, ⟨0, 1⟩⟩ r).Lo = rtI (10000 * (R * R - r * r)) := by unfold rad; rw [w1]
  have uR : (rad ⟨R, ⟨0, 1⟩⟩ r).Hi = upI (10000 * (R * R - r * r)) := by unfold rad; rw [w2]
  have lu := P2.loHi
  have b1 : (posSag ⟨R, ⟨0, 1⟩⟩ r).Lo * (100 * R + (rad ⟨R, ⟨0, 1⟩⟩ r).Hi) ≤ 100000 * (r * r) := by
    have := Int.ediv_mul_le (100000 * (r * r)) (show 100 * R + (rad ⟨R, ⟨0, 1⟩⟩ r).Hi ≠ 0 by omega)
    unfold posSag; dsimp only; rw [ab2]; exact this
  have b2 : 100000 * (r * r) ≤ (posSag ⟨R, ⟨0, 1⟩⟩ r).Hi * (100 * R + (rad ⟨R, ⟨0, 1⟩⟩ r).Lo) := by
    have := ceil_ge (x := 100000 * (r * r)) (d := 100 * R + (rad ⟨R, ⟨0, 1⟩⟩ r).Lo) (by omega)
    unfold posSag; dsimp only; rw [ab2]; exact this
  have lo100 : (rad ⟨R, ⟨0, 1⟩⟩ r).Lo ≤ 100 * R := by
    have e3 : 100 * R * (100 * R) = 10000 * (R * R) := by grind
    have : rtI (10000 * (R * R - r * r)) < 100 * R + 1 := sq_lt (by omega) (by
      have e4 : (100 * R + 1) * (100 * R + 1) = 100 * R * (100 * R) + 200 * R + 1 := by grind
      omega)
    omega
  -- no end is above 1000 r
  have t1 : (posSag ⟨R, ⟨0, 1⟩⟩ r).Hi ≤ 1000 * r := by
    have := ceil_le_of (x := 100000 * (r * r)) (d := 100 * R + (rad ⟨R, ⟨0, 1⟩⟩ r).Lo) (q := 1000 * r) (by omega) (by
      have h1 := Int.mul_le_mul_of_nonneg_left (show 100 * r ≤ 100 * R + (rad ⟨R, ⟨0, 1⟩⟩ r).Lo by omega) (show 0 ≤ 1000 * r by omega)
      have e5 : 1000 * r * (100 * r) = 100000 * (r * r) := by grind
      omega)
    unfold posSag; dsimp only; rw [ab2]; exact this
  have t2 : (posSag ⟨R, ⟨-1, 1⟩⟩ r).Hi ≤ 1000 * r := by
    have := ceil_le_of (x := 100000 * (r * r)) (d := 200 * R) (q := 1000 * r) (by omega) (by
      have h1 := Int.mul_le_mul_of_nonneg_left (show 100 * r ≤ 200 * R by omega) (show 0 ≤ 1000 * r by omega)
      have e5 : 1000 * r * (100 * r) = 100000 * (r * r) := by grind
      omega)
    unfold posSag; dsimp only; rw [ab1, q1, show 100 * R + 100 * R = 200 * R by omega]; exact this
  have o1 : (posSag ⟨R, ⟨-1, 1⟩⟩ r).Lo ≤ (posSag ⟨R, ⟨-1, 1⟩⟩ r).Hi := Int.le_of_mul_le_mul_right (show (posSag ⟨R, ⟨-1, 1⟩⟩ r).Lo * (200 * R) ≤ (posSag ⟨R, ⟨-1, 1⟩⟩ r).Hi * (200 * R) by omega) (by omega)
  have o2 : (posSag ⟨R, ⟨0, 1⟩⟩ r).Lo ≤ (posSag ⟨R, ⟨0, 1⟩⟩ r).Hi := by
    have h1 := Int.mul_le_mul_of_nonneg_left (show 100 * R + (rad ⟨R, ⟨0, 1⟩⟩ r).Lo ≤ 100 * R + (rad ⟨R, ⟨0, 1⟩⟩ r).Hi by omega) s2.1.1
    exact Int.le_of_mul_le_mul_right (show (posSag ⟨R, ⟨0, 1⟩⟩ r).Lo * (100 * R + (rad ⟨R, ⟨0, 1⟩⟩ r).Lo) ≤ (posSag ⟨R, ⟨0, 1⟩⟩ r).Hi * (100 * R + (rad ⟨R, ⟨0, 1⟩⟩ r).Lo) by omega) (by omega)
  have o3 : (posSag ⟨R, ⟨-1, 1⟩⟩ r).Lo ≤ (posSag ⟨R, ⟨0, 1⟩⟩ r).Hi := by
    have h1 := Int.mul_le_mul_of_nonneg_left (show 100 * R + (rad ⟨R, ⟨0, 1⟩⟩ r).Lo ≤ 200 * R by omega) s2.2.1
    exact Int.le_of_mul_le_mul_right (show (posSag ⟨R, ⟨-1, 1⟩⟩ r).Lo * (200 * R) ≤ (posSag ⟨R, ⟨0, 1⟩⟩ r).Hi * (200 * R) by omega) (by omega)
  rw [if_pos c2]
  unfold nspeculumlaw02_whole
  rw [Option.bind_some, sag_opt _ (by decide) i1, Option.bind_some, Option.bind_some, sag_opt _ (by decide) i2, Option.bind_some, if_pos k1, if_pos p1, if_pos k2, if_pos p2]
  rw [if_pos rfl, if_pos rfl]
  dsimp only
  rw [pos_eq (by dsimp only; omega), pos_eq (by dsimp only; omega)]
  generalize posSag ⟨R, ⟨-1, 1⟩⟩ r = p at *
  generalize posSag ⟨R, ⟨0, 1⟩⟩ r = z at *
  rw [lR] at *
  rw [uR] at *
  generalize rtI (10000 * (R * R - r * r)) = L at *
  generalize upI (10000 * (R * R - r * r)) = U at *
  have e1 : 2 * R * p.Lo = p.Lo * (200 * R) - 99 * (p.Lo * (2 * R)) := by grind
  have e1' : p.Lo * (200 * R) = 100 * (p.Lo * (2 * R)) := by grind
  have e2 : 2 * R * p.Hi = p.Hi * (2 * R) := Int.mul_comm _ _
  have e2' : p.Hi * (200 * R) = 100 * (p.Hi * (2 * R)) := by grind
  have x1 : 0 ≤ p.Lo * (2 * R) := Int.mul_nonneg s1.1.1 (by omega)
  have x2 : 0 ≤ p.Hi * (2 * R) := Int.mul_nonneg s1.2.1 (by omega)
  have x3 : p.Hi * (2 * R) ≤ 1000000000 * 20000000 := Int.mul_le_mul (by omega) (by omega) (by omega) (by decide)
  rw [within_base, Option.bind_some, if_pos (inR_t.2 ⟨s1.1.1, o1⟩), within_base, Option.bind_some, if_pos (inR_t.2 ⟨s2.1.1, o2⟩), if_neg (by omega), if_neg (by omega)]
  rw [w64_id (n := 1000 * r) (by omega) (by omega), Int.mul_assoc 1000 r r, w64_id (n := 1000 * (r * r)) (by omega) (by omega), w64_id (n := 2 * R) (by omega) (by omega), w64_id (n := 2 * R * p.Lo) (by omega) (by omega), w64_id (n := 2 * R * p.Hi) (by omega) (by omega), if_neg (by omega), if_neg (by omega), if_neg (by omega)]
  rw [ceil_any _ (by omega) (by omega) (by decide), Option.bind_some, tdiv_pos s2.1.1]
  have low1 : 1000 * (z.Lo / 1000) ≤ z.Lo ∧ 0 ≤ z.Lo / 1000 := by omega
  have high1 := ceil_ge (x := z.Hi) (d := 1000) (by decide)
  have high0 := ceil_bd (x := z.Hi) (d := 1000) s2.2.1 (by decide)
  have high2 : -(-z.Hi / 1000) * 1000 ≤ z.Hi + 999 := by omega
  generalize z.Lo / 1000 = low at *
  generalize -(-z.Hi / 1000) = high at *
  have lowR : low ≤ R := by omega
  have n1 := sq_bd (x := R - low) (B := 10000000) (by omega) (by omega)
  rw [w64_id (n := low) (by omega) (by omega), w64_id (n := R - low) (by omega) (by omega), w64_id (n := (R - low) * (R - low)) (by omega) (by omega), w64_id (n := r * r) (by omega) (by omega), w64_id (n := R * R) (by omega) (by omega), w64_id (n := (R - low) * (R - low) + r * r) (by omega) (by omega)]
  have near : R * R ≤ (R - low) * (R - low) + r * r := by
    rcases Int.lt_or_le ((R - low) * (R - low) + r * r) (R * R) with h | h
    case inr => exact h
    exfalso
    have h1 : low * (100 * R + U) ≤ 100 * (r * r) := by
      have h2 := Int.mul_le_mul_of_nonneg_right low1.1 (show 0 ≤ 100 * R + U by omega)
      have e5 : 1000 * low * (100 * R + U) = 1000 * (low * (100 * R + U)) := by grind
      omega
    have h3 : 100 * (R - low) < U := sq_lt u1.2 (by
      have e6 : 100 * (R - low) * (100 * (R - low)) = 10000 * ((R - low) * (R - low)) := by grind
      omega)
    have e7 : (R - low) * (R - low) = R * R - low * (2 * R - low) := by grind
    have e8 : low * (100 * R + U) = low * (200 * R - 100 * low) + low * (U - 100 * (R - low)) := by grind
    have e9 : low * (200 * R - 100 * low) = 100 * (low * (2 * R - low)) := by grind
    have h4 : 0 ≤ low * (U - 100 * (R - low)) := Int.mul_nonneg low1.2 (by omega)
    omega
  rw [if_pos near]
  have hh : -(1000000 : Int) ≤ R - high ∧ R - high ≤ 10000000 := by omega
  rw [w64_id (n := R - high) (by omega) (by omega)]
  by_cases c3 : R - high ≤ 0
  · rw [if_pos c3]
  rw [if_neg c3]
  have n2 := sq_bd (x := R - high) (B := 10000000) (by omega) (by omega)
  rw [w64_id (n := (R - high) * (R - high)) (by omega) (by omega), w64_id (n := (R - high) * (R - high) + r * r) (by omega) (by omega)]
  congr 1
  refine decide_eq_true ?_
  rcases Int.lt_or_le (R * R) ((R - high) * (R - high) + r * r) with h | h
  case inr => exact h
  exfalso
  have h1 : 100 * (r * r) ≤ high * (100 * R + L) := by
    have h2 := Int.mul_le_mul_of_nonneg_right high1 (show 0 ≤ 100 * R + L by omega)
    have e5 : high * 1000 * (100 * R + L) = 1000 * (high * (100 * R + L)) := by grind
    omega
  have h3 : L < 100 * (R - high) := sq_lt (by omega) (by
    have e6 : 100 * (R - high) * (100 * (R - high)) = 10000 * ((R - high) * (R - high)) := by grind
    omega)
  have e7 : (R - high) * (R - high) = R * R - high * (2 * R - high) := by grind
  have e8 : high * (100 * R + L) = high * (200 * R - 100 * high) - high * (100 * (R - high) - L) := by grind
  have e9 : high * (200 * R - 100 * high) = 100 * (high * (2 * R - high)) := by grind
  have h4 : 0 ≤ high * (100 * (R - high) - L) := Int.mul_nonneg (by omega) (by omega)
  omega
theorem vc_true (R r : Int) : VC Go.Proofs.Try.prog 6 [vi R, vi r] (vb true) := nspeculumlaw02_OpticsTrue_ok _ _ _ _ (law_true R r)
end Go.Proofs.Ytgaopkhkabbcfaa.Vg
namespace Go.Proofs.Ytgaopkhkabbcfaa.Vg
open Go Go.Proofs.Ytgaopkhkabbcfaa.Ev Go.Proofs.Ytgaopkhkabbcfaa.Vv
theorem mod_any (k : Nat) (p : Int) {m : Int} (h0 : 0 < m) (h1 : m ≤ 1000000) : ∃ r, nspeculumbase_Mod k p m = some r ∧ 0 ≤ r ∧ r < m := by
  unfold nspeculumbase_Mod
  rw [if_pos (by omega)]
  have a := Int.tmod_lt_of_pos p h0
  have b : -m < p.tmod m := by
    have := Int.tmod_lt_of_pos (-p) h0
    rw [Int.neg_tmod] at this; omega
  by_cases c : p.tmod m < 0
  · rw [if_pos c, w64_id (by omega) (by omega)]; exact ⟨_, rfl, by omega, by omega⟩
  · rw [if_neg c]; exact ⟨_, rfl, by omega, by omega⟩
theorem upI_lt {n : Int} (h : 0 ≤ n) (h' : n ≤ 3000000000000000000) (hp : 0 < upI n) : (upI n - 1) * (upI n - 1) < n := by
  obtain ⟨a, b, c⟩ := rtI_is h h'
  unfold upI at *
  split
  · rename_i h1
    rw [show rtI n + 1 - 1 = rtI n by omega]; exact h1
  · rename_i h1
    rw [if_neg h1] at hp
    have e : (rtI n - 1) * (rtI n - 1) = rtI n * rtI n - 2 * rtI n + 1 := by grind
    omega
/-- a greater constant, or a place nearer the axis of a prolate one: the radicands are not less, the sag is not greater. -/
theorem pos_le {a b : SConic} {r s : Int} (p : Pl a r) (q : Pl b s) (hr : 0 ≤ r) (hrs : r ≤ s) (hR : absR a = absR b) (h1 : radLo b s ≤ radLo a r) (h2 : radHi b s ≤ radHi a r) : (posSag a r).Lo ≤ (posSag b s).Lo ∧ (posSag a r).Hi ≤ (posSag b s).Hi := by
  obtain ⟨_, pa, pb, _⟩ := p.rads
  obtain ⟨_, qa, qb, _⟩ := q.rads
  obtain ⟨b1, b2, b3, b4⟩ := q.radB
  have e1 : (rad b s).Lo ≤ (rad a r).Lo := rtI_mono qa.1 h1 pa.2
  have e2 : (rad b s).Hi ≤ (rad a r).Hi := upI_mono qb.1 h2 pb.2
  have ha := q.rc.abs
  have h3 := sq_le hr hrs
  have h4 := Int.mul_nonneg hr hr
  unfold posSag
  dsimp only
  rw [hR]
  exact ⟨div_mono (by omega) (by omega) (by omega) (by omega), ceil_mono (by omega) (by omega) (by omega) (by omega)⟩
theorem sq_pos_le {x y : Int} (hy : 0 ≤ y) (h : x * x ≤ y * y) : x ≤ y := by
  rcases Int.lt_or_le y x with h1 | h1
  · have := sq_le (a := y + 1) (b := x) (by omega) (by omega)
    have e : (y + 1) * (y + 1) = y * y + 2 * y + 1 := by grind
    omega
  · exact h1
/-- farther from the axis. -/
theorem grow {c : SConic} {r s : Int} (hm : r ≤ s) (p : Pl c r) (q : Pl c s) : (posSag c r).Lo ≤ (posSag c s).Lo ∧ (posSag c r).Hi ≤ (posSag c s).Hi := by
  have hr := p.rr.1
  have hd := p.rc.d
  rcases Int.lt_or_le (sC c) 0 with hs | hs
  case inr =>
    have h3 := sq_le hr hm
    have h4 := Int.mul_le_mul_of_nonneg_left h3 hs
    have h5 : lessC c r ≤ lessC c s := by unfold lessC; omega
    have h6 := Int.ediv_le_ediv (show 0 < c.K.Den by omega) h5
    have h7 := Int.ediv_le_ediv (show 0 < c.K.Den by omega) (show -lessC c s ≤ -lessC c r by omega)
    exact pos_le p q hr hm rfl (by unfold radLo; omega) (by unfold radHi; omega)
  rcases Int.lt_or_le r s with hm0 | hm0
  case inr =>
    obtain rfl : r = s := by omega
    exact ⟨Int.le_refl _, Int.le_refl _⟩
  rcases Int.lt_or_le 0 r with hr0 | hr0
  case inr =>
    obtain rfl : r = 0 := by omega
    obtain ⟨p1, p2, p3, p4⟩ := p.radB
    have s1 := q.sagB
    have ha := p.rc.abs
    have e1 : (posSag c 0).Lo = 0 := by unfold posSag; simp
    have e2 : (posSag c 0).Hi = 0 := by unfold posSag; simp
    omega
  obtain ⟨pl, pa, pb, pab⟩ := p.rads
  obtain ⟨ql, qa, qb, qab⟩ := q.rads
  obtain ⟨p1, p2, p3, p4⟩ := p.radB
  obtain ⟨q1, q2, q3, q4⟩ := q.radB
  have ha := p.rc.abs
  have hR := sq_bd p.rc.r.1 p.rc.r.2
  have hR0 := p.rc.r0
  have hR1 : 1 ≤ c.Radius * c.Radius := by
    rcases Int.lt_or_le (c.Radius * c.Radius) 1 with h | h
    · exfalso
      have : c.Radius * c.Radius = 0 := by omega
      rcases Int.mul_eq_zero.1 this with h | h <;> exact hR0 h
    · exact h
  -- what the radicands are, times the denominator
  have rp := Int.mul_pos hr0 hr0
  have sp := Int.mul_pos (show 0 < s by omega) (show 0 < s by omega)
  -- floors and ceilings
  have fA := Int.mul_ediv_add_emod (lessC c r) c.K.Den
  have fA0 := Int.emod_nonneg (lessC c r) (show c.K.Den ≠ 0 by omega)
  have fA1 := Int.emod_lt_of_pos (lessC c r) (show 0 < c.K.Den by omega)
  have fB := Int.mul_ediv_add_emod (lessC c s) c.K.Den
  have fB0 := Int.emod_nonneg (lessC c s) (show c.K.Den ≠ 0 by omega)
  have fB1 := Int.emod_lt_of_pos (lessC c s) (show 0 < c.K.Den by omega)
  have gA := Int.mul_ediv_add_emod (-lessC c r) c.K.Den
  have gA0 := Int.emod_nonneg (-lessC c r) (show c.K.Den ≠ 0 by omega)
  have gA1 := Int.emod_lt_of_pos (-lessC c r) (show 0 < c.K.Den by omega)
  have gB := Int.mul_ediv_add_emod (-lessC c s) c.K.Den
  have gB0 := Int.emod_nonneg (-lessC c s) (show c.K.Den ≠ 0 by omega)
  have gB1 := Int.emod_lt_of_pos (-lessC c s) (show 0 < c.K.Den by omega)
  -- with d the denominator and x = -10000 s: d radHi = 10000 d R R + x r r + (less than d), d radLo = the same - (less than d)
  have hA : c.K.Den * radHi c r = 10000 * (c.K.Den * (c.Radius * c.Radius)) - lessC c r + lessC c r % c.K.Den := by
    have e : c.K.Den * radHi c r = 10000 * (c.K.Den * (c.Radius * c.Radius)) - c.K.Den * (lessC c r / c.K.Den) := by unfold radHi; grind
    omega
  have hB : c.K.Den * radHi c s = 10000 * (c.K.Den * (c.Radius * c.Radius)) - lessC c s + lessC c s % c.K.Den := by
    have e : c.K.Den * radHi c s = 10000 * (c.K.Den * (c.Radius * c.Radius)) - c.K.Den * (lessC c s / c.K.Den) := by unfold radHi; grind
    omega
  have kA : c.K.Den * radLo c r = 10000 * (c.K.Den * (c.Radius * c.Radius)) - lessC c r - (-lessC c r) % c.K.Den := by
    have e : c.K.Den * radLo c r = 10000 * (c.K.Den * (c.Radius * c.Radius)) + c.K.Den * (-lessC c r / c.K.Den) := by unfold radLo; grind
    omega
  have kB : c.K.Den * radLo c s = 10000 * (c.K.Den * (c.Radius * c.Radius)) - lessC c s - (-lessC c s) % c.K.Den := by
    have e : c.K.Den * radLo c s = 10000 * (c.K.Den * (c.Radius * c.Radius)) + c.K.Den * (-lessC c s / c.K.Den) := by unfold radLo; grind
    omega
  have xA : lessC c r = sC c * (10000 * (r * r)) := by unfold lessC; grind
  have xB : lessC c s = sC c * (10000 * (s * s)) := by unfold lessC; grind
  generalize hDR : c.K.Den * (c.Radius * c.Radius) = V at *
  have hV : 1 ≤ V := by rw [← hDR]; have := Int.mul_le_mul_of_nonneg_left hR1 (show 0 ≤ c.K.Den by omega); omega
  have sqm := sq_le hr hm
  generalize hA' : radHi c r = A at *
  generalize hB' : radHi c s = B at *
  generalize hC' : radLo c r = C at *
  generalize hE' : radLo c s = E at *
  generalize c.K.Den = d at *
  -- B r r <= A ss + r r
  have big1 : B * (r * r) ≤ A * (s * s) + r * r := by
    refine Int.le_of_mul_le_mul_left (a := d) ?_ (by omega)
    have e1 : d * (B * (r * r)) = (d * B) * (r * r) := by grind
    have e2 : d * (A * (s * s) + r * r) = (d * A) * (s * s) + d * (r * r) := by grind
    rw [e1, e2, hA, hB, xA, xB]
    have h1 : (10000 * V) * (r * r) ≤ (10000 * V) * (s * s) := Int.mul_le_mul_of_nonneg_left sqm (by omega)
    have h2 : (sC c * (10000 * (s * s)) % d) * (r * r) ≤ d * (r * r) := by rw [← xB]; exact Int.mul_le_mul_of_nonneg_right (by omega) (by omega)
    have h3 : 0 ≤ (sC c * (10000 * (r * r)) % d) * (s * s) := by rw [← xA]; exact Int.mul_nonneg (by omega) (by omega)
    have e3 : sC c * (10000 * (s * s)) * (r * r) = sC c * (10000 * (r * r)) * (s * s) := by grind
    rw [Int.add_mul, Int.sub_mul, Int.add_mul, Int.sub_mul]
    omega
  have big2 : E * (r * r) ≤ (C + 1) * (s * s) := by
    refine Int.le_of_mul_le_mul_left (a := d) ?_ (by omega)
    have e1 : d * (E * (r * r)) = (d * E) * (r * r) := by grind
    have e2 : d * ((C + 1) * (s * s)) = (d * C) * (s * s) + d * (s * s) := by grind
    rw [e1, e2, kA, kB, xA, xB]
    have h1 : (10000 * V) * (r * r) ≤ (10000 * V) * (s * s) := Int.mul_le_mul_of_nonneg_left sqm (by omega)
    have h2 : (-(sC c * (10000 * (r * r))) % d) * (s * s) ≤ d * (s * s) := by rw [← xA]; exact Int.mul_le_mul_of_nonneg_right (by omega) (by omega)
    have h3 : 0 ≤ (-(sC c * (10000 * (s * s))) % d) * (r * r) := by rw [← xB]; exact Int.mul_nonneg (by omega) (by omega)
    have e3 : sC c * (10000 * (s * s)) * (r * r) = sC c * (10000 * (r * r)) * (s * s) := by grind
    rw [Int.sub_mul, Int.sub_mul, Int.sub_mul, Int.sub_mul]
    omega
  -- the roots are at least ten times r
  have ten : 100 * (r * r) ≤ C ∧ 100 * (r * r) ≤ A := by
    have h1 : d * (100 * (r * r)) ≤ 10000 * (r * r) := by
      have := Int.mul_le_mul_of_nonneg_right hd.2 (show 0 ≤ 100 * (r * r) by omega); omega
    have h2 : 10000 * (r * r) ≤ -(sC c * (10000 * (r * r))) := by
      have := Int.mul_le_mul_of_nonneg_right (show sC c ≤ -1 by omega) (show 0 ≤ 10000 * (r * r) by omega); omega
    constructor
    · have : d * (100 * (r * r)) ≤ d * C := by rw [kA, xA]; rw [xA] at gA1; omega
      exact Int.le_of_mul_le_mul_left this (by omega)
    · have : d * (100 * (r * r)) ≤ d * A := by rw [hA, xA]; rw [xA] at fA0; omega
      exact Int.le_of_mul_le_mul_left this (by omega)
  have eA : (rad c r).Hi = upI A := by unfold rad; rw [hA']
  have eB : (rad c s).Hi = upI B := by unfold rad; rw [hB']
  have eC : (rad c r).Lo = rtI C := by unfold rad; rw [hC']
  have eE : (rad c s).Lo = rtI E := by unfold rad; rw [hE']
  unfold posSag
  dsimp only
  rw [eA, eB, eC, eE] at *
  have uA := up_sq pb.1 pb.2
  have uB := up_sq qb.1 qb.2
  obtain ⟨c1, c2, c3⟩ := rtI_is pa.1 pa.2
  obtain ⟨d1, d2, d3⟩ := rtI_is qa.1 qa.2
  have e10 : 10 * r * (10 * r) = 100 * (r * r) := by grind
  have tA : 10 * r ≤ upI A := sq_pos_le uA.2 (by omega)
  have tC : 10 * r ≤ rtI C := rt_le_of pa.1 pa.2 (by omega) (by omega)
  constructor
  · apply div_cross (by omega) (by omega)
    -- upI B r < upI A s + 2 r
    have hb : upI B * r ≤ upI A * s + 2 * r := by
      rcases Int.lt_or_le 0 (upI B) with h0 | h0
      · have h1 := upI_lt qb.1 qb.2 h0
        have h2 : (upI B - 1) * r < upI A * s + r := by
          refine sq_lt (by have := Int.mul_nonneg uA.2 (show 0 ≤ s by omega); omega) ?_
          have h3 := Int.mul_le_mul_of_nonneg_right (Int.le_of_lt h1) (show 0 ≤ r * r by omega)
          have h4 := Int.mul_le_mul_of_nonneg_right uA.1 (show 0 ≤ s * s by omega)
          have e4 : (upI B - 1) * r * ((upI B - 1) * r) = (upI B - 1) * (upI B - 1) * (r * r) := by grind
          have e5 : (upI A * s + r) * (upI A * s + r) = upI A * upI A * (s * s) + 2 * (upI A * s * r) + r * r := by grind
          have h6 : 0 < upI A * s * r := Int.mul_pos (Int.mul_pos (by omega) (by omega)) hr0
          omega
        have e6 : (upI B - 1) * r = upI B * r - r := by grind
        omega
      · have h1 := Int.mul_nonneg uA.2 (show 0 ≤ s by omega)
        have h2 : upI B = 0 := by omega
        rw [h2, Int.zero_mul]; omega
    have h7 := Int.mul_le_mul_of_nonneg_right hb hr
    have e7 : (upI A * s + 2 * r) * r = upI A * (s * r) + 2 * (r * r) := by grind
    have e8 : upI B * r * r = r * r * upI B := by grind
    have e9 : 100000 * (r * r) * (100 * absR c + upI B) = 100000 * (100 * (absR c * (r * r)) + r * r * upI B) := by grind
    have e9' : 100000 * (s * s) * (100 * absR c + upI A) = 100000 * (100 * (absR c * (s * s)) + (upI A * (s * r) + upI A * (s * (s - r)))) := by grind
    have h8 : absR c * (r * r) ≤ absR c * (s * s) := Int.mul_le_mul_of_nonneg_left sqm (by omega)
    have h10 : r * 1 ≤ s * (s - r) := Int.mul_le_mul hm (by omega) (by decide) (by omega)
    have h9 := Int.mul_le_mul tA h10 (by omega) uA.2
    have e11 : 10 * r * (r * 1) = 10 * (r * r) := by grind
    rw [e9, e9']
    omega
  · apply ceil_cross (by omega) (by omega)
    have hb : rtI E * r ≤ (rtI C + 1) * s := by
      refine sq_pos_le (Int.mul_nonneg (by omega) (by omega)) ?_
      have h3 := Int.mul_le_mul_of_nonneg_right d2 (show 0 ≤ r * r by omega)
      have h4 := Int.mul_le_mul_of_nonneg_right (show C + 1 ≤ (rtI C + 1) * (rtI C + 1) by omega) (show 0 ≤ s * s by omega)
      have e4 : rtI E * r * (rtI E * r) = rtI E * rtI E * (r * r) := by grind
      have e5 : (rtI C + 1) * s * ((rtI C + 1) * s) = (rtI C + 1) * (rtI C + 1) * (s * s) := by grind
      omega
    have h7 := Int.mul_le_mul_of_nonneg_right hb hr
    have e7 : (rtI C + 1) * s * r = rtI C * (s * r) + s * r := by grind
    have e8 : rtI E * r * r = r * r * rtI E := by grind
    have e9 : 100000 * (r * r) * (100 * absR c + rtI E) = 100000 * (100 * (absR c * (r * r)) + r * r * rtI E) := by grind
    have e9' : 100000 * (s * s) * (100 * absR c + rtI C) = 100000 * (100 * (absR c * (s * s)) + (rtI C * (s * r) + rtI C * (s * (s - r)))) := by grind
    have h8 : absR c * (r * r) ≤ absR c * (s * s) := Int.mul_le_mul_of_nonneg_left sqm (by omega)
    have h10 : s * 1 ≤ s * (s - r) := Int.mul_le_mul_of_nonneg_left (by omega) (by omega)
    have h9 := Int.mul_le_mul (show r ≤ rtI C by omega) h10 (by omega) c1
    have e11 : r * (s * 1) = s * r := by grind
    rw [e9, e9']
    omega
theorem lowest_small (k : Nat) (hk : 100000000000000000000 ≤ k) {n d : Int} (hn : -1000 ≤ n ∧ n ≤ 1000) (hd : 1 ≤ d ∧ d ≤ 1000) : ∃ f g, nspeculumbase_Lowest k n d = some f ∧ 1 ≤ g ∧ n = g * f.Num ∧ d = g * f.Den := by
  unfold nspeculumbase_Lowest
  rw [gcd_any k hk n (by omega) (by omega), Option.bind_some, if_neg (by omega)]
  have hg : 0 < Nat.gcd n.natAbs d.natAbs := Nat.gcd_pos_of_pos_right _ (by omega)
  have d1 : ((Nat.gcd n.natAbs d.natAbs : Nat) : Int) ∣ n := Int.ofNat_dvd_left.2 (Nat.gcd_dvd_left _ _)
  have d2 : ((Nat.gcd n.natAbs d.natAbs : Nat) : Int) ∣ d := Int.ofNat_dvd_left.2 (Nat.gcd_dvd_right _ _)
  generalize hG : ((Nat.gcd n.natAbs d.natAbs : Nat) : Int) = G at *
  have hG1 : 1 ≤ G := by omega
  obtain ⟨x, rfl⟩ := d1
  obtain ⟨y, rfl⟩ := d2
  have hx : -1000 ≤ x ∧ x ≤ 1000 := by
    have h1 := Int.mul_le_mul_of_nonneg_right hG1 (show 0 ≤ (x.natAbs : Int) by omega)
    rcases Int.lt_or_le x 0 with h | h
    · have e : G * (x.natAbs : Int) = -(G * x) := by rw [show ((x.natAbs : Nat) : Int) = -x by omega, Int.mul_neg]
      omega
    · have e : G * (x.natAbs : Int) = G * x := by rw [show ((x.natAbs : Nat) : Int) = x by omega]
      omega
  have hy : -1000 ≤ y ∧ y ≤ 1000 := by
    have h1 := Int.mul_le_mul_of_nonneg_right hG1 (show 0 ≤ (y.natAbs : Int) by omega)
    rcases Int.lt_or_le y 0 with h | h
    · have e : G * (y.natAbs : Int) = -(G * y) := by rw [show ((y.natAbs : Nat) : Int) = -y by omega, Int.mul_neg]
      omega
    · have e : G * (y.natAbs : Int) = G * y := by rw [show ((y.natAbs : Nat) : Int) = y by omega]
      omega
  rw [if_pos (by omega), Int.mul_tdiv_cancel_left _ (by omega), Int.mul_tdiv_cancel_left _ (by omega), w64_id (by omega) (by omega), w64_id (by omega) (by omega)]
  exact ⟨_, G, rfl, hG1, rfl, rfl⟩
theorem greater_le {c : SConic} {f : SFrac} {g r : Int} (hg : 1 ≤ g) (p : Pl c r) (q : Pl ⟨c.Radius, f⟩ r) (e1 : c.K.Num + 1 = g * f.Num) (e2 : c.K.Den = g * f.Den) : (posSag c r).Lo ≤ (posSag ⟨c.Radius, f⟩ r).Lo ∧ (posSag c r).Hi ≤ (posSag ⟨c.Radius, f⟩ r).Hi := by
  have hd := p.rc.d
  have hd' : 1 ≤ f.Den ∧ f.Den ≤ 100 := q.rc.d
  have rp := Int.mul_nonneg p.rr.1 p.rr.1
  have key : lessC c r * f.Den ≤ lessC ⟨c.Radius, f⟩ r * c.K.Den := by
    refine Int.le_of_mul_le_mul_left (a := g) ?_ (by omega)
    have h1 : g * (lessC c r * f.Den) = lessC c r * c.K.Den := by rw [e2]; grind
    have h2 : g * (lessC ⟨c.Radius, f⟩ r * c.K.Den) = (lessC c r + 10000 * (r * r)) * c.K.Den := by
      have h3 : g * lessC ⟨c.Radius, f⟩ r = lessC c r + 10000 * (r * r) := by
        unfold lessC sC; dsimp only
        have h4 : g * (10000 * ((f.Num + f.Den) * (r * r))) = 10000 * ((g * f.Num + g * f.Den) * (r * r)) := by grind
        rw [h4, ← e1, ← e2]; grind
      rw [← h3]; grind
    rw [h1, h2, Int.add_mul]
    have := Int.mul_nonneg (show 0 ≤ 10000 * (r * r) by omega) (show 0 ≤ c.K.Den by omega)
    omega
  have k1 : lessC c r / c.K.Den ≤ lessC ⟨c.Radius, f⟩ r / f.Den := div_cross (by omega) (by omega) key
  have k2 : (-lessC ⟨c.Radius, f⟩ r) / f.Den ≤ (-lessC c r) / c.K.Den := div_cross (by omega) (by omega) (by rw [Int.neg_mul, Int.neg_mul]; omega)
  exact pos_le p q p.rr.1 (Int.le_refl _) rfl (by unfold radLo; dsimp only; omega) (by unfold radHi; dsimp only; omega)
theorem law_grow (c : SConic) (hc : IC c) (a b : Int) : nspeculumlaw02_OpticsGrow big c a b = some true := by
  unfold nspeculumlaw02_OpticsGrow
  obtain ⟨r, m1, r0, r1⟩ := mod_any big a (m := 1000000) (by decide) (by decide)
  obtain ⟨m, m2, m0, m3⟩ := mod_any big b (m := 1000) (by decide) (by decide)
  rw [awake_big, Option.bind_some, if_pos rfl, m1, Option.bind_some, m2, Option.bind_some, conic_ref _ (by decide) hc, Option.bind_some]
  by_cases h : conE c = 0
  case neg => rw [if_neg h]
  have R := RC.of h
  rw [if_pos h]
  by_cases hn : c.Radius < 0
  · rw [if_pos hn]
  rw [if_neg hn, w64_id (n := r + m) (by omega) (by omega)]
  by_cases hl : 1000000 < r + m
  · rw [if_pos hl]
  rw [if_neg hl, beyond_ref _ R (r := r + m) (by omega), Option.bind_some]
  by_cases hb : beyB c (r + m) = true
  · rw [if_pos hb]
  have hb' := hb
  unfold beyB at hb'
  simp only [decide_eq_true_eq] at hb'
  obtain ⟨v1, v2, v3, v4⟩ := R.sides (r := r) (by omega)
  have hb2 : ¬ beyB c r = true := by
    unfold beyB
    simp only [decide_eq_true_eq]
    rcases Int.lt_or_le (sC c) 0 with hs | hs
    · have := Int.mul_le_mul_of_nonneg_right (Int.le_of_lt hs) v2.1
      rw [Int.zero_mul] at this; omega
    · have := Int.mul_le_mul_of_nonneg_left (sq_le r0 (show r ≤ r + m by omega)) hs; omega
  have pl1 : plE c r = 0 := by unfold plE; rw [if_pos (inR_t.2 ⟨r0, by omega⟩), if_neg hb2]
  have pl2 : plE c (r + m) = 0 := by unfold plE; rw [if_pos (inR_t.2 ⟨by omega, by omega⟩), if_neg hb]
  have P1 := Pl.of R pl1
  have P2 := Pl.of R pl2
  have hR := R.r
  have hR0 := R.r0
  have s1 := P1.sagB
  have hcw : IC ⟨w64 (0 - c.Radius), c.K⟩ := by
    rw [w64_id (by omega) (by omega)]
    exact ⟨by unfold Vv.In64; dsimp only; omega, hc.k⟩
  have eng : (⟨w64 (0 - c.Radius), c.K⟩ : SConic) = negC c := by unfold negC; rw [w64_id (by omega) (by omega), show 0 - c.Radius = -c.Radius by omega]
  have h' : conE (negC c) = 0 := by
    unfold conE negC at *
    dsimp only at *
    have e1 : (-c.Radius = 0 ∨ inR (-10000000) 10000000 (-c.Radius) = false) = (c.Radius = 0 ∨ inR (-10000000) 10000000 c.Radius = false) := by
      have g1 : inR (-10000000) 10000000 (-c.Radius) = true := inR_t.2 ⟨by omega, by omega⟩
      have g2 : inR (-10000000) 10000000 c.Radius = true := inR_t.2 ⟨by omega, by omega⟩
      rw [g1, g2]; apply propext; constructor <;> intro h <;> (rcases h with h | h <;> first | (left; omega) | cases h)
    simp only [e1]; exact h
  have opE : posSag (negC c) r = posSag c r := by
    unfold posSag
    rw [negC_rad, show absR (negC c) = absR c by unfold absR negC; dsimp only; rw [if_pos (by omega), if_neg hn]; omega]
  have sgn : sagV (negC c) r = opp (posSag c r) := by unfold sagV; rw [if_pos (by show -c.Radius < 0; omega), opE]
  rw [if_neg hb, sag_opt _ (by decide) hc, Option.bind_some, sag_opt _ (by decide) hc, Option.bind_some, sag_opt _ (by decide) hcw, Option.bind_some, eng, if_pos h, if_pos pl1, if_pos h, if_pos pl2, if_pos h', negC_pl, if_pos pl1, pos_eq hn, pos_eq hn, sgn]
  rw [if_pos rfl, if_pos rfl, if_pos rfl]
  obtain ⟨g1, g2⟩ := grow (show r ≤ r + m by omega) P1 P2
  unfold opp
  dsimp only
  rw [if_neg (by omega), if_neg (by omega), w64_id (n := 0 - (posSag c r).Hi) (by omega) (by omega), if_pos (by omega), w64_id (n := 0 - (posSag c r).Lo) (by omega) (by omega), if_pos (by omega)]
  have hn2 := R.n
  have hd2 := R.d
  obtain ⟨f, g, f1, f2, f3, f4⟩ := lowest_small big (by decide) (n := c.K.Num + 1) (d := c.K.Den) (by omega) (by omega)
  rw [w64_id (n := c.K.Num + 1) (by omega) (by omega), f1, Option.bind_some]
  have fb : (-1000 ≤ f.Num ∧ f.Num ≤ 1000) ∧ (-1000 ≤ f.Den ∧ f.Den ≤ 1000) := by
    have hx : ∀ x : Int, -1000 ≤ g * x → g * x ≤ 1000 → -1000 ≤ x ∧ x ≤ 1000 := fun x q1 q2 => by
      rcases Int.lt_or_le x 0 with h | h
      · have := Int.mul_le_mul_of_nonneg_right f2 (show 0 ≤ -x by omega)
        rw [Int.mul_neg, Int.mul_neg] at this; omega
      · have := Int.mul_le_mul_of_nonneg_right f2 h; omega
    exact ⟨hx _ (by omega) (by omega), hx _ (by omega) (by omega)⟩
  have hcf : IC ⟨c.Radius, f⟩ := ⟨hc.r, by unfold Vv.In64; dsimp only; omega, by unfold Vv.In64; dsimp only; omega⟩
  rw [conic_ref _ (by decide) hcf, Option.bind_some]
  by_cases hf : conE ⟨c.Radius, f⟩ = 0
  case neg => rw [if_neg hf]
  rw [if_pos hf, beyond_ref _ (RC.of hf) (r := r) (by omega), Option.bind_some]
  by_cases hbf : beyB ⟨c.Radius, f⟩ r = true
  · rw [if_pos hbf]
  have plf : plE ⟨c.Radius, f⟩ r = 0 := by unfold plE; rw [if_pos (inR_t.2 ⟨r0, by omega⟩), if_neg hbf]
  obtain ⟨z1, z2⟩ := greater_le f2 P1 (Pl.of (RC.of hf) plf) f3 f4
  rw [if_neg hbf, sag_opt _ (by decide) hcf, Option.bind_some, if_pos hf, if_pos plf, pos_eq (c := ⟨c.Radius, f⟩) hn, if_pos rfl, if_pos z1]
  congr 1
  exact decide_eq_true z2
theorem vc_grow (c : SConic) (a b : Int) (hc : ((Vv.In64 c.Radius) ∧ ((Vv.In64 c.K.Num) ∧ (Vv.In64 c.K.Den)))) : VC Go.Proofs.Try.prog 7 [VV.ag (c_SConic c), vi a, vi b] (vb true) := nspeculumlaw02_OpticsGrow_ok _ _ _ _ _ (law_grow c ⟨hc.1, hc.2.1, hc.2.2⟩ a b)
end Go.Proofs.Ytgaopkhkabbcfaa.Vg
