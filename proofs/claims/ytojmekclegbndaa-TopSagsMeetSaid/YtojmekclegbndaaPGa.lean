/- Two ways to a sag, plain. -/
import Derived.Test.YtojmekclegbndaaOPa
import Derived.Test.YtojmekclegbndaaPG
set_option linter.unusedVariables false
set_option linter.unusedSimpArgs false
namespace Go.Proofs.Ytojmekclegbndaa.Vg
open Go Go.Proofs.Ytojmekclegbndaa.Ev Go.Proofs.Ytojmekclegbndaa.Vv
def IsRt (n r : Int) : Prop := 0 ≤ r ∧ r * r ≤ n ∧ n < (r + 1) * (r + 1)

theorem sq_le {a b : Int} (ha : 0 ≤ a) (h : a ≤ b) : a * a ≤ b * b := Int.mul_le_mul h h ha (by omega)
theorem sq_lt {a b : Int} (hb : 0 ≤ b) (h : a * a < b * b) : a < b := by
  rcases Int.lt_or_le a b with h1 | h1
  · exact h1
  · have := sq_le hb h1; omega
theorem IsRt.unique {n r s : Int} (h : IsRt n r) (k : IsRt n s) : r = s := by
  obtain ⟨h0, h1, h2⟩ := h
  obtain ⟨k0, k1, k2⟩ := k
  have a : r < s + 1 := sq_lt (by omega) (by omega)
  have b : s < r + 1 := sq_lt (by omega) (by omega)
  omega

/-- Newton's step stays above. -/
theorem newton_up {n r : Int} (hn : 0 ≤ n) (hr : 1 ≤ r) : n < ((r + n / r) / 2 + 1) * ((r + n / r) / 2 + 1) := by
  have hq : n < r * (n / r + 1) := by
    have h1 := Int.mul_ediv_add_emod n r
    have h2 := Int.emod_lt_of_pos n (show 0 < r by omega)
    rw [Int.mul_add]; omega
  generalize hQ : n / r = q at *
  have hq0 : 0 ≤ q := by rw [← hQ]; exact Int.ediv_nonneg hn (by omega)
  have ht : r + (q + 1) ≤ 2 * ((r + q) / 2 + 1) := by omega
  generalize (r + q) / 2 + 1 = t at *
  have h1 := sq_le (a := r + (q + 1)) (b := 2 * t) (by omega) ht
  have h2 : 0 ≤ (r - (q + 1)) * (r - (q + 1)) := by
    rcases Int.le_total 0 (r - (q + 1)) with h | h
    · exact Int.mul_nonneg h h
    · exact Int.mul_nonneg_of_nonpos_of_nonpos h h
  have e1 : (r + (q + 1)) * (r + (q + 1)) = (r - (q + 1)) * (r - (q + 1)) + 4 * (r * (q + 1)) := by
    simp only [Int.add_mul, Int.mul_add, Int.sub_mul, Int.mul_sub, Int.mul_comm q r]; omega
  have e2 : 2 * t * (2 * t) = 4 * (t * t) := by
    rw [Int.mul_assoc, Int.mul_left_comm t 2 t, ← Int.mul_assoc]; rfl
  omega
theorem newton_end {n r : Int} (hn : 0 ≤ n) (hr : 1 ≤ r) (h : r ≤ (r + n / r) / 2) : r * r ≤ n := by
  have h1 : r ≤ n / r := by omega
  have h2 := Int.mul_ediv_self_le (x := n) (k := r) (by omega)
  have h3 : r * r ≤ r * (n / r) := Int.mul_le_mul_of_nonneg_left h1 (by omega)
  omega
theorem up_pos {n r : Int} (hn : 1 ≤ n) (hr : 0 ≤ r) (h : n < (r + 1) * (r + 1)) : 1 ≤ r := by
  rcases Int.lt_or_le r 1 with h1 | h1
  · obtain rfl : r = 0 := by omega
    simp at h; omega
  · exact h1

/-- The square root of a quotient, rounded down and up. -/
theorem div_le {n d : Int} (hn : 0 ≤ n) (hd : 0 < d) : 0 ≤ n / d ∧ n / d ≤ n := ⟨Int.ediv_nonneg hn (by omega), Int.ediv_le_self d hn⟩
theorem tdiv_pos {n d : Int} (hn : 0 ≤ n) : n.tdiv d = n / d := Int.tdiv_eq_ediv_of_nonneg hn
theorem newton_l (k : Nat) {a : Int} (ha : 1 ≤ a) (ha2 : a ≤ 3000000000000000000) : ∀ (n fuel : Nat) (x : Int), 1 ≤ x → x ≤ 3000000000000000000 → a < (x + 1) * (x + 1) → x < (n : Int) → n ≤ fuel → ∃ r, noptics_rootDown_l0_0 k a fuel x ((x + a / x) / 2) = some r ∧ IsRt a r := by
  intro n
  induction n with
  | zero => intro fuel x h1 h2 h3 h; omega
  | succ n ih =>
    intro fuel x h1 h2 h3 h hf
    obtain ⟨g, rfl⟩ : ∃ g, fuel = g + 1 := ⟨fuel - 1, by omega⟩
    have hq := div_le (n := a) (d := x) (by omega) (by omega)
    rw [noptics_rootDown_l0_0.eq_2]
    by_cases c : (x + a / x) / 2 < x
    · have hup := newton_up (n := a) (by omega) h1
      have hy : 1 ≤ (x + a / x) / 2 := up_pos ha (by omega) hup
      have hq2 := div_le (n := a) (d := (x + a / x) / 2) (by omega) (by omega)
      rw [if_pos c, if_pos (by omega), tdiv_pos (n := a) (by omega), w64_id (n := a / _) (by omega) (by omega), w64_id (n := (x + a / x) / 2 + _) (by omega) (by omega), tdiv_pos (by omega), w64_id (by omega) (by omega)]
      exact ih g ((x + a / x) / 2) hy (by omega) hup (by omega) (by omega)
    · rw [if_neg c]
      exact ⟨x, rfl, by omega, newton_end (by omega) h1 (by omega), h3⟩
theorem rootDown_is (k : Nat) (hk : 100000000000000000000 ≤ k) {a : Int} (ha : 0 ≤ a) (ha2 : a ≤ 3000000000000000000) : ∃ r, noptics_rootDown k a = some r ∧ IsRt a r := by
  unfold noptics_rootDown
  rcases Int.lt_or_le 0 a with h | h
  · have e : w64 ((w64 (a + 1)).tdiv 2) = (a + a / a) / 2 := by
      rw [w64_id (n := a + 1) (by omega) (by omega), tdiv_pos (by omega), w64_id (by omega) (by omega), Int.ediv_self (by omega)]
    have h3 : a < (a + 1) * (a + 1) := by
      have := Int.mul_le_mul_of_nonneg_right (show 1 ≤ a + 1 by omega) (show 0 ≤ a + 1 by omega)
      omega
    obtain ⟨r, e1, e2⟩ := newton_l k h ha2 (a.toNat + 1) k a (by omega) ha2 h3 (by omega) (by omega)
    rw [e, e1]
    exact ⟨r, rfl, e2⟩
  · obtain rfl : a = 0 := by omega
    obtain ⟨g, rfl⟩ : ∃ g, k = g + 1 := ⟨k - 1, by omega⟩
    rw [show w64 ((w64 (0 + 1)).tdiv 2) = 0 from by decide, noptics_rootDown_l0_0.eq_2, if_neg (by decide)]
    exact ⟨0, rfl, by decide, by decide, by decide⟩
/-- the whole root of a number. -/
noncomputable def rtI (n : Int) : Int := Classical.epsilon (IsRt n)
theorem rtI_is {n : Int} (h : 0 ≤ n) (h' : n ≤ 3000000000000000000) : IsRt n (rtI n) := by
  obtain ⟨r, _, e⟩ := rootDown_is big (Nat.le_refl _) h h'
  exact Classical.epsilon_spec ⟨r, e⟩
theorem rootDown_any (k : Nat) (hk : 100000000000000000000 ≤ k) {a : Int} (ha : 0 ≤ a) (ha2 : a ≤ 3000000000000000000) : noptics_rootDown k a = some (rtI a) := by
  obtain ⟨r, e1, e2⟩ := rootDown_is k hk ha ha2
  rw [e1, e2.unique (rtI_is ha ha2)]
theorem rtI_le {n : Int} (h : 0 ≤ n) (h' : n ≤ 3000000000000000000) : 0 ≤ rtI n ∧ rtI n ≤ 1800000000 := by
  obtain ⟨a, b, c⟩ := rtI_is h h'
  refine ⟨a, ?_⟩
  have : rtI n < 1800000001 := sq_lt (by omega) (by omega)
  omega
/-- and rounded up. -/
noncomputable def upI (n : Int) : Int := if rtI n * rtI n < n then rtI n + 1 else rtI n
theorem rtI_sq {n : Int} (h : 0 ≤ n) (h' : n ≤ 3000000000000000000) : 0 ≤ rtI n * rtI n ∧ rtI n * rtI n ≤ 3000000000000000000 := by
  obtain ⟨a, b, c⟩ := rtI_is h h'
  exact ⟨Int.mul_nonneg a a, by omega⟩
theorem upI_le {n : Int} (h : 0 ≤ n) (h' : n ≤ 3000000000000000000) : rtI n ≤ upI n ∧ upI n ≤ rtI n + 1 := by
  unfold upI; split <;> omega
theorem rootUp_any (k : Nat) (hk : 100000000000000000000 ≤ k) {a : Int} (ha : 0 ≤ a) (ha2 : a ≤ 3000000000000000000) : noptics_rootUp k a = some (upI a) := by
  have h1 := rtI_le ha ha2
  have h2 := rtI_sq ha ha2
  unfold noptics_rootUp upI
  rw [rootDown_any k hk ha ha2, Option.bind_some, w64_id (by omega) (by omega)]
  by_cases c : rtI a * rtI a < a
  · rw [if_pos c, if_pos c, w64_id (by omega) (by omega)]
  · rw [if_neg c, if_neg c]
theorem down_any (k : Nat) {x d : Int} (h1 : -4000000000000000000 ≤ x) (h2 : x ≤ 4000000000000000000) (hd : 0 < d) : noptics_down k x d = some (x / d) := by
  unfold noptics_down
  rw [if_pos (by omega)]
  rcases Int.lt_or_le x 0 with h | h
  · obtain ⟨y, rfl⟩ : ∃ y, x = -y := ⟨-x, by omega⟩
    have hq := div_le (n := y) (d := d) (by omega) hd
    have e0 := Int.mul_ediv_add_emod y d
    have m0 := Int.emod_nonneg y (show d ≠ 0 by omega)
    have m1 := Int.emod_lt_of_pos y hd
    rw [Int.neg_tmod, Int.neg_tdiv, tdiv_pos (by omega), Int.tmod_eq_emod_of_nonneg (by omega), w64_id (n := -(y / d)) (by omega) (by omega)]
    by_cases c : y % d = 0
    · rw [if_neg (by omega)]
      congr 1
      rw [show -y = 0 + d * (-(y / d)) by rw [Int.mul_neg]; omega, Int.add_mul_ediv_left _ _ (by omega)]; simp
    · rw [if_pos (by omega), w64_id (by omega) (by omega)]
      congr 1
      rw [show -y = (d - y % d) + d * (-(y / d) - 1) by rw [Int.mul_sub, Int.mul_neg]; omega, Int.add_mul_ediv_left _ _ (by omega), Int.ediv_eq_zero_of_lt (a := d - y % d) (b := d) (by omega) (by omega)]; omega
  · have hq := div_le (n := x) (d := d) h hd
    have m0 := Int.tmod_nonneg d h
    rw [if_neg (by omega), tdiv_pos h, w64_id (by omega) (by omega)]
theorem div_bd {x d : Int} (h1 : -4000000000000000000 ≤ x) (h2 : x ≤ 4000000000000000000) (hd : 0 < d) : -4000000000000000000 ≤ x / d ∧ x / d ≤ 4000000000000000000 := by
  constructor
  · apply Int.le_ediv_of_mul_le hd
    have := Int.mul_le_mul_of_nonneg_left (show 1 ≤ d by omega) (show (0 : Int) ≤ 4000000000000000000 by decide)
    omega
  · rcases Int.lt_or_le x 0 with h | h
    · have := Int.ediv_neg_of_neg_of_pos h hd; omega
    · have := div_le h hd; omega
theorem up_any (k : Nat) {x d : Int} (h1 : -4000000000000000000 ≤ x) (h2 : x ≤ 4000000000000000000) (hd : 0 < d) : noptics_up k x d = some (-((-x) / d)) := by
  have := div_bd (x := -x) (by omega) (by omega) hd
  unfold noptics_up
  rw [w64_id (n := 0 - x) (by omega) (by omega), show 0 - x = -x by omega, down_any k (by omega) (by omega) hd, Option.bind_some, w64_id (by omega) (by omega)]
  congr 1; omega
theorem whole_l_eq (k : Nat) (a : Int) : ∀ (fuel : Nat) (x y : Int), nnumber_wholeRoot_l0_0 k a fuel x y = noptics_rootDown_l0_0 k a fuel x y
  | 0, _, _ => rfl
  | fuel + 1, x, y => by rw [nnumber_wholeRoot_l0_0.eq_2, noptics_rootDown_l0_0.eq_2, whole_l_eq k a fuel]
theorem whole_eq (k : Nat) (a : Int) : nnumber_wholeRoot k a = noptics_rootDown k a := by
  unfold nnumber_wholeRoot noptics_rootDown
  rw [whole_l_eq]
theorem sqnn (x : Int) : 0 ≤ x * x := by
  rcases Int.le_total 0 x with h | h
  · exact Int.mul_nonneg h h
  · have := Int.mul_nonneg (show 0 ≤ -x by omega) (show 0 ≤ -x by omega)
    rwa [Int.neg_mul_neg] at this
/-- a sphere. -/
def sph (R : Int) : SConic := ⟨R, ⟨0, 1⟩⟩
structure PR (R r : Int) : Prop where
  R0 : 1 ≤ R
  R1 : R ≤ 31000
  r0 : 0 ≤ r
  r1 : r ≤ R
theorem PR.sq {R r : Int} (h : PR R r) : 1 ≤ R * R ∧ R * R ≤ 961000000 ∧ 0 ≤ r * r ∧ r * r ≤ R * R := by
  have h1 := h.R0; have h2 := h.R1; have h3 := h.r0; have h4 := h.r1
  have a := sq_le (a := 1) (b := R) (by decide) h1
  have b := sq_le (a := R) (b := 31000) (by omega) h2
  have c := sq_le h3 h4
  have d := sqnn r
  omega
theorem sph_con {R r : Int} (h : PR R r) : conE (sph R) = 0 := by
  have h1 := h.R0; have h2 := h.R1
  unfold conE sph
  dsimp only
  rw [if_neg, if_neg (by decide), if_pos (by decide)]
  rw [inR_f]; omega
theorem sph_ic {R r : Int} (h : PR R r) : IC (sph R) := by
  have h1 := h.R0; have h2 := h.R1
  exact ⟨by unfold sph Vv.In64; dsimp only; omega, ⟨by unfold sph Vv.In64; dsimp only; omega, by unfold sph Vv.In64; dsimp only; omega⟩⟩
theorem sph_place {R r : Int} (h : PR R r) : noptics_checkPlace big (sph R) r = some 0 := by
  obtain ⟨s1, s2, s3, s4⟩ := h.sq
  have h1 := h.R0; have h2 := h.R1; have h3 := h.r0; have h4 := h.r1
  unfold noptics_checkPlace noptics_isBeyond noptics_shape
  rw [conic_opt big (by decide) (sph_ic h), Option.bind_some, if_pos (sph_con h), within_opt, Option.bind_some, if_pos (inR_t.2 (by omega)), Option.bind_some, Option.bind_some]
  unfold sph
  dsimp only
  rw [show w64 (0 + 1) = 1 from by decide, Int.one_mul, Int.one_mul, w64_id (n := R) (by omega) (by omega), w64_id (n := r) (by omega) (by omega), w64_id (n := R * R) (by omega) (by omega), w64_id (n := r * r) (by omega) (by omega), decide_eq_false (by omega)]
  rfl
theorem sph_sag {R r : Int} (h : PR R r) : noptics_Sag big (sph R) r = some (⟨100000 * (r * r) / (100 * R + upI (10000 * (R * R - r * r))), -((-(100000 * (r * r))) / (100 * R + rtI (10000 * (R * R - r * r))))⟩, 0) := by
  obtain ⟨s1, s2, s3, s4⟩ := h.sq
  have h1 := h.R0; have h2 := h.R1; have h3 := h.r0; have h4 := h.r1
  have d0 : 0 ≤ 10000 * (R * R - r * r) := by omega
  have d1 : 10000 * (R * R - r * r) ≤ 3000000000000000000 := by omega
  have l1 := rtI_le d0 d1
  have l2 := upI_le d0 d1
  have e1 : 10000 * r * r = 10000 * (r * r) := Int.mul_assoc ..
  have e2 : 10000 * R * R = 10000 * (R * R) := Int.mul_assoc ..
  have e3 : 100000 * r * r = 100000 * (r * r) := Int.mul_assoc ..
  have less : w64 ((w64 ((w64 (10000 * (w64 (0 + 1)))) * r)) * r) = 10000 * (r * r) := by
    rw [show w64 (10000 * (w64 (0 + 1))) = 10000 from by decide, w64_id (n := 10000 * r) (by omega) (by omega), e1, w64_id (by omega) (by omega)]
  have squ : w64 ((w64 (10000 * R)) * R) = 10000 * (R * R) := by
    rw [w64_id (n := 10000 * R) (by omega) (by omega), e2, w64_id (by omega) (by omega)]
  have num : w64 ((w64 (100000 * r)) * r) = 100000 * (r * r) := by
    rw [w64_id (n := 100000 * r) (by omega) (by omega), e3, w64_id (by omega) (by omega)]
  have mx : maxI R (w64 (0 - R)) = R := by
    rw [w64_id (by omega) (by omega)]; unfold maxI; split <;> omega
  have root : noptics_rootOfRadicand big (sph R) r = some ⟨rtI (10000 * (R * R - r * r)), upI (10000 * (R * R - r * r))⟩ := by
    unfold noptics_rootOfRadicand noptics_shape
    rw [Option.bind_some]
    unfold sph
    dsimp only
    rw [less, squ, up_any big (by omega) (by omega) (by decide), Option.bind_some, Int.ediv_one, Int.neg_neg, w64_id (n := 10000 * (R * R) - 10000 * (r * r)) (by omega) (by omega), ← Int.mul_sub, rootDown_any big (by decide) d0 d1, Option.bind_some, down_any big (by omega) (by omega) (by decide), Option.bind_some, Int.ediv_one, w64_id (n := 10000 * (R * R) - 10000 * (r * r)) (by omega) (by omega), ← Int.mul_sub, rootUp_any big (by decide) d0 d1, Option.bind_some]
  unfold noptics_Sag
  rw [sph_place h, Option.bind_some, if_pos rfl, root, Option.bind_some]
  unfold sph
  dsimp only
  rw [num, mx, w64_id (n := 100 * R) (by omega) (by omega), w64_id (n := 100 * R + upI _) (by omega) (by omega), w64_id (n := 100 * R + rtI _) (by omega) (by omega), down_any big (by omega) (by omega) (by omega), Option.bind_some, up_any big (by omega) (by omega) (by omega), Option.bind_some, if_neg (by omega)]
theorem small_ck {n : Int} (h : 0 ≤ n ∧ n ≤ 1000000000) : nnumber_checkFracs big [⟨n, 1⟩] = some 0 := by
  have hf : IF ⟨n, 1⟩ := ⟨by unfold Vv.In64; dsimp only; omega, by unfold Vv.In64; dsimp only; omega⟩
  have ck : ckE ⟨n, 1⟩ = 0 := by
    have lw : lowB ⟨n, 1⟩ = true := by unfold lowB gcF; simp
    unfold ckE
    rw [if_pos lw, if_neg (by dsimp only; omega), if_neg (show ¬ (1000000000 : Int) < 1 by decide)]
  have l : ∀ g, nnumber_checkFracs_l0_0 big [⟨n, 1⟩] (g + 2) 0 = some (.inr ()) := fun g => by
    rw [nnumber_checkFracs_l0_0.eq_2, if_pos (by simp), if_pos (by simp), show List.getD [(⟨n, 1⟩ : SFrac)] ((0 : Int)).toNat default = ⟨n, 1⟩ from rfl, checkFrac_any big (by decide) hf, Option.bind_some, if_pos ck, show w64 (0 + 1) = 1 from by decide, nnumber_checkFracs_l0_0.eq_2, if_neg (by simp)]
  unfold nnumber_checkFracs
  rw [show nnumber_checkFracs_l0_0 big [⟨n, 1⟩] big 0 = _ from l 99999999999999999998, Option.bind_some]
noncomputable def upM (m : Int) : Int := if rtI m * rtI m = m then rtI m else rtI m + 1
theorem sqrt_any {n : Int} (h : 0 ≤ n ∧ n ≤ 1000000000) : nnumber_Sqrt big ⟨n, 1⟩ 1000 = some (⟨rtI (1000000 * n), upM (1000000 * n)⟩, 0) := by
  have d0 : 0 ≤ 1000000 * n := by omega
  have d1 : 1000000 * n ≤ 3000000000000000000 := by omega
  have l := rtI_le d0 d1
  have l2 := rtI_sq d0 d1
  unfold nnumber_Sqrt nnumber_squareRoot
  rw [small_ck h, Option.bind_some, if_pos rfl]
  dsimp only
  rw [if_neg (by omega), if_neg (by decide), if_neg (by decide), show w64 (1000 * 1000) = 1000000 from by decide, w64_id (n := 1000000 * n) (by omega) (by omega), if_pos (by decide), Int.tdiv_one, w64_id (n := 1000000 * n) (by omega) (by omega), whole_eq, rootDown_any big (by decide) d0 d1, Option.bind_some, w64_id (n := rtI _ * rtI _) (by omega) (by omega), Int.mul_one, w64_id (n := rtI _ * rtI _) (by omega) (by omega), w64_id (n := rtI _ + 1) (by omega) (by omega)]
  unfold upM
  by_cases c : rtI (1000000 * n) * rtI (1000000 * n) = 1000000 * n
  · rw [if_pos c, if_pos c]; rfl
  · rw [if_neg c, if_neg c]; rfl
theorem upI_sq {n : Int} (h : 0 ≤ n) (h' : n ≤ 3000000000000000000) : n ≤ upI n * upI n ∧ 0 ≤ upI n := by
  obtain ⟨a, b, c⟩ := rtI_is h h'
  unfold upI
  split
  · exact ⟨by omega, by omega⟩
  · exact ⟨by omega, a⟩
theorem upM_sq {n : Int} (h : 0 ≤ n) (h' : n ≤ 3000000000000000000) : n ≤ upM n * upM n ∧ rtI n ≤ upM n ∧ (∀ y, 0 ≤ y → n ≤ y * y → upM n ≤ y) := by
  obtain ⟨a, b, c⟩ := rtI_is h h'
  unfold upM
  split
  · refine ⟨by omega, by omega, fun y hy hn => ?_⟩
    rcases Int.lt_or_le y (rtI n) with h | h
    · have := sq_le (a := y + 1) (b := rtI n) (by omega) (by omega)
      have e : (y + 1) * (y + 1) = y * y + 2 * y + 1 := by grind
      omega
    · exact h
  · refine ⟨by omega, by omega, fun y hy hn => ?_⟩
    rcases Int.lt_or_le y (rtI n + 1) with h | h
    · have := sq_le (a := y) (b := rtI n) hy (by omega)
      omega
    · exact h
theorem law_sagsmeet (R r : Int) : nspeculumtop_TopSagsMeet big R r = some true := by
  unfold nspeculumtop_TopSagsMeet
  rw [seen_big, Option.bind_some, if_pos rfl, within_base, Option.bind_some]
  by_cases c : inR 1 31000 R = true
  · rw [if_pos c, within_base, Option.bind_some]
    by_cases c2 : inR 0 R r = true
    · obtain ⟨R0, R1⟩ := inR_t.1 c
      obtain ⟨r0, r1⟩ := inR_t.1 c2
      have P : PR R r := ⟨R0, R1, r0, r1⟩
      obtain ⟨s1, s2, s3, s4⟩ := P.sq
      unfold nspeculumtop_whole
      rw [if_pos c2, Option.bind_some, show noptics_Sag big ⟨R, ⟨0, 1⟩⟩ r = _ from sph_sag P, Option.bind_some, Option.bind_some, w64_id (n := R * R) (by omega) (by omega), w64_id (n := r * r) (by omega) (by omega), w64_id (n := R * R - r * r) (by omega) (by omega), sqrt_any (by omega), Option.bind_some]
      dsimp only
      have d0 : 0 ≤ 10000 * (R * R - r * r) := by omega
      have d1 : 10000 * (R * R - r * r) ≤ 3000000000000000000 := by omega
      have m0 : 0 ≤ 1000000 * (R * R - r * r) := by omega
      have m1 : 1000000 * (R * R - r * r) ≤ 3000000000000000000 := by omega
      obtain ⟨a0, a1, a2⟩ := rtI_is d0 d1
      obtain ⟨u1, u0⟩ := upI_sq d0 d1
      obtain ⟨b0, b1, b2⟩ := rtI_is m0 m1
      obtain ⟨v1, v2, v3⟩ := upM_sq m0 m1
      have au := upI_le d0 d1
      generalize rtI (10000 * (R * R - r * r)) = a at *
      generalize upI (10000 * (R * R - r * r)) = u at *
      generalize rtI (1000000 * (R * R - r * r)) = b at *
      generalize upM (1000000 * (R * R - r * r)) = v at *
      have X0 : (1000 * R) * (1000 * R) = 1000000 * (R * R) := by grind
      have bX : b ≤ 1000 * R := by
        have : b < 1000 * R + 1 := sq_lt (by omega) (by
          have e : (1000 * R + 1) * (1000 * R + 1) = 1000000 * (R * R) + 2000 * R + 1 := by grind
          omega)
        omega
      have vX : v ≤ 1000 * R := v3 _ (by omega) (by omega)
      have bu : b ≤ 10 * u := by
        have e : (10 * u) * (10 * u) = 100 * (u * u) := by grind
        have : b < 10 * u + 1 := sq_lt (by omega) (by
          have e2 : (10 * u + 1) * (10 * u + 1) = (10 * u) * (10 * u) + 20 * u + 1 := by grind
          omega)
        omega
      have av : 10 * a ≤ v := by
        have e : (10 * a) * (10 * a) = 100 * (a * a) := by grind
        have : 10 * a < v + 1 := sq_lt (by omega) (by
          have e2 : (v + 1) * (v + 1) = v * v + 2 * v + 1 := by grind
          omega)
        omega
      -- the first end
      have k1 : 100000 * (r * r) ≤ (1000 * R - b) * (100 * R + u) := by
        have p := Int.mul_nonneg (show 0 ≤ 1000 * R - b by omega) (show 0 ≤ 10 * u - b by omega)
        have e1 : (1000 * R - b) * (10 * u - b) = 10000 * (R * u) - 1000 * (R * b) - 10 * (b * u) + b * b := by grind
        have e2 : (1000 * R - b) * (100 * R + u) = 100000 * (R * R) + 1000 * (R * u) - 100 * (R * b) - b * u := by grind
        omega
      have k2 : (1000 * R - v) * (100 * R + a) ≤ 100000 * (r * r) := by
        have p := Int.mul_nonneg (show 0 ≤ 1000 * R - v by omega) (show 0 ≤ v - 10 * a by omega)
        have e1 : (1000 * R - v) * (v - 10 * a) = 1000 * (R * v) - 10000 * (R * a) - v * v + 10 * (v * a) := by grind
        have e2 : (1000 * R - v) * (100 * R + a) = 100000 * (R * R) + 1000 * (R * a) - 100 * (R * v) - v * a := by grind
        omega
      have lo1 : 100000 * (r * r) / (100 * R + u) ≤ 1000 * R - b := by
        apply Int.ediv_le_of_le_mul (by omega)
        exact k1
      have lo0 : 0 ≤ 100000 * (r * r) / (100 * R + u) := Int.ediv_nonneg (by omega) (by omega)
      have q1 := Int.mul_ediv_add_emod (-(100000 * (r * r))) (100 * R + a)
      have q2 := Int.emod_nonneg (-(100000 * (r * r))) (show 100 * R + a ≠ 0 by omega)
      have q3 := Int.emod_lt_of_pos (-(100000 * (r * r))) (show 0 < 100 * R + a by omega)
      generalize -(100000 * (r * r)) / (100 * R + a) = w at *
      generalize -(100000 * (r * r)) % (100 * R + a) = z at *
      have hi1 : 1000 * R - v ≤ -w := by
        rcases Int.lt_or_le (-w) (1000 * R - v) with h | h
        · have := Int.mul_le_mul_of_nonneg_right (show -w + 1 ≤ 1000 * R - v by omega) (show 0 ≤ 100 * R + a by omega)
          have e : (-w + 1) * (100 * R + a) = -((100 * R + a) * w) + (100 * R + a) := by grind
          omega
        · exact h
      have lohi : 100000 * (r * r) / (100 * R + u) ≤ -w := by
        have t := Int.mul_ediv_add_emod (100000 * (r * r)) (100 * R + u)
        have t2 := Int.emod_nonneg (100000 * (r * r)) (show 100 * R + u ≠ 0 by omega)
        generalize 100000 * (r * r) / (100 * R + u) = y at *
        rcases Int.lt_or_le (-w) y with h | h
        · have m := Int.mul_le_mul_of_nonneg_right (show -w + 1 ≤ y by omega) (show 0 ≤ 100 * R + a by omega)
          have e : (-w + 1) * (100 * R + a) = -((100 * R + a) * w) + (100 * R + a) := by grind
          have m2 := Int.mul_le_mul_of_nonneg_left (show 100 * R + a ≤ 100 * R + u by omega) lo0
          have e2 : y * (100 * R + u) = (100 * R + u) * y := Int.mul_comm ..
          omega
        · exact h
      have hi2 : -w ≤ 100000000 := by
        rcases Int.lt_or_le 100000000 (-w) with h | h
        · have m := Int.mul_le_mul_of_nonneg_right (show 100000000 ≤ -w - 1 by omega) (show 0 ≤ 100 * R + a by omega)
          have rr := Int.mul_le_mul_of_nonneg_right R1 (show 0 ≤ R by omega)
          have e : (-w - 1) * (100 * R + a) = -((100 * R + a) * w) - (100 * R + a) := by grind
          omega
        · exact h
      rw [if_pos rfl, if_pos rfl, within_base, Option.bind_some, if_pos (inR_t.2 (by omega)), if_pos hi2, within_base, Option.bind_some, if_pos (inR_t.2 (by omega)), w64_id (n := 1000 * R) (by omega) (by omega), w64_id (n := 1000 * R - b) (by omega) (by omega), w64_id (n := 1000 * R - v) (by omega) (by omega), if_pos lo1, decide_eq_true hi1]
    · rw [if_neg c2]
  · rw [if_neg c]
theorem vc_sagsmeet (a b : Int) : VC Go.Proofs.Try.prog 5 [vi a, vi b] (vb true) := nspeculumtop_TopSagsMeet_ok _ _ _ _ (law_sagsmeet a b)
end Go.Proofs.Ytojmekclegbndaa.Vg
