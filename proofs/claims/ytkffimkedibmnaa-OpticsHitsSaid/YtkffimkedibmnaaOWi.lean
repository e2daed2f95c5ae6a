/- Chapter 2, plain: where a ray meets a conic. -/
import Derived.Test.YtkffimkedibmnaaOWb
import Derived.Test.YtkffimkedibmnaaOWd
import Derived.Test.YtkffimkedibmnaaWI
set_option linter.unusedVariables false
set_option linter.unusedSimpArgs false
namespace Go.Proofs.Ytkffimkedibmnaa.Vg
open Go Go.Proofs.Ytkffimkedibmnaa.Ev Go.Proofs.Ytkffimkedibmnaa.Vv
theorem bisect_l (k : Nat) {a : Int} (ha : 0 ≤ a) (ha2 : a ≤ 3000000000000000000) : ∀ (n fuel : Nat) (x y : Int), 0 ≤ x → x ≤ y → y ≤ 2000000000 → x * x ≤ a → a < (y + 1) * (y + 1) → y - x < (n : Int) → n ≤ fuel → ∃ r, nspeculumref02_Root_l0_0 k a fuel x y = some r ∧ IsRt a r := by
  intro n
  induction n with
  | zero => intro fuel x y h1 h2 h3 h4 h5 h; omega
  | succ n ih =>
    intro fuel x y h1 h2 h3 h4 h5 h hf
    obtain ⟨g, rfl⟩ : ∃ g, fuel = g + 1 := ⟨fuel - 1, by omega⟩
    rw [nspeculumref02_Root_l0_0.eq_2]
    by_cases c : x < y
    · have e : w64 ((w64 ((w64 (x + y)) + 1)).tdiv 2) = (x + y + 1) / 2 := by
        rw [w64_id (n := x + y) (by omega) (by omega), w64_id (n := x + y + 1) (by omega) (by omega), tdiv_pos (by omega), w64_id (by omega) (by omega)]
      have hm := Int.mul_le_mul (show (x + y + 1) / 2 ≤ 2000000000 by omega) (show (x + y + 1) / 2 ≤ 2000000000 by omega) (show 0 ≤ (x + y + 1) / 2 by omega) (by decide)
      have hm0 := Int.mul_nonneg (show 0 ≤ (x + y + 1) / 2 by omega) (show 0 ≤ (x + y + 1) / 2 by omega)
      rw [if_pos c, e, w64_id (n := (x + y + 1) / 2 * _) (by omega) (by omega)]
      by_cases d : (x + y + 1) / 2 * ((x + y + 1) / 2) ≤ a
      · rw [if_pos d]
        exact ih g _ y (by omega) (by omega) h3 d h5 (by omega) (by omega)
      · rw [if_neg d, w64_id (by omega) (by omega)]
        refine ih g x _ h1 (by omega) (by omega) h4 ?_ (by omega) (by omega)
        rw [show (x + y + 1) / 2 - 1 + 1 = (x + y + 1) / 2 by omega]; omega
    · rw [if_neg c]
      obtain rfl : x = y := by omega
      exact ⟨x, rfl, h1, h4, h5⟩
theorem root_ref (k : Nat) (hk : 100000000000000000000 ≤ k) {a : Int} (ha : 0 ≤ a) (ha2 : a ≤ 3000000000000000000) : nspeculumref02_Root k a = some ⟨rtI a, upI a⟩ := by
  have h1 := rtI_le ha ha2
  have h2 := rtI_sq ha ha2
  obtain ⟨r, e1, e2⟩ := bisect_l k ha ha2 2000000002 k 0 2000000000 (by decide) (by decide) (by decide) (by omega) (by omega) (by decide) (by omega)
  have e3 := e2.unique (rtI_is ha ha2)
  subst e3
  unfold nspeculumref02_Root upI
  rw [e1, Option.bind_some, w64_id (by omega) (by omega)]
  by_cases c : rtI a * rtI a = a
  · rw [if_pos c, if_neg (by omega)]
  · have := e2.2.1
    rw [if_neg c, if_pos (by omega), w64_id (by omega) (by omega)]
theorem down_any (k : Nat) {x d : Int} (h1 : -4000000000000000000 ≤ x) (h2 : x ≤ 4000000000000000000) (hd : 0 < d) : noptics_down k x d = some (x / d) := by
  unfold noptics_down
  rw [if_pos (by omega)]
  rcases Int.lt_or_le x 0 with h | h
  · obtain ⟨y, rfl⟩ : ∃ y, x = -y := ⟨-x, by omega⟩
    have hq := div_le (n := y) (d := d) (by omega) hd
    have e0 := Int.mul_ediv_add_emod y d
    have m0 := Int.emod_nonneg y (show d ≠ 0 by omega)
    have m1 := Int.emod_lt_of_pos y hd
    rw [Int.neg_tmod, Int.neg_tdiv, tdiv_pos (by omega), Int.tmod_eq_emod_of_nonneg (by omega), w64_id (n := -(y / d)) (by omega) (by omega)]
    by_cases c : y % d = 0
    · rw [if_neg (by omega)]
      congr 1
      rw [show -y = 0 + d * (-(y / d)) by rw [Int.mul_neg]; omega, Int.add_mul_ediv_left _ _ (by omega)]; simp
    · rw [if_pos (by omega), w64_id (by omega) (by omega)]
      congr 1
      rw [show -y = (d - y % d) + d * (-(y / d) - 1) by rw [Int.mul_sub, Int.mul_neg]; omega, Int.add_mul_ediv_left _ _ (by omega), Int.ediv_eq_zero_of_lt (a := d - y % d) (b := d) (by omega) (by omega)]; omega
  · have hq := div_le (n := x) (d := d) h hd
    have m0 := Int.tmod_nonneg d h
    rw [if_neg (by omega), tdiv_pos h, w64_id (by omega) (by omega)]
theorem div_bd {x d : Int} (h1 : -4000000000000000000 ≤ x) (h2 : x ≤ 4000000000000000000) (hd : 0 < d) : -4000000000000000000 ≤ x / d ∧ x / d ≤ 4000000000000000000 := by
  constructor
  · apply Int.le_ediv_of_mul_le hd
    have := Int.mul_le_mul_of_nonneg_left (show 1 ≤ d by omega) (show (0 : Int) ≤ 4000000000000000000 by decide)
    omega
  · rcases Int.lt_or_le x 0 with h | h
    · have := Int.ediv_neg_of_neg_of_pos h hd; omega
    · have := div_le h hd; omega
theorem up_any (k : Nat) {x d : Int} (h1 : -4000000000000000000 ≤ x) (h2 : x ≤ 4000000000000000000) (hd : 0 < d) : noptics_up k x d = some (-((-x) / d)) := by
  have := div_bd (x := -x) (by omega) (by omega) hd
  unfold noptics_up
  rw [w64_id (n := 0 - x) (by omega) (by omega), show 0 - x = -x by omega, down_any k (by omega) (by omega) hd, Option.bind_some, w64_id (by omega) (by omega)]
  congr 1; omega
theorem floor_any (k : Nat) {x d : Int} (h1 : -4000000000000000000 ≤ x) (h2 : x ≤ 4000000000000000000) (hd : 0 < d) : nspeculumbase_Floor k x d = some (x / d) := down_any k h1 h2 hd
theorem ceil_any (k : Nat) {x d : Int} (h1 : -4000000000000000000 ≤ x) (h2 : x ≤ 4000000000000000000) (hd : 0 < d) : nspeculumbase_Ceil k x d = some (-((-x) / d)) := up_any k h1 h2 hd
def rayE (c : SConic) : Int := if conE c = 0 then (if inR (-200000) 200000 c.Radius = true ∧ inR (-10) 10 c.K.Num = true ∧ c.K.Den ≤ 10 then 0 else 2) else conE c
theorem ray_opt (k : Nat) (hk : 100000000000000000000 ≤ k) {c : SConic} (h : IC c) : noptics_checkRayConic k c = some (rayE c) := by
  unfold noptics_checkRayConic rayE
  rw [conic_opt k hk h, Option.bind_some]
  by_cases c0 : conE c = 0
  · rw [if_pos c0, if_pos c0, sized_any k _ (by decide) (by decide), Option.bind_some]
    by_cases h1 : inR (-200000) 200000 c.Radius = true
    · rw [if_pos h1, sized_any k _ (by decide) (by decide), Option.bind_some]
      by_cases h2 : inR (-10) 10 c.K.Num = true
      · rw [if_pos h2]
        by_cases h3 : 10 < c.K.Den
        · rw [if_pos h3, if_neg (fun hh => by have := hh.2.2; omega)]
        · rw [if_neg h3, if_pos ⟨h1, h2, by omega⟩]
      · rw [if_neg h2, if_neg (fun hh => h2 hh.2.1)]
    · rw [if_neg h1, if_neg (fun hh => h1 hh.1)]
  · rw [if_neg c0, if_neg c0]
theorem ray_ref (k : Nat) (hk : 100000000000000000000 ≤ k) {c : SConic} (h : IC c) : nspeculumref02_CheckRays k c = some (rayE c) := by
  unfold nspeculumref02_CheckRays rayE
  rw [conic_ref k hk h, Option.bind_some]
  by_cases c0 : conE c = 0
  · rw [if_pos c0, if_pos c0, within_base, Option.bind_some]
    by_cases h1 : inR (-200000) 200000 c.Radius = true
    · rw [if_pos h1, within_base, Option.bind_some]
      by_cases h2 : inR (-10) 10 c.K.Num = true
      · rw [if_pos h2]
        by_cases h3 : 10 < c.K.Den
        · rw [if_pos h3, if_neg (fun hh => by have := hh.2.2; omega)]
        · rw [if_neg h3, if_pos ⟨h1, h2, by omega⟩]
      · rw [if_neg h2, if_neg (fun hh => h2 hh.2.1)]
    · rw [if_neg h1, if_neg (fun hh => h1 hh.1)]
  · rw [if_neg c0, if_neg c0]
structure RY (c : SConic) : Prop where
  r : -200000 ≤ c.Radius ∧ c.Radius ≤ 200000
  n : -10 ≤ c.K.Num ∧ c.K.Num ≤ 10
  d : 0 < c.K.Den ∧ c.K.Den ≤ 10
  g : gcF c.K = 1
theorem RY.of {c : SConic} (h : rayE c = 0) : RY c := by
  unfold rayE at h
  split at h
  · rename_i h0
    split at h
    · rename_i hh
      unfold conE at h0
      split at h0
      · cases h0
      · split at h0
        · cases h0
        · rename_i hl
          have hl : lowB c.K = true := by cases e : lowB c.K with
            | true => rfl
            | false => exact absurd e hl
          unfold lowB at hl
          simp only [Bool.and_eq_true, decide_eq_true_eq] at hl
          exact ⟨inR_t.1 hh.1, inR_t.1 hh.2.1, ⟨hl.1, hh.2.2⟩, hl.2⟩
    · cases h
  · rename_i h0; exact absurd h h0
def ryE (y : SRay) : Int := if inR (-100000) 100000 y.R = true ∧ inR (-100000) 100000 y.Z = true ∧ inR (-100) 100 y.ToR = true ∧ inR (-100) 100 y.ToZ = true then (if y.ToR = 0 ∧ y.ToZ = 0 then 11 else 0) else 2
theorem rayv_opt (k : Nat) (y : SRay) : noptics_checkRay k y = some (ryE y) := by
  have bad : ¬ (inR (-100000) 100000 y.R = true ∧ inR (-100000) 100000 y.Z = true ∧ inR (-100) 100 y.ToR = true ∧ inR (-100) 100 y.ToZ = true) → ryE y = 2 := fun h => if_neg h
  unfold noptics_checkRay
  rw [sized_any k _ (by decide) (by decide), sized_any k _ (by decide) (by decide), sized_any k _ (by decide) (by decide), sized_any k _ (by decide) (by decide)]
  simp only [Option.bind_some]
  by_cases h1 : inR (-100000) 100000 y.R = true
  · rw [if_pos h1]
    by_cases h3 : inR (-100) 100 y.ToR = true
    · rw [if_pos h3]
      by_cases h2 : inR (-100000) 100000 y.Z = true
      · rw [if_pos h2]
        by_cases h4 : inR (-100) 100 y.ToZ = true
        · rw [if_pos h4, show ryE y = (if y.ToR = 0 ∧ y.ToZ = 0 then 11 else 0) from if_pos ⟨h1, h2, h3, h4⟩]
          by_cases h5 : y.ToR = 0 ∧ y.ToZ = 0
          · rw [if_pos h5, h5.1, h5.2]; rfl
          · rw [if_neg h5, if_neg (fun hh => by
              simp only [Bool.and_eq_true, beq_iff_eq] at hh
              exact h5 ⟨hh.1, hh.2.1⟩)]
        · rw [if_neg h4, bad (fun h => h4 h.2.2.2)]
      · rw [if_neg h2, bad (fun h => h2 h.2.1)]
    · rw [if_neg h3, bad (fun h => h3 h.2.2.1)]
      split <;> rfl
  · rw [if_neg h1, bad (fun h => h1 h.1)]
    split <;> rfl
theorem rayv_ref (k : Nat) (y : SRay) : nspeculumref02_CheckRay k y = some (ryE y) := by
  have bad : ¬ (inR (-100000) 100000 y.R = true ∧ inR (-100000) 100000 y.Z = true ∧ inR (-100) 100 y.ToR = true ∧ inR (-100) 100 y.ToZ = true) → ryE y = 2 := fun h => if_neg h
  unfold nspeculumref02_CheckRay
  rw [within_base, within_base, within_base, within_base]
  simp only [Option.bind_some]
  by_cases h1 : inR (-100000) 100000 y.R = true
  · rw [if_pos h1]
    by_cases h2 : inR (-100000) 100000 y.Z = true
    · rw [if_pos h2]
      by_cases h3 : inR (-100) 100 y.ToR = true
      · rw [if_pos h3]
        by_cases h4 : inR (-100) 100 y.ToZ = true
        · rw [if_pos h4, show ryE y = (if y.ToR = 0 ∧ y.ToZ = 0 then 11 else 0) from if_pos ⟨h1, h2, h3, h4⟩]
          by_cases h5 : y.ToR = 0
          · rw [if_pos h5]
            by_cases h6 : y.ToZ = 0
            · rw [if_pos h6, if_pos ⟨h5, h6⟩]
            · rw [if_neg h6, if_neg (fun h => h6 h.2)]
          · rw [if_neg h5, if_neg (fun h => h5 h.1)]
        · rw [if_neg h4, bad (fun h => h4 h.2.2.2)]
      · rw [if_neg h3, bad (fun h => h3 h.2.2.1)]
    · rw [if_neg h2, bad (fun h => h2 h.2.1)]
  · rw [if_neg h1, bad (fun h => h1 h.1)]
structure RR (y : SRay) : Prop where
  r : -100000 ≤ y.R ∧ y.R ≤ 100000
  z : -100000 ≤ y.Z ∧ y.Z ≤ 100000
  tr : -100 ≤ y.ToR ∧ y.ToR ≤ 100
  tz : -100 ≤ y.ToZ ∧ y.ToZ ≤ 100
theorem RR.of {y : SRay} (h : ryE y = 0) : RR y := by
  unfold ryE at h
  split at h
  · rename_i hh; exact ⟨inR_t.1 hh.1, inR_t.1 hh.2.1, inR_t.1 hh.2.2.1, inR_t.1 hh.2.2.2⟩
  · cases h
theorem pb {x y X Y : Int} (hx : -X ≤ x ∧ x ≤ X) (hy : -Y ≤ y ∧ y ≤ Y) : -(X * Y) ≤ x * y ∧ x * y ≤ X * Y := by
  have hX : 0 ≤ X := by omega
  have hY : 0 ≤ Y := by omega
  have e : (x * y).natAbs = x.natAbs * y.natAbs := Int.natAbs_mul x y
  have m := Nat.mul_le_mul (show x.natAbs ≤ X.natAbs by omega) (show y.natAbs ≤ Y.natAbs by omega)
  have e2 : (X * Y).natAbs = X.natAbs * Y.natAbs := Int.natAbs_mul X Y
  have p := Int.mul_nonneg hX hY
  omega
/-- the two solutions, of both. -/
theorem sol_both (k : Nat) (hk : 100000000000000000000 ≤ k) {a b c : Int} (ha : 0 < a ∧ a ≤ 1000000) (hb : -1000000000 ≤ b ∧ b ≤ 1000000000) (hc : -1000000000000 ≤ c ∧ c ≤ 1000000000000) :
    ∃ r, n_optics_equation_solutions k ⟨a, b, c⟩ = some r ∧ (if (w64 ((w64 (b * b)) - (w64 (a * c)))) < 0 then (some ((⟨⟨0, 0⟩, ⟨0, 0⟩⟩ : A53), 12)) else ((nspeculumref02_Root k (w64 ((w64 (b * b)) - (w64 (a * c))))).bind fun r2272 => ((nspeculumbase_Floor k (w64 (1000000 * (w64 ((w64 (0 - b)) - r2272.Hi)))) a).bind fun r2275 => ((nspeculumbase_Ceil k (w64 (1000000 * (w64 ((w64 (0 - b)) - r2272.Lo)))) a).bind fun r2278 => ((nspeculumbase_Floor k (w64 (1000000 * (w64 ((w64 (0 - b)) + r2272.Lo)))) a).bind fun r2282 => ((nspeculumbase_Ceil k (w64 (1000000 * (w64 ((w64 (0 - b)) + r2272.Hi)))) a).bind fun r2285 => (some ((⟨(⟨r2275, r2278⟩ : SRange), (⟨r2282, r2285⟩ : SRange)⟩ : A53), 0)))))))) = some r := by
  have p1 := pb hb hb
  have p2 := pb (x := a) (X := 1000000) (by omega) hc
  unfold n_optics_equation_solutions
  dsimp only
  rw [w64_id (n := b * b) (by omega) (by omega), w64_id (n := a * c) (by omega) (by omega), w64_id (n := b * b - a * c) (by omega) (by omega), w64_id (n := 0 - b) (by omega) (by omega)]
  by_cases d : b * b - a * c < 0
  · rw [if_pos d, if_pos d]; exact ⟨_, rfl, rfl⟩
  · have h0 : 0 ≤ b * b - a * c := by omega
    have h1 : b * b - a * c ≤ 3000000000000000000 := by omega
    have l1 := rtI_le h0 h1
    have l2 := upI_le h0 h1
    rw [if_neg d, if_neg d, rootDown_any k hk h0 h1, Option.bind_some, rootUp_any k hk h0 h1, Option.bind_some, root_ref k hk h0 h1, Option.bind_some]
    dsimp only
    generalize rtI (b * b - a * c) = r at *
    generalize upI (b * b - a * c) = u at *
    rw [w64_id (n := 0 - b - u) (by omega) (by omega), w64_id (n := 0 - b - r) (by omega) (by omega), w64_id (n := 0 - b + r) (by omega) (by omega), w64_id (n := 0 - b + u) (by omega) (by omega), Int.mul_comm 1000000 (0 - b - u), Int.mul_comm 1000000 (0 - b - r), Int.mul_comm 1000000 (0 - b + r), Int.mul_comm 1000000 (0 - b + u), w64_id (n := (0 - b - u) * 1000000) (by omega) (by omega), w64_id (n := (0 - b - r) * 1000000) (by omega) (by omega), w64_id (n := (0 - b + r) * 1000000) (by omega) (by omega), w64_id (n := (0 - b + u) * 1000000) (by omega) (by omega), down_any k (by omega) (by omega) ha.1, Option.bind_some, up_any k (by omega) (by omega) ha.1, Option.bind_some, down_any k (by omega) (by omega) ha.1, Option.bind_some, up_any k (by omega) (by omega) ha.1, Option.bind_some, floor_any k (by omega) (by omega) ha.1, Option.bind_some, ceil_any k (by omega) (by omega) ha.1, Option.bind_some, floor_any k (by omega) (by omega) ha.1, Option.bind_some, ceil_any k (by omega) (by omega) ha.1, Option.bind_some]
    exact ⟨_, rfl, rfl⟩
theorem only_both (k : Nat) {a b c : Int} (hb : -1000000000 ≤ b ∧ b ≤ 1000000000) (hc : -1000000000000 ≤ c ∧ c ≤ 1000000000000) :
    ∃ r, n_optics_equation_onlySolution k ⟨a, b, c⟩ = some r ∧ (if b = 0 then (some ((⟨⟨0, 0⟩, ⟨0, 0⟩⟩ : A53), 12)) else (if (w64 (2 * b)) < 0 then ((nspeculumbase_Floor k (w64 (1000000 * (w64 (0 - (w64 (0 - c)))))) (w64 (0 - (w64 (2 * b))))).bind fun r2237 => ((nspeculumbase_Ceil k (w64 (1000000 * (w64 (0 - (w64 (0 - c)))))) (w64 (0 - (w64 (2 * b))))).bind fun r2240 => (some ((⟨(⟨r2237, r2240⟩ : SRange), (⟨r2237, r2240⟩ : SRange)⟩ : A53), 0)))) else ((nspeculumbase_Floor k (w64 (1000000 * (w64 (0 - c)))) (w64 (2 * b))).bind fun r2244 => ((nspeculumbase_Ceil k (w64 (1000000 * (w64 (0 - c)))) (w64 (2 * b))).bind fun r2247 => (some ((⟨(⟨r2244, r2247⟩ : SRange), (⟨r2244, r2247⟩ : SRange)⟩ : A53), 0)))))) = some r := by
  unfold n_optics_equation_onlySolution
  dsimp only
  by_cases z : b = 0
  · rw [if_pos z, if_pos z]; exact ⟨_, rfl, rfl⟩
  · rw [if_neg z, if_neg z, w64_id (n := 2 * b) (by omega) (by omega), w64_id (n := 0 - c) (by omega) (by omega), w64_id (n := 0 - 2 * b) (by omega) (by omega), w64_id (n := (0 - c) * 1000000) (by omega) (by omega), w64_id (n := 0 - (0 - c) * 1000000) (by omega) (by omega), w64_id (n := 0 - (0 - c)) (by omega) (by omega), Int.mul_comm 1000000 (0 - (0 - c)), Int.mul_comm 1000000 (0 - c), w64_id (n := (0 - (0 - c)) * 1000000) (by omega) (by omega), w64_id (n := (0 - c) * 1000000) (by omega) (by omega), show (0 - (0 - c)) * 1000000 = 0 - (0 - c) * 1000000 by omega]
    by_cases d : 2 * b < 0
    · rw [if_pos d, if_pos d, down_any k (by omega) (by omega) (by omega), Option.bind_some, up_any k (by omega) (by omega) (by omega), Option.bind_some, floor_any k (by omega) (by omega) (by omega), Option.bind_some, ceil_any k (by omega) (by omega) (by omega), Option.bind_some]
      exact ⟨_, rfl, rfl⟩
    · rw [if_neg d, if_neg d, down_any k (by omega) (by omega) (by omega), Option.bind_some, up_any k (by omega) (by omega) (by omega), Option.bind_some, floor_any k (by omega) (by omega) (by omega), Option.bind_some, ceil_any k (by omega) (by omega) (by omega), Option.bind_some]
      exact ⟨_, rfl, rfl⟩
theorem hit_both (k : Nat) (hk : 100000000000000000000 ≤ k) {c : SConic} {y : SRay} (hc : IC c) (h1 : rayE c = 0) (h2 : ryE y = 0) : ∃ r, noptics_Hit k c y = some r ∧ nspeculumref02_Hit k c y = some r := by
  have Y := RY.of h1
  have R := RR.of h2
  obtain ⟨⟨yr1, yr2⟩, ⟨n1, n2⟩, ⟨d1, d2⟩, _⟩ := Y
  obtain ⟨⟨r1, r2⟩, ⟨z1, z2⟩, ⟨t1, t2⟩, ⟨u1, u2⟩⟩ := R
  unfold noptics_Hit nspeculumref02_Hit noptics_meeting noptics_shape nspeculumref02_OnePlus
  rw [ray_opt k hk hc, Option.bind_some, rayv_opt, Option.bind_some, h1, h2, first_two k hk, Option.bind_some, if_pos rfl, if_pos rfl, Option.bind_some, Option.bind_some]
  dsimp only
  rw [w64_id (n := c.K.Num + c.K.Den) (by omega) (by omega)]
  generalize hs : c.K.Num + c.K.Den = s
  generalize hq : c.K.Den = q at *
  have bs : -20 ≤ s ∧ s ≤ 20 := by omega
  have bq : -10 ≤ q ∧ q ≤ 10 := by omega
  have bA : -1000000 ≤ (w64 ((w64 ((w64 (q * y.ToR)) * y.ToR)) + (w64 ((w64 (s * y.ToZ)) * y.ToZ)))) ∧ (w64 ((w64 ((w64 (q * y.ToR)) * y.ToR)) + (w64 ((w64 (s * y.ToZ)) * y.ToZ)))) ≤ 1000000 := by
    have m1 := pb bq ⟨t1, t2⟩
    have m2 := pb m1 ⟨t1, t2⟩
    have m3 := pb bs ⟨u1, u2⟩
    have m4 := pb m3 ⟨u1, u2⟩
    rw [w64_id (n := q * y.ToR) (by omega) (by omega), w64_id (n := q * y.ToR * y.ToR) (by omega) (by omega), w64_id (n := s * y.ToZ) (by omega) (by omega), w64_id (n := s * y.ToZ * y.ToZ) (by omega) (by omega), w64_id (by omega) (by omega)]
    omega
  have bB : -1000000000 ≤ (w64 ((w64 (q * (w64 ((w64 (y.R * y.ToR)) - (w64 (c.Radius * y.ToZ)))))) + (w64 ((w64 (s * y.Z)) * y.ToZ)))) ∧ (w64 ((w64 (q * (w64 ((w64 (y.R * y.ToR)) - (w64 (c.Radius * y.ToZ)))))) + (w64 ((w64 (s * y.Z)) * y.ToZ)))) ≤ 1000000000 := by
    have m1 := pb ⟨r1, r2⟩ ⟨t1, t2⟩
    have m2 := pb ⟨yr1, yr2⟩ ⟨u1, u2⟩
    have m3 := pb bs ⟨z1, z2⟩
    have m4 := pb m3 ⟨u1, u2⟩
    have m5 := pb (x := q) (y := y.R * y.ToR - c.Radius * y.ToZ) (Y := 30000000) bq (by omega)
    rw [w64_id (n := y.R * y.ToR) (by omega) (by omega), w64_id (n := c.Radius * y.ToZ) (by omega) (by omega), w64_id (n := y.R * y.ToR - c.Radius * y.ToZ) (by omega) (by omega), w64_id (n := q * (y.R * y.ToR - c.Radius * y.ToZ)) (by omega) (by omega), w64_id (n := s * y.Z) (by omega) (by omega), w64_id (n := s * y.Z * y.ToZ) (by omega) (by omega), w64_id (by omega) (by omega)]
    omega
  have bC : -1000000000000 ≤ (w64 ((w64 ((w64 ((w64 (q * y.R)) * y.R)) - (w64 ((w64 ((w64 (2 * q)) * c.Radius)) * y.Z)))) + (w64 ((w64 (s * y.Z)) * y.Z)))) ∧ (w64 ((w64 ((w64 ((w64 (q * y.R)) * y.R)) - (w64 ((w64 ((w64 (2 * q)) * c.Radius)) * y.Z)))) + (w64 ((w64 (s * y.Z)) * y.Z)))) ≤ 1000000000000 := by
    have m1 := pb bq ⟨r1, r2⟩
    have m2 := pb m1 ⟨r1, r2⟩
    have m3 := pb (x := 2 * q) (X := 20) (by omega) ⟨yr1, yr2⟩
    have m4 := pb m3 ⟨z1, z2⟩
    have m5 := pb bs ⟨z1, z2⟩
    have m6 := pb m5 ⟨z1, z2⟩
    rw [w64_id (n := q * y.R) (by omega) (by omega), w64_id (n := q * y.R * y.R) (by omega) (by omega), w64_id (n := 2 * q) (by omega) (by omega), w64_id (n := 2 * q * c.Radius) (by omega) (by omega), w64_id (n := 2 * q * c.Radius * y.Z) (by omega) (by omega), w64_id (n := q * y.R * y.R - 2 * q * c.Radius * y.Z) (by omega) (by omega), w64_id (n := s * y.Z) (by omega) (by omega), w64_id (n := s * y.Z * y.Z) (by omega) (by omega), w64_id (by omega) (by omega)]
    omega
  generalize (w64 ((w64 ((w64 (q * y.ToR)) * y.ToR)) + (w64 ((w64 (s * y.ToZ)) * y.ToZ)))) = A at *
  generalize (w64 ((w64 (q * (w64 ((w64 (y.R * y.ToR)) - (w64 (c.Radius * y.ToZ)))))) + (w64 ((w64 (s * y.Z)) * y.ToZ)))) = B at *
  generalize (w64 ((w64 ((w64 ((w64 (q * y.R)) * y.R)) - (w64 ((w64 ((w64 (2 * q)) * c.Radius)) * y.Z)))) + (w64 ((w64 (s * y.Z)) * y.Z)))) = C at *
  by_cases a0 : A = 0
  · rw [if_neg (show ¬ A < 0 by omega), Option.bind_some, if_pos a0, if_pos a0]
    obtain ⟨r, e1, e2⟩ := only_both k (a := A) bB bC
    rw [e1, Option.bind_some]
    exact ⟨_, rfl, e2⟩
  · rw [if_neg a0]
    by_cases a1 : A < 0
    · have ea : w64 (0 - A) = 0 - A := w64_id (by omega) (by omega)
      have eb : w64 (0 - B) = 0 - B := w64_id (by omega) (by omega)
      have ec : w64 (0 - C) = 0 - C := w64_id (by omega) (by omega)
      rw [if_pos a1, if_pos a1, Option.bind_some]
      dsimp only
      rw [ea, eb, ec, if_neg (show ¬ 0 - A = 0 by omega)]
      obtain ⟨r, e1, e2⟩ := sol_both k hk (a := 0 - A) (b := 0 - B) (c := 0 - C) (by omega) (by omega) (by omega)
      rw [e1, Option.bind_some]
      exact ⟨_, rfl, e2⟩
    · rw [if_neg a1, if_neg a1, Option.bind_some]
      dsimp only
      rw [if_neg a0]
      obtain ⟨r, e1, e2⟩ := sol_both k hk (a := A) (b := B) (c := C) (by omega) bB bC
      rw [e1, Option.bind_some]
      exact ⟨_, rfl, e2⟩
theorem law_hits (c : SConic) (y : SRay) (hc : IC c) : nspeculumlaw02_OpticsHits big c y = some true := by
  have hk : 100000000000000000000 ≤ big := by decide
  unfold nspeculumlaw02_OpticsHits
  rw [awake_big, Option.bind_some, if_pos rfl, ray_ref _ hk hc, rayv_ref]
  by_cases h1 : rayE c = 0
  · by_cases h2 : ryE y = 0
    · obtain ⟨r, r1, r2⟩ := hit_both big hk hc h1 h2
      rw [r1, Option.bind_some, Option.bind_some, if_pos h1, Option.bind_some, if_pos h2, r2, Option.bind_some, if_pos rfl]
      simp
    · have : noptics_Hit big c y = some (⟨⟨0, 0⟩, ⟨0, 0⟩⟩, ryE y) := by
        unfold noptics_Hit
        rw [ray_opt _ hk hc, Option.bind_some, rayv_opt, Option.bind_some, first_two _ hk, Option.bind_some, if_pos h1, if_neg h2]
      rw [this, Option.bind_some, Option.bind_some, if_pos h1, Option.bind_some, if_neg h2, if_pos rfl]
      rfl
  · have : noptics_Hit big c y = some (⟨⟨0, 0⟩, ⟨0, 0⟩⟩, rayE c) := by
      unfold noptics_Hit
      rw [ray_opt _ hk hc, Option.bind_some, rayv_opt, Option.bind_some, first_two _ hk, Option.bind_some, if_neg h1, if_neg h1]
    rw [this, Option.bind_some, Option.bind_some, if_neg h1, if_pos rfl]
    rfl
theorem vc_hits (c : SConic) (y : SRay) (hc : ((Vv.In64 c.Radius) ∧ ((Vv.In64 c.K.Num) ∧ (Vv.In64 c.K.Den)))) : VC Go.Proofs.Try.prog 6 [VV.ag (c_SConic c), VV.ag (c_SRay y)] (vb true) := nspeculumlaw02_OpticsHits_ok _ _ _ _ (law_hits c y ⟨hc.1, hc.2.1, hc.2.2⟩)
end Go.Proofs.Ytkffimkedibmnaa.Vg
