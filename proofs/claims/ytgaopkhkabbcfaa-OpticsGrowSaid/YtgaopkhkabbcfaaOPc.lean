/- Chapter 2, plain: sags and slopes of both. -/
import Derived.Test.YtgaopkhkabbcfaaOPb
set_option linter.unusedVariables false
set_option linter.unusedSimpArgs false
namespace Go.Proofs.Ytgaopkhkabbcfaa.Vg
open Go Go.Proofs.Ytgaopkhkabbcfaa.Ev Go.Proofs.Ytgaopkhkabbcfaa.Vv
/-- a right conic. -/
structure RC (c : SConic) : Prop where
  r0 : c.Radius ≠ 0
  r : -10000000 ≤ c.Radius ∧ c.Radius ≤ 10000000
  n : -100 ≤ c.K.Num ∧ c.K.Num ≤ 100
  d : 1 ≤ c.K.Den ∧ c.K.Den ≤ 100
theorem RC.of {c : SConic} (h : conE c = 0) : RC c := by
  unfold conE at h
  split at h
  · cases h
  · rename_i h1
    split at h
    · cases h
    · rename_i h2
      split at h
      · rename_i h3
        have hl : lowB c.K = true := by cases hb : lowB c.K with
          | true => rfl
          | false => exact absurd hb h2
        unfold lowB at hl
        simp only [Bool.and_eq_true, decide_eq_true_eq] at hl
        have hr : inR (-10000000) 10000000 c.Radius = true := by
          cases hb : inR (-10000000) 10000000 c.Radius with
          | true => rfl
          | false => exact absurd (.inr hb) h1
        exact ⟨fun e => h1 (.inl e), inR_t.1 hr, inR_t.1 h3.1, by omega, h3.2⟩
      · cases h
/-- 1 + K, times the denominator. -/
def sC (c : SConic) : Int := c.K.Num + c.K.Den
theorem RC.s {c : SConic} (h : RC c) : -99 ≤ sC c ∧ sC c ≤ 200 := by have := h.n; have := h.d; unfold sC; omega
theorem sq_bd {x B : Int} (h1 : -B ≤ x) (h2 : x ≤ B) : 0 ≤ x * x ∧ x * x ≤ B * B := by
  refine ⟨?_, ?_⟩
  · rcases Int.le_total 0 x with h | h
    · exact Int.mul_nonneg h h
    · exact Int.mul_nonneg_of_nonpos_of_nonpos h h
  · rcases Int.le_total 0 x with h | h
    · exact Int.mul_le_mul h2 h2 h (by omega)
    · have := Int.mul_le_mul (show -x ≤ B by omega) (show -x ≤ B by omega) (show 0 ≤ -x by omega) (by omega)
      rwa [Int.neg_mul_neg] at this
theorem mul_bd {x y A B : Int} (h1 : -A ≤ x) (h2 : x ≤ A) (h3 : 0 ≤ y) (h4 : y ≤ B) (hA : 0 ≤ A) : -(A * B) ≤ x * y ∧ x * y ≤ A * B := by
  have h5 := Int.mul_le_mul_of_nonneg_right h1 h3
  have h6 := Int.mul_le_mul_of_nonneg_right h2 h3
  have h7 := Int.mul_le_mul_of_nonneg_left h4 hA
  rw [Int.neg_mul] at h5
  omega
/-- the two sides of 'beyond the edge'. -/
theorem RC.sides {c : SConic} (h : RC c) {r : Int} (hr : 0 ≤ r ∧ r ≤ 1000000) : (0 ≤ c.Radius * c.Radius ∧ c.Radius * c.Radius ≤ 100000000000000) ∧ (0 ≤ r * r ∧ r * r ≤ 1000000000000) ∧ (-200000000000000 ≤ sC c * (r * r) ∧ sC c * (r * r) ≤ 200000000000000) ∧ (0 ≤ c.K.Den * (c.Radius * c.Radius) ∧ c.K.Den * (c.Radius * c.Radius) ≤ 10000000000000000) := by
  have h1 := sq_bd h.r.1 h.r.2
  have h2 := sq_bd (x := r) (B := 1000000) (by omega) hr.2
  have hs := h.s
  have h3 := mul_bd (x := sC c) (A := 200) (y := r * r) (B := 1000000000000) (by omega) hs.2 h2.1 (by omega) (by decide)
  have h4 := mul_bd (x := c.K.Den) (A := 100) (y := c.Radius * c.Radius) (B := 100000000000000) (by have := h.d; omega) h.d.2 h1.1 (by omega) (by decide)
  have h5 := Int.mul_nonneg (show 0 ≤ c.K.Den by have := h.d; omega) h1.1
  omega
def beyB (c : SConic) (r : Int) : Bool := decide (c.K.Den * (c.Radius * c.Radius) < sC c * (r * r))
theorem w_shape {c : SConic} (h : RC c) : w64 (c.K.Num + c.K.Den) = sC c := by
  have := h.n; have := h.d
  exact w64_id (by omega) (by omega)
theorem bey_any {c : SConic} (h : RC c) {r : Int} (hr : 0 ≤ r ∧ r ≤ 1000000) : decide ((w64 ((w64 (c.K.Den * c.Radius)) * c.Radius)) < (w64 ((w64 (sC c * r)) * r))) = beyB c r := by
  obtain ⟨h1, h2, h3, h4⟩ := h.sides hr
  have hs := h.s; have hd := h.d; have hR := h.r
  have a1 := mul_bd (x := c.Radius) (A := 10000000) (y := c.K.Den) (B := 100) (by omega) hR.2 (by omega) hd.2 (by decide)
  have a2 := mul_bd (x := sC c) (A := 200) (y := r) (B := 1000000) (by omega) hs.2 hr.1 hr.2 (by decide)
  rw [Int.mul_comm c.Radius] at a1
  unfold beyB
  rw [w64_id (n := c.K.Den * c.Radius) (by omega) (by omega), w64_id (n := sC c * r) (by omega) (by omega), Int.mul_assoc, Int.mul_assoc, w64_id (by omega) (by omega), w64_id (by omega) (by omega)]
theorem beyond_opt (k : Nat) {c : SConic} (h : RC c) {r : Int} (hr : 0 ≤ r ∧ r ≤ 1000000) : noptics_isBeyond k c r = some (beyB c r) := by
  unfold noptics_isBeyond noptics_shape
  rw [w_shape h, Option.bind_some, bey_any h hr]
theorem beyond_ref (k : Nat) {c : SConic} (h : RC c) {r : Int} (hr : 0 ≤ r ∧ r ≤ 1000000) : nspeculumref02_Beyond k c r = some (beyB c r) := by
  unfold nspeculumref02_Beyond nspeculumref02_OnePlus
  rw [w_shape h, Option.bind_some, bey_any h hr]
def plE (c : SConic) (r : Int) : Int := if inR 0 1000000 r = true then (if beyB c r = true then 12 else 0) else 2
theorem place_ref (k : Nat) {c : SConic} (h : RC c) (r : Int) : nspeculumref02_place k c r = some (plE c r) := by
  unfold nspeculumref02_place plE
  rw [within_base, Option.bind_some]
  by_cases hr : inR 0 1000000 r = true
  · rw [if_pos hr, if_pos hr, beyond_ref k h (inR_t.1 hr), Option.bind_some]; split <;> rfl
  · rw [if_neg hr, if_neg hr]
theorem place_opt (k : Nat) (hk : 100000000000000000000 ≤ k) {c : SConic} (hc : IC c) (r : Int) : noptics_checkPlace k c r = some (if conE c = 0 then plE c r else conE c) := by
  unfold noptics_checkPlace
  rw [conic_opt k hk hc, Option.bind_some]
  by_cases h : conE c = 0
  · rw [if_pos h, if_pos h, within_opt, Option.bind_some]
    unfold plE
    by_cases hr : inR 0 1000000 r = true
    · rw [if_pos hr, if_pos hr, beyond_opt k (RC.of h) (inR_t.1 hr), Option.bind_some]; split <;> rfl
    · rw [if_neg hr, if_neg hr]
  · rw [if_neg h, if_neg h]
/-- 10000 (1 + K) r r, times the denominator. -/
def lessC (c : SConic) (r : Int) : Int := 10000 * (sC c * (r * r))
def radLo (c : SConic) (r : Int) : Int := 10000 * (c.Radius * c.Radius) - -((-(lessC c r)) / c.K.Den)
def radHi (c : SConic) (r : Int) : Int := 10000 * (c.Radius * c.Radius) - lessC c r / c.K.Den
noncomputable def rad (c : SConic) (r : Int) : SRange := ⟨rtI (radLo c r), upI (radHi c r)⟩
/-- a place that is not beyond the edge. -/
structure Pl (c : SConic) (r : Int) : Prop where
  rc : RC c
  rr : 0 ≤ r ∧ r ≤ 1000000
  bb : sC c * (r * r) ≤ c.K.Den * (c.Radius * c.Radius)
theorem Pl.of {c : SConic} (h : RC c) {r : Int} (hp : plE c r = 0) : Pl c r := by
  unfold plE at hp
  split at hp
  · rename_i h1
    split at hp
    · cases hp
    · rename_i h2
      refine ⟨h, inR_t.1 h1, ?_⟩
      unfold beyB at h2
      simp only [decide_eq_true_eq] at h2
      omega
  · cases hp
theorem Pl.rads {c : SConic} {r : Int} (p : Pl c r) : (-2000000000000000000 ≤ lessC c r ∧ lessC c r ≤ 2000000000000000000) ∧ (0 ≤ radLo c r ∧ radLo c r ≤ 3000000000000000000) ∧ (0 ≤ radHi c r ∧ radHi c r ≤ 3000000000000000000) ∧ radLo c r ≤ radHi c r := by
  obtain ⟨h1, h2, h3, h4⟩ := p.rc.sides p.rr
  have hd := p.rc.d
  have hb := p.bb
  have hl : -2000000000000000000 ≤ lessC c r ∧ lessC c r ≤ 2000000000000000000 := by unfold lessC; omega
  have e0 := Int.mul_ediv_add_emod (lessC c r) c.K.Den
  have m0 := Int.emod_nonneg (lessC c r) (show c.K.Den ≠ 0 by omega)
  have e1 := Int.mul_ediv_add_emod (-lessC c r) c.K.Den
  have m1 := Int.emod_nonneg (-lessC c r) (show c.K.Den ≠ 0 by omega)
  have e2 : -(10000 * (c.Radius * c.Radius)) ≤ (-lessC c r) / c.K.Den := Int.le_ediv_of_mul_le (by omega) (by
    rw [Int.neg_mul, Int.mul_assoc, Int.mul_comm (c.Radius * c.Radius)]; unfold lessC; omega)
  have e3 : lessC c r / c.K.Den ≤ 10000 * (c.Radius * c.Radius) := Int.ediv_le_of_le_mul (by omega) (by
    rw [Int.mul_assoc, Int.mul_comm (c.Radius * c.Radius)]; unfold lessC; omega)
  have e4 : (-lessC c r) / c.K.Den ≤ 2000000000000000000 := by
    rcases Int.lt_or_le (-lessC c r) 0 with h | h
    · have := Int.ediv_neg_of_neg_of_pos h (show 0 < c.K.Den by omega); omega
    · have := div_le h (show 0 < c.K.Den by omega); omega
  have e5 : -2000000000000000000 ≤ lessC c r / c.K.Den := Int.le_ediv_of_mul_le (by omega) (by
    have := Int.mul_le_mul_of_nonneg_left (show 1 ≤ c.K.Den by omega) (show (0 : Int) ≤ 2000000000000000000 by decide)
    omega)
  have e6 : lessC c r / c.K.Den ≤ -((-lessC c r) / c.K.Den) := by
    have h5 : c.K.Den * (lessC c r / c.K.Den + (-lessC c r) / c.K.Den) ≤ 0 := by rw [Int.mul_add]; omega
    rcases Int.lt_or_le 0 (lessC c r / c.K.Den + (-lessC c r) / c.K.Den) with h | h
    · have := Int.mul_pos (show 0 < c.K.Den by omega) h; omega
    · omega
  unfold radLo radHi
  refine ⟨hl, ⟨by omega, by omega⟩, ⟨by omega, by omega⟩, by omega⟩
theorem Pl.radB {c : SConic} {r : Int} (p : Pl c r) : 0 ≤ (rad c r).Lo ∧ (rad c r).Lo ≤ 1800000000 ∧ 0 ≤ (rad c r).Hi ∧ (rad c r).Hi ≤ 1800000001 := by
  obtain ⟨h1, h2, h3, h4⟩ := p.rads
  have a := rtI_le h2.1 h2.2
  have b := rtI_le h3.1 h3.2
  have d := upI_le h3.1 h3.2
  unfold Vg.rad
  exact ⟨a.1, a.2, by dsimp only; omega, by dsimp only; omega⟩
theorem w_less {c : SConic} {r : Int} (p : Pl c r) : w64 ((w64 ((w64 (10000 * sC c)) * r)) * r) = lessC c r := by
  have hs := p.rc.s
  have hr := p.rr
  obtain ⟨h1, _⟩ := p.rads
  have a2 := mul_bd (x := sC c) (A := 200) (y := r) (B := 1000000) (by omega) hs.2 hr.1 hr.2 (by decide)
  have e : lessC c r = 10000 * sC c * r * r := by unfold lessC; rw [Int.mul_assoc (10000 * sC c), Int.mul_assoc 10000]
  have e2 : 10000 * sC c * r = 10000 * (sC c * r) := Int.mul_assoc _ _ _
  rw [w64_id (n := 10000 * sC c) (by omega) (by omega), w64_id (n := 10000 * sC c * r) (by omega) (by omega), ← e, w64_id (by omega) (by omega)]
theorem w_square {c : SConic} (h : RC c) : w64 ((w64 (10000 * c.Radius)) * c.Radius) = 10000 * (c.Radius * c.Radius) := by
  have hR := h.r
  have h1 := sq_bd h.r.1 h.r.2
  rw [w64_id (n := 10000 * c.Radius) (by omega) (by omega), Int.mul_assoc, w64_id (by omega) (by omega)]
theorem radicand_opt (k : Nat) (hk : 100000000000000000000 ≤ k) {c : SConic} {r : Int} (p : Pl c r) : noptics_rootOfRadicand k c r = some (rad c r) := by
  obtain ⟨h1, h2, h3, h4⟩ := p.rads
  have hd := p.rc.d
  have hsq := sq_bd p.rc.r.1 p.rc.r.2
  unfold noptics_rootOfRadicand noptics_shape
  rw [Option.bind_some]
  dsimp only
  rw [w_shape p.rc, w_less p, w_square p.rc, up_any k (by omega) (by omega) (by omega), Option.bind_some, w64_id (n := 10000 * (c.Radius * c.Radius) - -(-lessC c r / c.K.Den)) (by unfold radLo at h2; omega) (by unfold radLo at h2; omega), rootDown_any k hk (a := 10000 * (c.Radius * c.Radius) - -(-lessC c r / c.K.Den)) h2.1 h2.2, Option.bind_some, down_any k (by omega) (by omega) (by omega), Option.bind_some, w64_id (n := 10000 * (c.Radius * c.Radius) - lessC c r / c.K.Den) (by unfold radHi at h3; omega) (by unfold radHi at h3; omega), rootUp_any k hk (a := 10000 * (c.Radius * c.Radius) - lessC c r / c.K.Den) h3.1 h3.2, Option.bind_some]
  rfl
theorem roots_ref (k : Nat) (hk : 100000000000000000000 ≤ k) {c : SConic} {r : Int} (p : Pl c r) : nspeculumref02_roots k c r = some (rad c r) := by
  obtain ⟨h1, h2, h3, h4⟩ := p.rads
  have hd := p.rc.d
  unfold nspeculumref02_roots nspeculumref02_OnePlus
  rw [Option.bind_some]
  dsimp only
  rw [w_shape p.rc, w_less p, w_square p.rc, ceil_any k (by omega) (by omega) (by omega), Option.bind_some, w64_id (n := 10000 * (c.Radius * c.Radius) - -(-lessC c r / c.K.Den)) (by unfold radLo at h2; omega) (by unfold radLo at h2; omega), root_ref k hk (a := 10000 * (c.Radius * c.Radius) - -(-lessC c r / c.K.Den)) h2.1 h2.2, Option.bind_some, floor_any k (by omega) (by omega) (by omega), Option.bind_some, w64_id (n := 10000 * (c.Radius * c.Radius) - lessC c r / c.K.Den) (by unfold radHi at h3; omega) (by unfold radHi at h3; omega), root_ref k hk (a := 10000 * (c.Radius * c.Radius) - lessC c r / c.K.Den) h3.1 h3.2, Option.bind_some]
  rfl
end Go.Proofs.Ytgaopkhkabbcfaa.Vg
