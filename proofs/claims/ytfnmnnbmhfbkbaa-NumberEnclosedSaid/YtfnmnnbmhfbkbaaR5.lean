/- Walks: roots. -/
import Derived.Test.YtfnmnnbmhfbkbaaR2
import Derived.Test.YtfnmnnbmhfbkbaaBb
set_option linter.unusedVariables false
set_option linter.unusedSimpArgs false
namespace Go.Proofs.Ytfnmnnbmhfbkbaa
open Go.RowKit

/-- The step of the reference's root: half a power of two. -/
def hp (k : Nat) : Int := 2 ^ k / 2
theorem hp_zero : hp 0 = 0 := by decide
theorem hp_succ (k : Nat) : hp (k + 1) = 2 ^ k := by unfold hp; rw [Int.pow_succ]; omega
theorem hp_half (k : Nat) : hp (k + 1) / 2 = hp k := by rw [hp_succ]; rfl
theorem pow_le31 {k : Nat} (h : k ≤ 31) : (1 : Int) ≤ 2 ^ k ∧ (2 : Int) ^ k ≤ 2147483648 := by
  have h1 : (0 : Int) < 2 ^ k := Int.pow_pos (by decide)
  have h2 : (2 : Nat) ^ k ≤ 2 ^ 31 := Nat.pow_le_pow_right (by decide) h
  have h3 : ((2 : Int) ^ k) = ((2 ^ k : Nat) : Int) := by simp
  omega

set_option maxRecDepth 100000 in
set_option maxHeartbeats 2000000 in
theorem floorRoot_any (n : Int) (w : World) (h0 : 0 ≤ n) (h1 : n ≤ 1000000000000000000) :
    Calls Try.prog 95 #[.int .i64 n] w fun e w' => e = .returned (.int .i64 (rt n)) ∧ w = w' := by
  have HR := Bx.mk (rt_is h0 h1)
  go_enter Try.func95, Try.ntmps95
  go_wp2
  go_loop [3, 4] (fun x y => ∃ (r : Int) (k : Nat), 0 ≤ r ∧ r ≤ 1000000000 ∧ r * r ≤ n ∧ k ≤ 31 ∧ x = .int .i64 r ∧ y = .int .i64 (hp k) ∧ Bx (n < (r + 2 ^ k) * (r + 2 ^ k))) (fun _ y => (intOf y).toNat)
  case atStart => exact ⟨0, 31, by omega, by omega, by omega, by omega, rfl, by rfl, ⟨by
    have : (0 + 2 ^ 31 : Int) * (0 + 2 ^ 31) = 4611686018427387904 := by decide
    rw [this]; omega⟩⟩
  case round =>
    obtain ⟨r, k, r0, r1, r2, k1, rfl, rfl, HN⟩ := hrel
    rcases k with _ | k
    · rw [hp_zero]
      go_wp2
      go_ret
      exact ⟨ret_int (IsRt.unique ⟨r0, r2, by have := HN.out; simpa using this⟩ HR.out), rfl⟩
    · have hk := pow_le31 (k := k) (by omega)
      have HH := Bx.mk (hp_half k)
      have HP := Bx.mk (show (2 : Int) ^ (k + 1) = 2 ^ k + 2 ^ k by rw [Int.pow_succ]; omega)
      rw [hp_succ] at HH ⊢
      generalize hs : (2 : Int) ^ k = s at *
      have HS := Bx.mk hs
      clear hs
      obtain ⟨s1, s2⟩ := hk
      by_cases c1 : r + s ≤ 1000000000
      · have m1 := mul_b9 (x := r + s) (y := r + s) (by omega) (by omega) (by omega) (by omega)
        by_cases c2 : (r + s) * (r + s) ≤ n
        · have HX := Bx.mk (show n < (r + s + s) * (r + s + s) by
            have h := HN.out
            rw [HP.out] at h
            have e : r + s + s = r + (s + s) := by omega
            rw [e]; exact h)
          go_wp2
          go_round
          case rel => exact ⟨r + s, k, by omega, by omega, c2, by omega, rfl, by rw [HH.out], ⟨by rw [HS.out]; exact HX.out⟩⟩
          case measure => simp [intOf]; omega
        · have HC := Bx.mk (show n < (r + s) * (r + s) by omega)
          go_wp2
          go_round
          case rel => exact ⟨r, k, r0, r1, r2, by omega, rfl, by rw [HH.out], ⟨by rw [HS.out]; exact HC.out⟩⟩
          case measure => simp [intOf]; omega
      · have HC := Bx.mk (show n < (r + s) * (r + s) by
          have := sq_le (a := 1000000001) (b := r + s) (by omega) (by omega)
          omega)
        go_wp2
        go_round
        case rel => exact ⟨r, k, r0, r1, r2, by omega, rfl, by rw [HH.out], ⟨by rw [HS.out]; exact HC.out⟩⟩
        case measure => simp [intOf]; omega

def wtB (n lo hi : Int) : Bool := decide (lo ≤ n) && decide (n ≤ hi)
theorem within_any (n lo hi : Int) (w : World) :
    Calls Try.prog 35 #[.int .i64 n, .int .i64 lo, .int .i64 hi] w fun e w' => e = .returned (.bool (wtB n lo hi)) ∧ w = w' := by
  by_cases h1 : lo ≤ n
  · by_cases h2 : n ≤ hi
    · have HR := Bx.mk (show wtB n lo hi = true by unfold wtB; simp [h1, h2])
      go_enter Try.func35, Try.ntmps35
      go_wp2
      go_ret
      exact ⟨ret_bool HR.out.symm, rfl⟩
    · have HR := Bx.mk (show wtB n lo hi = false by unfold wtB; simp [h2])
      go_enter Try.func35, Try.ntmps35
      go_wp2
      go_ret
      exact ⟨ret_bool HR.out.symm, rfl⟩
  · have HR := Bx.mk (show wtB n lo hi = false by unfold wtB; simp [h1])
    go_enter Try.func35, Try.ntmps35
    go_wp2
    go_ret
    exact ⟨ret_bool HR.out.symm, rfl⟩


theorem sq_iff {num den r : Int} (hd : 1 ≤ den) : r * r * den = num ↔ num % den = 0 ∧ r * r = num / den := by
  constructor
  · intro h
    subst h
    exact ⟨Int.mul_emod_left _ _, (Int.mul_ediv_cancel _ (by omega)).symm⟩
  · rintro ⟨h1, h2⟩
    rw [h2]
    exact Int.ediv_mul_cancel (Int.dvd_of_emod_eq_zero h1)

set_option maxHeartbeats 2000000 in
theorem sqrtR_any (a b t : Int) (w : World) (h1 : ckF a b = 0) (h2 : 0 ≤ a) (h3 : 1 ≤ t) (h4 : t ≤ 10000) :
    Calls Try.prog 39 #[.agg #[.int .i64 a, .int .i64 b], .int .i64 t] w fun e w' => e = .returned (.agg #[.int .i64 (sqN (t * t * a) b).1, .int .i64 (sqN (t * t * a) b).2]) ∧ Below w.heap.size w w' := by
  obtain ⟨a1, a2, b1, b2, _⟩ := ckF_zero h1
  clear h1
  have m1 := mul_bd (x := t) (y := t) (A := 10000) (B := 10000) (by omega) (by omega) (by omega) (by omega)
  have m2 : 0 ≤ t * t := Int.mul_nonneg (by omega) (by omega)
  have m3 := mul_bd (x := t * t) (y := a) (A := 100000000) (B := 1000000000) (by omega) (by omega) (by omega) (by omega)
  have m4 : 0 ≤ t * t * a := Int.mul_nonneg m2 h2
  have hq0 : 0 ≤ t * t * a / b := Int.ediv_nonneg m4 (by omega)
  have hq1 : t * t * a / b ≤ t * t * a := Int.ediv_le_self _ m4
  have hm0 : 0 ≤ t * t * a % b := Int.emod_nonneg _ (by omega)
  have hm1 : t * t * a % b < b := Int.emod_lt_of_pos _ (by omega)
  obtain ⟨_, _, r0, r1, s0, s1, _, _⟩ := sq_facts m4 (by omega) b1 (rt_is hq0 (by omega))
  by_cases c1 : t * t * a % b = 0
  · by_cases c2 : rt (t * t * a / b) * rt (t * t * a / b) = t * t * a / b
    · skip
      have HE := Bx.mk (show sqN (t * t * a) b = (rt (t * t * a / b), rt (t * t * a / b)) by unfold sqN; rw [if_pos ((sq_iff b1).2 ⟨c1, c2⟩)])
      have c1' : (t * t * a % b == 0) = true := by simpa using c1
      have c2' : (rt (t * t * a / b) * rt (t * t * a / b) == t * t * a / b) = true := by simpa using c2
      clear c1 c2
      go_enter Try.func39, Try.ntmps39
      go_wp2_with (go_at_call 95; refine (floorRoot_any _ _ hq0 (by omega)).mono ?_; rintro e w' ⟨rfl, rfl⟩)
      refine bodyPost_ret (ret_range1 rfl _ _ _ _ _ rfl (by simp [go_sem]; rfl) (by simp [go_sem]; rfl)) rfl ⟨by rw [HE.out], (by repeat (first | exact Below.refl _ _ | refine Below.drew ?_ | refine Below.drewN' ?_ _ | refine Below.alloc ?_ (by first | exact Nat.le_refl _ | (simp; done) | (simp; omega)) _))⟩
    · skip
      have HE := Bx.mk (show sqN (t * t * a) b = (rt (t * t * a / b), rt (t * t * a / b) + 1) by unfold sqN; rw [if_neg (fun h => c2 ((sq_iff b1).1 h).2)])
      have c1' : (t * t * a % b == 0) = true := by simpa using c1
      have c2' : (rt (t * t * a / b) * rt (t * t * a / b) == t * t * a / b) = false := by simpa using c2
      clear c1 c2
      go_enter Try.func39, Try.ntmps39
      go_wp2_with (go_at_call 95; refine (floorRoot_any _ _ hq0 (by omega)).mono ?_; rintro e w' ⟨rfl, rfl⟩)
      refine bodyPost_ret (ret_range1 rfl _ _ _ _ _ rfl (by simp [go_sem]; rfl) (by simp [go_sem]; rfl)) rfl ⟨by rw [HE.out], (by repeat (first | exact Below.refl _ _ | refine Below.drew ?_ | refine Below.drewN' ?_ _ | refine Below.alloc ?_ (by first | exact Nat.le_refl _ | (simp; done) | (simp; omega)) _))⟩
  · skip
    have HE := Bx.mk (show sqN (t * t * a) b = (rt (t * t * a / b), rt (t * t * a / b) + 1) by unfold sqN; rw [if_neg (fun h => c1 ((sq_iff b1).1 h).1)])
    have c1' : (t * t * a % b == 0) = false := by simpa using c1
    skip
    clear c1
    go_enter Try.func39, Try.ntmps39
    go_wp2_with (go_at_call 95; refine (floorRoot_any _ _ hq0 (by omega)).mono ?_; rintro e w' ⟨rfl, rfl⟩)
    refine bodyPost_ret (ret_range1 rfl _ _ _ _ _ rfl (by simp [go_sem]; rfl) (by simp [go_sem]; rfl)) rfl ⟨by rw [HE.out], (by repeat (first | exact Below.refl _ _ | refine Below.drew ?_ | refine Below.drewN' ?_ _ | refine Below.alloc ?_ (by first | exact Nat.le_refl _ | (simp; done) | (simp; omega)) _))⟩

/-- A root, rounded up. -/
def rtUp (n : Int) : Int := if rt n * rt n < n then rt n + 1 else rt n
theorem sqN_one {n : Int} (h0 : 0 ≤ n) (h1 : n ≤ 1000000000000000000) : sqN n 1 = (rt n, rtUp n) := by
  obtain ⟨a, b, c⟩ := rt_is h0 h1
  unfold sqN rtUp
  rw [Int.ediv_one, Int.mul_one]
  by_cases h : rt n * rt n = n
  · rw [if_pos h, if_neg (by omega)]
  · rw [if_neg h, if_pos (by omega)]
theorem rt_facts {n : Int} (h0 : 0 ≤ n) (h1 : n ≤ 1000000000000000000) : 0 ≤ rt n ∧ rt n ≤ 1000000000 ∧ 0 ≤ rt n * rt n ∧ rt n * rt n ≤ n ∧ n ≤ rtUp n * rtUp n ∧ 0 ≤ rtUp n ∧ rtUp n ≤ rt n + 1 := by
  obtain ⟨a, b, c⟩ := rt_is h0 h1
  have hc : 0 ≤ rt n * rt n := Int.mul_nonneg a a
  have hb : rt n < 1000000001 := sq_lt (by omega) (by omega)
  refine ⟨a, by omega, hc, b, ?_, ?_, ?_⟩ <;> unfold rtUp <;> split <;> omega
set_option maxHeartbeats 2000000 in
theorem rootOfR_any (x y : Int) (w : World) (h1 : 0 ≤ x) (h2 : x ≤ 1000000000000000) (h3 : 0 ≤ y) (h4 : y ≤ 1000000000000000) :
    Calls Try.prog 41 #[.agg #[.int .i64 x, .int .i64 y]] w fun e w' => e = .returned (.agg #[.int .i64 (rt x), .int .i64 (rtUp y)]) ∧ Below w.heap.size w w' := by
  obtain ⟨a0, a1, a2, a3, _, _, _⟩ := rt_facts h3 (by omega)
  by_cases c : rt y * rt y < y
  · have HE := Bx.mk (show rtUp y = rt y + 1 by unfold rtUp; rw [if_pos c])
    go_enter Try.func41, Try.ntmps41
    go_wp2_with (first
      | (go_at_call 95; (with_reducible refine (floorRoot_any y _ (by omega) (by omega)).mono ?_); rintro e w' ⟨rfl, rfl⟩)
      | (go_at_call 95; (with_reducible refine (floorRoot_any x _ (by omega) (by omega)).mono ?_); rintro e w' ⟨rfl, rfl⟩))
    refine bodyPost_ret (ret_range1 rfl _ _ _ _ _ rfl (by simp [go_sem]; rfl) (by simp [go_sem]; rfl)) rfl ⟨by rw [HE.out], (by repeat (first | exact Below.refl _ _ | refine Below.drew ?_ | refine Below.drewN' ?_ _ | refine Below.alloc ?_ (by first | exact Nat.le_refl _ | (simp; done) | (simp; omega)) _))⟩
  · have HE := Bx.mk (show rtUp y = rt y by unfold rtUp; rw [if_neg c])
    go_enter Try.func41, Try.ntmps41
    go_wp2_with (first
      | (go_at_call 95; (with_reducible refine (floorRoot_any y _ (by omega) (by omega)).mono ?_); rintro e w' ⟨rfl, rfl⟩)
      | (go_at_call 95; (with_reducible refine (floorRoot_any x _ (by omega) (by omega)).mono ?_); rintro e w' ⟨rfl, rfl⟩))
    refine bodyPost_ret (ret_range1 rfl _ _ _ _ _ rfl (by simp [go_sem]; rfl) (by simp [go_sem]; rfl)) rfl ⟨by rw [HE.out], (by repeat (first | exact Below.refl _ _ | refine Below.drew ?_ | refine Below.drewN' ?_ _ | refine Below.alloc ?_ (by first | exact Nat.le_refl _ | (simp; done) | (simp; omega)) _))⟩

end Go.Proofs.Ytfnmnnbmhfbkbaa