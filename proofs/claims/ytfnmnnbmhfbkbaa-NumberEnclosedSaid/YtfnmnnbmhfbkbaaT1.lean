/- Walks: the reference's sines. -/
import Derived.Test.YtfnmnnbmhfbkbaaSo
import Derived.Test.YtfnmnnbmhfbkbaaR5
set_option linter.unusedVariables false
set_option linter.unusedSimpArgs false
namespace Go.Proofs.Ytfnmnnbmhfbkbaa
open Go.RowKit

set_option maxHeartbeats 400000 in
theorem modB_any (n b : Int) (w : World) (hn : -9000000000000000000 ≤ n) (hn' : n ≤ 9000000000000000000) (hb : 1 ≤ b) (hb' : b ≤ 1000000000000000000) :
    Calls Try.prog 101 #[.int .i64 n, .int .i64 b] w fun e w' => e = .returned (.int .i64 (n % b)) ∧ w = w' := by
  have HT := Lib.hid (Int.mul_tdiv_add_tmod n b)
  have r1 : n.tmod b < b := Int.tmod_lt_of_pos _ (by omega)
  have r2 : -b < n.tmod b := by have := Int.lt_tmod_of_pos n (show 0 < b by omega); omega
  have hne : ¬ b = 0 := by omega
  by_cases hr : n.tmod b < 0
  · have HF := Lib.hid (show n % b = n.tmod b + b by
      have h1 := HT.out
      have h2 : n % b = (n.tmod b + b) % b := by
        rw [Int.add_emod_right]; conv => lhs; rw [← h1, Int.add_comm, Int.add_mul_emod_self_left]
      rw [h2, Int.emod_eq_of_lt (by omega) (by omega)])
    go_enter Try.func101, Try.ntmps101
    go_wp2
    go_ret
    exact ⟨ret_int HF.out.symm, rfl⟩
  · have HF := Lib.hid (show n % b = n.tmod b by
      have h1 := HT.out
      have h2 : n % b = (n.tmod b) % b := by
        conv => lhs; rw [← h1, Int.add_comm, Int.add_mul_emod_self_left]
      rw [h2, Int.emod_eq_of_lt (by omega) (by omega)])
    go_enter Try.func101, Try.ntmps101
    go_wp2
    go_ret
    exact ⟨ret_int HF.out.symm, rfl⟩

theorem tdiv2_bd {e q D : Int} (he : -1000000000 ≤ e) (he' : e ≤ 1000000000) (hq : 0 ≤ q) (hq' : q ≤ 1000000000) (hD : 1 ≤ D) :
    -1000000000 ≤ ((-e * q).tdiv 1000000000).tdiv D ∧ ((-e * q).tdiv 1000000000).tdiv D ≤ 1000000000 ∧ -1000000000 ≤ (-e * q).tdiv 1000000000 ∧ (-e * q).tdiv 1000000000 ≤ 1000000000 := by
  have m := mul_b9 (x := -e) (y := q) (by omega) (by omega) (by omega) (by omega)
  have h : -1000000000 ≤ (-e * q).tdiv 1000000000 ∧ (-e * q).tdiv 1000000000 ≤ 1000000000 := by
    have := Int.mul_tdiv_add_tmod (-e * q) 1000000000
    have r1 : (-e * q).tmod 1000000000 < 1000000000 := Int.tmod_lt_of_pos _ (by omega)
    have r2 : -1000000000 < (-e * q).tmod 1000000000 := Int.lt_tmod_of_pos _ (by omega)
    omega
  have t := tdiv_bd h.1 h.2 hD
  exact ⟨t.1, t.2, h.1, h.2⟩
theorem serR_step {f : Nat} {k c s cs sn q : Int} {r : Int × Int} (h : serR (f + 1) k c s cs sn q = r) : serR f (k + 2) (((-c * q).tdiv 1000000000).tdiv (k * (k + 1))) (((-s * q).tdiv 1000000000).tdiv ((k + 1) * (k + 2))) (cs + c) (sn + s) q = r := h
set_option maxHeartbeats 2000000 in
theorem seriesR_any (a : Int) (w : World) (h0 : 0 ≤ a) (h1 : a ≤ 162000) :
    Calls Try.prog 102 #[.int .i64 a] w fun e w' => e = .returned (.tuple #[.int .i64 (serQ a).1, .int .i64 (serQ a).2]) ∧ w = w' := by
  have b0 : 0 ≤ a * 3141592653590 / 648000 := by omega
  have b1 : a * 3141592653590 / 648000 ≤ 785398163398 := by omega
  have x0 : 0 ≤ a * 3141592653590 / 648000 / 1000 := by omega
  have x1 : a * 3141592653590 / 648000 / 1000 ≤ 785398164 := by omega
  have HS := Lib.hid (show serR 8 1 1000000000 (a * 3141592653590 / 648000 / 1000) 0 0 ((a * 3141592653590 / 648000 / 1000) * (a * 3141592653590 / 648000 / 1000) / 1000000000) = serQ a from rfl)
  generalize serQ a = r at *
  have m := mul_b9 (x := a * 3141592653590 / 648000 / 1000) (y := a * 3141592653590 / 648000 / 1000) (by omega) (by omega) (by omega) (by omega)
  have m0 := Int.mul_nonneg x0 x0
  go_enter Try.func102, Try.ntmps102
  go_wp2
  generalize a * 3141592653590 / 648000 / 1000 = x at *
  have q0 : 0 ≤ x * x / 1000000000 := by omega
  have q1 : x * x / 1000000000 ≤ 1000000000 := by omega
  generalize x * x / 1000000000 = q at *
  clear m m0 b0 b1 h0 h1
  go_loop [6, 7, 8, 9, 10] (fun sn cs s c k => ∃ (j : Nat) (e o u v : Int), j ≤ 8 ∧ k = .int .i64 (2 * j + 1) ∧ c = .int .i64 e ∧ s = .int .i64 o ∧ cs = .int .i64 u ∧ sn = .int .i64 v ∧
      Hid (serR (8 - j) (2 * j + 1) e o u v q = r) ∧ -1000000000 ≤ e ∧ e ≤ 1000000000 ∧ -1000000000 ≤ o ∧ o ≤ 1000000000 ∧ -1000000000 * j ≤ u ∧ u ≤ 1000000000 * j ∧ -1000000000 * j ≤ v ∧ v ≤ 1000000000 * j)
    (fun _ _ _ _ k => (20 - intOf k).toNat)
  case atStart => exact ⟨0, 1000000000, x, 0, 0, by omega, rfl, rfl, rfl, rfl, rfl, HS.out, by omega, by omega, by omega, by omega, by omega, by omega, by omega, by omega⟩
  case round =>
    obtain ⟨j, e, o, u, v, hj, rfl, rfl, rfl, rfl, rfl, HG, e1, e2, o1, o2, c1, c2, s1, s2⟩ := hrel
    by_cases hlt : j < 8
    · have HG1 := HG.out
      rw [show 8 - j = (7 - j) + 1 by omega] at HG1
      have HG2 := Lib.hid (serR_step HG1)
      clear HG1 HG
      have d1 := mul_bd (x := 2 * (j : Int) + 1) (y := 2 * (j : Int) + 1 + 1) (A := 20) (B := 20) (by omega) (by omega) (by omega) (by omega)
      have d2 := mul_bd (x := 2 * (j : Int) + 1 + 1) (y := 2 * (j : Int) + 1 + 2) (A := 20) (B := 20) (by omega) (by omega) (by omega) (by omega)
      have d3 := mul_pos9 (x := 2 * (j : Int) + 1) (y := 2 * (j : Int) + 1 + 1) (by omega) (by omega)
      have d4 := mul_pos9 (x := 2 * (j : Int) + 1 + 1) (y := 2 * (j : Int) + 1 + 2) (by omega) (by omega)
      have m1 := mul_b9 (x := -e) (y := q) (by omega) (by omega) (by omega) (by omega)
      have m2 := mul_b9 (x := -o) (y := q) (by omega) (by omega) (by omega) (by omega)
      obtain ⟨t1, t2, t3, t4⟩ := tdiv2_bd e1 e2 q0 q1 d3
      obtain ⟨t5, t6, t7, t8⟩ := tdiv2_bd o1 o2 q0 q1 d4
      have hk : 2 * (j : Int) + 1 < 16 := by omega
      go_wp2
      go_round
      case rel => exact ⟨j + 1, _, _, _, _, by omega, by go_num, rfl, rfl, rfl, rfl, by have h := HG2.out; rw [show 8 - (j + 1) = 7 - j by omega, show (2 * ((j + 1 : Nat) : Int) + 1) = 2 * (j : Int) + 1 + 2 by omega]; first | exact h | (rw [Int.add_assoc] at h; exact h) | (simpa [Int.add_assoc] using h), by omega, by omega, by omega, by omega, by omega, by omega, by omega, by omega⟩
      case measure => simp [intOf]; omega
    · have HE := Lib.hid (show r = (v, u) by have h := HG.out; rw [show 8 - j = 0 by omega] at h; exact h.symm)
      have hk : ¬ 2 * (j : Int) + 1 < 16 := by omega
      go_wp2
      go_ret2
      exact ⟨by rw [HE.out]; rfl, rfl⟩

theorem serQ_bds {a : Int} (h : 0 ≤ a) (h' : a ≤ 162000) : 0 ≤ (serQ a).1 ∧ (serQ a).1 ≤ 1000000100 ∧ 0 ≤ (serQ a).2 ∧ (serQ a).2 ≤ 1000000100 := by
  obtain ⟨s, c, S, C, s', c', N⟩ := near_all (a := a.toNat) (by omega)
  rw [serQ_at h h', N.rs, N.rc]
  have := N.a2; have := N.a4; have := N.z1; have := N.z2
  dsimp only; omega
theorem serQ_bd1 {a : Int} (h : 0 ≤ a) (h' : a ≤ 162000) : -100000000000 ≤ (serQ a).1 ∧ (serQ a).1 ≤ 100000000000 := by have := serQ_bds h h'; omega
theorem serQ_bd2 {a : Int} (h : 0 ≤ a) (h' : a ≤ 162000) : -100000000000 ≤ (serQ a).2 ∧ (serQ a).2 ≤ 100000000000 := by have := serQ_bds h h'; omega

set_option maxHeartbeats 1000000 in
theorem sineR_0l (a b s : Int) (w : World) (h0 : -4000000000 ≤ a) (h1 : a ≤ 4000000000) (HB : Bx (a % 1296000 = b)) (hb0 : 0 ≤ b) (hb1 : b < 1296000) (hq : b / 324000 = 0) (hr : b % 324000 = s) (s0 : 0 ≤ s) (s1 : s ≤ 324000) (h2 : ¬ 324000 - s < s) :
    Calls Try.prog 59 #[.int .i64 a] w fun e w' => e = .returned (.int .i64 ((serQ s).1)) ∧ ∃ k, w' = w.drewN k := by
  have g1 : 0 ≤ 324000 - s := by omega
  have v1 : -100000000000 ≤ (serQ s).1 ∧ (serQ s).1 ≤ 100000000000 := serQ_bd1 (by omega) (by omega)
  obtain ⟨v1, v2⟩ := v1
  go_enter Try.func59, Try.ntmps59
  go_wp2_with (go_at_call 101; refine (modB_any a 1296000 _ (by omega) (by omega) (by omega) (by omega)).mono ?_; rw [HB.out]; rintro e w' ⟨rfl, rfl⟩)
  go_quiet (fail)
  go_wp2_with (go_at_call 102; refine (seriesR_any _ _ (by omega) (by omega)).mono ?_; rintro e w' ⟨rfl, rfl⟩)
  go_ret
  exact ⟨rfl, _, rfl⟩

set_option maxHeartbeats 1000000 in
theorem sineR_0h (a b s : Int) (w : World) (h0 : -4000000000 ≤ a) (h1 : a ≤ 4000000000) (HB : Bx (a % 1296000 = b)) (hb0 : 0 ≤ b) (hb1 : b < 1296000) (hq : b / 324000 = 0) (hr : b % 324000 = s) (s0 : 0 ≤ s) (s1 : s ≤ 324000) (h2 : 324000 - s < s) :
    Calls Try.prog 59 #[.int .i64 a] w fun e w' => e = .returned (.int .i64 ((serQ (324000 - s)).2)) ∧ ∃ k, w' = w.drewN k := by
  have g1 : 0 ≤ 324000 - s := by omega
  have v1 : -100000000000 ≤ (serQ (324000 - s)).2 ∧ (serQ (324000 - s)).2 ≤ 100000000000 := serQ_bd2 (by omega) (by omega)
  obtain ⟨v1, v2⟩ := v1
  go_enter Try.func59, Try.ntmps59
  go_wp2_with (go_at_call 101; refine (modB_any a 1296000 _ (by omega) (by omega) (by omega) (by omega)).mono ?_; rw [HB.out]; rintro e w' ⟨rfl, rfl⟩)
  go_quiet (fail)
  go_wp2_with (go_at_call 102; refine (seriesR_any _ _ (by omega) (by omega)).mono ?_; rintro e w' ⟨rfl, rfl⟩)
  go_ret
  exact ⟨rfl, _, rfl⟩

set_option maxHeartbeats 1000000 in
theorem sineR_1l (a b r s : Int) (w : World) (h0 : -4000000000 ≤ a) (h1 : a ≤ 4000000000) (HB : Bx (a % 1296000 = b)) (hb0 : 0 ≤ b) (hb1 : b < 1296000) (hq : b / 324000 = 1) (hr : b % 324000 = r) (hsub : 324000 - r = s) (s0 : 0 ≤ s) (s1 : s ≤ 324000) (h2 : ¬ 324000 - s < s) :
    Calls Try.prog 59 #[.int .i64 a] w fun e w' => e = .returned (.int .i64 ((serQ s).1)) ∧ ∃ k, w' = w.drewN k := by
  have g1 : 0 ≤ 324000 - s := by omega
  have v1 : -100000000000 ≤ (serQ s).1 ∧ (serQ s).1 ≤ 100000000000 := serQ_bd1 (by omega) (by omega)
  obtain ⟨v1, v2⟩ := v1
  go_enter Try.func59, Try.ntmps59
  go_wp2_with (go_at_call 101; refine (modB_any a 1296000 _ (by omega) (by omega) (by omega) (by omega)).mono ?_; rw [HB.out]; rintro e w' ⟨rfl, rfl⟩)
  go_quiet (fail)
  go_wp2_with (go_at_call 102; refine (seriesR_any _ _ (by omega) (by omega)).mono ?_; rintro e w' ⟨rfl, rfl⟩)
  go_ret
  exact ⟨rfl, _, rfl⟩

set_option maxHeartbeats 1000000 in
theorem sineR_1h (a b r s : Int) (w : World) (h0 : -4000000000 ≤ a) (h1 : a ≤ 4000000000) (HB : Bx (a % 1296000 = b)) (hb0 : 0 ≤ b) (hb1 : b < 1296000) (hq : b / 324000 = 1) (hr : b % 324000 = r) (hsub : 324000 - r = s) (s0 : 0 ≤ s) (s1 : s ≤ 324000) (h2 : 324000 - s < s) :
    Calls Try.prog 59 #[.int .i64 a] w fun e w' => e = .returned (.int .i64 ((serQ (324000 - s)).2)) ∧ ∃ k, w' = w.drewN k := by
  have g1 : 0 ≤ 324000 - s := by omega
  have v1 : -100000000000 ≤ (serQ (324000 - s)).2 ∧ (serQ (324000 - s)).2 ≤ 100000000000 := serQ_bd2 (by omega) (by omega)
  obtain ⟨v1, v2⟩ := v1
  go_enter Try.func59, Try.ntmps59
  go_wp2_with (go_at_call 101; refine (modB_any a 1296000 _ (by omega) (by omega) (by omega) (by omega)).mono ?_; rw [HB.out]; rintro e w' ⟨rfl, rfl⟩)
  go_quiet (fail)
  go_wp2_with (go_at_call 102; refine (seriesR_any _ _ (by omega) (by omega)).mono ?_; rintro e w' ⟨rfl, rfl⟩)
  go_ret
  exact ⟨rfl, _, rfl⟩

set_option maxHeartbeats 1000000 in
theorem sineR_2l (a b s : Int) (w : World) (h0 : -4000000000 ≤ a) (h1 : a ≤ 4000000000) (HB : Bx (a % 1296000 = b)) (hb0 : 0 ≤ b) (hb1 : b < 1296000) (hq : b / 324000 = 2) (hr : b % 324000 = s) (s0 : 0 ≤ s) (s1 : s ≤ 324000) (h2 : ¬ 324000 - s < s) :
    Calls Try.prog 59 #[.int .i64 a] w fun e w' => e = .returned (.int .i64 (-(serQ s).1)) ∧ ∃ k, w' = w.drewN k := by
  have g1 : 0 ≤ 324000 - s := by omega
  have v1 : -100000000000 ≤ (serQ s).1 ∧ (serQ s).1 ≤ 100000000000 := serQ_bd1 (by omega) (by omega)
  obtain ⟨v1, v2⟩ := v1
  go_enter Try.func59, Try.ntmps59
  go_wp2_with (go_at_call 101; refine (modB_any a 1296000 _ (by omega) (by omega) (by omega) (by omega)).mono ?_; rw [HB.out]; rintro e w' ⟨rfl, rfl⟩)
  go_quiet (fail)
  go_wp2_with (go_at_call 102; refine (seriesR_any _ _ (by omega) (by omega)).mono ?_; rintro e w' ⟨rfl, rfl⟩)
  go_ret
  exact ⟨rfl, _, rfl⟩

set_option maxHeartbeats 1000000 in
theorem sineR_2h (a b s : Int) (w : World) (h0 : -4000000000 ≤ a) (h1 : a ≤ 4000000000) (HB : Bx (a % 1296000 = b)) (hb0 : 0 ≤ b) (hb1 : b < 1296000) (hq : b / 324000 = 2) (hr : b % 324000 = s) (s0 : 0 ≤ s) (s1 : s ≤ 324000) (h2 : 324000 - s < s) :
    Calls Try.prog 59 #[.int .i64 a] w fun e w' => e = .returned (.int .i64 (-(serQ (324000 - s)).2)) ∧ ∃ k, w' = w.drewN k := by
  have g1 : 0 ≤ 324000 - s := by omega
  have v1 : -100000000000 ≤ (serQ (324000 - s)).2 ∧ (serQ (324000 - s)).2 ≤ 100000000000 := serQ_bd2 (by omega) (by omega)
  obtain ⟨v1, v2⟩ := v1
  go_enter Try.func59, Try.ntmps59
  go_wp2_with (go_at_call 101; refine (modB_any a 1296000 _ (by omega) (by omega) (by omega) (by omega)).mono ?_; rw [HB.out]; rintro e w' ⟨rfl, rfl⟩)
  go_quiet (fail)
  go_wp2_with (go_at_call 102; refine (seriesR_any _ _ (by omega) (by omega)).mono ?_; rintro e w' ⟨rfl, rfl⟩)
  go_ret
  exact ⟨rfl, _, rfl⟩

set_option maxHeartbeats 1000000 in
theorem sineR_3l (a b r s : Int) (w : World) (h0 : -4000000000 ≤ a) (h1 : a ≤ 4000000000) (HB : Bx (a % 1296000 = b)) (hb0 : 0 ≤ b) (hb1 : b < 1296000) (hq : b / 324000 = 3) (hr : b % 324000 = r) (hsub : 324000 - r = s) (s0 : 0 ≤ s) (s1 : s ≤ 324000) (h2 : ¬ 324000 - s < s) :
    Calls Try.prog 59 #[.int .i64 a] w fun e w' => e = .returned (.int .i64 (-(serQ s).1)) ∧ ∃ k, w' = w.drewN k := by
  have g1 : 0 ≤ 324000 - s := by omega
  have v1 : -100000000000 ≤ (serQ s).1 ∧ (serQ s).1 ≤ 100000000000 := serQ_bd1 (by omega) (by omega)
  obtain ⟨v1, v2⟩ := v1
  go_enter Try.func59, Try.ntmps59
  go_wp2_with (go_at_call 101; refine (modB_any a 1296000 _ (by omega) (by omega) (by omega) (by omega)).mono ?_; rw [HB.out]; rintro e w' ⟨rfl, rfl⟩)
  go_quiet (fail)
  go_wp2_with (go_at_call 102; refine (seriesR_any _ _ (by omega) (by omega)).mono ?_; rintro e w' ⟨rfl, rfl⟩)
  go_ret
  exact ⟨rfl, _, rfl⟩

set_option maxHeartbeats 1000000 in
theorem sineR_3h (a b r s : Int) (w : World) (h0 : -4000000000 ≤ a) (h1 : a ≤ 4000000000) (HB : Bx (a % 1296000 = b)) (hb0 : 0 ≤ b) (hb1 : b < 1296000) (hq : b / 324000 = 3) (hr : b % 324000 = r) (hsub : 324000 - r = s) (s0 : 0 ≤ s) (s1 : s ≤ 324000) (h2 : 324000 - s < s) :
    Calls Try.prog 59 #[.int .i64 a] w fun e w' => e = .returned (.int .i64 (-(serQ (324000 - s)).2)) ∧ ∃ k, w' = w.drewN k := by
  have g1 : 0 ≤ 324000 - s := by omega
  have v1 : -100000000000 ≤ (serQ (324000 - s)).2 ∧ (serQ (324000 - s)).2 ≤ 100000000000 := serQ_bd2 (by omega) (by omega)
  obtain ⟨v1, v2⟩ := v1
  go_enter Try.func59, Try.ntmps59
  go_wp2_with (go_at_call 101; refine (modB_any a 1296000 _ (by omega) (by omega) (by omega) (by omega)).mono ?_; rw [HB.out]; rintro e w' ⟨rfl, rfl⟩)
  go_quiet (fail)
  go_wp2_with (go_at_call 102; refine (seriesR_any _ _ (by omega) (by omega)).mono ?_; rintro e w' ⟨rfl, rfl⟩)
  go_ret
  exact ⟨rfl, _, rfl⟩

theorem sineR_any (a : Int) (w : World) (h0 : -4000000000 ≤ a) (h1 : a ≤ 4000000000) :
    Calls Try.prog 59 #[.int .i64 a] w fun e w' => e = .returned (.int .i64 (sinR a)) ∧ ∃ k, w' = w.drewN k := by
  have hb0 : 0 ≤ a % 1296000 := by omega
  have hb1 : a % 1296000 < 1296000 := by omega
  have hr0 : 0 ≤ a % 1296000 % 324000 := by omega
  have hr1 : a % 1296000 % 324000 < 324000 := by omega
  unfold sinR
  rcases (by omega : a % 1296000 / 324000 = 0 ∨ a % 1296000 / 324000 = 1 ∨ a % 1296000 / 324000 = 2 ∨ a % 1296000 / 324000 = 3) with k | k | k | k

  · rw [k, if_neg (by omega), if_neg (by omega)]
    by_cases h : 324000 - (a % 1296000 % 324000) < a % 1296000 % 324000
    · unfold quR; rw [if_pos h]; exact sineR_0h a _ _ w h0 h1 ⟨rfl⟩ hb0 hb1 k rfl (by omega) (by omega) h
    · unfold quR; rw [if_neg h]; exact sineR_0l a _ _ w h0 h1 ⟨rfl⟩ hb0 hb1 k rfl (by omega) (by omega) h

  · rw [k, if_neg (by omega), if_pos (by omega)]
    by_cases h : 324000 - (324000 - a % 1296000 % 324000) < 324000 - a % 1296000 % 324000
    · unfold quR; rw [if_pos h]; exact sineR_1h a _ _ _ w h0 h1 ⟨rfl⟩ hb0 hb1 k rfl rfl (by omega) (by omega) h
    · unfold quR; rw [if_neg h]; exact sineR_1l a _ _ _ w h0 h1 ⟨rfl⟩ hb0 hb1 k rfl rfl (by omega) (by omega) h

  · rw [k, if_pos (by omega), if_neg (by omega)]
    by_cases h : 324000 - (a % 1296000 % 324000) < a % 1296000 % 324000
    · unfold quR; rw [if_pos h]; exact sineR_2h a _ _ w h0 h1 ⟨rfl⟩ hb0 hb1 k rfl (by omega) (by omega) h
    · unfold quR; rw [if_neg h]; exact sineR_2l a _ _ w h0 h1 ⟨rfl⟩ hb0 hb1 k rfl (by omega) (by omega) h

  · rw [k, if_pos (by omega), if_pos (by omega)]
    by_cases h : 324000 - (324000 - a % 1296000 % 324000) < 324000 - a % 1296000 % 324000
    · unfold quR; rw [if_pos h]; exact sineR_3h a _ _ _ w h0 h1 ⟨rfl⟩ hb0 hb1 k rfl rfl (by omega) (by omega) h
    · unfold quR; rw [if_neg h]; exact sineR_3l a _ _ _ w h0 h1 ⟨rfl⟩ hb0 hb1 k rfl rfl (by omega) (by omega) h


theorem cosineR_any (a : Int) (w : World) (h0 : -3000000000 ≤ a) (h1 : a ≤ 3000000000) :
    Calls Try.prog 60 #[.int .i64 a] w fun e w' => e = .returned (.int .i64 (sinR (a + 324000))) ∧ ∃ k, w' = w.drewN k := by
  go_enter Try.func60, Try.ntmps60
  go_wp2_with (go_at_call 59; refine (sineR_any _ _ (by omega) (by omega)).mono ?_; rintro e w' ⟨rfl, kk, rfl⟩)
  go_ret
  exact ⟨rfl, _, rfl⟩

set_option maxHeartbeats 1000000 in
theorem holds_any (lo hi num t : Int) (w : World) (H : Bx (Hold lo hi num t)) (n1 : -2000000000 ≤ num) (n2 : num ≤ 2000000000) (t1 : 1 ≤ t) (t2 : t ≤ 1000000) :
    Calls Try.prog 58 #[.agg #[.int .i64 lo, .int .i64 hi], .int .i64 num, .int .i64 t] w fun e w' => e = .returned (.bool true) ∧ Below w.heap.size w w' := by
  have b1 := H.out.b1
  have b2 := H.out.b2
  have b3 := H.out.b3
  have b4 := H.out.b4
  have HW := Bx.mk (show wtB lo (-2000000) hi = true by unfold wtB; simp [b1, b2])
  have k5 := H.out.b5
  have k6 := H.out.b6
  have m1 := mul_bd (x := t) (y := num + 40) (A := 1000000) (B := 3000000000) (by omega) (by omega) (by omega) (by omega)
  have m2 := mul_bd (x := t) (y := num - 40) (A := 1000000) (B := 3000000000) (by omega) (by omega) (by omega) (by omega)
  have l1 : -2000000 ≤ hi := by omega
  have l2 : lo ≤ 2000000 := by omega
  go_enter Try.func58, Try.ntmps58
  go_wp2_with (go_at_call 35; (with_reducible refine (within_any lo (-2000000) hi _).mono ?_); rw [HW.out]; rintro e wx ⟨rfl, rfl⟩)
  go_ret
  refine ⟨?_, (Below.refl _ _).alloc (Nat.le_refl _) _⟩
  first
  | rfl
  | (simp [k5, k6]; done)

end Go.Proofs.Ytfnmnnbmhfbkbaa