/- Walks: sines and cosines. -/
import Derived.Test.YtdlddfmodbcnmaaW04
import Derived.Test.YtdlddfmodbcnmaaTrig0
set_option linter.unusedVariables false
set_option linter.unusedSimpArgs false
namespace Go.Proofs.Ytdlddfmodbcnmaa
open Go.RowKit

set_option maxHeartbeats 400000 in
theorem down_any (n b : Int) (w : World) (hn : -9000000000000000000 ≤ n) (hn' : n ≤ 9000000000000000000) (hb : 1 ≤ b) (hb' : b ≤ 1000000000000000000) :
    Calls Try.prog 118 #[.int .i64 n, .int .i64 b] w fun e w' => e = .returned (.int .i64 (n / b)) ∧ w = w' := by
  have q := tdiv_bd hn hn' hb
  have HT := Lib.hid (Int.mul_tdiv_add_tmod n b)
  have r1 : n.tmod b < b := Int.tmod_lt_of_pos _ (by omega)
  have r2 : -b < n.tmod b := by have := Int.lt_tmod_of_pos n (show 0 < b by omega); omega
  by_cases hr : n.tmod b < 0
  · have HF := Lib.hid (show n / b = n.tdiv b - 1 by
      have h1 := HT.out
      rw [Int.ediv_eq_iff_of_pos (by omega)]
      rw [Int.sub_mul, Int.mul_comm (n.tdiv b) b]; omega)
    go_enter Try.func118, Try.ntmps118
    go_wp2
    go_ret
    exact ⟨ret_int HF.out.symm, rfl⟩
  · have HF := Lib.hid (show n / b = n.tdiv b by
      have h1 := HT.out
      rw [Int.ediv_eq_iff_of_pos (by omega)]
      rw [Int.mul_comm (n.tdiv b) b]; omega)
    go_enter Try.func118, Try.ntmps118
    go_wp2
    go_ret
    exact ⟨ret_int HF.out.symm, rfl⟩

set_option maxHeartbeats 400000 in
theorem up_any (n b : Int) (w : World) (hn : -9000000000000000000 ≤ n) (hn' : n ≤ 9000000000000000000) (hb : 1 ≤ b) (hb' : b ≤ 1000000000000000000) :
    Calls Try.prog 120 #[.int .i64 n, .int .i64 b] w fun e w' => e = .returned (.int .i64 (-(-n / b))) ∧ w = w' := by
  have h1 : -9000000000000000000 ≤ -n / b ∧ -n / b ≤ 9000000000000000000 := by
    constructor
    · rw [Int.le_ediv_iff_mul_le (by omega)]
      have := Int.mul_le_mul_of_nonpos_left (a := -9000000000000000000) (b := b) (c := 1) (by omega) hb
      omega
    · have : -n / b < 9000000000000000001 := by
        rw [Int.ediv_lt_iff_lt_mul (by omega)]
        have := Int.mul_le_mul_of_nonneg_left (c := 9000000000000000001) (a := 1) (b := b) hb (by omega)
        omega
      omega
  go_enter Try.func120, Try.ntmps120
  go_wp2_with (go_at_call 118; refine (down_any _ _ _ (by omega) (by omega) hb hb').mono ?_; rintro e w' ⟨rfl, rfl⟩)
  go_ret
  exact ⟨rfl, rfl⟩

set_option maxHeartbeats 2000000 in
theorem series_any (a : Int) (w : World) (h0 : 0 ≤ a) (h1 : a ≤ 162000) :
    Calls Try.prog 119 #[.int .i64 a] w fun e w' => e = .returned (.tuple #[.int .i64 (serN a).1, .int .i64 (serN a).2]) ∧ w = w' := by
  obtain ⟨a0, a1⟩ := arc_bd h0 h1
  obtain ⟨q0, q1, p0, p1⟩ := sqr_bd h0 h1
  have HS := Lib.hid (show serGo 40 2 1000000000 (arcN a) 1000000000 (arcN a) (sqrN a) = serN a from rfl)
  have hQ : arcN a * arcN a / 1000000000 = sqrN a := rfl
  have hA : a * 3141592654 / 648000 = arcN a := rfl
  rw [← hQ] at HS q0 q1
  clear hQ
  rw [← hA] at HS a0 a1 q0 q1 p0 p1
  clear hA
  generalize serN a = r at *
  go_enter Try.func119, Try.ntmps119
  go_wp2_with fail
  generalize a * 3141592654 / 648000 = arc at *
  generalize arc * arc / 1000000000 = q at *
  go_loop [2, 3, 6, 7, 8] (fun sn cs od ev nn => ∃ (j : Nat) (e o c s : Int), j ≤ 30 ∧ nn = .int .i64 (2 * j + 2) ∧ ev = .int .i64 e ∧ od = .int .i64 o ∧ cs = .int .i64 c ∧ sn = .int .i64 s ∧
      Hid (serGo (40 - j) (2 * j + 2) e o c s q = r) ∧ Hid (e.natAbs * 2 ^ j ≤ 1000000000) ∧ -1000000000 ≤ e ∧ e ≤ 1000000000 ∧ -1000000000 ≤ o ∧ o ≤ 1000000000 ∧ -1000000000 * (j + 1) ≤ c ∧ c ≤ 1000000000 * (j + 1) ∧ -1000000000 * (j + 1) ≤ s ∧ s ≤ 1000000000 * (j + 1))
    (fun _ _ _ ev _ => (intOf ev).natAbs)
  case atStart => exact ⟨0, 1000000000, arc, 1000000000, arc, by omega, rfl, rfl, rfl, rfl, rfl, HS.out, by simp [Hid], by omega, by omega, by omega, by omega, by omega, by omega, by omega, by omega⟩
  case round =>
    obtain ⟨j, e, o, c, s, hj, rfl, rfl, rfl, rfl, rfl, HG, HP, e1, e2, o1, o2, c1, c2, s1, s2⟩ := hrel
    by_cases he : e = 0
    · subst he
      have HE := Lib.hid (serGo_end HG.out)
      go_wp2
      go_ret2
      exact ⟨by rw [HE.out]; rfl, rfl⟩
    · have hj2 := pow_le HP.out he
      have he' : (e != 0) = true := by simpa using he
      obtain ⟨de1, de2⟩ := den_e (n := 2 * (j : Int) + 2) (by omega) (by omega)
      obtain ⟨do1, do2⟩ := den_o (n := 2 * (j : Int) + 2) (by omega) (by omega)
      have me := mul_b9 (x := -e) (y := q) (by omega) (by omega) (by omega) (by omega)
      have mo := mul_b9 (x := -o) (y := q) (by omega) (by omega) (by omega) (by omega)
      have te : 2 * (stE (2 * j + 2) e q).natAbs ≤ e.natAbs := tdiv_half q0 q1 de1
      have to : 2 * (stO (2 * j + 2) o q).natAbs ≤ o.natAbs := tdiv_half q0 q1 do1
      have HP2 := Lib.hid (pow_step HP.out te)
      have HG1 := HG.out
      rw [show 40 - j = (39 - j) + 1 by omega] at HG1
      have HG2 := Lib.hid (serGo_step HG1 he)
      clear HG1
      have hlt : (stE (2 * j + 2) e q).natAbs < e.natAbs := by omega
      unfold stE at te hlt HP2 HG2
      unfold stO at to HG2
      clear he
      go_wp2
      go_round
      case rel => exact ⟨j + 1, _, _, _, _, by omega, by go_num, rfl, rfl, rfl, rfl, by have h := HG2.out; rw [show 40 - (j + 1) = 39 - j by omega, show (2 * ((j + 1 : Nat) : Int) + 2) = 2 * (j : Int) + 2 + 2 by omega]; exact h, HP2.out, by omega, by omega, by omega, by omega, by omega, by omega, by omega, by omega⟩
      case measure => simpa [intOf] using hlt

set_option maxHeartbeats 2000000 in
theorem around_any (a : Int) (w : World) (h0 : -4000000000 ≤ a) (h1 : a ≤ 4000000000) :
    Calls Try.prog 99 #[.int .i64 a] w fun e w' => e = .returned (.tuple #[.int .i64 (arN a).1, .int .i64 (arN a).2]) ∧ w = w' := by
  have HA := Lib.hid (show rot (a / 324000 % 4).toNat (qrN (a % 324000)) = arN a from rfl)
  have hb := qrN_bd (r := a % 324000) (by omega) (by omega)
  have hand := and3 (a / 324000)
  have hrest : a - a / 324000 * 324000 = a % 324000 := by omega
  have HR := Lib.hid hrest
  clear hrest
  have q0 : 0 ≤ a / 324000 % 4 := by omega
  have q1 : a / 324000 % 4 < 4 := by omega
  have w0 : -20000 ≤ a / 324000 := by omega
  have w1 : a / 324000 ≤ 20000 := by omega
  have r0 : 0 ≤ a - a / 324000 * 324000 := by omega
  have r1 : a - a / 324000 * 324000 < 324000 := by omega
  rw [← HR.out] at HA hb
  clear HR
  generalize hq : a / 324000 = q at *
  have HQ := Lib.hid hq
  clear hq
  generalize arN a = R at *
  by_cases hr : a - q * 324000 ≤ 162000
  · have HS := Lib.hid (show qrN (a - q * 324000) = ((serN (a - q * 324000)).1, (serN (a - q * 324000)).2) by unfold qrN; rw [if_pos hr])
    rw [HS.out] at HA hb
    dsimp only at hb
    go_enter Try.func99, Try.ntmps99
    go_wp2_with (first
      | (go_at_call 118; refine (down_any _ _ _ (by omega) (by omega) (by omega) (by omega)).mono ?_; rintro e w' ⟨rfl, rfl⟩; rw [HQ.out])
      | (go_at_call 119; refine (series_any _ _ (by omega) (by omega)).mono ?_; rintro e w' ⟨rfl, rfl⟩))
    obtain ⟨n4, hn4⟩ := Int.eq_ofNat_of_zero_le q0
    rw [hn4] at HA q1
    have HN := Lib.hid hn4
    rw [HN.out]
    clear hn4 hand q0
    rw [Int.toNat_natCast] at HA
    generalize (serN (a - q * 324000)).1 = x at *
    generalize (serN (a - q * 324000)).2 = y at *
    go_loop [2, 3, 27] (fun sn cs i => ∃ k : Nat, k ≤ n4 ∧ i = .int .i64 k ∧ sn = .int .i64 (rot k (x, y)).1 ∧ cs = .int .i64 (rot k (x, y)).2) (fun _ _ i => n4 - (intOf i).toNat)
    case atStart => exact ⟨0, by omega, rfl, rfl, rfl⟩
    case round =>
      obtain ⟨k, hk, rfl, rfl, rfl⟩ := hrel
      have hbk := rot_bd k (x, y) 100000000000 hb.1 hb.2.1 hb.2.2.1 hb.2.2.2
      have HK := Lib.hid (rot_snoc k (x, y))
      by_cases hlt : k < n4
      · have hlt' : (k : Int) < n4 := by omega
        go_wp2
        go_round
        case rel => exact ⟨k + 1, by omega, by go_num, by rw [HK.out], by rw [HK.out]⟩
        case measure => simp [intOf]; omega
      · obtain rfl : k = n4 := by omega
        go_wp2
        go_ret2
        exact ⟨by rw [← HA.out]; rfl, rfl⟩
  · have HS := Lib.hid (show qrN (a - q * 324000) = ((serN (324000 - (a - q * 324000))).2, (serN (324000 - (a - q * 324000))).1) by unfold qrN; rw [if_neg hr])
    rw [HS.out] at HA hb
    dsimp only at hb
    go_enter Try.func99, Try.ntmps99
    go_wp2_with (first
      | (go_at_call 118; refine (down_any _ _ _ (by omega) (by omega) (by omega) (by omega)).mono ?_; rintro e w' ⟨rfl, rfl⟩; rw [HQ.out])
      | (go_at_call 119; refine (series_any _ _ (by omega) (by omega)).mono ?_; rintro e w' ⟨rfl, rfl⟩))
    obtain ⟨n4, hn4⟩ := Int.eq_ofNat_of_zero_le q0
    rw [hn4] at HA q1
    have HN := Lib.hid hn4
    rw [HN.out]
    clear hn4 hand q0
    rw [Int.toNat_natCast] at HA
    generalize (serN (324000 - (a - q * 324000))).2 = x at *
    generalize (serN (324000 - (a - q * 324000))).1 = y at *
    go_loop [2, 3, 27] (fun sn cs i => ∃ k : Nat, k ≤ n4 ∧ i = .int .i64 k ∧ sn = .int .i64 (rot k (x, y)).1 ∧ cs = .int .i64 (rot k (x, y)).2) (fun _ _ i => n4 - (intOf i).toNat)
    case atStart => exact ⟨0, by omega, rfl, rfl, rfl⟩
    case round =>
      obtain ⟨k, hk, rfl, rfl, rfl⟩ := hrel
      have hbk := rot_bd k (x, y) 100000000000 hb.1 hb.2.1 hb.2.2.1 hb.2.2.2
      have HK := Lib.hid (rot_snoc k (x, y))
      by_cases hlt : k < n4
      · have hlt' : (k : Int) < n4 := by omega
        go_wp2
        go_round
        case rel => exact ⟨k + 1, by omega, by go_num, by rw [HK.out], by rw [HK.out]⟩
        case measure => simp [intOf]; omega
      · obtain rfl : k = n4 := by omega
        go_wp2
        go_ret2
        exact ⟨by rw [← HA.out]; rfl, rfl⟩

end Go.Proofs.Ytdlddfmodbcnmaa
