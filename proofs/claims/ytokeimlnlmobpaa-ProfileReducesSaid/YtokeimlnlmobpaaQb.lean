/- Walks: profile's small functions; zones, the program's and the reference's. -/
import Derived.Test.YtokeimlnlmobpaaQa
set_option linter.unusedVariables false
set_option linter.unusedSimpArgs false
namespace Go.Proofs.Ytokeimlnlmobpaa
open Go.RowKit

theorem isWithin_any (n lo hi : Int) (w : World) :
    Calls Try.prog 89 #[.int .i64 n, .int .i64 lo, .int .i64 hi] w fun e w' => e = .returned (.bool (wtB n lo hi)) ∧ w = w' := by
  by_cases h1 : lo ≤ n
  · by_cases h2 : n ≤ hi
    · have HR := Bx.mk (show wtB n lo hi = true by unfold wtB; simp [h1, h2])
      go_enter Try.func89, Try.ntmps89
      go_wp2
      go_ret
      exact ⟨ret_bool HR.out.symm, rfl⟩
    · have HR := Bx.mk (show wtB n lo hi = false by unfold wtB; simp [h2])
      go_enter Try.func89, Try.ntmps89
      go_wp2
      go_ret
      exact ⟨ret_bool HR.out.symm, rfl⟩
  · have HR := Bx.mk (show wtB n lo hi = false by unfold wtB; simp [h1])
    go_enter Try.func89, Try.ntmps89
    go_wp2
    go_ret
    exact ⟨ret_bool HR.out.symm, rfl⟩

set_option maxHeartbeats 400000 in
theorem downP_any (n b : Int) (w : World) (hn : -9000000000000000000 ≤ n) (hn' : n ≤ 9000000000000000000) (hb : 1 ≤ b) (hb' : b ≤ 1000000000000000000) :
    Calls Try.prog 92 #[.int .i64 n, .int .i64 b] w fun e w' => e = .returned (.int .i64 (n / b)) ∧ w = w' := by
  have q := tdiv_bd hn hn' hb
  have HT := Lib.hid (Int.mul_tdiv_add_tmod n b)
  have r1 : n.tmod b < b := Int.tmod_lt_of_pos _ (by omega)
  have r2 : -b < n.tmod b := by have := Int.lt_tmod_of_pos n (show 0 < b by omega); omega
  by_cases hr : n.tmod b < 0
  · have HF := Lib.hid (show n / b = n.tdiv b - 1 by
      have h1 := HT.out
      rw [Int.ediv_eq_iff_of_pos (by omega)]
      rw [Int.sub_mul, Int.mul_comm (n.tdiv b) b]; omega)
    go_enter Try.func92, Try.ntmps92
    go_wp2
    go_ret
    exact ⟨ret_int HF.out.symm, rfl⟩
  · have HF := Lib.hid (show n / b = n.tdiv b by
      have h1 := HT.out
      rw [Int.ediv_eq_iff_of_pos (by omega)]
      rw [Int.mul_comm (n.tdiv b) b]; omega)
    go_enter Try.func92, Try.ntmps92
    go_wp2
    go_ret
    exact ⟨ret_int HF.out.symm, rfl⟩

set_option maxHeartbeats 400000 in
theorem upP_any (n b : Int) (w : World) (hn : -9000000000000000000 ≤ n) (hn' : n ≤ 9000000000000000000) (hb : 1 ≤ b) (hb' : b ≤ 1000000000000000000) :
    Calls Try.prog 93 #[.int .i64 n, .int .i64 b] w fun e w' => e = .returned (.int .i64 (-(-n / b))) ∧ w = w' := by
  have h1 : -9000000000000000000 ≤ -n / b ∧ -n / b ≤ 9000000000000000000 := by
    constructor
    · rw [Int.le_ediv_iff_mul_le (by omega)]
      have := Int.mul_le_mul_of_nonpos_left (a := -9000000000000000000) (b := b) (c := 1) (by omega) hb
      omega
    · have : -n / b < 9000000000000000001 := by
        rw [Int.ediv_lt_iff_lt_mul (by omega)]
        have := Int.mul_le_mul_of_nonneg_left (c := 9000000000000000001) (a := 1) (b := b) hb (by omega)
        omega
      omega
  go_enter Try.func93, Try.ntmps93
  go_wp2_with (go_at_call 92; refine (downP_any _ _ _ (by omega) (by omega) hb hb').mono ?_; rintro e w' ⟨rfl, rfl⟩)
  go_ret
  exact ⟨rfl, rfl⟩

/-- The first error of the first k radii, or 0. -/
def znB (p : Row) : Nat → Int
  | 0 => 0
  | k + 1 => if znB p k ≠ 0 then znB p k else if wtB (p k) 1 1000000 = false then 2 else if 0 < k ∧ p k ≤ p (k - 1) then 9 else 0
theorem znB_stop {p : Row} {k : Nat} {E : Int} (h : znB p (k + 1) = E) (h0 : E ≠ 0) : ∀ {n : Nat}, k < n → znB p n = E
  | 0, hk => by omega
  | n + 1, hk => by
    rcases Nat.eq_or_lt_of_le (Nat.le_of_lt_succ hk) with e | e
    · subst e; exact h
    · have := znB_stop h h0 e
      show (if znB p n ≠ 0 then znB p n else _) = E
      rw [this, if_pos h0]
theorem znB_2 {p : Row} {k : Nat} (h : znB p k = 0) (h1 : wtB (p k) 1 1000000 = false) : znB p (k + 1) = 2 := by
  show (if znB p k ≠ 0 then znB p k else _) = 2
  rw [h, if_neg (by simp), if_pos h1]
theorem znB_9 {p : Row} {k : Nat} (h : znB p k = 0) (h1 : wtB (p k) 1 1000000 = true) (h2 : 0 < k) (h3 : p k ≤ p (k - 1)) : znB p (k + 1) = 9 := by
  show (if znB p k ≠ 0 then znB p k else _) = 9
  rw [h, if_neg (by simp), if_neg (by rw [h1]; simp), if_pos ⟨h2, h3⟩]
theorem znB_0 {p : Row} {k : Nat} (h : znB p k = 0) (h1 : wtB (p k) 1 1000000 = true) (h2 : 0 < k → p (k - 1) < p k) : znB p (k + 1) = 0 := by
  show (if znB p k ≠ 0 then znB p k else _) = 0
  rw [h, if_neg (by simp), if_neg (by rw [h1]; simp), if_neg (fun h => by have := h2 h.1; omega)]
/-- The error of zones. -/
def ckZ (n : Nat) (p : Row) : Int := if n < 1 ∨ 40 < n then 10 else znB p n

set_option maxRecDepth 100000 in
set_option maxHeartbeats 2000000 in
theorem checkZonesP_any (A : Option Addr) (n c : Nat) (p : Row) (w : World) (hA : IS w A n p) (hn : n ≤ 1000000) :
    Calls Try.prog 25 #[.slice A n c] w fun e w' => e = .returned (.int .i64 (ckZ n p)) ∧ w = w' := by
  by_cases h1 : n < 1 ∨ 40 < n
  · have HR := Bx.mk (show ckZ n p = 10 by unfold ckZ; rw [if_pos h1])
    have HW := Bx.mk (show wtB n 1 40 = false from wtB_no (by omega))
    go_enter Try.func25, Try.ntmps25
    go_wp2_with (go_at_call 89; refine (isWithin_any n 1 40 _).mono ?_; rw [HW.out]; rintro e wx ⟨rfl, rfl⟩)
    go_ret
    exact ⟨ret_int HR.out.symm, rfl⟩
  · have HR := Bx.mk (show ckZ n p = znB p n by unfold ckZ; rw [if_neg h1])
    have HW := Bx.mk (show wtB n 1 40 = true from wtB_yes (by omega) (by omega))
    obtain ⟨b, off, rfl, hb, hc⟩ := hA.2 (by omega)
    have hI := hA.1
    have n1 : 1 ≤ n := by omega
    have n7 : n ≤ 40 := by omega
    clear h1
    go_enter Try.func25, Try.ntmps25
    go_wp2_with (go_at_call 89; refine (isWithin_any n 1 40 _).mono ?_; rw [HW.out]; rintro e wx ⟨rfl, rfl⟩)
    go_loop [2, 3, 5, 12] (fun r s x i => ∃ k : Nat, k ≤ n ∧ i = .int .i64 k ∧ r = .int .i64 0 ∧ s = .int .i64 (if k = 0 then 0 else p (k - 1)) ∧ Bx (znB p k = 0)) (fun _ _ _ i => n - (intOf i).toNat)
    case atStart => exact ⟨0, by omega, rfl, rfl, rfl, ⟨rfl⟩⟩
    case round =>
      obtain ⟨k, hk, rfl, rfl, rfl, HK⟩ := hrel
      by_cases hlt : k < n
      · have hlt' : (k : Int) < n := by omega
        have hcx := hc k hlt
        have hcI := hI k hlt
        obtain ⟨hc1, hc2⟩ := hcI
        by_cases hs : 1 ≤ p k ∧ p k ≤ 1000000
        · have HV := Bx.mk (show wtB (p k) 1 1000000 = true from wtB_yes hs.1 hs.2)
          by_cases hq : 0 < k ∧ p k ≤ p (k - 1)
          · have HO := Bx.mk (znB_stop (znB_9 HK.out HV.out hq.1 hq.2) (by simp) hlt)
            have h3 : p k ≤ (if k = 0 then 0 else p (k - 1)) := by rw [if_neg (by omega)]; exact hq.2
            generalize (if k = 0 then 0 else p (k - 1)) = B at *
            generalize p k = X at *
            clear hs hq hI hc
            go_wp2_with (go_at_call 89; refine (isWithin_any _ 1 1000000 _).mono ?_; rw [HV.out]; rintro e wx ⟨rfl, rfl⟩)
            go_ret
            exact ⟨ret_int (by rw [HR.out, HO.out]), rfl⟩
          · have HO := Bx.mk (znB_0 HK.out HV.out (fun h => by
              have : ¬ p k ≤ p (k - 1) := fun e => hq ⟨h, e⟩
              omega))
            have h3 : ¬ p k ≤ (if k = 0 then 0 else p (k - 1)) := by
              by_cases e : k = 0
              · rw [if_pos e]; omega
              · rw [if_neg e]; exact fun e2 => hq ⟨by omega, e2⟩
            have HN := Bx.mk (show p k = (if k + 1 = 0 then 0 else p (k + 1 - 1)) by rw [if_neg (by omega)]; rfl)
            generalize hB : (if k = 0 then 0 else p (k - 1)) = B at *
            generalize hX : p k = X at *
            clear hs hq hI hc
            go_wp2_with (go_at_call 89; refine (isWithin_any _ 1 1000000 _).mono ?_; rw [HV.out]; rintro e wx ⟨rfl, rfl⟩)
            go_round
            case rel => exact ⟨k + 1, by omega, by go_num, rfl, by rw [← HN.out], HO⟩
            case measure => simp [intOf]; omega
        · have HV := Bx.mk (show wtB (p k) 1 1000000 = false from wtB_no (by omega))
          have HO := Bx.mk (znB_stop (znB_2 HK.out HV.out) (by simp) hlt)
          generalize (if k = 0 then 0 else p (k - 1)) = B at *
          generalize p k = X at *
          clear hs hI hc
          go_wp2_with (go_at_call 89; refine (isWithin_any _ 1 1000000 _).mono ?_; rw [HV.out]; rintro e wx ⟨rfl, rfl⟩)
          go_ret
          exact ⟨ret_int (by rw [HR.out, HO.out]), rfl⟩
      · obtain rfl : k = n := by omega
        clear hI hc
        go_wp2
        go_ret
        exact ⟨ret_int (by rw [HR.out, HK.out]), rfl⟩

set_option maxRecDepth 100000 in
set_option maxHeartbeats 4000000 in
theorem checkZonesR_any (A : Option Addr) (n c : Nat) (p : Row) (w : World) (hA : IS w A n p) (hn : n ≤ 1000000) :
    Calls Try.prog 26 #[.slice A n c] w fun e w' => e = .returned (.int .i64 (ckZ n p)) ∧ ∃ k, w' = w.drewN k := by
  by_cases h1 : n < 1 ∨ 40 < n
  · have HR := Bx.mk (show ckZ n p = 10 by unfold ckZ; rw [if_pos h1])
    have HW := Bx.mk (show wtB n 1 40 = false from wtB_no (by omega))
    go_enter Try.func26, Try.ntmps26
    go_wp2_with (go_at_call 45; refine (within_any n 1 40 _).mono ?_; rw [HW.out]; rintro e wx ⟨rfl, rfl⟩)
    go_ret
    exact ⟨ret_int HR.out.symm, 0, rfl⟩
  · have HR := Bx.mk (show ckZ n p = znB p n by unfold ckZ; rw [if_neg h1])
    have HW := Bx.mk (show wtB n 1 40 = true from wtB_yes (by omega) (by omega))
    obtain ⟨b, off, rfl, hb, hc⟩ := hA.2 (by omega)
    have hI := hA.1
    have n1 : 1 ≤ n := by omega
    have n7 : n ≤ 40 := by omega
    clear h1
    go_enter Try.func26, Try.ntmps26
    go_wp2_with (go_at_call 45; refine (within_any n 1 40 _).mono ?_; rw [HW.out]; rintro e wx ⟨rfl, rfl⟩)
    go_loopw [2, 3] (fun r i wr => ∃ k : Nat, k ≤ n ∧ i = .int .i64 k ∧ r = .int .i64 0 ∧ Bx (znB p k = 0) ∧ ∃ j, wr = w.drewN j) (fun _ i _ => n - (intOf i).toNat)
    case atStart => exact ⟨0, by omega, rfl, rfl, ⟨rfl⟩, 0, rfl⟩
    case round =>
      obtain ⟨k, hk, rfl, rfl, HK, j, rfl⟩ := hrel
      by_cases hlt : k < n
      · have hlt' : (k : Int) < n := by omega
        have hcx := hc k hlt
        have hcI := hI k hlt
        obtain ⟨hc1, hc2⟩ := hcI
        by_cases hs : 1 ≤ p k ∧ p k ≤ 1000000
        · have HV := Bx.mk (show wtB (p k) 1 1000000 = true from wtB_yes hs.1 hs.2)
          by_cases h0 : k = 0
          · have HO := Bx.mk (znB_0 HK.out HV.out (fun h => by omega))
            have hg : decide (0 < k) = false := by simpa using h0
            generalize p k = X at *
            clear hs hI hc h0
            go_wp2_with (go_at_call 45; refine (within_any _ 1 1000000 _).mono ?_; rw [HV.out]; rintro e wx ⟨rfl, rfl⟩)
            go_quiet (fail)
            go_wp2
            go_roundw
            case rel => exact ⟨k + 1, by omega, by go_num, rfl, HO, by first | exact ⟨_, rfl⟩ | exact ⟨_, World.drewN_drewN _ _ _⟩⟩
            case measure => simp [intOf]; omega
          · have hk0 : (0 : Int) < k := by omega
            have hg : decide (0 < k) = true := by simp; omega
            have hcy := hc (k - 1) (by omega)
            have hidx : ((k : Int) - 1).toNat = k - 1 := by omega
            by_cases hq : p k ≤ p (k - 1)
            · have HO := Bx.mk (znB_stop (znB_9 HK.out HV.out (by omega) hq) (by simp) hlt)
              have hq' : decide (p k ≤ p (k - 1)) = true := by simpa using hq
              generalize p (k - 1) = Y at *
              generalize p k = X at *
              clear hs hI hc
              go_wp2_with (go_at_call 45; refine (within_any _ 1 1000000 _).mono ?_; rw [HV.out]; rintro e wx ⟨rfl, rfl⟩)
              go_quiet (fail)
              go_wp2
              go_ret
              exact ⟨ret_int (by rw [HR.out, HO.out]), by first | exact ⟨_, rfl⟩ | exact ⟨_, World.drewN_drewN _ _ _⟩⟩
            · have HO := Bx.mk (znB_0 HK.out HV.out (fun _ => by omega))
              have hq' : decide (p k ≤ p (k - 1)) = false := by simpa using hq
              generalize p (k - 1) = Y at *
              generalize p k = X at *
              clear hs hI hc
              go_wp2_with (go_at_call 45; refine (within_any _ 1 1000000 _).mono ?_; rw [HV.out]; rintro e wx ⟨rfl, rfl⟩)
              go_quiet (fail)
              go_wp2
              go_roundw
              case rel => exact ⟨k + 1, by omega, by go_num, rfl, HO, by first | exact ⟨_, rfl⟩ | exact ⟨_, World.drewN_drewN _ _ _⟩⟩
              case measure => simp [intOf]; omega
        · have HV := Bx.mk (show wtB (p k) 1 1000000 = false from wtB_no (by omega))
          have HO := Bx.mk (znB_stop (znB_2 HK.out HV.out) (by simp) hlt)
          generalize p k = X at *
          clear hs hI hc
          go_wp2_with (go_at_call 45; refine (within_any _ 1 1000000 _).mono ?_; rw [HV.out]; rintro e wx ⟨rfl, rfl⟩)
          go_ret
          exact ⟨ret_int (by rw [HR.out, HO.out]), _, rfl⟩
      · obtain rfl : k = n := by omega
        clear hI hc
        go_wp2
        go_ret
        exact ⟨ret_int (by rw [HR.out, HK.out]), _, rfl⟩

theorem isHeight_any (n : Int) (w : World) :
    Calls Try.prog 96 #[.int .i64 n] w fun e w' => e = .returned (.bool (wtB n (-1000000) 1000000)) ∧ w = w' := by
  go_enter Try.func96, Try.ntmps96
  go_wp2_with (go_at_call 45; refine (within_any n (-1000000) 1000000 _).mono ?_; rintro e wx ⟨rfl, rfl⟩)
  go_ret
  exact ⟨rfl, rfl⟩

/-- The inner radius of a zone. -/
def inR (p : Row) (z : Nat) : Int := if z = 0 then 0 else p (z - 1)
theorem inner_any (A : Option Addr) (n c : Nat) (p : Row) (z : Nat) (w : World) (hA : IS w A n p) (hn : n ≤ 1000000) (hz : z < n) :
    Calls Try.prog 91 #[.slice A n c, .int .i64 z] w fun e w' => e = .returned (.int .i64 (inR p z)) ∧ w = w' := by
  by_cases h0 : z = 0
  · subst h0
    go_enter Try.func91, Try.ntmps91
    go_wp2
    go_ret
    exact ⟨rfl, rfl⟩
  · obtain ⟨b, off, rfl, hb, hc⟩ := hA.2 (by omega)
    have HR := Bx.mk (show inR p z = p (z - 1) by unfold inR; rw [if_neg h0])
    have hz0 : ¬ (z : Int) = 0 := by omega
    have hz1 : ((z : Int) == 0) = false := by simpa using hz0
    have hcx := hc (z - 1) (by omega)
    have hidx : ((z : Int) - 1).toNat = z - 1 := by omega
    generalize p (z - 1) = X at *
    clear hc hA
    go_enter Try.func91, Try.ntmps91
    go_wp2
    go_ret
    exact ⟨ret_int HR.out.symm, rfl⟩

end Go.Proofs.Ytokeimlnlmobpaa
