/- Walks: errors of polynomials. -/
import Derived.Test.YtdlddfmodbcnmaaW14
set_option linter.unusedVariables false
set_option linter.unusedSimpArgs false
namespace Go.Proofs.Ytdlddfmodbcnmaa
open Go.RowKit

/-- All of the first ones are at most a million. -/
def okP (p : Row) : Nat → Bool
  | 0 => true
  | k + 1 => okP p k && decide (sz (p k) ≤ 1000000)
theorem okP_all {p : Row} : ∀ {n : Nat}, okP p n = true → ∀ i, i < n → sz (p i) ≤ 1000000
  | 0, _, i, h => by omega
  | n + 1, h, i, hi => by
    unfold okP at h
    rw [Bool.and_eq_true, decide_eq_true_iff] at h
    rcases Nat.eq_or_lt_of_le (Nat.le_of_lt_succ hi) with e | e
    · subst e; exact h.2
    · exact okP_all h.1 i e
theorem okP_not {p : Row} {k n : Nat} (hk : k < n) (h : ¬ sz (p k) ≤ 1000000) : okP p n = false := by
  cases hb : okP p n with
  | false => rfl
  | true => exact absurd (okP_all hb k hk) h
def ckP (n : Nat) (p : Row) : Int := if n < 1 ∨ 7 < n then 10 else if okP p n = false then 2 else if p (n - 1) = 0 then 3 else 0

set_option maxHeartbeats 1000000 in
theorem checkPoly_any (A : Option Addr) (n c : Nat) (p : Row) (w : World) (hA : IS w A n p) (hn : n ≤ 1000000) :
    Calls Try.prog 67 #[.slice A n c] w fun e w' => e = .returned (.int .i64 (ckP n p)) ∧ Below w.heap.size w w' := by
  by_cases h1 : n < 1
  · obtain rfl : n = 0 := by omega
    have HR := Lib.hid (show ckP 0 p = 10 by unfold ckP; rw [if_pos (by omega)])
    go_enter Try.func67, Try.ntmps67
    go_wp2
    go_ret
    exact ⟨ret_int HR.out.symm, Below.refl _ _⟩
  · by_cases h7 : 7 < n
    · have h1' : ¬ (n : Int) < 1 := by omega
      have h7' : (7 : Int) < n := by omega
      have HR := Lib.hid (show ckP n p = 10 by unfold ckP; rw [if_pos (by omega)])
      go_enter Try.func67, Try.ntmps67
      go_wp2
      go_ret
      exact ⟨ret_int HR.out.symm, by repeat (first | exact Below.refl _ _ | refine Below.drew ?_ | refine Below.drewN' ?_ _)⟩
    · have h1' : ¬ (n : Int) < 1 := by omega
      have h7' : ¬ (7 : Int) < n := by omega
      have HR := Lib.hid (show ckP n p = if okP p n = false then 2 else if p (n - 1) = 0 then 3 else 0 by unfold ckP; rw [if_neg (by omega)])
      obtain ⟨b1, off, rfl, hb1, hcl1⟩ := hA.2 (by omega)
      have hI := hA.1
      go_enter Try.func67, Try.ntmps67
      go_wp2
      go_loopw [2, 15] (fun r i wr => ∃ k : Nat, k ≤ n ∧ i = .int .i64 k ∧ r = .int .i64 0 ∧ Hid (okP p k = true) ∧ Below w.heap.size w wr) (fun _ i _ => n - (intOf i).toNat)
      case atStart => exact ⟨0, by omega, rfl, rfl, rfl, by repeat (first | exact Below.refl _ _ | refine Below.drew ?_ | refine Below.drewN' ?_ _)⟩
      case round =>
        obtain ⟨k, hk, rfl, rfl, HK, hB⟩ := hrel
        by_cases hlt : k < n
        · have hlt' : (k : Int) < n := by omega
          have hcx := (hB.cell (p := ⟨b1, off + k, none⟩) hb1).trans (hcl1 k hlt)
          have hx := hI k hlt
          have hs0 := sz_nonneg (p k)
          by_cases hs : sz (p k) ≤ 1000000
          · have hs' : ¬ 1000000 < sz (p k) := by omega
            have HO := Lib.hid (show okP p (k + 1) = true by unfold okP; rw [HK.out]; simpa using hs)
            go_wp2_with (go_at_call 87; refine (size_any _ _ hx.1 hx.2).mono ?_; rintro e w1 ⟨rfl, rfl⟩)
            go_roundw
            case rel => exact ⟨k + 1, by omega, by go_num, rfl, HO.out, hB⟩
            case measure => simp [intOf]; omega
          · have hs' : 1000000 < sz (p k) := by omega
            have HO := Lib.hid (okP_not hlt hs)
            go_wp2_with (go_at_call 87; refine (size_any _ _ hx.1 hx.2).mono ?_; rintro e w1 ⟨rfl, rfl⟩)
            go_ret
            exact ⟨ret_int (by rw [HR.out, if_pos HO.out]), hB⟩
        · obtain rfl : k = n := by omega
          have hcx := (hB.cell (p := ⟨b1, off + (k - 1), none⟩) hb1).trans (hcl1 (k - 1) (by omega))
          have hidx : ((k : Int) - 1).toNat = k - 1 := by omega
          by_cases hz : p (k - 1) = 0
          · have HZ := Lib.hid (show ckP k p = 3 by rw [HR.out, if_neg (by rw [HK.out]; simp), if_pos hz])
            rw [hz] at hcx
            go_wp2
            go_ret
            exact ⟨ret_int HZ.out.symm, hB⟩
          · have HZ := Lib.hid (show ckP k p = 0 by rw [HR.out, if_neg (by rw [HK.out]; simp), if_neg hz])
            go_wp2
            go_ret
            exact ⟨ret_int HZ.out.symm, hB⟩

end Go.Proofs.Ytdlddfmodbcnmaa
