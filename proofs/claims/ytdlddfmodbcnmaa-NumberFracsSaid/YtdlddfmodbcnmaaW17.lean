/- Walks: the sign just behind a fraction. -/
import Derived.Test.YtdlddfmodbcnmaaW15
import Derived.Test.YtdlddfmodbcnmaaW16
set_option linter.unusedVariables false
set_option linter.unusedSimpArgs false
namespace Go.Proofs.Ytdlddfmodbcnmaa
open Go.RowKit

theorem sgBehind_zero (N D : Int) (z : Row) : sgBehind N D 0 z = 0 := rfl
theorem sgBehind_no {N D : Int} {m : Nat} {z : Row} (h : sgAt (m + 1) z N D = 0) : sgBehind N D (m + 1) z = sgBehind N D m (dRow z) := by
  show (if sgAt (m + 1) z N D ≠ 0 then _ else _) = _
  rw [if_neg (by simpa using h)]
theorem sgBehind_yes {N D : Int} {m : Nat} {z : Row} (h : sgAt (m + 1) z N D ≠ 0) : sgBehind N D (m + 1) z = sgAt (m + 1) z N D := by
  show (if sgAt (m + 1) z N D ≠ 0 then _ else _) = _
  rw [if_pos h]

set_option maxRecDepth 100000 in
set_option maxHeartbeats 1000000 in
theorem signBehind_any (A : Option Addr) (n c : Nat) (z : Row) (L : Nat) (N D : Int) (w : World) (hA : PA w A n z L) (hn : n ≤ 100) (hL : L ≤ 999999800) (hN : I64 N) (hD : I64 D) :
    Calls Try.prog 148 #[.slice A n c, .int .i64 N, .int .i64 D] w fun e w' => e = .returned (.int .i64 (sgBehind N D n z)) ∧ Below w.heap.size w w' := by
  go_enter Try.func148, Try.ntmps148
  go_wp2
  go_loopw [0] (fun x wr => ∃ (A' : Option Addr) (m c' : Nat) (y : Row), m ≤ n ∧ x = .slice A' m c' ∧ Hid (sgBehind N D m y = sgBehind N D n z) ∧ Hid (PA wr A' m y (L + (n - m))) ∧ Below w.heap.size w wr) (fun x _ => lenOfS x)
  case atStart => exact ⟨A, n, c, z, by omega, rfl, rfl, by simp only [Hid, Nat.sub_self]; exact hA, Below.refl _ _⟩
  case round =>
    obtain ⟨A', m, c', y, hm, rfl, HS, HP, hB⟩ := hrel
    rcases Nat.eq_zero_or_pos m with h0 | h0
    · subst h0
      go_wp2
      go_ret
      exact ⟨ret_int HS.out, hB⟩
    · obtain ⟨j, rfl⟩ : ∃ j, m = j + 1 := ⟨m - 1, by omega⟩
      by_cases hs : sgAt (j + 1) y N D = 0
      · have hs' : (sgAt (j + 1) y N D != 0) = false := by rw [hs]; rfl
        have HN := Lib.hid ((sgBehind_no hs).symm.trans HS.out)
        clear hs
        go_wp2_with (first
          | (go_at_call 106; refine (signAt_any A' (j + 1) c' y _ N D _ HP.out (by omega) (by omega) hN hD).mono ?_; rintro e w1 ⟨rfl, B1⟩)
          | (go_at_call 131; refine (derivative_any A' (j + 1) c' y _ _ (HP.out.below (Nat.le_refl _) B1) (by omega) (by omega)).mono ?_; rintro e w2 ⟨A2, c2, rfl, P2, B2⟩))
        go_roundw
        case rel => exact ⟨A2, j, c2, dRow y, by omega, rfl, HN.out, by simp only [Hid]; exact P2.more (by omega), (hB.trans (B1.mono hB.size)).trans (B2.mono (by have := hB.size; have := B1.size; omega))⟩
        case measure => simp [lenOfS]
      · have hs' : (sgAt (j + 1) y N D != 0) = true := by simpa using hs
        have HN := Lib.hid ((sgBehind_yes hs).symm.trans HS.out)
        clear hs
        go_wp2_with (go_at_call 106; refine (signAt_any A' (j + 1) c' y _ N D _ HP.out (by omega) (by omega) hN hD).mono ?_; rintro e w1 ⟨rfl, B1⟩)
        go_ret
        exact ⟨ret_int HN.out, hB.trans (B1.mono hB.size)⟩

end Go.Proofs.Ytdlddfmodbcnmaa
