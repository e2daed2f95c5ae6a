/- Walks: package number's small functions. -/
import Derived.Test.YtdlddfmodbcnmaaChecked
import Derived.WalkKit
import Derived.WalkSpells
import Derived.WalkLawsBesides
import Derived.BigQuiet
import Derived.Deep.QuietTactic
import Derived.Lib.Hide
import Derived.Test.YtdlddfmodbcnmaaPlain
set_option linter.unusedVariables false
set_option linter.unusedSimpArgs false
namespace Go.Proofs.Ytdlddfmodbcnmaa
open Go.RowKit

set_option maxHeartbeats 400000 in
theorem size_any (n : Int) (w : World) (h1 : -9223372036854775808 ≤ n) (h2 : n ≤ 9223372036854775807) :
    Calls Try.prog 87 #[.int .i64 n] w fun e w' => e = .returned (.int .u64 (sz n)) ∧ w = w' := by
  by_cases h : n < 0
  · go_enter Try.func87, Try.ntmps87
    go_wp2
    go_ret
    exact ⟨ret_int (sz_neg_wrap h1 h), rfl⟩
  · go_enter Try.func87, Try.ntmps87
    go_wp2
    go_ret
    exact ⟨ret_int (sz_pos (by omega)), rfl⟩

theorem size_q (n : Int) {w : World} {k : Nat} (h1 : -9223372036854775808 ≤ n) (h2 : n ≤ 9223372036854775807) :
    Calls Try.prog 87 #[.int .i64 n] (w.drewN k) fun e w'' => e = .returned (.int .u64 (sz n)) ∧ ∃ m, w'' = w.drewN m :=
  Calls.quiet_of_same ((size_any n _ h1 h2).mono fun _ _ hh => ⟨hh.1, hh.2.symm⟩)

set_option maxHeartbeats 400000 in
theorem divisor_any (a b : Int) (w : World) (ha : 0 ≤ a) (ha' : a ≤ 18446744073709551615) (hb : 0 ≤ b) (hb' : b ≤ 18446744073709551615) :
    Calls Try.prog 86 #[.int .u64 a, .int .u64 b] w fun e w' => e = .returned (.int .u64 (gcdI a b)) ∧ ∃ k, w' = w.drewN k := by
  go_enter Try.func86, Try.ntmps86
  go_wp2
  go_loopw [0, 1] (fun x y wr => ∃ p q : Int, 0 ≤ p ∧ p ≤ 18446744073709551615 ∧ 0 ≤ q ∧ q ≤ 18446744073709551615 ∧ x = .int .u64 p ∧ y = .int .u64 q ∧ Hid (gcdI p q = gcdI a b) ∧ ∃ k, wr = w.drewN k) (fun _ y _ => (intOf y).toNat)
  case atStart => exact ⟨a, b, ha, ha', hb, hb', rfl, rfl, rfl, 0, rfl⟩
  case round =>
    obtain ⟨p, q, hp, hp', hq, hq', rfl, rfl, HG, k, rfl⟩ := hrel
    by_cases h0 : q = 0
    · subst h0
      go_wp2
      go_ret
      exact ⟨ret_int (by rw [← HG.out]; exact (gcdI_zero hp).symm), k, rfl⟩
    · have hq1 : 1 ≤ q := by omega
      clear h0
      have hm1 : 0 ≤ p % q := Int.emod_nonneg _ (by omega)
      have hm2 : p % q < q := Int.emod_lt_of_pos _ (by omega)
      have HS := Lib.hid (gcdI_step (a := p) (b := q) hp hq)
      go_wp2
      go_region
      go_wp2
      go_roundw
      case rel => exact ⟨q, p % q, hq, hq', hm1, by omega, rfl, rfl, HS.out.trans HG.out, k + 1, rfl⟩
      case measure => simp [intOf]; omega

theorem bcell {W w1 : World} (hb : Below W.heap.size W w1) : (∀ b o, b < W.heap.size → w1.cell? ⟨b, o, none⟩ = W.cell? ⟨b, o, none⟩) ∧ (∀ b o, b < W.heap.size → w1.frozen? ⟨b, o, none⟩ = W.frozen? ⟨b, o, none⟩) :=
  ⟨fun b o h => hb.cell (p := ⟨b, o, none⟩) h, fun b o h => hb.frozen (p := ⟨b, o, none⟩) h⟩
theorem _root_.Go.RowKit.Below.drewN' {B : Nat} {a w : World} (h : Below B a w) (n : Nat) : Below B a (w.drewN n) := ⟨h.os, h.tape, h.output, h.size, h.block⟩
theorem below_drewN {B : Nat} {a w : World} (h : Below B a w) (n : Nat) : Below B a (w.drewN n) := ⟨h.os, h.tape, h.output, h.size, h.block⟩

set_option maxHeartbeats 1000000 in
theorem checkFrac_any (n d : Int) (w : World) (hn : -9223372036854775808 ≤ n) (hn' : n ≤ 9223372036854775807) (hd : -9223372036854775808 ≤ d) (hd' : d ≤ 9223372036854775807) :
    Calls Try.prog 26 #[.agg #[.int .i64 n, .int .i64 d]] w fun e w' => e = .returned (.int .i64 (ckF n d)) ∧ Below w.heap.size w w' := by
  by_cases h1 : d ≤ 0
  · have HR := Lib.hid (show ckF n d = 3 by unfold ckF; rw [if_pos h1])
    go_enter Try.func26, Try.ntmps26
    go_wp2
    go_quiet (fail)
    go_wp2
    go_ret
    exact ⟨ret_int HR.out.symm, below_drewN ((Below.refl _ _).alloc (Nat.le_refl _) _) _⟩
  · have s1 := sz_nonneg n
    have s2 := sz_max hn hn'
    have s3 := sz_nonneg d
    have s4 := sz_max hd hd'
    have h1' : 0 < d := by omega
    have hg0 := gcdI_nonneg n d
    have hgs := gcdI_nonneg (sz n) (sz d)
    by_cases h2 : gcdI n d = 1
    · have hb : (gcdI (sz n) (sz d) != 1) = false := by rw [gcdI_sz, h2]; rfl
      have HR := Lib.hid (show ckF n d = if 1000000000 < sz n then 2 else if 1000000000 < d then 2 else 0 by unfold ckF; rw [if_neg h1, if_neg (by simp [h2])])
      clear h2
      go_enter Try.func26, Try.ntmps26
      go_wp2
      go_quiet (first
        | (go_at_call 87; exact size_q _ (by omega) (by omega))
        | (go_at_call 86; exact Calls.quiet_of (divisor_any _ _ _ (by omega) (by omega) (by omega) (by omega))))
      go_wp2_with (go_at_call 87; refine (size_any _ _ hn hn').mono ?_; rintro e w' ⟨rfl, rfl⟩)
      all_goals
        go_ret
        exact ⟨ret_int (by rw [HR.out]; split <;> (try split) <;> omega), below_drewN ((Below.refl _ _).alloc (Nat.le_refl _) _) _⟩
    · have hb : (gcdI (sz n) (sz d) != 1) = true := by rw [gcdI_sz]; simpa using h2
      have HR := Lib.hid (show ckF n d = 3 by unfold ckF; rw [if_neg h1, if_pos h2])
      clear h2
      go_enter Try.func26, Try.ntmps26
      go_wp2
      go_quiet (first
        | (go_at_call 87; exact size_q _ (by omega) (by omega))
        | (go_at_call 86; exact Calls.quiet_of (divisor_any _ _ _ (by omega) (by omega) (by omega) (by omega))))
      go_wp2_with fail
      go_ret
      exact ⟨ret_int HR.out.symm, below_drewN ((Below.refl _ _).alloc (Nat.le_refl _) _) _⟩

end Go.Proofs.Ytdlddfmodbcnmaa
