/- Walks: the reference's whole numbers: size, greatest common divisor. -/
import Derived.Test.YtdlddfmodbcnmaaW01
set_option linter.unusedVariables false
set_option linter.unusedSimpArgs false
namespace Go.Proofs.Ytdlddfmodbcnmaa
open Go.RowKit

theorem gcdT_step (a b : Int) : gcdI b (a.tmod b) = gcdI a b := by
  unfold gcdI
  show ((Nat.gcd b.natAbs (a.tmod b).natAbs : Nat) : Int) = ((Nat.gcd a.natAbs b.natAbs : Nat) : Int)
  rw [Int.natAbs_tmod, Nat.gcd_comm, ← Nat.gcd_rec, Nat.gcd_comm]
theorem gcdT_zero (a : Int) : gcdI a 0 = sz a := by unfold gcdI sz; rw [Int.gcd_zero_right]
theorem tmod_bd {a b : Int} (hb : b ≠ 0) : -(sz b) < a.tmod b ∧ a.tmod b < sz b := by
  have h1 : (a.tmod b).natAbs < b.natAbs := by rw [Int.natAbs_tmod]; exact Nat.mod_lt _ (by omega)
  unfold sz; omega

set_option maxHeartbeats 400000 in
theorem absB_any (n : Int) (w : World) (h1 : -9223372036854775807 ≤ n) (h2 : n ≤ 9223372036854775807) :
    Calls Try.prog 63 #[.int .i64 n] w fun e w' => e = .returned (.int .i64 (sz n)) ∧ w = w' := by
  by_cases h : n < 0
  · have hw : IntKind.i64.wrap (-n) = -n := IntWalk.i64_in _ (by omega)
    have HN := Lib.hid (show -n = sz n by unfold sz; omega)
    go_enter Try.func63, Try.ntmps63
    go_wp2
    go_ret
    exact ⟨ret_int HN.out, rfl⟩
  · have HN := Lib.hid (show n = sz n by unfold sz; omega)
    go_enter Try.func63, Try.ntmps63
    go_wp2
    go_ret
    exact ⟨ret_int HN.out, rfl⟩

set_option maxHeartbeats 1000000 in
theorem gcdB_any (a b : Int) (w : World) (ha : I64 a) (hb : -9223372036854775807 ≤ b) (hb' : b ≤ 9223372036854775807) (h0 : b ≠ 0 ∨ a ≠ -9223372036854775808) :
    Calls Try.prog 88 #[.int .i64 a, .int .i64 b] w fun e w' => e = .returned (.int .i64 (gcdI a b)) ∧ ∃ k, w' = w.drewN k := by
  go_enter Try.func88, Try.ntmps88
  go_wp2
  go_loopw [0, 1] (fun x y wr => ∃ p q : Int, I64 p ∧ -9223372036854775807 ≤ q ∧ q ≤ 9223372036854775807 ∧ (q ≠ 0 ∨ p ≠ -9223372036854775808) ∧ x = .int .i64 p ∧ y = .int .i64 q ∧ Hid (gcdI p q = gcdI a b) ∧ ∃ k, wr = w.drewN k) (fun _ y _ => (intOf y).natAbs)
  case atStart => exact ⟨a, b, ha, hb, hb', h0, rfl, rfl, rfl, 0, rfl⟩
  case round =>
    obtain ⟨p, q, hp, hq, hq', hpq, rfl, rfl, HG, k, rfl⟩ := hrel
    obtain ⟨hp1, hp2⟩ := hp
    by_cases hz : q = 0
    · subst hz
      have hp3 : p ≠ -9223372036854775808 := by rcases hpq with h | h; exact absurd rfl h; exact h
      have HG2 := Lib.hid (show sz p = gcdI a b by rw [← HG.out, gcdT_zero])
      clear hpq
      go_wp2_with (go_at_call 63; refine (absB_any p _ (by omega) hp2).mono ?_; rintro e w1 ⟨rfl, rfl⟩)
      go_ret
      exact ⟨ret_int HG2.out, k, rfl⟩
    · obtain ⟨m1, m2⟩ := tmod_bd (a := p) hz
      have s1 : sz q ≤ 9223372036854775807 := sz_le (by omega) hq'
      have HS := Lib.hid (gcdT_step p q)
      have hw : IntKind.i64.wrap (p.tmod q) = p.tmod q := IntWalk.i64_in _ (by omega)
      clear hpq
      go_wp2
      go_region
      go_wp2
      go_roundw
      case rel => exact ⟨q, p.tmod q, ⟨by omega, hq'⟩, by omega, by omega, .inr (by omega), rfl, by first | rfl | rw [hw], HS.out.trans HG.out, k + 1, rfl⟩
      case measure =>
        have h3 : (p.tmod q).natAbs < q.natAbs := by rw [Int.natAbs_tmod]; exact Nat.mod_lt _ (by omega)
        simp [intOf]; exact Nat.mod_lt _ (by omega)

end Go.Proofs.Ytdlddfmodbcnmaa
