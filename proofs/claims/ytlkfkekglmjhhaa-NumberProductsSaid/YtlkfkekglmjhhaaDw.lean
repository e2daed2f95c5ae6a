/- Walks: the long division, whole; what a range's end is multiplied to. -/
import Derived.Test.YtlkfkekglmjhhaaDv
import Derived.Test.YtlkfkekglmjhhaaRa
set_option linter.unusedVariables false
set_option linter.unusedSimpArgs false
namespace Go.Proofs.Ytlkfkekglmjhhaa
open Go.RowKit

theorem bitLen_spec : ∀ x : Nat, 1 ≤ x → x < 2 ^ 64 → 1 ≤ Lib.bitLen x ∧ 2 ^ (Lib.bitLen x - 1) ≤ x ∧ x < 2 ^ Lib.bitLen x := by
  intro x
  induction x using Nat.strongRecOn with
  | ind x ih =>
    intro h1 h2
    rw [Lib.bitLen_half x (by omega) h2]
    by_cases h : x = 1
    · subst h
      have : Lib.bitLen (1 / 2) = 0 := by decide +kernel
      rw [this]; decide
    · obtain ⟨a, b, c⟩ := ih (x / 2) (by omega) (by omega) (by omega)
      refine ⟨by omega, ?_, ?_⟩
      · rw [show 1 + Lib.bitLen (x / 2) - 1 = (Lib.bitLen (x / 2) - 1) + 1 by omega, Nat.pow_succ]; omega
      · rw [Nat.add_comm, Nat.pow_succ]; omega
theorem and32 (a : Int) (h0 : 0 ≤ a) (h1 : a < 18446744073709551616) : bits .and .u64 a 4294967295 = a % 4294967296 := by
  show IntKind.u64.wrap ((BitVec.ofInt 64 a &&& BitVec.ofInt 64 4294967295).toNat : Int) = _
  rw [BitVec.toNat_and]
  have h3 : (BitVec.ofInt 64 4294967295).toNat = 2 ^ 32 - 1 := by decide
  rw [h3, Nat.and_two_pow_sub_one_eq_mod, BitVec.toNat_ofInt, IntKind.wrap_u64]
  omega
theorem or_shift (p a b : Nat) (h : b < 2 ^ p) (ha : 2 ^ p * a + b < 18446744073709551616) : bits .or .u64 ((2 ^ p * a : Nat) : Int) (b : Int) = ((2 ^ p * a + b : Nat) : Int) := by
  show IntKind.u64.wrap ((BitVec.ofInt 64 ((2 ^ p * a : Nat) : Int) ||| BitVec.ofInt 64 (b : Int)).toNat : Int) = _
  rw [BitVec.toNat_or, BitVec.toNat_ofInt, BitVec.toNat_ofInt, IntKind.wrap_u64]
  have e1 : (((2 ^ p * a : Nat) : Int) % (2 ^ 64 : Nat)).toNat = 2 ^ p * a := by
    generalize 2 ^ p * a = x at *; omega
  have e2 : ((b : Int) % (2 ^ 64 : Nat)).toNat = b := by
    generalize 2 ^ p * a = x at *; omega
  rw [e1, e2, ← Nat.two_pow_add_eq_or_of_lt h]
  generalize 2 ^ p * a = x at *
  omega
/-- The numbers of a division that is made with the greatest factor 2^s. -/
theorem div64_facts (hi lo y : Nat) (s : Nat) (hs : s ≤ 63) (h1 : hi < y) (l1 : lo < 18446744073709551616) (p1 : 9223372036854775808 ≤ y * 2 ^ s) (p2 : y * 2 ^ s < 18446744073709551616) :
    hi * 2 ^ s + lo / 2 ^ (64 - s) < y * 2 ^ s ∧ lo / 2 ^ (64 - s) < 2 ^ s ∧ (hi * 2 ^ s + lo / 2 ^ (64 - s)) * 18446744073709551616 + lo * 2 ^ s % 18446744073709551616 = (hi * 18446744073709551616 + lo) * 2 ^ s := by
  have hp : 2 ^ s * 2 ^ (64 - s) = 18446744073709551616 := by rw [← Nat.pow_add, show s + (64 - s) = 64 by omega]
  have hpos : 0 < 2 ^ s := Nat.two_pow_pos s
  have hpos2 : 0 < 2 ^ (64 - s) := Nat.two_pow_pos _
  have hlt : lo / 2 ^ (64 - s) < 2 ^ s := by rw [Nat.div_lt_iff_lt_mul hpos2, hp]; exact l1
  refine ⟨?_, hlt, ?_⟩
  · have := Nat.mul_le_mul_right (2 ^ s) h1
    rw [Nat.succ_mul] at this
    omega
  · have e : lo * 2 ^ s / 18446744073709551616 = lo / 2 ^ (64 - s) := by
      rw [← hp, Nat.mul_comm lo, Nat.mul_div_mul_left _ _ hpos]
    have d := Nat.div_add_mod (lo * 2 ^ s) 18446744073709551616
    rw [e] at d
    rw [Nat.add_mul, Nat.add_mul, Nat.mul_right_comm hi]
    omega

set_option maxHeartbeats 1000000 in
theorem div64_any (hi lo y : Int) (w : World) (h0 : 0 ≤ hi) (h1 : hi < y) (l0 : 0 ≤ lo) (l1 : lo ≤ 18446744073709551615) (h2 : y ≤ 1000000000) :
    Calls Try.prog 116 #[.int .u64 hi, .int .u64 lo, .int .u64 y] w fun e w' => e = .returned (.tuple #[.int .u64 ((hi * 18446744073709551616 + lo) / y), .int .u64 ((hi * 18446744073709551616 + lo) % y)]) ∧ ∃ k, w' = w.drewN k := by
  by_cases hz : hi = 0
  · subst hz
    rw [Int.zero_mul, Int.zero_add]
    exact div64_word lo y w l0 l1 (by omega) (by omega)
  · obtain ⟨hi, rfl⟩ := Int.eq_ofNat_of_zero_le h0
    obtain ⟨lo, rfl⟩ := Int.eq_ofNat_of_zero_le l0
    obtain ⟨y, rfl⟩ := Int.eq_ofNat_of_zero_le (show 0 ≤ y by omega)
    obtain ⟨b1, b2, b3⟩ := bitLen_spec y (by omega) (by omega)
    have b4 := Lib.bitLen_le y 30 (by omega) (by omega)
    obtain ⟨s, hs⟩ : ∃ s, 64 - Lib.bitLen y = s := ⟨_, rfl⟩
    have p1 : 9223372036854775808 ≤ y * 2 ^ s := by
      have := Nat.mul_le_mul_right (2 ^ s) b2
      rw [← Nat.pow_add, show Lib.bitLen y - 1 + s = 63 by omega] at this
      exact this
    have p2 : y * 2 ^ s < 18446744073709551616 := by
      have := (Nat.mul_lt_mul_right (Nat.two_pow_pos s)).2 b3
      rw [← Nat.pow_add, show Lib.bitLen y + s = 64 by omega] at this
      exact this
    obtain ⟨f1, f2, f3⟩ := div64_facts hi lo y s (by omega) (by omega) (by omega) p1 p2
    have c1 : ((2 : Int) ^ ((s : Int)).toNat) = ((2 ^ s : Nat) : Int) := by rw [Int.toNat_natCast, Int.natCast_pow]; rfl
    have c2 : ((2 : Int) ^ (64 - (s : Int)).toNat) = ((2 ^ (64 - s) : Nat) : Int) := by rw [show (64 - (s : Int)).toNat = 64 - s by omega, Int.natCast_pow]; rfl
    have eA : IntKind.u64.wrap ((hi : Int) * 2 ^ ((s : Int)).toNat) = ((2 ^ s * hi : Nat) : Int) := by
      rw [c1, ← Int.natCast_mul, IntKind.wrap_u64, Nat.mul_comm hi]
      have f0 : 2 ^ s * hi < 18446744073709551616 := by rw [Nat.mul_comm]; exact Nat.lt_of_le_of_lt (Nat.le_add_right _ _) (Nat.lt_trans f1 p2)
      generalize 2 ^ s * hi = x at *
      omega
    have eY : IntKind.u64.wrap ((y : Int) * 2 ^ ((s : Int)).toNat) = ((y * 2 ^ s : Nat) : Int) := by
      rw [c1, ← Int.natCast_mul, IntKind.wrap_u64]
      generalize y * 2 ^ s = x at *
      omega
    have eC : IntKind.u64.wrap ((lo : Int) * 2 ^ ((s : Int)).toNat) = ((lo * 2 ^ s % 18446744073709551616 : Nat) : Int) := by
      rw [c1, ← Int.natCast_mul, IntKind.wrap_u64]
      generalize lo * 2 ^ s = x at *
      omega
    have eB : (lo : Int) / 2 ^ (64 - (s : Int)).toNat = ((lo / 2 ^ (64 - s) : Nat) : Int) := by rw [c2]; rfl
    have eU : bits .or .u64 ((2 ^ s * hi : Nat) : Int) ((lo / 2 ^ (64 - s) : Nat) : Int) = ((hi * 2 ^ s + lo / 2 ^ (64 - s) : Nat) : Int) := by
      rw [Nat.mul_comm hi]
      rw [Nat.mul_comm hi] at f1
      exact or_shift s hi _ f2 (Nat.lt_trans f1 p2)
    have hsum : ((hi * 2 ^ s + lo / 2 ^ (64 - s) : Nat) : Int) * 18446744073709551616 + ((lo * 2 ^ s % 18446744073709551616 : Nat) : Int) = ((hi : Int) * 18446744073709551616 + lo) * ((2 ^ s : Nat) : Int) := by
      have := congrArg (fun n : Nat => (n : Int)) f3
      simpa only [Int.natCast_add, Int.natCast_mul, Int.cast_ofNat_Int] using this
    have cY : ((y * 2 ^ s : Nat) : Int) = (y : Int) * ((2 ^ s : Nat) : Int) := Int.natCast_mul _ _
    have hP : (0 : Int) < ((2 ^ s : Nat) : Int) := by have := Nat.two_pow_pos s; omega
    have hC1 : ((lo * 2 ^ s % 18446744073709551616 : Nat) : Int) < 18446744073709551616 := by omega
    have g0 : (0 : Int) ≤ ((hi * 2 ^ s + lo / 2 ^ (64 - s) : Nat) : Int) := Int.natCast_nonneg _
    have g1 : ((hi * 2 ^ s + lo / 2 ^ (64 - s) : Nat) : Int) < ((y * 2 ^ s : Nat) : Int) := Int.ofNat_lt.2 f1
    have g2 : (9223372036854775808 : Int) ≤ ((y * 2 ^ s : Nat) : Int) := Int.ofNat_le.2 p1
    have g3 : ((y * 2 ^ s : Nat) : Int) < 18446744073709551616 := Int.ofNat_lt.2 p2
    have g4 : (0 : Int) ≤ ((lo * 2 ^ s % 18446744073709551616 : Nat) : Int) := Int.natCast_nonneg _
    have key := div64_core hi lo y s ((y * 2 ^ s : Nat) : Int) _ _ _ _ _ _ _ _ w (by omega) h1 (by omega) l1 h2 ⟨by rw [Int.toNat_natCast]; omega⟩ (by omega) (by omega) eY rfl (and32 _ (by omega) (by omega)) eA eB eU eC rfl (and32 _ (by omega) (by omega))
      (by omega) (by omega) (by omega) (by omega) ⟨by omega⟩ (by omega) (by omega) (by omega) (by omega) (by omega) (by omega) (by omega) (by omega)
    refine key.mono fun e w' ⟨he, hw⟩ => ⟨he.trans ?_, 0, hw ▸ rfl⟩
    have eN : ((((hi * 2 ^ s + lo / 2 ^ (64 - s) : Nat) : Int) * 4294967296 + ((lo * 2 ^ s % 18446744073709551616 : Nat) : Int) / 4294967296) * 4294967296 + ((lo * 2 ^ s % 18446744073709551616 : Nat) : Int) % 4294967296) = ((hi : Int) * 18446744073709551616 + lo) * ((2 ^ s : Nat) : Int) := by
      rw [← hsum]; omega
    rw [eN, cY, c1, Int.mul_ediv_mul_of_pos_left _ _ hP, Int.mul_comm _ ((2 ^ s : Nat) : Int), Int.mul_comm (y : Int), Int.mul_emod_mul_of_pos _ _ hP, Int.mul_ediv_cancel_left _ (by omega)]

end Go.Proofs.Ytlkfkekglmjhhaa
