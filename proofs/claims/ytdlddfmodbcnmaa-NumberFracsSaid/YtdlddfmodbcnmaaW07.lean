/- Walks: words: the library's sums, differences and products of words. -/
import Derived.Test.YtdlddfmodbcnmaaW06
import Derived.Test.YtdlddfmodbcnmaaWords
import Derived.Shelf.Bits.Mul64
import Derived.Shelf.Spec.BitsCarry
set_option linter.unusedVariables false
set_option linter.unusedSimpArgs false
namespace Go.Proofs.Ytdlddfmodbcnmaa
open Go.RowKit

theorem add64 (x y c : Int) (hx : U64 x) (hy : U64 y) (hc0 : 0 ≤ c) (hc : c ≤ 1) (w : World) : (callFunc 150 #[.int .u64 x, .int .u64 y, .int .u64 c]).run Try.prog w =
    .ok (.value (.tuple #[.int .u64 ((x + y + c) % 18446744073709551616), .int .u64 ((x + y + c) / 18446744073709551616)])) w := by
  obtain ⟨hx, hx'⟩ := hx
  obtain ⟨hy, hy'⟩ := hy
  obtain ⟨x, rfl⟩ := Int.eq_ofNat_of_zero_le hx
  obtain ⟨y, rfl⟩ := Int.eq_ofNat_of_zero_le hy
  obtain ⟨c, rfl⟩ := Int.eq_ofNat_of_zero_le hc0
  rw [run_callFunc_extern Try.func150 (by kernel_rfl) (by kernel_rfl) (by kernel_rfl) (e := add64Entry) (by kernel_rfl), run_add64 x y c (by omega) (by omega) (by omega) (by omega)]
  simp only [Result.andThen]

theorem add64_0 (x y : Int) (hx : U64 x) (hy : U64 y) (w : World) : (callFunc 150 #[.int .u64 x, .int .u64 y, .int .u64 0]).run Try.prog w =
    .ok (.value (.tuple #[.int .u64 ((x + y) % 18446744073709551616), .int .u64 ((x + y) / 18446744073709551616)])) w := by
  have h := add64 x y 0 hx hy (Int.le_refl 0) (by decide) w
  rwa [Int.add_zero] at h

theorem sub64 (x y b : Int) (hx : U64 x) (hy : U64 y) (hb0 : 0 ≤ b) (hb : b ≤ 1) (w : World) : (callFunc 153 #[.int .u64 x, .int .u64 y, .int .u64 b]).run Try.prog w =
    .ok (.value (.tuple #[.int .u64 ((x - y - b) % 18446744073709551616), .int .u64 (if x < y + b then 1 else 0)])) w := by
  obtain ⟨hx, hx'⟩ := hx
  obtain ⟨hy, hy'⟩ := hy
  obtain ⟨x, rfl⟩ := Int.eq_ofNat_of_zero_le hx
  obtain ⟨y, rfl⟩ := Int.eq_ofNat_of_zero_le hy
  obtain ⟨b, rfl⟩ := Int.eq_ofNat_of_zero_le hb0
  have e1 : (((x + 18446744073709551616 - y - b) % 18446744073709551616 : Nat) : Int) = ((x : Int) - y - b) % 18446744073709551616 := by omega
  have e2 : ((if x < y + b then 1 else 0 : Nat) : Int) = if (x : Int) < y + b then 1 else 0 := by split <;> split <;> omega
  rw [← e1, ← e2]
  rw [run_callFunc_extern Try.func153 (by kernel_rfl) (by kernel_rfl) (by kernel_rfl) (e := sub64Entry) (by kernel_rfl), run_sub64 x y b (by omega)]
  rfl

theorem sub64b (x y b : Int) (hx : U64 x) (hy : U64 y) (hb0 : 0 ≤ b) (hb : b ≤ 1) (w : World) : (callFunc 153 #[.int .u64 x, .int .u64 y, .int .u64 b]).run Try.prog w =
    .ok (.value (.tuple #[.int .u64 ((x - y - b) % 18446744073709551616), .int .u64 (bor x (y + b))])) w := sub64 x y b hx hy hb0 hb w
theorem sub64b0 (x b : Int) (hx : U64 x) (hb0 : 0 ≤ b) (hb : b ≤ 1) (w : World) : (callFunc 153 #[.int .u64 x, .int .u64 0, .int .u64 b]).run Try.prog w =
    .ok (.value (.tuple #[.int .u64 ((x - b) % 18446744073709551616), .int .u64 (bor x b)])) w := by
  have h := sub64b x 0 b hx ⟨by omega, by omega⟩ hb0 hb w
  rwa [Int.sub_zero, Int.zero_add] at h

set_option maxHeartbeats 1000000 in
theorem mul64_nat (x y : Nat) (hx : x < 18446744073709551616) (hy : y < 18446744073709551616) (w : World) :
    Calls Try.prog 115 #[.int .u64 x, .int .u64 y] w fun e w' => e = .returned (.tuple #[.int .u64 ((x * y / 18446744073709551616 : Nat) : Int), .int .u64 ((x * y % 18446744073709551616 : Nat) : Int)]) ∧ w = w' := by
  obtain ⟨bd, bt, bw, hhi⟩ := Lib.mul64_hi x y hx hy
  have ba := Lib.half_mul_le (a := x / 4294967296) (b := y / 4294967296) (by omega) (by omega)
  have bb := Lib.half_mul_le (a := x / 4294967296) (b := y % 4294967296) (by omega) (by omega)
  have bc := Lib.half_mul_le (a := x % 4294967296) (b := y / 4294967296) (by omega) (by omega)
  have ba' : x / 4294967296 * (y / 4294967296) < 18446744073709551616 := by omega
  have bb' : x / 4294967296 * (y % 4294967296) < 18446744073709551616 := by omega
  have bc' : x % 4294967296 * (y / 4294967296) < 18446744073709551616 := by omega
  have bh1 : x / 4294967296 * (y / 4294967296) + (x / 4294967296 * (y % 4294967296) + x % 4294967296 * (y % 4294967296) / 4294967296) / 4294967296 < 18446744073709551616 := by omega
  have bh : x / 4294967296 * (y / 4294967296) + (x / 4294967296 * (y % 4294967296) + x % 4294967296 * (y % 4294967296) / 4294967296) / 4294967296 + ((x / 4294967296 * (y % 4294967296) + x % 4294967296 * (y % 4294967296) / 4294967296) % 4294967296 + x % 4294967296 * (y / 4294967296)) / 4294967296 < 18446744073709551616 := by omega
  go_enter Try.func115, Try.ntmps115
  go_wp2
  simp only [Mul64.maskN x hx, Mul64.maskN y hy, Mul64.divN, Mul64.mulN, Mul64.addN, Mul64.wrapN _ bd, Mul64.wrapN _ bb', Mul64.wrapN _ bt, Mul64.maskN _ bt, Mul64.wrapN _ bc', Mul64.wrapN _ bw, Mul64.wrapN _ ba', Mul64.wrapN _ bh1, Mul64.wrapN _ bh, Mul64.wrapM (x * y)]
  rw [hhi]
  go_ret2
  exact ⟨rfl, rfl⟩

theorem mul64_any (x y : Int) (hx : U64 x) (hy : U64 y) (w : World) :
    Calls Try.prog 115 #[.int .u64 x, .int .u64 y] w fun e w' => e = .returned (.tuple #[.int .u64 (x * y / 18446744073709551616), .int .u64 (x * y % 18446744073709551616)]) ∧ w = w' := by
  obtain ⟨hx, hx'⟩ := hx
  obtain ⟨hy, hy'⟩ := hy
  obtain ⟨x, rfl⟩ := Int.eq_ofNat_of_zero_le hx
  obtain ⟨y, rfl⟩ := Int.eq_ofNat_of_zero_le hy
  refine (mul64_nat x y (by omega) (by omega) w).mono fun e w' h => ⟨h.1.trans ?_, h.2⟩
  have e1 : ((x * y / 18446744073709551616 : Nat) : Int) = (x : Int) * y / 18446744073709551616 := by rw [Int.natCast_ediv, Int.natCast_mul]; rfl
  have e2 : ((x * y % 18446744073709551616 : Nat) : Int) = (x : Int) * y % 18446744073709551616 := by rw [Int.natCast_emod, Int.natCast_mul]; rfl
  rw [e1, e2]

/-- The slice at A of n words holds the words f. -/
def WS (w : World) (A : Option Addr) (n : Nat) (f : Nat → Int) : Prop :=
  (∀ i, i < n → U64 (f i)) ∧ (0 < n → ∃ b, A = some ⟨b, 0, none⟩ ∧ b < w.heap.size ∧ ∀ j, j < n → w.cell? ⟨b, j, none⟩ = some (.int .u64 (f j)))
theorem WS.below {w w' : World} {A : Option Addr} {n : Nat} {f : Nat → Int} {B : Nat} (h : WS w A n f) (hB : w.heap.size ≤ B) (hb : Below B w w') : WS w' A n f :=
  ⟨h.1, fun hn => by
    obtain ⟨b, e, hl, hc⟩ := h.2 hn
    exact ⟨b, e, Nat.lt_of_lt_of_le hl hb.size, fun j hj => (hb.cell (p := ⟨b, j, none⟩) (by show b < B; omega)).trans (hc j hj)⟩⟩

/-- The length in a slot. -/
def lenOfS : Value → Nat | .slice _ n _ => n | _ => 0

set_option maxHeartbeats 1000000 in
theorem withoutZeros_any (b n c : Nat) (f : Nat → Int) (w : World) (hc : ∀ j, j < n → w.cell? ⟨b, j, none⟩ = some (.int .u64 (f j))) (hn : n ≤ c) (hn' : c ≤ 9223372036854775807) :
    Calls Try.prog 137 #[.slice (some ⟨b, 0, none⟩) n c] w fun e w' => ∃ m, m ≤ n ∧ (0 < m → f (m - 1) ≠ 0) ∧ (∀ i, m ≤ i → i < n → f i = 0) ∧ e = .returned (.slice (some ⟨b, 0, none⟩) m c) ∧ w = w' := by
  go_enter Try.func137, Try.ntmps137
  go_wp2
  go_loop [0] (fun x => ∃ m, m ≤ n ∧ Hid (∀ i, m ≤ i → i < n → f i = 0) ∧ x = .slice (some ⟨b, 0, none⟩) m c) (fun x => lenOfS x)
  case atStart => exact ⟨n, by omega, fun i _ _ => by omega, rfl⟩
  case round =>
    obtain ⟨m, hm, HZ, rfl⟩ := hrel
    rcases Nat.eq_zero_or_pos m with h0 | h0
    · subst h0
      go_wp2
      go_ret
      exact ⟨0, by omega, by omega, HZ.out, rfl, rfl⟩
    · obtain ⟨k, rfl⟩ : ∃ k, m = k + 1 := ⟨m - 1, by omega⟩
      have hck := hc k (by omega)
      by_cases hz : f k = 0
      · have hz' : (f k == 0) = true := by simpa using hz
        have HZ2 := Lib.hid (show ∀ i, k ≤ i → i < n → f i = 0 from fun i hi hi' => by
          rcases Nat.eq_or_lt_of_le hi with e | e
          · subst e; exact hz
          · exact HZ.out i (by omega) hi')
        clear hz HZ hc
        go_wp2
        go_round
        case rel => exact ⟨k, by omega, HZ2.out, rfl⟩
        case measure => simp [lenOfS]
      · have hz' : (f k == 0) = false := by simpa using hz
        have HZ3 := Lib.hid hz
        clear hz hc
        go_wp2
        go_ret
        exact ⟨k + 1, hm, fun _ => HZ3.out, HZ.out, rfl, rfl⟩

end Go.Proofs.Ytdlddfmodbcnmaa
