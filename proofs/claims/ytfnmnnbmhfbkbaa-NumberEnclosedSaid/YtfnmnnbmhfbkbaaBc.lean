/- Contracts of the program, joined: Words W07 W08 W09 W10 Back W11 W12 W13 -/
import Derived.Test.YtfnmnnbmhfbkbaaBa
import Derived.Test.YtfnmnnbmhfbkbaaBb
import Derived.Shelf.Bits.Mul64
import Derived.Shelf.Spec.BitsCarry
import Derived.Deep.OwnRows
import Derived.RangeFuncNested
import Derived.RangeFuncBound
import Derived.RangeFuncCalls
import Derived.RangeFuncLeaves
import Derived.RangeFuncBox
import Derived.Shelf.Abstract
import Derived.Shelf.RegionOpen
import Derived.OwnWalkIn
import Derived.TacticsInMore
import Derived.LoopNIn
import Derived.LoopIn
import Derived.Deep.RegionHeld3
/-! Words -/
set_option linter.unusedVariables false
set_option linter.unusedSimpArgs false
namespace Go.Proofs.Ytfnmnnbmhfbkbaa

/-- A word. -/
def U64 (x : Int) : Prop := 0 ≤ x ∧ x ≤ 18446744073709551615
/-- One more than the greatest word. -/
def BB : Int := 18446744073709551616
theorem BB_eq : BB = 18446744073709551616 := rfl
/-- The number of the first n words. -/
def vf (f : Nat → Int) : Nat → Int
  | 0 => 0
  | n + 1 => vf f n + f n * BB ^ n
theorem BB_pos (n : Nat) : 0 < BB ^ n := Int.pow_pos (by decide)
theorem vf_congr {f g : Nat → Int} : ∀ n, (∀ i, i < n → f i = g i) → vf f n = vf g n
  | 0, _ => rfl
  | n + 1, h => by
    show vf f n + f n * BB ^ n = vf g n + g n * BB ^ n
    rw [vf_congr n (fun i hi => h i (by omega)), h n (by omega)]
theorem vf_bd {f : Nat → Int} : ∀ n, (∀ i, i < n → U64 (f i)) → 0 ≤ vf f n ∧ vf f n < BB ^ n
  | 0, _ => ⟨by simp [vf], by simp [vf]⟩
  | n + 1, h => by
    obtain ⟨a, b⟩ := vf_bd n (fun i hi => h i (by omega))
    obtain ⟨c, d⟩ := h n (by omega)
    have p := BB_pos n
    have e := Int.mul_nonneg c (show 0 ≤ BB ^ n by omega)
    have g : f n * BB ^ n ≤ (BB - 1) * BB ^ n := Int.mul_le_mul_of_nonneg_right (by rw [BB_eq]; omega) (by omega)
    rw [Int.sub_mul] at g
    show 0 ≤ vf f n + f n * BB ^ n ∧ vf f n + f n * BB ^ n < BB ^ (n + 1)
    rw [Int.pow_succ, Int.mul_comm (BB ^ n) BB]
    omega
/-- Zeros at the end add nothing. -/
theorem vf_trim {f : Nat → Int} {m : Nat} : ∀ n, m ≤ n → (∀ i, m ≤ i → i < n → f i = 0) → vf f n = vf f m
  | 0, h, _ => by obtain rfl : m = 0 := by omega
                  rfl
  | n + 1, h, hz => by
    rcases Nat.lt_or_ge n m with h1 | h1
    · obtain rfl : m = n + 1 := by omega
      rfl
    · show vf f n + f n * BB ^ n = _
      rw [hz n h1 (by omega), vf_trim n h1 (fun i hi hi' => hz i hi (by omega))]
      omega
/-- A top word that is not 0. -/
theorem vf_top {f : Nat → Int} {n : Nat} (h : ∀ i, i < n + 1 → U64 (f i)) (ht : f n ≠ 0) : BB ^ n ≤ vf f (n + 1) := by
  obtain ⟨a, _⟩ := vf_bd n (fun i hi => h i (by omega))
  obtain ⟨c, _⟩ := h n (by omega)
  have g : 1 * BB ^ n ≤ f n * BB ^ n := Int.mul_le_mul_of_nonneg_right (by omega) (by have := BB_pos n; omega)
  show _ ≤ vf f n + f n * BB ^ n
  omega

/-- The words beyond the end are 0. -/
def ext (g : Nat → Int) (m : Nat) : Nat → Int := fun j => if j < m then g j else 0
theorem ext_lt {g : Nat → Int} {m k : Nat} (h : k < m) : ext g m k = g k := by unfold ext; rw [if_pos h]
theorem ext_ge {g : Nat → Int} {m k : Nat} (h : ¬ k < m) : ext g m k = 0 := by unfold ext; rw [if_neg h]
theorem ext_U64 {g : Nat → Int} {m : Nat} (h : ∀ i, i < m → U64 (g i)) (k : Nat) : U64 (ext g m k) := by
  unfold ext
  split
  · exact h _ (by assumption)
  · exact ⟨by omega, by omega⟩
theorem vf_ext {g : Nat → Int} {m n : Nat} (h : m ≤ n) : vf (ext g m) n = vf g m := by
  rw [vf_trim (m := m) n h (fun i hi _ => ext_ge (by omega))]
  exact vf_congr m fun i hi => ext_lt hi
/-- One word set. -/
def upd (s : Nat → Int) (k : Nat) (v : Int) : Nat → Int := fun j => if j = k then v else s j
theorem upd_same (s : Nat → Int) (k : Nat) (v : Int) : upd s k v k = v := by unfold upd; rw [if_pos rfl]
theorem upd_other {s : Nat → Int} {k j : Nat} {v : Int} (h : j ≠ k) : upd s k v j = s j := by unfold upd; rw [if_neg h]
theorem vf_upd (s : Nat → Int) (k : Nat) (v : Int) : vf (upd s k v) k = vf s k := vf_congr k fun i hi => upd_other (by omega)
theorem upd_U64 {s : Nat → Int} {k : Nat} {v : Int} (h : ∀ i, U64 (s i)) (hv : U64 v) (i : Nat) : U64 (upd s k v i) := by
  unfold upd; split
  · exact hv
  · exact h i
theorem U64_mod (x : Int) : U64 (x % 18446744073709551616) := ⟨by omega, by omega⟩
/-- One word added. -/
theorem add_step {s f g : Nat → Int} {k : Nat} {c : Int} (h : vf s k + c * BB ^ k = vf f k + vf g k) :
    vf (upd s k ((f k + g k + c) % 18446744073709551616)) (k + 1) + (f k + g k + c) / 18446744073709551616 * BB ^ (k + 1) = vf f (k + 1) + vf g (k + 1) := by
  show vf (upd s k _) k + upd s k _ k * BB ^ k + _ = vf f k + f k * BB ^ k + (vf g k + g k * BB ^ k)
  rw [vf_upd, upd_same, Int.pow_succ]
  generalize hT : f k + g k + c = t
  have e : t % 18446744073709551616 + t / 18446744073709551616 * BB = t := by rw [BB_eq]; omega
  have e2 : (t % 18446744073709551616 + t / 18446744073709551616 * BB) * BB ^ k = f k * BB ^ k + g k * BB ^ k + c * BB ^ k := by rw [e, ← hT, Int.add_mul, Int.add_mul]
  rw [Int.add_mul, Int.mul_assoc, Int.mul_comm BB] at e2
  omega

/-- The borrow. -/
def bor (x y : Int) : Int := if x < y then 1 else 0
theorem bor_bd (x y : Int) : 0 ≤ bor x y ∧ bor x y ≤ 1 := by unfold bor; split <;> omega
theorem sub_step {s f g : Nat → Int} {k : Nat} {c : Int} (h : vf s k = vf f k - vf g k + c * BB ^ k) (hf : U64 (f k)) (hg : U64 (g k)) (hc : 0 ≤ c) (hc' : c ≤ 1) :
    vf (upd s k ((f k - g k - c) % 18446744073709551616)) (k + 1) = vf f (k + 1) - vf g (k + 1) + bor (f k) (g k + c) * BB ^ (k + 1) := by
  show vf (upd s k _) k + upd s k _ k * BB ^ k = vf f k + f k * BB ^ k - (vf g k + g k * BB ^ k) + _
  rw [vf_upd, upd_same, Int.pow_succ, h]
  obtain ⟨f0, f1⟩ := hf
  obtain ⟨g0, g1⟩ := hg
  have e : (f k - g k - c) % 18446744073709551616 = f k - g k - c + bor (f k) (g k + c) * BB := by rw [BB_eq]; unfold bor; split <;> omega
  rw [e, Int.add_mul, Int.sub_mul, Int.sub_mul, Int.mul_assoc, Int.mul_comm BB]
  omega
theorem sub_end {s f g : Nat → Int} {n m : Nat} {c : Int} (h : vf s n = vf f n - vf (ext g m) n + c * BB ^ n) (hmn : m ≤ n) (hs : ∀ i, U64 (s i)) (hle : vf g m ≤ vf f n) (hc : 0 ≤ c) (hc' : c ≤ 1) : vf s n = vf f n - vf g m := by
  obtain ⟨a, b⟩ := vf_bd n (fun i _ => hs i)
  rw [vf_ext hmn] at h
  rcases Int.lt_or_le 0 c with h1 | h1
  · obtain rfl : c = 1 := by omega
    omega
  · obtain rfl : c = 0 := by omega
    omega

/-- One word of a product. -/
theorem mul_step {s s0 g : Nat → Int} {i j : Nat} {F c c' new : Int} (h : vf s (i + j) + c * BB ^ (i + j) = vf s0 (i + j) + F * vf g j * BB ^ i) (ht : new + c' * BB = F * g j + s0 (i + j) + c) :
    vf (upd s (i + j) new) (i + (j + 1)) + c' * BB ^ (i + (j + 1)) = vf s0 (i + (j + 1)) + F * vf g (j + 1) * BB ^ i := by
  show vf (upd s (i + j) new) (i + j) + upd s (i + j) new (i + j) * BB ^ (i + j) + c' * BB ^ (i + j + 1) = vf s0 (i + j) + s0 (i + j) * BB ^ (i + j) + F * (vf g j + g j * BB ^ j) * BB ^ i
  rw [vf_upd, upd_same, Int.pow_succ]
  have e1 : (new + c' * BB) * BB ^ (i + j) = (F * g j + s0 (i + j) + c) * BB ^ (i + j) := by rw [ht]
  have e2 : F * (g j * BB ^ j) * BB ^ i = F * g j * BB ^ (i + j) := by
    rw [Int.pow_add, ← Int.mul_assoc F, Int.mul_assoc (F * g j), Int.mul_comm (BB ^ j)]
  have e3 : c' * (BB ^ (i + j) * BB) = c' * BB * BB ^ (i + j) := by rw [Int.mul_assoc, Int.mul_comm BB]
  rw [Int.add_mul, Int.add_mul, Int.add_mul] at e1
  rw [Int.mul_add, Int.add_mul, e2, e3]
  omega
/-- The two words of x y + p + c. -/
theorem mul_words {x y p c hi lo : Int} (hx : U64 x) (hy : U64 y) (hp : U64 p) (hc : U64 c) (h : x * y = hi * 18446744073709551616 + lo) (hl : U64 lo) :
    0 ≤ hi ∧ hi ≤ 18446744073709551614 ∧ hi + (lo + p) / 18446744073709551616 + ((lo + p) % 18446744073709551616 + c) / 18446744073709551616 ≤ 18446744073709551615 ∧
    ((lo + p) % 18446744073709551616 + c) % 18446744073709551616 + (hi + (lo + p) / 18446744073709551616 + ((lo + p) % 18446744073709551616 + c) / 18446744073709551616) * BB = x * y + p + c := by
  obtain ⟨x0, x1⟩ := hx
  obtain ⟨y0, y1⟩ := hy
  obtain ⟨p0, p1⟩ := hp
  obtain ⟨c0, c1⟩ := hc
  obtain ⟨l0, l1⟩ := hl
  have m := mul_bd (x := x) (y := y) (A := 18446744073709551615) (B := 18446744073709551615) (by omega) x1 (by omega) y1
  have m0 := Int.mul_nonneg x0 y0
  rw [BB_eq]
  rw [h] at m m0 ⊢
  omega
theorem mul_end {s0 f g s : Nat → Int} {i m : Nat} {c : Int} (h : vf s (i + m) + c * BB ^ (i + m) = vf s0 (i + m) + f i * vf g m * BB ^ i) (h0 : vf s0 (i + m) = vf f i * vf g m) :
    vf (upd s (i + m) c) (i + 1 + m) = vf f (i + 1) * vf g m := by
  rw [show i + 1 + m = i + m + 1 by omega]
  show vf (upd s (i + m) c) (i + m) + upd s (i + m) c (i + m) * BB ^ (i + m) = (vf f i + f i * BB ^ i) * vf g m
  rw [vf_upd, upd_same, h, h0, Int.add_mul, Int.mul_right_comm]

/-- Canonical words: the last one is not 0. -/
def Can (f : Nat → Int) (n : Nat) : Prop := 0 < n → f (n - 1) ≠ 0
theorem Can.low {f : Nat → Int} {n : Nat} (h : Can f n) (hf : ∀ i, i < n → U64 (f i)) (hn : 0 < n) : BB ^ (n - 1) ≤ vf f n := by
  obtain ⟨k, rfl⟩ : ∃ k, n = k + 1 := ⟨n - 1, by omega⟩
  exact vf_top hf (h hn)
theorem Can.lt {f g : Nat → Int} {n m : Nat} (hg : Can g m) (hf' : ∀ i, i < n → U64 (f i)) (hg' : ∀ i, i < m → U64 (g i)) (h : n < m) : vf f n < vf g m := by
  have a := (vf_bd n hf').2
  have b := hg.low hg' (by omega)
  have c : BB ^ n ≤ BB ^ (m - 1) := by
    obtain ⟨d, hd⟩ : ∃ d, m - 1 = n + d := ⟨m - 1 - n, by omega⟩
    rw [hd, Int.pow_add]
    have := Int.mul_le_mul_of_nonneg_left (c := BB ^ n) (a := 1) (b := BB ^ d) (by have := BB_pos d; omega) (by have := BB_pos n; omega)
    omega
  omega
theorem Can.zero {f : Nat → Int} {n : Nat} (h : Can f n) (hf : ∀ i, i < n → U64 (f i)) : vf f n = 0 ↔ n = 0 := by
  constructor
  · intro h0
    rcases Nat.eq_zero_or_pos n with h1 | h1
    · exact h1
    · have := h.low hf h1; have := BB_pos (n - 1); omega
  · rintro rfl; rfl
/-- The word in which two numbers differ first decides. -/
theorem vf_differ {f g : Nat → Int} (k : Nat) : ∀ n, k < n → (∀ i, i < n → U64 (f i)) → (∀ i, i < n → U64 (g i)) → (∀ i, k < i → i < n → f i = g i) → f k < g k → vf f n < vf g n
  | 0, h, _, _, _, _ => by omega
  | n + 1, h, hf, hg, he, hlt => by
    show vf f n + f n * BB ^ n < vf g n + g n * BB ^ n
    rcases Nat.lt_or_ge k n with h1 | h1
    · have := vf_differ k n h1 (fun i hi => hf i (by omega)) (fun i hi => hg i (by omega)) (fun i h2 h3 => he i h2 (by omega)) hlt
      rw [he n h1 (by omega)]; omega
    · obtain rfl : k = n := by omega
      have a := vf_bd k (fun i hi => hf i (by omega))
      have b := vf_bd k (fun i hi => hg i (by omega))
      have c : (f k + 1) * BB ^ k ≤ g k * BB ^ k := Int.mul_le_mul_of_nonneg_right (by omega) (by omega)
      rw [Int.add_mul] at c
      omega
/-- What compareWords tells. -/
def cmpW (n m : Nat) (f g : Nat → Int) : Int := if n = m then cmpI (vf f n) (vf g m) else cmpI n m
theorem cmpI_lt {a b : Int} (h : a < b) : cmpI a b = -1 := by unfold cmpI; rw [if_pos h]
theorem cmpI_gt {a b : Int} (h : b < a) : cmpI a b = 1 := by unfold cmpI; rw [if_neg (by omega), if_pos h]
theorem cmpI_eq (a : Int) : cmpI a a = 0 := by unfold cmpI; rw [if_neg (by omega), if_neg (by omega)]
theorem cmpW_is {n m : Nat} {f g : Nat → Int} (hf : Can f n) (hg : Can g m) (hf' : ∀ i, i < n → U64 (f i)) (hg' : ∀ i, i < m → U64 (g i)) : cmpW n m f g = cmpI (vf f n) (vf g m) := by
  unfold cmpW
  split
  · rfl
  · rcases Nat.lt_or_ge n m with h | h
    · rw [cmpI_lt (hg.lt hf' hg' h), cmpI_lt (by omega)]
    · rw [cmpI_gt (hf.lt hg' hf' (by omega)), cmpI_gt (by omega)]
theorem cmp_first {f g : Nat → Int} {n k : Nat} (h : k < n) (hf : ∀ i, i < n → U64 (f i)) (hg : ∀ i, i < n → U64 (g i)) (he : ∀ i, k < i → i < n → f i = g i) (hk : f k ≠ g k) : cmpI (f k) (g k) = cmpI (vf f n) (vf g n) := by
  rcases Int.lt_or_le (f k) (g k) with h1 | h1
  · rw [cmpI_lt h1, cmpI_lt (vf_differ k n h hf hg he h1)]
  · rw [cmpI_gt (by omega), cmpI_gt (vf_differ k n h hg hf (fun i a b => (he i a b).symm) (by omega))]

end Go.Proofs.Ytfnmnnbmhfbkbaa

/-! W07 -/
namespace Go.Proofs.Ytfnmnnbmhfbkbaa
open Go.RowKit

theorem add64 (x y c : Int) (hx : U64 x) (hy : U64 y) (hc0 : 0 ≤ c) (hc : c ≤ 1) (w : World) : (callFunc 150 #[.int .u64 x, .int .u64 y, .int .u64 c]).run Try.prog w =
    .ok (.value (.tuple #[.int .u64 ((x + y + c) % 18446744073709551616), .int .u64 ((x + y + c) / 18446744073709551616)])) w := by
  obtain ⟨hx, hx'⟩ := hx
  obtain ⟨hy, hy'⟩ := hy
  obtain ⟨x, rfl⟩ := Int.eq_ofNat_of_zero_le hx
  obtain ⟨y, rfl⟩ := Int.eq_ofNat_of_zero_le hy
  obtain ⟨c, rfl⟩ := Int.eq_ofNat_of_zero_le hc0
  rw [run_callFunc_extern Try.func150 (by kernel_rfl) (by kernel_rfl) (by kernel_rfl) (e := add64Entry) (by kernel_rfl), run_add64 x y c (by omega) (by omega) (by omega) (by omega)]
  simp only [Result.andThen]

theorem add64_0 (x y : Int) (hx : U64 x) (hy : U64 y) (w : World) : (callFunc 150 #[.int .u64 x, .int .u64 y, .int .u64 0]).run Try.prog w =
    .ok (.value (.tuple #[.int .u64 ((x + y) % 18446744073709551616), .int .u64 ((x + y) / 18446744073709551616)])) w := by
  have h := add64 x y 0 hx hy (Int.le_refl 0) (by decide) w
  rwa [Int.add_zero] at h

theorem sub64 (x y b : Int) (hx : U64 x) (hy : U64 y) (hb0 : 0 ≤ b) (hb : b ≤ 1) (w : World) : (callFunc 153 #[.int .u64 x, .int .u64 y, .int .u64 b]).run Try.prog w =
    .ok (.value (.tuple #[.int .u64 ((x - y - b) % 18446744073709551616), .int .u64 (if x < y + b then 1 else 0)])) w := by
  obtain ⟨hx, hx'⟩ := hx
  obtain ⟨hy, hy'⟩ := hy
  obtain ⟨x, rfl⟩ := Int.eq_ofNat_of_zero_le hx
  obtain ⟨y, rfl⟩ := Int.eq_ofNat_of_zero_le hy
  obtain ⟨b, rfl⟩ := Int.eq_ofNat_of_zero_le hb0
  have e1 : (((x + 18446744073709551616 - y - b) % 18446744073709551616 : Nat) : Int) = ((x : Int) - y - b) % 18446744073709551616 := by omega
  have e2 : ((if x < y + b then 1 else 0 : Nat) : Int) = if (x : Int) < y + b then 1 else 0 := by split <;> split <;> omega
  rw [← e1, ← e2]
  rw [run_callFunc_extern Try.func153 (by kernel_rfl) (by kernel_rfl) (by kernel_rfl) (e := sub64Entry) (by kernel_rfl), run_sub64 x y b (by omega)]
  rfl

theorem sub64b (x y b : Int) (hx : U64 x) (hy : U64 y) (hb0 : 0 ≤ b) (hb : b ≤ 1) (w : World) : (callFunc 153 #[.int .u64 x, .int .u64 y, .int .u64 b]).run Try.prog w =
    .ok (.value (.tuple #[.int .u64 ((x - y - b) % 18446744073709551616), .int .u64 (bor x (y + b))])) w := sub64 x y b hx hy hb0 hb w
theorem sub64b0 (x b : Int) (hx : U64 x) (hb0 : 0 ≤ b) (hb : b ≤ 1) (w : World) : (callFunc 153 #[.int .u64 x, .int .u64 0, .int .u64 b]).run Try.prog w =
    .ok (.value (.tuple #[.int .u64 ((x - b) % 18446744073709551616), .int .u64 (bor x b)])) w := by
  have h := sub64b x 0 b hx ⟨by omega, by omega⟩ hb0 hb w
  rwa [Int.sub_zero, Int.zero_add] at h

set_option maxHeartbeats 1000000 in
theorem mul64_nat (x y : Nat) (hx : x < 18446744073709551616) (hy : y < 18446744073709551616) (w : World) :
    Calls Try.prog 115 #[.int .u64 x, .int .u64 y] w fun e w' => e = .returned (.tuple #[.int .u64 ((x * y / 18446744073709551616 : Nat) : Int), .int .u64 ((x * y % 18446744073709551616 : Nat) : Int)]) ∧ w = w' := by
  obtain ⟨bd, bt, bw, hhi⟩ := Lib.mul64_hi x y hx hy
  have ba := Lib.half_mul_le (a := x / 4294967296) (b := y / 4294967296) (by omega) (by omega)
  have bb := Lib.half_mul_le (a := x / 4294967296) (b := y % 4294967296) (by omega) (by omega)
  have bc := Lib.half_mul_le (a := x % 4294967296) (b := y / 4294967296) (by omega) (by omega)
  have ba' : x / 4294967296 * (y / 4294967296) < 18446744073709551616 := by omega
  have bb' : x / 4294967296 * (y % 4294967296) < 18446744073709551616 := by omega
  have bc' : x % 4294967296 * (y / 4294967296) < 18446744073709551616 := by omega
  have bh1 : x / 4294967296 * (y / 4294967296) + (x / 4294967296 * (y % 4294967296) + x % 4294967296 * (y % 4294967296) / 4294967296) / 4294967296 < 18446744073709551616 := by omega
  have bh : x / 4294967296 * (y / 4294967296) + (x / 4294967296 * (y % 4294967296) + x % 4294967296 * (y % 4294967296) / 4294967296) / 4294967296 + ((x / 4294967296 * (y % 4294967296) + x % 4294967296 * (y % 4294967296) / 4294967296) % 4294967296 + x % 4294967296 * (y / 4294967296)) / 4294967296 < 18446744073709551616 := by omega
  go_enter Try.func115, Try.ntmps115
  go_wp2
  simp only [Mul64.maskN x hx, Mul64.maskN y hy, Mul64.divN, Mul64.mulN, Mul64.addN, Mul64.wrapN _ bd, Mul64.wrapN _ bb', Mul64.wrapN _ bt, Mul64.maskN _ bt, Mul64.wrapN _ bc', Mul64.wrapN _ bw, Mul64.wrapN _ ba', Mul64.wrapN _ bh1, Mul64.wrapN _ bh, Mul64.wrapM (x * y)]
  rw [hhi]
  go_ret2
  exact ⟨rfl, rfl⟩

theorem mul64_any (x y : Int) (hx : U64 x) (hy : U64 y) (w : World) :
    Calls Try.prog 115 #[.int .u64 x, .int .u64 y] w fun e w' => e = .returned (.tuple #[.int .u64 (x * y / 18446744073709551616), .int .u64 (x * y % 18446744073709551616)]) ∧ w = w' := by
  obtain ⟨hx, hx'⟩ := hx
  obtain ⟨hy, hy'⟩ := hy
  obtain ⟨x, rfl⟩ := Int.eq_ofNat_of_zero_le hx
  obtain ⟨y, rfl⟩ := Int.eq_ofNat_of_zero_le hy
  refine (mul64_nat x y (by omega) (by omega) w).mono fun e w' h => ⟨h.1.trans ?_, h.2⟩
  have e1 : ((x * y / 18446744073709551616 : Nat) : Int) = (x : Int) * y / 18446744073709551616 := by rw [Int.natCast_ediv, Int.natCast_mul]; rfl
  have e2 : ((x * y % 18446744073709551616 : Nat) : Int) = (x : Int) * y % 18446744073709551616 := by rw [Int.natCast_emod, Int.natCast_mul]; rfl
  rw [e1, e2]

/-- The slice at A of n words holds the words f. -/
def WS (w : World) (A : Option Addr) (n : Nat) (f : Nat → Int) : Prop :=
  (∀ i, i < n → U64 (f i)) ∧ (0 < n → ∃ b, A = some ⟨b, 0, none⟩ ∧ b < w.heap.size ∧ ∀ j, j < n → w.cell? ⟨b, j, none⟩ = some (.int .u64 (f j)))
theorem WS.below {w w' : World} {A : Option Addr} {n : Nat} {f : Nat → Int} {B : Nat} (h : WS w A n f) (hB : w.heap.size ≤ B) (hb : Below B w w') : WS w' A n f :=
  ⟨h.1, fun hn => by
    obtain ⟨b, e, hl, hc⟩ := h.2 hn
    exact ⟨b, e, Nat.lt_of_lt_of_le hl hb.size, fun j hj => (hb.cell (p := ⟨b, j, none⟩) (by show b < B; omega)).trans (hc j hj)⟩⟩

/-- The length in a slot. -/
def lenOfS : Value → Nat | .slice _ n _ => n | _ => 0

set_option maxHeartbeats 1000000 in
theorem withoutZeros_any (b n c : Nat) (f : Nat → Int) (w : World) (hc : ∀ j, j < n → w.cell? ⟨b, j, none⟩ = some (.int .u64 (f j))) (hn : n ≤ c) (hn' : c ≤ 9223372036854775807) :
    Calls Try.prog 137 #[.slice (some ⟨b, 0, none⟩) n c] w fun e w' => ∃ m, m ≤ n ∧ (0 < m → f (m - 1) ≠ 0) ∧ (∀ i, m ≤ i → i < n → f i = 0) ∧ e = .returned (.slice (some ⟨b, 0, none⟩) m c) ∧ w = w' := by
  go_enter Try.func137, Try.ntmps137
  go_wp2
  go_loop [0] (fun x => ∃ m, m ≤ n ∧ Hid (∀ i, m ≤ i → i < n → f i = 0) ∧ x = .slice (some ⟨b, 0, none⟩) m c) (fun x => lenOfS x)
  case atStart => exact ⟨n, by omega, fun i _ _ => by omega, rfl⟩
  case round =>
    obtain ⟨m, hm, HZ, rfl⟩ := hrel
    rcases Nat.eq_zero_or_pos m with h0 | h0
    · subst h0
      go_wp2
      go_ret
      exact ⟨0, by omega, by omega, HZ.out, rfl, rfl⟩
    · obtain ⟨k, rfl⟩ : ∃ k, m = k + 1 := ⟨m - 1, by omega⟩
      have hck := hc k (by omega)
      by_cases hz : f k = 0
      · have hz' : (f k == 0) = true := by simpa using hz
        have HZ2 := Lib.hid (show ∀ i, k ≤ i → i < n → f i = 0 from fun i hi hi' => by
          rcases Nat.eq_or_lt_of_le hi with e | e
          · subst e; exact hz
          · exact HZ.out i (by omega) hi')
        clear hz HZ hc
        go_wp2
        go_round
        case rel => exact ⟨k, by omega, HZ2.out, rfl⟩
        case measure => simp [lenOfS]
      · have hz' : (f k == 0) = false := by simpa using hz
        have HZ3 := Lib.hid hz
        clear hz hc
        go_wp2
        go_ret
        exact ⟨k + 1, hm, fun _ => HZ3.out, HZ.out, rfl, rfl⟩

end Go.Proofs.Ytfnmnnbmhfbkbaa

/-! W08 -/
namespace Go.Proofs.Ytfnmnnbmhfbkbaa
open Go.RowKit

theorem info_u64 : (Try.prog.info? 95).map (fun i => (i.zero, i.size, i.bytes)) = some (some (.int .u64 0), 1, 8) := by kernel_rfl

set_option maxHeartbeats 2000000 in
theorem wordsPlus_ge (A C : Option Addr) (n m c d : Nat) (f g : Nat → Int) (w : World) (hA : WS w A n f) (hC : WS w C m g) (hn : n ≤ 1000000000000) (hm : m ≤ 1000000000000) (hnm : m ≤ n) :
    Calls Try.prog 140 #[.slice A n c, .slice C m d] w fun e w' => ∃ R r k h, e = .returned (.slice R r k) ∧ WS w' R r h ∧ r ≤ n + 1 ∧ (0 < r → h (r - 1) ≠ 0) ∧ vf h r = vf f n + vf g m ∧ r ≤ k ∧ k ≤ 9223372036854775807 ∧ Below w.heap.size w w' := by
  have hmk := run_make_row' (P := Try.prog) 128 95 (.int .u64 0) 8 Try.underlying128 info_u64 rfl .i64 .i64 (n + 1) (by omega) (by omega)
  have ec : ((n + 1 : Nat) : Int) = (n : Int) + 1 := by omega
  rw [ec] at hmk
  clear ec
  have hdec : decide (n < m) = false := by simpa using hnm
  go_enter Try.func140, Try.ntmps140
  go_wp2
  have hrow := World.rowIs_made w (.int .u64 0) (n + 1) 95
  generalize hW : w.alloc (.cells (madeCells #[.int .u64 0] (n + 1)) 95) = W0 at *
  have hB0 : Below w.heap.size w W0 := by rw [← hW]; exact (Below.refl _ _).alloc (Nat.le_refl _) _
  clear hW
  go_loopw [6, 23] (fun cr i wr => ∃ (k : Nat) (c0 : Int) (s : Nat → Int), k ≤ n ∧ i = .int .i64 k ∧ cr = .int .u64 c0 ∧ 0 ≤ c0 ∧ c0 ≤ 1 ∧ Hid (∀ j, U64 (s j)) ∧ Hid (vf s k + c0 * BB ^ k = vf f k + vf (ext g m) k) ∧
      Hid (wr.rowIs w.heap.size 95 (n + 1) (fun j => .int .u64 (s j))) ∧ Below w.heap.size w wr) (fun _ i _ => n - (intOf i).toNat)
  case atStart => exact ⟨0, 0, fun _ => 0, by omega, rfl, rfl, by omega, by omega, fun _ => show U64 0 from ⟨by decide, by decide⟩, by simp [Hid, vf], hrow, hB0⟩
  case round =>
    obtain ⟨k, c0, s, hk, rfl, rfl, hc0, hc1, HS, HV, HR, hB⟩ := hrel
    clear hrow hB0 hmk
    by_cases hlt : k < n
    · have hlt' : (k : Int) < n := by omega
      obtain ⟨b1, rfl, hb1, hcl1⟩ := hA.2 (by omega)
      have hx : U64 (f k) := hA.1 k hlt
      have hcx := (hB.cell (p := ⟨b1, k, none⟩) hb1).trans (hcl1 k hlt)
      have hcell := HR.out.cell (i := k) (by omega)
      have hfr := HR.out.frozen k
      clear hcl1
      by_cases hkm : k < m
      · have hkm' : (k : Int) < m := by omega
        obtain ⟨b2, rfl, hb2, hcl2⟩ := hC.2 (by omega)
        have hy : U64 (g k) := hC.1 k hkm
        have hcy := (hB.cell (p := ⟨b2, k, none⟩) hb2).trans (hcl2 k hkm)
        have HST := Lib.hid (add_step HV.out)
        rw [ext_lt hkm] at HST
        clear hcl2
        go_wp2_with (simp only [add64 (f k) (g k) c0 hx hy hc0 hc1])
        go_roundw
        case rel =>
          obtain ⟨hx1, hx2⟩ := hx
          obtain ⟨hy1, hy2⟩ := hy
          exact ⟨k + 1, _, _, by omega, by go_num, rfl, by omega, by omega, upd_U64 HS.out (U64_mod _), HST.out, (HR.out.set k _).congr (fun i _ => by unfold upd; split <;> rfl), hB.setCell (Nat.le_refl _) _⟩
        case measure => simp [intOf]; omega
      · have hkm' : ¬ (k : Int) < m := by omega
        have HST := Lib.hid (add_step HV.out)
        rw [ext_ge hkm, Int.add_zero] at HST
        go_wp2_with (simp only [add64 (f k) 0 c0 hx ⟨by omega, by omega⟩ hc0 hc1])
        go_roundw
        case rel =>
          obtain ⟨hx1, hx2⟩ := hx
          exact ⟨k + 1, _, _, by omega, by go_num, rfl, by omega, by omega, upd_U64 HS.out (U64_mod _), HST.out, (HR.out.set k _).congr (fun i _ => by unfold upd; split <;> rfl), hB.setCell (Nat.le_refl _) _⟩
        case measure => simp [intOf]; omega
    · obtain rfl : k = n := by omega
      have hcell := HR.out.cell (i := k) (by omega)
      have hfr := HR.out.frozen k
      have HX := Lib.hid (show vf (upd s k c0) (k + 1) = vf f k + vf g m by
        show vf (upd s k c0) k + upd s k c0 k * BB ^ k = _
        rw [vf_upd, upd_same, HV.out, vf_ext hnm])
      go_wp2_with fail
      refine (withoutZeros_any w.heap.size (k + 1) (k + 1) (upd s k c0) _ (fun j hj => ?_) (by omega) (by omega)).mono ?_
      · rw [(HR.out.set k (.int .u64 c0)).cell hj]; unfold upd; split <;> rfl
      · rintro e w1 ⟨r, hr, ht, hz, rfl, rfl⟩
        go_wp2
        go_ret
        refine ⟨_, r, _, upd s k c0, rfl, ⟨fun i _ => upd_U64 HS.out ⟨by omega, by omega⟩ i, fun _ => ⟨_, rfl, ?_, fun j hj => ?_⟩⟩, by omega, ht, (vf_trim (k + 1) hr hz).symm.trans HX.out, by omega, by omega, hB.setCell (Nat.le_refl _) _⟩
        · have := HR.out.lt; simpa [World.setCell] using this
        · rw [(HR.out.set k (.int .u64 c0)).cell (by omega)]; unfold upd; split <;> rfl

set_option maxHeartbeats 2000000 in
theorem wordsPlus_lt (A C : Option Addr) (n m c d : Nat) (f g : Nat → Int) (w : World) (hA : WS w A n f) (hC : WS w C m g) (hn : n ≤ 1000000000000) (hm : m ≤ 1000000000000) (hnm : n < m) :
    Calls Try.prog 140 #[.slice A n c, .slice C m d] w fun e w' => ∃ R r k h, e = .returned (.slice R r k) ∧ WS w' R r h ∧ r ≤ m + 1 ∧ (0 < r → h (r - 1) ≠ 0) ∧ vf h r = vf f n + vf g m ∧ r ≤ k ∧ k ≤ 9223372036854775807 ∧ Below w.heap.size w w' := by
  have hmk := run_make_row' (P := Try.prog) 128 95 (.int .u64 0) 8 Try.underlying128 info_u64 rfl .i64 .i64 (m + 1) (by omega) (by omega)
  have ec : ((m + 1 : Nat) : Int) = (m : Int) + 1 := by omega
  rw [ec] at hmk
  clear ec
  have hdec : decide (n < m) = true := by simpa using hnm
  go_enter Try.func140, Try.ntmps140
  go_wp2
  have hrow := World.rowIs_made w (.int .u64 0) (m + 1) 95
  generalize hW : w.alloc (.cells (madeCells #[.int .u64 0] (m + 1)) 95) = W0 at *
  have hB0 : Below w.heap.size w W0 := by rw [← hW]; exact (Below.refl _ _).alloc (Nat.le_refl _) _
  clear hW
  go_loopw [6, 23] (fun cr i wr => ∃ (k : Nat) (c0 : Int) (s : Nat → Int), k ≤ m ∧ i = .int .i64 k ∧ cr = .int .u64 c0 ∧ 0 ≤ c0 ∧ c0 ≤ 1 ∧ Hid (∀ j, U64 (s j)) ∧ Hid (vf s k + c0 * BB ^ k = vf g k + vf (ext f n) k) ∧
      Hid (wr.rowIs w.heap.size 95 (m + 1) (fun j => .int .u64 (s j))) ∧ Below w.heap.size w wr) (fun _ i _ => m - (intOf i).toNat)
  case atStart => exact ⟨0, 0, fun _ => 0, by omega, rfl, rfl, by omega, by omega, fun _ => show U64 0 from ⟨by decide, by decide⟩, by simp [Hid, vf], hrow, hB0⟩
  case round =>
    obtain ⟨k, c0, s, hk, rfl, rfl, hc0, hc1, HS, HV, HR, hB⟩ := hrel
    clear hrow hB0 hmk
    by_cases hlt : k < m
    · have hlt' : (k : Int) < m := by omega
      obtain ⟨b1, rfl, hb1, hcl1⟩ := hC.2 (by omega)
      have hx : U64 (g k) := hC.1 k hlt
      have hcx := (hB.cell (p := ⟨b1, k, none⟩) hb1).trans (hcl1 k hlt)
      have hcell := HR.out.cell (i := k) (by omega)
      have hfr := HR.out.frozen k
      clear hcl1
      by_cases hkm : k < n
      · have hkm' : (k : Int) < n := by omega
        obtain ⟨b2, rfl, hb2, hcl2⟩ := hA.2 (by omega)
        have hy : U64 (f k) := hA.1 k hkm
        have hcy := (hB.cell (p := ⟨b2, k, none⟩) hb2).trans (hcl2 k hkm)
        have HST := Lib.hid (add_step HV.out)
        rw [ext_lt hkm] at HST
        clear hcl2
        go_wp2_with (simp only [add64 (g k) (f k) c0 hx hy hc0 hc1])
        go_roundw
        case rel =>
          obtain ⟨hx1, hx2⟩ := hx
          obtain ⟨hy1, hy2⟩ := hy
          exact ⟨k + 1, _, _, by omega, by go_num, rfl, by omega, by omega, upd_U64 HS.out (U64_mod _), HST.out, (HR.out.set k _).congr (fun i _ => by unfold upd; split <;> rfl), hB.setCell (Nat.le_refl _) _⟩
        case measure => simp [intOf]; omega
      · have hkm' : ¬ (k : Int) < n := by omega
        have HST := Lib.hid (add_step HV.out)
        rw [ext_ge hkm, Int.add_zero] at HST
        go_wp2_with (simp only [add64 (g k) 0 c0 hx ⟨by omega, by omega⟩ hc0 hc1])
        go_roundw
        case rel =>
          obtain ⟨hx1, hx2⟩ := hx
          exact ⟨k + 1, _, _, by omega, by go_num, rfl, by omega, by omega, upd_U64 HS.out (U64_mod _), HST.out, (HR.out.set k _).congr (fun i _ => by unfold upd; split <;> rfl), hB.setCell (Nat.le_refl _) _⟩
        case measure => simp [intOf]; omega
    · obtain rfl : k = m := by omega
      have hcell := HR.out.cell (i := k) (by omega)
      have hfr := HR.out.frozen k
      have HX := Lib.hid (show vf (upd s k c0) (k + 1) = vf f n + vf g k by
        show vf (upd s k c0) k + upd s k c0 k * BB ^ k = _
        rw [vf_upd, upd_same, HV.out, vf_ext (by omega)]; exact Int.add_comm _ _)
      go_wp2_with fail
      refine (withoutZeros_any w.heap.size (k + 1) (k + 1) (upd s k c0) _ (fun j hj => ?_) (by omega) (by omega)).mono ?_
      · rw [(HR.out.set k (.int .u64 c0)).cell hj]; unfold upd; split <;> rfl
      · rintro e w1 ⟨r, hr, ht, hz, rfl, rfl⟩
        go_wp2
        go_ret
        refine ⟨_, r, _, upd s k c0, rfl, ⟨fun i _ => upd_U64 HS.out ⟨by omega, by omega⟩ i, fun _ => ⟨_, rfl, ?_, fun j hj => ?_⟩⟩, by omega, ht, (vf_trim (k + 1) hr hz).symm.trans HX.out, by omega, by omega, hB.setCell (Nat.le_refl _) _⟩
        · have := HR.out.lt; simpa [World.setCell] using this
        · rw [(HR.out.set k (.int .u64 c0)).cell (by omega)]; unfold upd; split <;> rfl

theorem wordsPlus_any (A C : Option Addr) (n m c d : Nat) (f g : Nat → Int) (w : World) (hA : WS w A n f) (hC : WS w C m g) (hn : n ≤ 1000000000000) (hm : m ≤ 1000000000000) :
    Calls Try.prog 140 #[.slice A n c, .slice C m d] w fun e w' => ∃ R r k h, e = .returned (.slice R r k) ∧ WS w' R r h ∧ r ≤ max n m + 1 ∧ (0 < r → h (r - 1) ≠ 0) ∧ vf h r = vf f n + vf g m ∧ r ≤ k ∧ k ≤ 9223372036854775807 ∧ Below w.heap.size w w' := by
  rcases Nat.lt_or_ge n m with h | h
  · exact (wordsPlus_lt A C n m c d f g w hA hC hn hm h).mono fun e w' ⟨R, r, k, hh, a1, a2, a3, a4, a5, a6, a7, a8⟩ => ⟨R, r, k, hh, a1, a2, by omega, a4, a5, a6, a7, a8⟩
  · exact (wordsPlus_ge A C n m c d f g w hA hC hn hm h).mono fun e w' ⟨R, r, k, hh, a1, a2, a3, a4, a5, a6, a7, a8⟩ => ⟨R, r, k, hh, a1, a2, by omega, a4, a5, a6, a7, a8⟩

end Go.Proofs.Ytfnmnnbmhfbkbaa

/-! W09 -/
namespace Go.Proofs.Ytfnmnnbmhfbkbaa
open Go.RowKit

set_option maxHeartbeats 2000000 in
theorem wordsMinus_any (A C : Option Addr) (n m c d : Nat) (f g : Nat → Int) (w : World) (hA : WS w A n f) (hC : WS w C m g) (hn : n ≤ 1000000000000) (hnm : m ≤ n) (hle : vf g m ≤ vf f n) :
    Calls Try.prog 142 #[.slice A n c, .slice C m d] w fun e w' => ∃ R r k h, e = .returned (.slice R r k) ∧ WS w' R r h ∧ r ≤ n ∧ (0 < r → h (r - 1) ≠ 0) ∧ vf h r = vf f n - vf g m ∧ r ≤ k ∧ k ≤ 9223372036854775807 ∧ Below w.heap.size w w' := by
  have hmk := run_make_row' (P := Try.prog) 128 95 (.int .u64 0) 8 Try.underlying128 info_u64 rfl .i64 .i64 n (by omega) (by omega)
  have HLE := Lib.hid hle
  clear hle
  go_enter Try.func142, Try.ntmps142
  go_wp2
  have hrow := World.rowIs_made w (.int .u64 0) n 95
  generalize hW : w.alloc (.cells (madeCells #[.int .u64 0] n) 95) = W0 at *
  have hB0 : Below w.heap.size w W0 := by rw [← hW]; exact (Below.refl _ _).alloc (Nat.le_refl _) _
  clear hW
  go_loopw [6, 15] (fun cr i wr => ∃ (k : Nat) (c0 : Int) (s : Nat → Int), k ≤ n ∧ i = .int .i64 k ∧ cr = .int .u64 c0 ∧ 0 ≤ c0 ∧ c0 ≤ 1 ∧ Hid (∀ j, U64 (s j)) ∧ Hid (vf s k = vf f k - vf (ext g m) k + c0 * BB ^ k) ∧
      Hid (wr.rowIs w.heap.size 95 n (fun j => .int .u64 (s j))) ∧ Below w.heap.size w wr) (fun _ i _ => n - (intOf i).toNat)
  case atStart => exact ⟨0, 0, fun _ => 0, by omega, rfl, rfl, by omega, by omega, fun _ => show U64 0 from ⟨by decide, by decide⟩, by simp [Hid, vf], hrow, hB0⟩
  case round =>
    obtain ⟨k, c0, s, hk, rfl, rfl, hc0, hc1, HS, HV, HR, hB⟩ := hrel
    clear hrow hB0 hmk
    by_cases hlt : k < n
    · have hlt' : (k : Int) < n := by omega
      obtain ⟨b1, rfl, hb1, hcl1⟩ := hA.2 (by omega)
      have hx : U64 (f k) := hA.1 k hlt
      have hcx := (hB.cell (p := ⟨b1, k, none⟩) hb1).trans (hcl1 k hlt)
      have hcell := HR.out.cell (i := k) (by omega)
      have hfr := HR.out.frozen k
      clear hcl1
      by_cases hkm : k < m
      · have hkm' : (k : Int) < m := by omega
        obtain ⟨b2, rfl, hb2, hcl2⟩ := hC.2 (by omega)
        have hy : U64 (g k) := hC.1 k hkm
        have hcy := (hB.cell (p := ⟨b2, k, none⟩) hb2).trans (hcl2 k hkm)
        have HST := Lib.hid (sub_step HV.out hx (ext_U64 hC.1 k) hc0 hc1)
        rw [ext_lt hkm] at HST
        have hbb := bor_bd (f k) (g k + c0)
        clear hcl2
        go_wp2_with (simp only [sub64b (f k) (g k) c0 hx hy hc0 hc1])
        go_roundw
        case rel => exact ⟨k + 1, _, _, by omega, by go_num, rfl, hbb.1, hbb.2, upd_U64 HS.out (U64_mod _), HST.out, (HR.out.set k _).congr (fun i _ => by unfold upd; split <;> rfl), hB.setCell (Nat.le_refl _) _⟩
        case measure => simp [intOf]; omega
      · have hkm' : ¬ (k : Int) < m := by omega
        have HST := Lib.hid (sub_step HV.out hx (ext_U64 hC.1 k) hc0 hc1)
        rw [ext_ge hkm, Int.sub_zero, Int.zero_add] at HST
        have hbb := bor_bd (f k) c0
        go_wp2_with (simp only [sub64b0 (f k) c0 hx hc0 hc1])
        go_roundw
        case rel => exact ⟨k + 1, _, _, by omega, by go_num, rfl, hbb.1, hbb.2, upd_U64 HS.out (U64_mod _), HST.out, (HR.out.set k _).congr (fun i _ => by unfold upd; split <;> rfl), hB.setCell (Nat.le_refl _) _⟩
        case measure => simp [intOf]; omega
    · obtain rfl : k = n := by omega
      have HX := Lib.hid (sub_end HV.out hnm HS.out HLE.out hc0 hc1)
      go_wp2_with fail
      refine (withoutZeros_any w.heap.size k k s _ (fun j hj => HR.out.cell hj) (by omega) (by omega)).mono ?_
      rintro e w1 ⟨r, hr, ht, hz, rfl, rfl⟩
      go_wp2
      go_ret
      exact ⟨_, r, _, s, rfl, ⟨fun i _ => HS.out i, fun _ => ⟨_, rfl, HR.out.lt, fun j hj => HR.out.cell (by omega)⟩⟩, hr, ht, (vf_trim k hr hz).symm.trans HX.out, hr, by omega, hB⟩

end Go.Proofs.Ytfnmnnbmhfbkbaa

/-! W10 -/
namespace Go.Proofs.Ytfnmnnbmhfbkbaa
open Go.RowKit

set_option maxHeartbeats 4000000 in
theorem wordsTimes_any (A C : Option Addr) (n m c d : Nat) (f g : Nat → Int) (w : World) (hA : WS w A n f) (hC : WS w C m g) (hn : n ≤ 1000000000000) (hm : m ≤ 1000000000000) :
    Calls Try.prog 139 #[.slice A n c, .slice C m d] w fun e w' => ∃ R r k h, e = .returned (.slice R r k) ∧ WS w' R r h ∧ r ≤ n + m ∧ (0 < r → h (r - 1) ≠ 0) ∧ vf h r = vf f n * vf g m ∧ r ≤ k ∧ k ≤ 9223372036854775807 ∧ Below w.heap.size w w' := by
  have hmk := run_make_row' (P := Try.prog) 128 95 (.int .u64 0) 8 Try.underlying128 info_u64 rfl .i64 .i64 (n + m) (by omega) (by omega)
  have ec : ((n + m : Nat) : Int) = (n : Int) + (m : Int) := by omega
  rw [ec] at hmk
  clear ec
  go_enter Try.func139, Try.ntmps139
  go_wp2
  have hrow := World.rowIs_made w (.int .u64 0) (n + m) 95
  generalize hW : w.alloc (.cells (madeCells #[.int .u64 0] (n + m)) 95) = W0 at *
  have hB0 : Below w.heap.size w W0 := by rw [← hW]; exact (Below.refl _ _).alloc (Nat.le_refl _) _
  clear hW
  go_loopw [23] (fun i wr => ∃ (k : Nat) (s : Nat → Int), k ≤ n ∧ i = .int .i64 k ∧ Hid (∀ j, U64 (s j)) ∧ Hid (vf s (k + m) = vf f k * vf g m) ∧
      Hid (wr.rowIs w.heap.size 95 (n + m) (fun j => .int .u64 (s j))) ∧ Below w.heap.size w wr) (fun i _ => n - (intOf i).toNat)
  case atStart => exact ⟨0, fun _ => 0, by omega, rfl, fun _ => show U64 0 from ⟨by decide, by decide⟩, by
    show vf _ _ = vf f 0 * vf g m
    rw [vf_trim (m := 0) _ (by omega) (fun _ _ _ => rfl)]; simp [vf], hrow, hB0⟩
  case round =>
    obtain ⟨k, s0, hk, rfl, HS0, HV0, HR0, hB⟩ := hrel
    clear hrow hB0 hmk
    by_cases hlt : k < n
    · have hlt' : (k : Int) < n := by omega
      obtain ⟨b1, rfl, hb1, hcl1⟩ := hA.2 (by omega)
      have hx : U64 (f k) := hA.1 k hlt
      have hcx := (hB.cell (p := ⟨b1, k, none⟩) hb1).trans (hcl1 k hlt)
      clear hcl1
      go_wp2_with fail
      obtain ⟨wo, hwo⟩ : ∃ wo : World, wo = wr := ⟨_, rfl⟩
      subst hwo
      go_loopw [8, 30] (fun cr i w2 => ∃ (j : Nat) (c0 : Int) (s : Nat → Int), j ≤ m ∧ i = .int .i64 j ∧ cr = .int .u64 c0 ∧ 0 ≤ c0 ∧ c0 ≤ 18446744073709551615 ∧ Hid (∀ j, U64 (s j)) ∧ Hid (∀ t, k + j ≤ t → s t = s0 t) ∧
          Hid (vf s (k + j) + c0 * BB ^ (k + j) = vf s0 (k + j) + f k * vf g j * BB ^ k) ∧ Hid (w2.rowIs w.heap.size 95 (n + m) (fun j => .int .u64 (s j))) ∧ Below w.heap.size w w2) (fun _ i _ => m - (intOf i).toNat)
      case atStart => exact ⟨0, 0, s0, by omega, rfl, rfl, by omega, by omega, HS0, fun _ _ => rfl, by simp [Hid, vf], HR0, hB⟩
      case round =>
        obtain ⟨j, c0, s, hj, rfl, rfl, hc0, hc1, HS, HT, HV, HR, hB2⟩ := hrel
        by_cases hjm : j < m
        · have hjm' : (j : Int) < m := by omega
          obtain ⟨b2, rfl, hb2, hcl2⟩ := hC.2 (by omega)
          have hy : U64 (g j) := hC.1 j hjm
          have hcy := (hB2.cell (p := ⟨b2, j, none⟩) hb2).trans (hcl2 j hjm)
          have hcell := HR.out.cell (i := k + j) (by omega)
          have hfr := HR.out.frozen (k + j)
          have hp : U64 (s (k + j)) := HS.out _
          have hst := HT.out (k + j) (Nat.le_refl _)
          clear hcl2
          have hlo := U64_mod (f k * g j)
          have hdm : f k * g j = f k * g j / 18446744073709551616 * 18446744073709551616 + f k * g j % 18446744073709551616 := by omega
          obtain ⟨w1, w2', w3, w4⟩ := mul_words (x := f k) (y := g j) (p := s (k + j)) (c := c0) hx hy hp ⟨hc0, hc1⟩ hdm hlo
          rw [hst] at w4
          have HST := Lib.hid (mul_step HV.out w4)
          clear w4 hdm
          rw [← hst] at HST
          clear hst
          generalize hHI : f k * g j / 18446744073709551616 = hi at *
          generalize hLO : f k * g j % 18446744073709551616 = lo at *
          have HHI := Lib.hid hHI
          have HLO := Lib.hid hLO
          clear hHI hLO
          generalize hP : s (k + j) = p at *
          have HP := Lib.hid hP
          clear hP
          have hl0 := hlo.1
          have hl1 := hlo.2
          have hp0 := hp.1
          have hp1 := hp.2
          go_wp2_with (first
            | (go_at_call 115; refine (mul64_any (f k) (g j) hx hy _).mono ?_; rintro e w' ⟨rfl, rfl⟩; rw [HHI.out, HLO.out])
            | simp only [add64_0 lo p hlo hp]
            | simp only [add64_0 ((lo + p) % 18446744073709551616) c0 (U64_mod _) ⟨hc0, hc1⟩])
          go_roundw
          case rel =>
            have hmm : ((lo + p) % 18446744073709551616 + c0) % 18446744073709551616 = (lo + p + c0) % 18446744073709551616 := by omega
            rw [hmm] at HST
            exact ⟨j + 1, _, _, by omega, by go_num, rfl, by omega, by omega, upd_U64 HS.out (U64_mod _), fun t ht => by rw [upd_other (by omega)]; exact HT.out t (by omega), HST.out,
              (HR.out.set (k + j) _).congr (fun i _ => by unfold upd; split <;> rfl), hB2.setCell (Nat.le_refl _) _⟩
          case measure => simp [intOf]; omega
        · obtain rfl : j = m := by omega
          have hcell := HR.out.cell (i := k + j) (by omega)
          have hfr := HR.out.frozen (k + j)
          have HX := Lib.hid (mul_end HV.out HV0.out)
          go_wp2_with fail
          go_roundw
          case rel => exact ⟨k + 1, _, by omega, by go_num, upd_U64 HS.out ⟨hc0, hc1⟩, HX.out, (HR.out.set (k + j) _).congr (fun i _ => by unfold upd; split <;> rfl), hB2.setCell (Nat.le_refl _) _⟩
          case measure => simp [intOf]; omega
    · obtain rfl : k = n := by omega
      go_wp2_with fail
      refine (withoutZeros_any w.heap.size (k + m) (k + m) s0 _ (fun j hj => HR0.out.cell hj) (by omega) (by omega)).mono ?_
      rintro e w1 ⟨r, hr, ht, hz, rfl, rfl⟩
      go_wp2
      go_ret
      exact ⟨_, r, _, s0, rfl, ⟨fun i _ => HS0.out i, fun _ => ⟨_, rfl, HR0.out.lt, fun j hj => HR0.out.cell (by omega)⟩⟩, hr, ht, (vf_trim (k + m) hr hz).symm.trans HV0.out, hr, by omega, hB⟩

end Go.Proofs.Ytfnmnnbmhfbkbaa

/-! Back -/
namespace Go.Proofs.Ytfnmnnbmhfbkbaa
open Go.RowKit Go.Shelf
attribute [local go_sem] Oper.semAt_some

/-- The places from the last one to the first. -/
def bk (n : Nat) : List (Fin n) := (List.finRange n).reverse
theorem bk_length (n : Nat) : (bk n).length = n := by simp [bk]
theorem bk_take {n k : Nat} (h : k < n) : (bk n).take (k + 1) = (bk n).take k ++ [⟨n - 1 - k, by omega⟩] := by
  rw [List.take_succ_eq_append_getElem (by rw [bk_length]; exact h)]
  congr 2
  simp [bk, List.getElem_reverse]

theorem bk_mem {n : Nat} (i : Fin n) : i ∈ bk n := by simp [bk]
/-- What has come ahead of a place that came are the places above it. -/
theorem bk_prefix {n : Nat} {ini : List (Fin n)} {last : Fin n} (h : ini ++ [last] <+: bk n) (i : Fin n) (hi : last.1 < i.1) : i ∈ ini := by
  obtain ⟨rest, hr⟩ := h
  have hl : ini.length < n := by have := congrArg List.length hr; simp [bk_length] at this; omega
  have e1 : ini = (bk n).take ini.length := by rw [← hr]; simp
  have e2 : ini ++ [last] = (bk n).take (ini.length + 1) := by rw [← hr]; exact (List.take_left' (by simp)).symm
  rw [bk_take hl, ← e1] at e2
  have e3 : last = ⟨n - 1 - ini.length, by omega⟩ := by simpa using e2
  have e4 : n - 1 - ini.length = last.1 := by rw [e3]
  rw [e1]
  have hb : (bk n)[n - 1 - i.1]'(by rw [bk_length]; omega) = i := by
    apply Fin.ext; simp [bk, List.getElem_reverse]; omega
  rw [← hb]
  exact List.mem_take_iff_getElem.2 ⟨n - 1 - i.1, by rw [bk_length]; omega, rfl⟩

set_option maxRecDepth 100000 in
set_option maxHeartbeats 2000000 in
theorem backU1_in (F : Fence) (nn : Nat) (h8 : F.fn 154) (hro : F.round = none) (hn : 1 ≤ nn) (l Bs n₀ : Nat) (A : Option Addr) (n cap : Nat) (f : Nat → Int) (hreach : n ≤ 1000000000000) (J Jx : List (Fin n) → World → Prop)
    (hY : ∀ (pre : List (Fin n)) (x : Fin n) (W : World), J pre W → pre.length < n → YieldAt F (nn - 1) Try.prog l #[.int .i64 (x.1 : Int), .int .u64 (f x.1)] W fun e W' =>
      (e = .returned (.bool true) ∧ J (pre ++ [x]) W' ∧ Below n₀ W W') ∨ (e = .returned (.bool false) ∧ Jx (pre ++ [x]) W'))
    (W : World) (hBl : Bs < n₀) (hBs : W.cell? ⟨Bs, 0, none⟩ = some (.slice A n cap)) (hc : 0 < n → ∃ b, A = some ⟨b, 0, none⟩ ∧ b < n₀ ∧ ∀ j, j < n → W.cell? ⟨b, j, none⟩ = some (.int .u64 (f j))) (h0 : J [] W) :
    CallsIn F nn Try.prog 154 #[.func (.yield l) #[] #[], .pointer (some ⟨Bs, 0, none⟩)] W fun e W' => (∃ v, e = .returned v) ∧
      ((∃ ys, ys = bk n ∧ J ys W') ∨ (∃ pre, pre <+: bk n ∧ Jx pre W')) := by
  refine callsIn_of_wp Try.func154 rfl h8 ?_ hro
  simp only [Try.ntmps154, List.size_toArray, List.length_cons, List.length_nil, Nat.reduceAdd, Nat.reduceSub, Array.replicate_succ, Array.replicate_zero, List.push_toArray, List.append_toArray, List.nil_append, List.cons_append]
  gi_wp2
  gi_loopw [3] (fun i wr => ∃ r k : Nat, Hid (k + r = n) ∧ k ≤ n ∧ i = .int .i64 ((r : Int) - 1) ∧ Hid (J ((bk n).take k) wr) ∧ Below n₀ W wr)
    (fun i _ => (intOf i + 1).toNat)
  case atStart => exact ⟨n, 0, by simp [Hid], by omega, rfl, by simpa [Hid] using h0, Below.refl _ _⟩
  case round =>
    obtain ⟨r, k, HK, hk, rfl, HJ, hnx⟩ := hrel
    have hBs' := (hnx.cell (p := ⟨Bs, 0, none⟩) hBl).trans hBs
    rcases Nat.eq_zero_or_pos r with hr | hr
    · subst hr
      rw [show ((0 : Nat) : Int) - 1 = -1 from rfl]
      gi_wp2
      go_end0
      refine ⟨⟨_, rfl⟩, .inl ⟨_, rfl, ?_⟩⟩
      have h1 := HJ.out
      rw [List.take_of_length_le (by rw [bk_length]; have := HK.out; omega)] at h1
      exact h1
    · obtain ⟨r, rfl⟩ : ∃ q, r = q + 1 := ⟨r - 1, by omega⟩
      rw [show ((r + 1 : Nat) : Int) - 1 = (r : Int) by omega]
      have hkn : k < n := by have := HK.out; omega
      have hrn : r < n := by have := HK.out; omega
      obtain ⟨b, rfl, hb, hcs⟩ := hc (by omega)
      have hcx := (hnx.cell (p := ⟨b, r, none⟩) hb).trans (hcs r hrn)
      have hrr : n - 1 - k = r := by have := HK.out; omega
      have hJ1 := hY ((bk n).take k) ⟨r, hrn⟩ wr HJ.out (by rw [List.length_take, bk_length]; omega)
      have HT := Lib.hid (show (bk n).take (k + 1) = (bk n).take k ++ [⟨r, hrn⟩] by rw [bk_take hkn]; congr 2; simp [hrr])
      obtain ⟨fn, tmps, assign, body, hy, hR⟩ := hJ1
      dsimp only at hy
      clear hcs hrr
      gi_wp2
      refine hR.mono ?_
      rintro e W3 (⟨rfl, hJ3, hk3⟩ | ⟨rfl, hJx3⟩)
      · have HJ3 := Lib.hid hJ3
        clear hJ3
        gi_wp2
        go_roundw
        case rel => exact ⟨r, k + 1, by have := HK.out; simp only [Hid]; omega, by omega, rfl, by simp only [Hid]; rw [HT.out]; exact HJ3.out, hnx.trans hk3⟩
        case measure => simp [intOf]
      · have HJ3 := Lib.hid hJx3
        clear hJx3
        gi_wp2
        refine bodyPost_ret (results_none rfl _ _ _) rfl ?_
        exact ⟨⟨_, rfl⟩, .inr ⟨_, by rw [← HT.out]; exact List.take_prefix _ _, HJ3.out⟩⟩

set_option maxHeartbeats 1000000 in
theorem backU_in (F : Fence) (nn : Nat) (h5 : F.fn 151) (hro : F.round = none) (a : Option Addr) (len cap : Nat) (w : World) :
    CallsIn F nn Try.prog 151 #[.slice a len cap] w fun e w' => e = .returned (.func (.func 154) #[] #[.pointer (some ⟨w.heap.size, 0, none⟩)]) ∧ w' = w.alloc (.cells #[.slice a len cap] 128) := by
  refine callsIn_of_wp Try.func151 rfl h5 ?_ hro
  simp only [Try.ntmps151, List.size_toArray, List.length_cons, List.length_nil, Nat.reduceAdd, Nat.reduceSub, Array.replicate_succ, Array.replicate_zero, List.push_toArray, List.append_toArray, List.nil_append, List.cons_append]
  gi_wp2
  go_ret
  exact ⟨rfl, rfl⟩

theorem backU_stops (F : Fence) (nn : Nat) (h8 : F.fn 154) (hro : F.round = none) (hn : 1 ≤ nn) (Bs n₀ : Nat) (A : Option Addr) (n cap : Nat) (f : Nat → Int) (hreach : n ≤ 1000000000000) (w : World) (hBs : Bs < n₀) (hn₀ : n₀ ≤ w.heap.size)
    (hc : w.cell? ⟨Bs, 0, none⟩ = some (.slice A n cap)) (hI : 0 < n → ∃ b, A = some ⟨b, 0, none⟩ ∧ b < n₀ ∧ ∀ j, j < n → w.cell? ⟨b, j, none⟩ = some (.int .u64 (f j))) :
    SeqStopsK F nn Try.prog 154 #[.pointer (some ⟨Bs, 0, none⟩)] (fun x : Fin n => #[Value.int .i64 (x.1 : Int), Value.int .u64 (f x.1)]) (Below n₀) (fun ys => ys = bk n) (fun pre => pre <+: bk n) n w := fun l J Jx W hW _ _ hY h0 => by
  have hc' := (hW.cell (p := ⟨Bs, 0, none⟩) (by show Bs < _; omega)).trans hc
  exact backU1_in F nn h8 hro hn l Bs n₀ A n cap f hreach J Jx hY W hBs hc' (fun h => by
    obtain ⟨b, e, hb, hcs⟩ := hI h
    exact ⟨b, e, hb, fun j hj => (hW.cell (p := ⟨b, j, none⟩) (by show b < _; omega)).trans (hcs j hj)⟩) h0

end Go.Proofs.Ytfnmnnbmhfbkbaa

/-! W11 -/
namespace Go.Proofs.Ytfnmnnbmhfbkbaa
open Go.RowKit Go.Shelf
attribute [local go_sem] Oper.semAt_some

set_option maxHeartbeats 400000 in
theorem cmpU64_any (a b : Int) (w : World) : Calls Try.prog 152 #[.int .u64 a, .int .u64 b] w fun e w' => e = .returned (.int .i64 (cmpI a b)) ∧ w = w' := by
  rcases Int.lt_trichotomy a b with h | h | h
  · have HR := Lib.hid (show cmpI a b = -1 by unfold cmpI; rw [if_pos h])
    go_enter Try.func152, Try.ntmps152
    go_wp2
    go_ret
    exact ⟨ret_int HR.out.symm, rfl⟩
  · subst h
    have HR := Lib.hid (show cmpI a a = 0 by unfold cmpI; rw [if_neg (by omega), if_neg (by omega)])
    go_enter Try.func152, Try.ntmps152
    go_wp2
    go_ret
    exact ⟨ret_int HR.out.symm, rfl⟩
  · have HR := Lib.hid (show cmpI a b = 1 by unfold cmpI; rw [if_neg (by omega), if_pos h])
    go_enter Try.func152, Try.ntmps152
    go_wp2
    go_ret
    exact ⟨ret_int HR.out.symm, rfl⟩

theorem results_int_cell {fn : Func} {p : Tmp} (h : fn.results = #[.cell p 3]) (tmps : Array Value) (w : World) (b : Nat) (x : Value)
    (ht : tmps.getD p undef = .pointer (some ⟨b, 0, none⟩)) (h0 : w.cell? ⟨b, 0, none⟩ = some x) : (results fn tmps).run Try.prog w = .ok x w := by
  rw [results_cell1 h, ht]
  simp [go_sem, h0]

set_option maxHeartbeats 1000000 in
theorem compareWords_ne (A C : Option Addr) (n m c d : Nat) (f g : Nat → Int) (w : World) (hn : n ≤ 1000000000000) (hm : m ≤ 1000000000000) (hne : n ≠ m) :
    Calls Try.prog 141 #[.slice A n c, .slice C m d] w fun e w' => e = .returned (.int .i64 (cmpW n m f g)) ∧ Below w.heap.size w w' := by
  have HC := Lib.hid (show cmpW n m f g = cmpI n m by unfold cmpW; rw [if_neg hne])
  have hne' : (n != m) = true := by simpa using hne
  go_enter Try.func141, Try.ntmps141
  go_wp2_with (go_at_call 85; refine (cmpInt_any _ _ _).mono ?_; rintro e w' ⟨rfl, rfl⟩)
  refine bodyPost_ret (results_int_cell rfl _ _ _ _ rfl (by simp [go_sem]; rfl)) rfl ⟨by rw [HC.out], ?_⟩
  exact ((Below.refl w.heap.size w).alloc (Nat.le_refl _) _).alloc (by simp) _

set_option maxRecDepth 100000 in
set_option maxHeartbeats 2000000 in
theorem compareWords_eq (A C : Option Addr) (n c d : Nat) (f g : Nat → Int) (w : World) (hA : WS w A n f) (hC : WS w C n g) (hn : n ≤ 1000000000000) :
    Calls Try.prog 141 #[.slice A n c, .slice C n d] w fun e w' => e = .returned (.int .i64 (cmpI (vf f n) (vf g n))) ∧ Below w.heap.size w w' := by
  refine (callsIn_wide (n := 3)).1 ?_
  refine callsIn_of_wp_marks Try.func141 rfl trivial ?_ rfl
  simp only [Try.ntmps141, List.size_toArray, List.length_cons, List.length_nil, Nat.reduceAdd, Nat.reduceSub, Array.replicate_succ, Array.replicate_zero, List.push_toArray, List.append_toArray, List.nil_append, List.cons_append]
  gi_wp2_with (refine ⟨trivial, ?_⟩; gi_at_call 151; refine (backU_in Fence.wide _ trivial rfl _ _ _ _).mono ?_; rintro e w' ⟨rfl, rfl⟩)
  have bB := Boxed.new w 128 (.slice C n d)
  have bR := Boxed.new (w.alloc (.cells #[.slice C n d] 128)) 3 (.int .i64 0)
  have bN := Boxed.new ((w.alloc (.cells #[.slice C n d] 128)).alloc (.cells #[.int .i64 0] 3)) 128 (.slice A n c)
  rw [World.size_alloc] at bR
  rw [World.size_alloc, World.size_alloc] at bN
  have hB0 : Below w.heap.size w (((w.alloc (.cells #[.slice C n d] 128)).alloc (.cells #[.int .i64 0] 3)).alloc (.cells #[.slice A n c] 128)) := (((Below.refl _ w).alloc (Nat.le_refl _) _).alloc (by simp) _).alloc (by simp; omega) _
  have bB2 := (bB.alloc (.cells #[.int .i64 0] 3)).alloc (.cells #[.slice A n c] 128)
  have bR2 := bR.alloc (.cells #[.slice A n c] 128)
  generalize hWW : (((w.alloc (.cells #[.slice C n d] 128)).alloc (.cells #[.int .i64 0] 3)).alloc (.cells #[.slice A n c] 128)) = W0 at *
  have hsz : W0.heap.size = w.heap.size + 3 := by rw [← hWW]; simp
  clear hWW
  have HSZ := Lib.hid hsz
  clear hsz
  refine wpIn_rangeFunc_ownG rfl (by omega) (gf := 154) (lb := #[.pointer (some ⟨w.heap.size + 1 + 1, 0, none⟩)]) rfl trivial (enters_of Try.func154 (by kernel_rfl) rfl)
    (backU_stops Fence.wide _ trivial rfl (by omega) (w.heap.size + 1 + 1) (w.heap.size + 3) A n c f hn W0 (by omega) (by rw [HSZ.out]; omega) bN.cell (fun h => by
      obtain ⟨b, e, hb, hcs⟩ := (hA.below (Nat.le_refl _) hB0).2 h
      obtain ⟨b', e', hb', _⟩ := hA.2 h
      rw [e] at e'; injection e' with e'; injection e' with e'
      subst e'
      exact ⟨b, e, by omega, hcs⟩)) belowK_t (belowK_b (by rw [HSZ.out]; omega)) (Below.refl _ _) (fun _ => rfl)
    (fun pre W => ((∀ p ∈ pre, f p.1 = g p.1) ∧ W.cell? ⟨w.heap.size, 0, none⟩ = some (.slice C n d) ∧ W.cell? ⟨w.heap.size + 1, 0, none⟩ = some (.int .i64 0) ∧ W.frozen? ⟨w.heap.size + 1, 0, none⟩ = false) ∧ Below w.heap.size w W)
    (fun cc pre W => (cc = .ret ∧ ∃ ini last, pre = ini ++ [last] ∧ (∀ p ∈ ini, f p.1 = g p.1) ∧ f last.1 ≠ g last.1 ∧ W.cell? ⟨w.heap.size + 1, 0, none⟩ = some (.int .i64 (cmpI (f last.1) (g last.1)))) ∧ Below w.heap.size w W)
    (OwnFrom.and (Own.from (fun s A B row hs hg hr => ⟨hs.1, cell_kept hs.2.1 hg hr, cell_kept hs.2.2.1 hg hr, (frozen_kept hs.2.2.1 hg hr).trans hs.2.2.2⟩) _) (ownFrom_below (Nat.le_refl _) (by rw [HSZ.out]; omega)))
    (fun c => OwnFrom.and (Own.from (fun s A B row hs hg hr => by obtain ⟨hc, ini, last, e1, e2, e3, e4⟩ := hs; exact ⟨hc, ini, last, e1, e2, e3, cell_kept e4 hg hr⟩) _) (ownFrom_below (Nat.le_refl _) (by rw [HSZ.out]; omega)))
    ⟨⟨by simp, bB2.cell, bR2.cell, bR2.frozen⟩, hB0⟩
    (fun x => { tmps := #[.slice A n c, .slice C n d, undef, .pointer (some ⟨w.heap.size, 0, none⟩), .pointer (some ⟨w.heap.size + 1, 0, none⟩), .int .i64 (x.1 : Int), .int .u64 (f x.1), .slice A n c, .int .i64 n, .slice C n d, .int .i64 n, .bool false, undef, undef, undef, undef, undef, .slice A n c, .func (.func 154) #[] #[.pointer (some ⟨w.heap.size + 1 + 1, 0, none⟩)], .int .i64 (x.1 : Int), .int .u64 (f x.1), undef, undef, undef, undef, undef, undef, undef, undef, undef, undef, undef, undef], defers := [] }) ?assign ?body ?done ?stop
  case assign =>
    intro l x W K hK
    gi_wp2
    exact hK
  case body =>
    rintro l pre ⟨i, hi⟩ W ⟨⟨hp, hcb, hcr, hfr⟩, hB⟩ _
    dsimp only
    obtain ⟨b, rfl, hb, hcs⟩ := (hC.below (Nat.le_refl _) hB).2 (by omega)
    have hci := hcs i hi
    clear hcs
    have hHP := Lib.hid hp
    clear hp
    by_cases he : f i = g i
    · have he' : (f i != g i) = false := by simpa using he
      have HE := Lib.hid he
      clear he
      gi_wp2
      exact ⟨KeepsFrom.refl _ _, Below.refl _ _, ⟨fun p hp' => (List.mem_append.1 hp').elim (hHP.out p) (fun e => by simp at e; subst e; exact HE.out), hcb, hcr, hfr⟩, hB⟩
    · have he' : (f i != g i) = true := by simpa using he
      have HE := Lib.hid he
      clear he
      gi_wp2_with (refine ⟨trivial, ?_⟩; gi_at_call 152; refine (CallsIn.inRound l (callsIn_wide.2 (cmpU64_any _ _ _))).mono ?_; rintro e w' ⟨rfl, rfl⟩)
      exact ⟨(KeepsOthers.setCell _ _ _).from _, ⟨rfl, pre, ⟨i, hi⟩, rfl, hHP.out, HE.out, World.cell?_setCell_same' _ _ _ (by rw [hcr]; rfl)⟩, hB.setCell (p := ⟨w.heap.size + 1, 0, none⟩) (by simp) _⟩
  case done =>
    rintro D ys W hD rfl ⟨⟨hne, hcb, hcr, hfr⟩, hB⟩ hK
    have HN := Lib.hid hne
    clear hne
    gi_wp2
    have hK' := (KeepsOthers.setCell W ⟨w.heap.size + 1, 0, none⟩ (.int .i64 0)).same D _ hK rfl
    refine ⟨by simp, .inl ⟨_, _, rfl, run_takeDeferred hK', ?_⟩⟩
    have hc5 := cell_kept (World.cell?_setCell_same' W ⟨w.heap.size + 1, 0, none⟩ (.int .i64 0) (by rw [hcr]; rfl)) (grownBy_putObj' _ D (.deferred none)) (fun r e => by cases e; exact ⟨_, hK', rfl⟩)
    refine ⟨.int .i64 0, results_int_cell rfl _ _ _ _ rfl hc5, ?_, (hB.setCell (p := ⟨w.heap.size + 1, 0, none⟩) (by simp) _).trans (belowK_b (w := w) (Nat.le_refl _) _ D _ _ (by rw [HSZ.out] at hD; omega) hK' rfl rfl)⟩
    rw [vf_congr n (fun i hi => HN.out ⟨i, hi⟩ (bk_mem _)), cmpI_eq]
  case stop =>
    rintro D c pre W hD hpre ⟨⟨rfl, ini, last, e1, e2, e3, hcr⟩, hB⟩ hK
    have H2 := Lib.hid e2
    have H3 := Lib.hid e3
    clear e2 e3
    gi_wp2
    refine ⟨by simp, .inl ⟨_, _, rfl, run_takeDeferred hK, ?_⟩⟩
    have hc5 := cell_kept hcr (grownBy_putObj' _ D (.deferred none)) (fun r e => by cases e; exact ⟨_, hK, rfl⟩)
    refine ⟨_, results_int_cell rfl _ _ _ _ rfl hc5, ?_, hB.trans (belowK_b (w := w) (Nat.le_refl _) W D _ _ (by rw [HSZ.out] at hD; omega) hK rfl rfl)⟩
    rw [e1] at hpre
    rw [cmp_first last.2 hA.1 hC.1 (fun i hi hi' => H2.out ⟨i, hi'⟩ (bk_prefix hpre ⟨i, hi'⟩ hi)) H3.out]

theorem compareWords_any (A C : Option Addr) (n m c d : Nat) (f g : Nat → Int) (w : World) (hA : WS w A n f) (hC : WS w C m g) (hn : n ≤ 1000000000000) (hm : m ≤ 1000000000000) (hf : Can f n) (hg : Can g m) :
    Calls Try.prog 141 #[.slice A n c, .slice C m d] w fun e w' => e = .returned (.int .i64 (cmpI (vf f n) (vf g m))) ∧ Below w.heap.size w w' := by
  rw [← cmpW_is hf hg hA.1 hC.1]
  by_cases h : n = m
  · subst h
    have e : cmpW n n f g = cmpI (vf f n) (vf g n) := by unfold cmpW; rw [if_pos rfl]
    rw [e]
    exact compareWords_eq A C n c d f g w hA hC hn
  · exact compareWords_ne A C n m c d f g w hn hm h

end Go.Proofs.Ytfnmnnbmhfbkbaa

/-! W12 -/
namespace Go.Proofs.Ytfnmnnbmhfbkbaa
open Go.RowKit

/-- The number of a sign and words. -/
def LG (w : World) (b : Bool) (sv : Value) (z : Int) (L : Nat) : Prop :=
  ∃ (A : Option Addr) (n c : Nat) (f : Nat → Int), sv = .slice A n c ∧ WS w A n f ∧ Can f n ∧ n ≤ L ∧ z = if b then -(vf f n) else vf f n
theorem LG.below {w w' : World} {b : Bool} {sv : Value} {z : Int} {L B : Nat} (h : LG w b sv z L) (hB : w.heap.size ≤ B) (hb : Below B w w') : LG w' b sv z L := by
  obtain ⟨A, n, c, f, e, h1, h2, h3, h4⟩ := h
  exact ⟨A, n, c, f, e, h1.below hB hb, h2, h3, h4⟩
theorem LG.more {w : World} {b : Bool} {sv : Value} {z : Int} {L L' : Nat} (h : LG w b sv z L) (hL : L ≤ L') : LG w b sv z L' := by
  obtain ⟨A, n, c, f, e, h1, h2, h3, h4⟩ := h
  exact ⟨A, n, c, f, e, h1, h2, by omega, h4⟩

theorem WS.set2 {w : World} {A : Option Addr} {n : Nat} {f : Nat → Int} {b : Nat} {x : Bool} (h : WS w A n f) (hb : w.cell? ⟨b, 0, none⟩ = some (.bool x)) (u v : Value) : WS ((w.setCell ⟨b, 0, none⟩ u).setCell ⟨b, 1, none⟩ v) A n f :=
  ⟨h.1, fun hn => by
    obtain ⟨g, e, hl, hc⟩ := h.2 hn
    have hne : b ≠ g := by rintro rfl; have h0 := hc 0 hn; rw [hb] at h0; cases h0
    refine ⟨g, e, by simpa [World.setCell] using hl, fun j hj => ?_⟩
    rw [World.cell?_setCell_other _ _ _ _ (by simp <;> omega), World.cell?_setCell_other _ _ _ _ (by simp <;> omega)]
    exact hc j hj⟩
theorem LG.set2 {w : World} {b : Bool} {sv : Value} {z : Int} {L g : Nat} {x : Bool} (h : LG w b sv z L) (hb : w.cell? ⟨g, 0, none⟩ = some (.bool x)) (u v : Value) : LG ((w.setCell ⟨g, 0, none⟩ u).setCell ⟨g, 1, none⟩ v) b sv z L := by
  obtain ⟨A, n, c, f, e, h1, h2, h3, h4⟩ := h
  exact ⟨A, n, c, f, e, h1.set2 hb u v, h2, h3, h4⟩

theorem ret_long {fn : Func} {p : Tmp} (h : fn.results = #[.cell p 130]) (tmps : Array Value) (w : World) (b : Nat) (x y : Value)
    (ht : tmps.getD p undef = .pointer (some ⟨b, 0, none⟩)) (h0 : w.cell? ⟨b, 0, none⟩ = some x) (h1 : w.cell? ⟨b, 1, none⟩ = some y) :
    (results fn tmps).run Try.prog w = .ok (.agg #[x, y]) w := by
  rw [results_cell1 h, ht]
  simp [go_sem, h0, h1]

set_option maxHeartbeats 1000000 in
theorem times_any (b1 b2 : Bool) (s1 s2 : Value) (z1 z2 : Int) (L1 L2 : Nat) (w : World) (h1 : LG w b1 s1 z1 L1) (h2 : LG w b2 s2 z2 L2) (l1 : L1 ≤ 1000000000000) (l2 : L2 ≤ 1000000000000) :
    Calls Try.prog 123 #[.agg #[.bool b1, s1], .agg #[.bool b2, s2]] w fun e w' => ∃ b s, e = .returned (.agg #[.bool b, s]) ∧ LG w' b s (z1 * z2) (L1 + L2) ∧ Below w.heap.size w w' := by
  obtain ⟨A, n, c, f, rfl, hA, cf, hn, hz1⟩ := h1
  obtain ⟨C, m, d, g, rfl, hC, cg, hm, hz2⟩ := h2
  have HZ1 := Lib.hid hz1
  have HZ2 := Lib.hid hz2
  clear hz1 hz2
  go_enter Try.func123, Try.ntmps123
  go_wp2
  go_region_held3 (fun w' => w'.cell? ⟨w.heap.size, 0, none⟩ = some (.bool b1) ∧ w'.cell? ⟨w.heap.size, 1, none⟩ = some (.slice A n c) ∧ w'.cell? ⟨w.heap.size + 1, 0, none⟩ = some (.bool b2) ∧ w'.cell? ⟨w.heap.size + 1, 1, none⟩ = some (.slice C m d)) (first | (simp [go_sem, World.cell?_alloc_past]; done) | (simp [go_sem, World.cell?_alloc_past, hcK]; done))
    (first
      | (go_at_call 139; refine (wordsTimes_any A C n m c d f g _ (by exact hA.below (Nat.le_refl _) (by repeat (first | exact Below.refl _ _ | refine Below.drew ?_ | refine Below.drewN' ?_ _ | refine Below.alloc ?_ (by first | exact Nat.le_refl _ | (simp; done) | (simp; omega)) _))) (by exact hC.below (Nat.le_refl _) (by repeat (first | exact Below.refl _ _ | refine Below.drew ?_ | refine Below.drewN' ?_ _ | refine Below.alloc ?_ (by first | exact Nat.le_refl _ | (simp; done) | (simp; omega)) _))) (by omega) (by omega)).mono ?_; rintro e w1 ⟨R, r, k, hh, rfl, hR, hr, ht, hv, hk1, hk2, hB1⟩; obtain ⟨hcK, hfK⟩ := bcell hB1))
  go_wp2
  obtain ⟨r0, r1⟩ := set2 (w := w1) (b := w.heap.size + 1 + 1) (x := .bool false) (y := .slice none 0 0) (.bool (!b1 == b2)) (.slice R r k) (by rw [hcK _ _ (by simp)]; simp [go_sem, World.cell?_alloc_past]) (by rw [hcK _ _ (by simp)]; simp [go_sem, World.cell?_alloc_past])
  have hz := hB1.size
  simp at hz
  refine bodyPost_ret (ret_long rfl _ _ _ _ _ rfl r0 r1) rfl ⟨_, _, rfl, ⟨R, r, k, hh, rfl, ?_, ht, by omega, ?_⟩, ?_⟩
  · exact hR.set2 (by rw [hcK _ _ (by simp)]; simp [go_sem, World.cell?_alloc_past]; rfl) _ _
  · rw [hv, HZ1.out, HZ2.out]; cases b1 <;> cases b2 <;> simp [Int.neg_mul, Int.mul_neg]
  · exact (((((by repeat (first | exact Below.refl _ _ | refine Below.drew ?_ | refine Below.drewN' ?_ _ | refine Below.alloc ?_ (by first | exact Nat.le_refl _ | (simp; done) | (simp; omega)) _)) : Below w.heap.size w _).trans (hB1.mono (by simp; omega))).setCell (by simp; omega) _).setCell (by simp; omega) _)

theorem withoutZeros_one (b : Nat) (x : Int) (w : World) (hx : U64 x) (hb : b < w.heap.size) (hc : w.cell? ⟨b, 0, none⟩ = some (.int .u64 x)) :
    Calls Try.prog 137 #[.slice (some ⟨b, 0, none⟩) 1 1] w fun e w' => ∃ m, m ≤ 1 ∧ Can (fun _ => x) m ∧ vf (fun _ => x) m = x ∧ WS w (some ⟨b, 0, none⟩) m (fun _ => x) ∧ e = .returned (.slice (some ⟨b, 0, none⟩) m 1) ∧ w = w' := by
  have h0 : ∀ j, j < 1 → w.cell? ⟨b, j, none⟩ = some (.int .u64 x) := by
    intro j hj
    obtain rfl : j = 0 := by omega
    exact hc
  refine (withoutZeros_any b 1 1 (fun _ => x) w h0 (by omega) (by omega)).mono ?_
  rintro e w' ⟨m, h1, h2, h3, h4, h5⟩
  exact ⟨m, h1, h2, (vf_trim 1 h1 h3).symm.trans (by simp [vf]), ⟨fun _ _ => hx, fun hm => ⟨b, rfl, hb, fun j hj => h0 j (by omega)⟩⟩, h4, h5⟩

set_option maxHeartbeats 1000000 in
theorem longOf_any (n : Int) (w : World) (hn : I64 n) :
    Calls Try.prog 121 #[.int .i64 n] w fun e w' => ∃ b s, e = .returned (.agg #[.bool b, s]) ∧ LG w' b s n 1 ∧ Below w.heap.size w w' := by
  have s1 := sz_nonneg n
  have s2 := sz_max hn.1 hn.2
  have HS := Lib.hid (show n = if decide (n < 0) then -sz n else sz n by unfold sz; split <;> simp_all <;> omega)
  go_enter Try.func121, Try.ntmps121
  go_wp2_with (first
    | (go_at_call 87; refine (size_any _ _ hn.1 hn.2).mono ?_; rintro e w' ⟨rfl, rfl⟩)
    | (go_at_call 137; refine (withoutZeros_one _ _ _ ⟨s1, by omega⟩ (by simp) (by simp [go_sem])).mono ?_; rintro e w' ⟨r, hr, cr, hv, hW, rfl, rfl⟩))
  refine bodyPost_ret (ret_long rfl _ _ _ (.bool (decide (n < 0))) _ rfl (by simp [go_sem, World.cell?_alloc_past]) (by simp [go_sem, World.cell?_alloc_past]; rfl)) rfl ⟨_, _, rfl, ⟨_, r, 1, _, rfl, ?_, cr, hr, ?_⟩, ?_⟩
  · refine ⟨fun _ _ => show U64 (sz n) from ⟨s1, by omega⟩, fun hm => ⟨_, rfl, by simp, fun j hj => ?_⟩⟩
    obtain rfl : j = 0 := by omega
    simp [go_sem]
  · rw [hv]; exact HS.out
  · exact ((Below.refl w.heap.size w).alloc (Nat.le_refl _) _).alloc (by simp) _

set_option maxHeartbeats 1000000 in
theorem sign_any (b : Bool) (sv : Value) (z : Int) (L : Nat) (w : World) (h : LG w b sv z L) (hL : L ≤ 1000000000000) :
    Calls Try.prog 125 #[.agg #[.bool b, sv]] w fun e w' => e = .returned (.int .i64 (cmpI z 0)) ∧ Below w.heap.size w w' := by
  obtain ⟨A, n, c, f, rfl, hA, cf, hn, hz⟩ := h
  have hv := (vf_bd n hA.1).1
  by_cases h0 : n = 0
  · subst h0
    have HR := Lib.hid (show cmpI z 0 = 0 by rw [hz]; cases b <;> rfl)
    clear hz
    go_enter Try.func125, Try.ntmps125
    go_wp2
    go_ret
    exact ⟨ret_int HR.out.symm, (Below.refl _ _).alloc (Nat.le_refl _) _⟩
  · have hp : 0 < vf f n := by
      have h2 : vf f n ≠ 0 := fun h => h0 ((cf.zero hA.1).1 h)
      omega
    have h0' : ((n : Int) == 0) = false := by simpa using h0
    cases b with
    | true =>
      have HR := Lib.hid (show cmpI z 0 = -1 by rw [hz]; exact cmpI_lt (by simp; omega))
      clear hz h0
      go_enter Try.func125, Try.ntmps125
      go_wp2
      go_ret
      exact ⟨ret_int HR.out.symm, (Below.refl _ _).alloc (Nat.le_refl _) _⟩
    | false =>
      have HR := Lib.hid (show cmpI z 0 = 1 by rw [hz]; exact cmpI_gt (by simp; omega))
      clear hz h0
      go_enter Try.func125, Try.ntmps125
      go_wp2
      go_ret
      exact ⟨ret_int HR.out.symm, (Below.refl _ _).alloc (Nat.le_refl _) _⟩

set_option maxHeartbeats 1000000 in
theorem opposite_any (b : Bool) (sv : Value) (z : Int) (L : Nat) (w : World) (h : LG w b sv z L) :
    Calls Try.prog 133 #[.agg #[.bool b, sv]] w fun e w' => ∃ b' s, e = .returned (.agg #[.bool b', s]) ∧ LG w' b' s (-z) L ∧ Below w.heap.size w w' := by
  obtain ⟨A, n, c, f, rfl, hA, cf, hn, hz⟩ := h
  have HZ := Lib.hid hz
  clear hz
  go_enter Try.func133, Try.ntmps133
  go_wp2
  refine bodyPost_ret (ret_long rfl _ _ _ (.bool (!b)) (.slice A n c) rfl (by simp [go_sem, World.cell?_alloc_past]) (by simp [go_sem, World.cell?_alloc_past])) rfl ⟨_, _, rfl, ⟨A, n, c, f, rfl, hA.below (Nat.le_refl _) (by repeat (first | exact Below.refl _ _ | refine Below.drew ?_ | refine Below.drewN' ?_ _ | refine Below.alloc ?_ (by first | exact Nat.le_refl _ | (simp; done) | (simp; omega)) _)), cf, hn, ?_⟩, (by repeat (first | exact Below.refl _ _ | refine Below.drew ?_ | refine Below.drewN' ?_ _ | refine Below.alloc ?_ (by first | exact Nat.le_refl _ | (simp; done) | (simp; omega)) _))⟩
  rw [HZ.out]; cases b <;> simp

set_option maxHeartbeats 1000000 in
theorem longSize_any (b : Bool) (sv : Value) (z : Int) (L : Nat) (w : World) (h : LG w b sv z L) :
    Calls Try.prog 146 #[.agg #[.bool b, sv]] w fun e w' => ∃ b' s, e = .returned (.agg #[.bool b', s]) ∧ LG w' b' s (sz z) L ∧ Below w.heap.size w w' := by
  obtain ⟨A, n, c, f, rfl, hA, cf, hn, hz⟩ := h
  have HZ := Lib.hid hz
  have hv := (vf_bd n hA.1).1
  clear hz
  go_enter Try.func146, Try.ntmps146
  go_wp2
  refine bodyPost_ret (ret_long rfl _ _ _ (.bool false) (.slice A n c) rfl (by simp [go_sem, World.cell?_alloc_past]) (by simp [go_sem, World.cell?_alloc_past])) rfl ⟨_, _, rfl, ⟨A, n, c, f, rfl, hA.below (Nat.le_refl _) (by repeat (first | exact Below.refl _ _ | refine Below.drew ?_ | refine Below.drewN' ?_ _ | refine Below.alloc ?_ (by first | exact Nat.le_refl _ | (simp; done) | (simp; omega)) _)), cf, hn, ?_⟩, (by repeat (first | exact Below.refl _ _ | refine Below.drew ?_ | refine Below.drewN' ?_ _ | refine Below.alloc ?_ (by first | exact Nat.le_refl _ | (simp; done) | (simp; omega)) _))⟩
  rw [HZ.out]; unfold sz; cases b <;> simp <;> omega

set_option maxHeartbeats 1000000 in
theorem plus_same (b : Bool) (s1 s2 : Value) (z1 z2 : Int) (L : Nat) (w : World) (h1 : LG w b s1 z1 L) (h2 : LG w b s2 z2 L) (l1 : L ≤ 1000000000000) :
    Calls Try.prog 124 #[.agg #[.bool b, s1], .agg #[.bool b, s2]] w fun e w' => ∃ b s, e = .returned (.agg #[.bool b, s]) ∧ LG w' b s (z1 + z2) (L + 1) ∧ Below w.heap.size w w' := by
  obtain ⟨A, n, c, f, rfl, hA, cf, hn, hz1⟩ := h1
  obtain ⟨C, m, d, g, rfl, hC, cg, hm, hz2⟩ := h2
  have HZ1 := Lib.hid hz1
  have HZ2 := Lib.hid hz2
  clear hz1 hz2
  have hbb : (b == b) = true := by simp
  go_enter Try.func124, Try.ntmps124
  go_wp2
  go_region_held3 (fun w' => w'.cell? ⟨w.heap.size, 0, none⟩ = some (.bool b) ∧ w'.cell? ⟨w.heap.size, 1, none⟩ = some (.slice A n c) ∧ w'.cell? ⟨w.heap.size + 1, 1, none⟩ = some (.slice C m d)) (first | (simp [go_sem, World.cell?_alloc_past]; done) | (simp [go_sem, World.cell?_alloc_past, hcK]; done))
    (first
      | (go_at_call 140; refine (wordsPlus_any A C n m c d f g _ (by exact hA.below (Nat.le_refl _) (by repeat (first | exact Below.refl _ _ | refine Below.drew ?_ | refine Below.drewN' ?_ _ | refine Below.alloc ?_ (by first | exact Nat.le_refl _ | (simp; done) | (simp; omega)) _))) (by exact hC.below (Nat.le_refl _) (by repeat (first | exact Below.refl _ _ | refine Below.drew ?_ | refine Below.drewN' ?_ _ | refine Below.alloc ?_ (by first | exact Nat.le_refl _ | (simp; done) | (simp; omega)) _))) (by omega) (by omega)).mono ?_; rintro e w1 ⟨R, r, k, hh, rfl, hR, hr, ht, hv, hk1, hk2, hB1⟩; obtain ⟨hcK, hfK⟩ := bcell hB1))
  go_wp2
  obtain ⟨r0, r1⟩ := set2 (w := w1) (b := w.heap.size + 1 + 1) (x := .bool false) (y := .slice none 0 0) (.bool b) (.slice R r k) (by rw [hcK _ _ (by simp)]; simp [go_sem, World.cell?_alloc_past]) (by rw [hcK _ _ (by simp)]; simp [go_sem, World.cell?_alloc_past])
  have hz := hB1.size
  simp at hz
  refine bodyPost_ret (ret_long rfl _ _ _ _ _ rfl r0 r1) rfl ⟨_, _, rfl, ⟨R, r, k, hh, rfl, ?_, ht, by omega, ?_⟩, ?_⟩
  · exact hR.set2 (by rw [hcK _ _ (by simp)]; simp [go_sem, World.cell?_alloc_past]; rfl) _ _
  · rw [hv, HZ1.out, HZ2.out]; cases b <;> simp <;> omega
  · exact (((((by repeat (first | exact Below.refl _ _ | refine Below.drew ?_ | refine Below.drewN' ?_ _ | refine Below.alloc ?_ (by first | exact Nat.le_refl _ | (simp; done) | (simp; omega)) _)) : Below w.heap.size w _).trans (hB1.mono (by simp; omega))).setCell (by simp; omega) _).setCell (by simp; omega) _)

end Go.Proofs.Ytfnmnnbmhfbkbaa

/-! W13 -/
namespace Go.Proofs.Ytfnmnnbmhfbkbaa
open Go.RowKit

set_option maxHeartbeats 2000000 in
theorem plus_diff (b : Bool) (s1 s2 : Value) (z1 z2 : Int) (L : Nat) (w : World) (h1 : LG w b s1 z1 L) (h2 : LG w (!b) s2 z2 L) (l1 : L ≤ 1000000000000) :
    Calls Try.prog 124 #[.agg #[.bool b, s1], .agg #[.bool (!b), s2]] w fun e w' => ∃ b s, e = .returned (.agg #[.bool b, s]) ∧ LG w' b s (z1 + z2) (L + 1) ∧ Below w.heap.size w w' := by
  obtain ⟨A, n, c, f, rfl, hA, cf, hn, hz1⟩ := h1
  obtain ⟨C, m, d, g, rfl, hC, cg, hm, hz2⟩ := h2
  have HZ1 := Lib.hid hz1
  have HZ2 := Lib.hid hz2
  clear hz1 hz2
  have hbb : (b == !b) = false := by cases b <;> rfl
  have hnm : vf f n < vf g m → n ≤ m := fun h => by
    rcases Nat.lt_or_ge m n with h1 | h1
    · have := cf.lt hC.1 hA.1 h1; omega
    · exact h1
  have hmn : ¬ vf f n < vf g m → m ≤ n := fun h => by
    rcases Nat.lt_or_ge n m with h1 | h1
    · have := cg.lt hA.1 hC.1 h1; omega
    · exact h1
  by_cases hlt : vf f n < vf g m
  · have hd : decide (cmpI (vf f n) (vf g m) < 0) = true := by rw [cmpI_lt hlt]; rfl
    have hnm' := hnm hlt
    clear hnm hmn
    go_enter Try.func124, Try.ntmps124
    go_wp2_with (go_at_call 141; refine (compareWords_any A C n m c d f g _ (by exact hA.below (Nat.le_refl _) (by repeat (first | exact Below.refl _ _ | refine Below.drew ?_ | refine Below.drewN' ?_ _ | refine Below.alloc ?_ (by first | exact Nat.le_refl _ | (simp; done) | (simp; omega)) _))) (by exact hC.below (Nat.le_refl _) (by repeat (first | exact Below.refl _ _ | refine Below.drew ?_ | refine Below.drewN' ?_ _ | refine Below.alloc ?_ (by first | exact Nat.le_refl _ | (simp; done) | (simp; omega)) _))) (by omega) (by omega) cf cg).mono ?_; rintro e w1 ⟨rfl, hB1⟩; obtain ⟨hc1, hf1⟩ := bcell hB1; have hz1 : w.heap.size + 3 ≤ w1.heap.size := (by have := hB1.size; simp at this; omega))
    have p0 : w1.cell? ⟨w.heap.size, 0, none⟩ = some (.bool b) := by rw [hc1 _ _ (by simp <;> omega)]; simp [go_sem, World.cell?_alloc_past]
    have p1 : w1.cell? ⟨w.heap.size, 1, none⟩ = some (.slice A n c) := by rw [hc1 _ _ (by simp <;> omega)]; simp [go_sem, World.cell?_alloc_past]
    have p2 : w1.cell? ⟨w.heap.size + 1, 0, none⟩ = some (.bool (!b)) := by rw [hc1 _ _ (by simp <;> omega)]; simp [go_sem, World.cell?_alloc_past]
    have p3 : w1.cell? ⟨w.heap.size + 1, 1, none⟩ = some (.slice C m d) := by rw [hc1 _ _ (by simp <;> omega)]; simp [go_sem, World.cell?_alloc_past]
    have p4 : w1.cell? ⟨w.heap.size + 1 + 1, 0, none⟩ = some (.bool false) := by rw [hc1 _ _ (by simp <;> omega)]; simp [go_sem, World.cell?_alloc_past]
    have p5 : w1.cell? ⟨w.heap.size + 1 + 1, 1, none⟩ = some (.slice none 0 0) := by rw [hc1 _ _ (by simp <;> omega)]; simp [go_sem, World.cell?_alloc_past]
    have f4 : w1.frozen? ⟨w.heap.size + 1 + 1, 0, none⟩ = false := by rw [hf1 _ _ (by simp <;> omega)]; simp [go_sem, World.frozen?_alloc_past]
    have f5 : w1.frozen? ⟨w.heap.size + 1 + 1, 1, none⟩ = false := by rw [hf1 _ _ (by simp <;> omega)]; simp [go_sem, World.frozen?_alloc_past]
    have hBB : Below w.heap.size w w1 := ((by repeat (first | exact Below.refl _ _ | refine Below.drew ?_ | refine Below.drewN' ?_ _ | refine Below.alloc ?_ (by first | exact Nat.le_refl _ | (simp; done) | (simp; omega)) _)) : Below w.heap.size w _).trans (hB1.mono (by simp; omega))
    have hA1 := hA.below (Nat.le_refl _) hBB
    have hC1 := hC.below (Nat.le_refl _) hBB
    obtain ⟨x0, x1⟩ := set2 (w := w1) (b := w.heap.size) (.bool (!b)) (.slice C m d) p0 p1
    have y2 : ((w1.setCell ⟨w.heap.size, 0, none⟩ (.bool (!b))).setCell ⟨w.heap.size, 1, none⟩ (.slice C m d)).cell? ⟨w.heap.size + 1, 0, none⟩ = some (.bool (!b)) := by rw [World.cell?_setCell_other _ _ _ _ (by simp), World.cell?_setCell_other _ _ _ _ (by simp)]; exact p2
    have y3 : ((w1.setCell ⟨w.heap.size, 0, none⟩ (.bool (!b))).setCell ⟨w.heap.size, 1, none⟩ (.slice C m d)).cell? ⟨w.heap.size + 1, 1, none⟩ = some (.slice C m d) := by rw [World.cell?_setCell_other _ _ _ _ (by simp), World.cell?_setCell_other _ _ _ _ (by simp)]; exact p3
    obtain ⟨z0, z1⟩ := set2 (.bool b) (.slice A n c) y2 y3
    have hA2 := (hA1.set2 p0 (.bool (!b)) (.slice C m d)).set2 y2 (.bool b) (.slice A n c)
    have hC2 := (hC1.set2 p0 (.bool (!b)) (.slice C m d)).set2 y2 (.bool b) (.slice A n c)
    generalize hW2 : (((w1.setCell ⟨w.heap.size, 0, none⟩ (.bool (!b))).setCell ⟨w.heap.size, 1, none⟩ (.slice C m d)).setCell ⟨w.heap.size + 1, 0, none⟩ (.bool b)).setCell ⟨w.heap.size + 1, 1, none⟩ (.slice A n c) = W2 at *
    have q0 : W2.cell? ⟨w.heap.size, 0, none⟩ = some (.bool (!b)) := by rw [← hW2, World.cell?_setCell_other _ _ _ _ (by simp), World.cell?_setCell_other _ _ _ _ (by simp)]; exact x0
    have q1 : W2.cell? ⟨w.heap.size, 1, none⟩ = some (.slice C m d) := by rw [← hW2, World.cell?_setCell_other _ _ _ _ (by simp), World.cell?_setCell_other _ _ _ _ (by simp)]; exact x1
    have q2 := z1
    have q4 : W2.cell? ⟨w.heap.size + 1 + 1, 0, none⟩ = some (.bool false) := by rw [← hW2, World.cell?_setCell_other _ _ _ _ (by simp), World.cell?_setCell_other _ _ _ _ (by simp), World.cell?_setCell_other _ _ _ _ (by simp), World.cell?_setCell_other _ _ _ _ (by simp)]; exact p4
    have q5 : W2.cell? ⟨w.heap.size + 1 + 1, 1, none⟩ = some (.slice none 0 0) := by rw [← hW2, World.cell?_setCell_other _ _ _ _ (by simp), World.cell?_setCell_other _ _ _ _ (by simp), World.cell?_setCell_other _ _ _ _ (by simp), World.cell?_setCell_other _ _ _ _ (by simp)]; exact p5
    have g4 : W2.frozen? ⟨w.heap.size + 1 + 1, 0, none⟩ = false := by rw [← hW2]; simp only [World.frozen?_setCell]; exact f4
    have g5 : W2.frozen? ⟨w.heap.size + 1 + 1, 1, none⟩ = false := by rw [← hW2]; simp only [World.frozen?_setCell]; exact f5
    have hB2 : Below w.heap.size w W2 := by rw [← hW2]; exact (((hBB.setCell (Nat.le_refl _) _).setCell (Nat.le_refl _) _).setCell (by simp) _).setCell (by simp) _
    have hs2 : w.heap.size + 3 ≤ W2.heap.size := by rw [← hW2]; simpa [World.setCell] using hz1
    clear p0 p1 p2 p3 p4 p5 f4 f5 hBB hA1 hC1 x0 x1 y2 y3 z0 z1 hW2 hc1 hf1 hB1 hz1
    go_region_held3 (fun w' => w'.cell? ⟨w.heap.size, 0, none⟩ = some (.bool (!b)) ∧ w'.cell? ⟨w.heap.size, 1, none⟩ = some (.slice C m d) ∧ w'.cell? ⟨w.heap.size + 1, 1, none⟩ = some (.slice A n c)) (first | (simp [go_sem, World.cell?_alloc_past, q0, q1, q2]; done) | exact ⟨u0, u1, u2⟩ | (refine ⟨?_, ?_, ?_⟩ <;> simp [go_sem, *]; done))
      (first
        | (go_at_call 142; refine (wordsMinus_any C A m n d c g f _ (by exact hC2.below (Nat.le_refl _) (by repeat (first | exact Below.refl _ _ | refine Below.drew ?_ | refine Below.drewN' ?_ _ | refine Below.alloc ?_ (by first | exact Nat.le_refl _ | (simp; done) | (simp; omega)) _))) (by exact hA2.below (Nat.le_refl _) (by repeat (first | exact Below.refl _ _ | refine Below.drew ?_ | refine Below.drewN' ?_ _ | refine Below.alloc ?_ (by first | exact Nat.le_refl _ | (simp; done) | (simp; omega)) _))) (by omega) (by omega) (by omega)).mono ?_; rintro e w3 ⟨R, r, k, hh, rfl, hR, hr, ht, hv, hk1, hk2, hB3⟩; obtain ⟨hcK, hfK⟩ := bcell hB3; have u0 := (hcK w.heap.size 0 (by simp; omega)).trans q0; have u1 := (hcK w.heap.size 1 (by simp; omega)).trans q1; have u2 := (hcK (w.heap.size + 1) 1 (by simp; omega)).trans q2; have k4 := (hcK (w.heap.size + 1 + 1) 0 (by simp; omega)).trans q4; have k5 := (hcK (w.heap.size + 1 + 1) 1 (by simp; omega)).trans q5; have k6 := (hfK (w.heap.size + 1 + 1) 0 (by simp; omega)).trans g4; have k7 := (hfK (w.heap.size + 1 + 1) 1 (by simp; omega)).trans g5))
    go_wp2
    obtain ⟨r0, r1⟩ := set2 (w := w3) (b := w.heap.size + 1 + 1) (x := .bool false) (y := .slice none 0 0) (.bool (!b)) (.slice R r k) k4 k5
    have hz3 : W2.heap.size ≤ w3.heap.size := by have := hB3.size; simpa using this
    refine bodyPost_ret (ret_long rfl _ _ _ _ _ rfl r0 r1) rfl ⟨_, _, rfl, ⟨R, r, k, hh, rfl, hR.set2 k4 _ _, ht, by omega, ?_⟩, ?_⟩
    · rw [hv, HZ1.out, HZ2.out]; cases b <;> simp <;> omega
    · exact ((hB2.drew.trans (hB3.mono (by simp; omega))).setCell (by simp; omega) _).setCell (by simp; omega) _
  · have hd : decide (cmpI (vf f n) (vf g m) < 0) = false := by
      rcases Int.lt_or_le (vf g m) (vf f n) with h | h
      · rw [cmpI_gt h]; rfl
      · rw [show vf f n = vf g m by omega, cmpI_eq]; rfl
    have hnm' := hmn hlt
    clear hnm hmn
    go_enter Try.func124, Try.ntmps124
    go_wp2_with (go_at_call 141; refine (compareWords_any A C n m c d f g _ (by exact hA.below (Nat.le_refl _) (by repeat (first | exact Below.refl _ _ | refine Below.drew ?_ | refine Below.drewN' ?_ _ | refine Below.alloc ?_ (by first | exact Nat.le_refl _ | (simp; done) | (simp; omega)) _))) (by exact hC.below (Nat.le_refl _) (by repeat (first | exact Below.refl _ _ | refine Below.drew ?_ | refine Below.drewN' ?_ _ | refine Below.alloc ?_ (by first | exact Nat.le_refl _ | (simp; done) | (simp; omega)) _))) (by omega) (by omega) cf cg).mono ?_; rintro e w1 ⟨rfl, hB1⟩; obtain ⟨hc1, hf1⟩ := bcell hB1; have hz1 : w.heap.size + 3 ≤ w1.heap.size := (by have := hB1.size; simp at this; omega))
    have p0 : w1.cell? ⟨w.heap.size, 0, none⟩ = some (.bool b) := by rw [hc1 _ _ (by simp <;> omega)]; simp [go_sem, World.cell?_alloc_past]
    have p1 : w1.cell? ⟨w.heap.size, 1, none⟩ = some (.slice A n c) := by rw [hc1 _ _ (by simp <;> omega)]; simp [go_sem, World.cell?_alloc_past]
    have p2 : w1.cell? ⟨w.heap.size + 1, 0, none⟩ = some (.bool (!b)) := by rw [hc1 _ _ (by simp <;> omega)]; simp [go_sem, World.cell?_alloc_past]
    have p3 : w1.cell? ⟨w.heap.size + 1, 1, none⟩ = some (.slice C m d) := by rw [hc1 _ _ (by simp <;> omega)]; simp [go_sem, World.cell?_alloc_past]
    have p4 : w1.cell? ⟨w.heap.size + 1 + 1, 0, none⟩ = some (.bool false) := by rw [hc1 _ _ (by simp <;> omega)]; simp [go_sem, World.cell?_alloc_past]
    have p5 : w1.cell? ⟨w.heap.size + 1 + 1, 1, none⟩ = some (.slice none 0 0) := by rw [hc1 _ _ (by simp <;> omega)]; simp [go_sem, World.cell?_alloc_past]
    have f4 : w1.frozen? ⟨w.heap.size + 1 + 1, 0, none⟩ = false := by rw [hf1 _ _ (by simp <;> omega)]; simp [go_sem, World.frozen?_alloc_past]
    have f5 : w1.frozen? ⟨w.heap.size + 1 + 1, 1, none⟩ = false := by rw [hf1 _ _ (by simp <;> omega)]; simp [go_sem, World.frozen?_alloc_past]
    have hBB : Below w.heap.size w w1 := ((by repeat (first | exact Below.refl _ _ | refine Below.drew ?_ | refine Below.drewN' ?_ _ | refine Below.alloc ?_ (by first | exact Nat.le_refl _ | (simp; done) | (simp; omega)) _)) : Below w.heap.size w _).trans (hB1.mono (by simp; omega))
    have hA1 := hA.below (Nat.le_refl _) hBB
    have hC1 := hC.below (Nat.le_refl _) hBB
    have hA2 := hA1
    have hC2 := hC1
    obtain ⟨W2, hW2⟩ : ∃ W2 : World, W2 = w1 := ⟨_, rfl⟩
    subst hW2
    have q0 := p0
    have q1 := p1
    have q2 := p3
    have q4 := p4
    have q5 := p5
    have g4 := f4
    have g5 := f5
    have hB2 := hBB
    have hs2 := hz1
    clear p0 p1 p2 p3 p4 p5 f4 f5 hBB hA1 hC1 hc1 hf1 hB1 hz1
    go_region_held3 (fun w' => w'.cell? ⟨w.heap.size, 0, none⟩ = some (.bool (b)) ∧ w'.cell? ⟨w.heap.size, 1, none⟩ = some (.slice A n c) ∧ w'.cell? ⟨w.heap.size + 1, 1, none⟩ = some (.slice C m d)) (first | (simp [go_sem, World.cell?_alloc_past, q0, q1, q2]; done) | exact ⟨u0, u1, u2⟩ | (refine ⟨?_, ?_, ?_⟩ <;> simp [go_sem, *]; done))
      (first
        | (go_at_call 142; refine (wordsMinus_any A C n m c d f g _ (by exact hA2.below (Nat.le_refl _) (by repeat (first | exact Below.refl _ _ | refine Below.drew ?_ | refine Below.drewN' ?_ _ | refine Below.alloc ?_ (by first | exact Nat.le_refl _ | (simp; done) | (simp; omega)) _))) (by exact hC2.below (Nat.le_refl _) (by repeat (first | exact Below.refl _ _ | refine Below.drew ?_ | refine Below.drewN' ?_ _ | refine Below.alloc ?_ (by first | exact Nat.le_refl _ | (simp; done) | (simp; omega)) _))) (by omega) (by omega) (by omega)).mono ?_; rintro e w3 ⟨R, r, k, hh, rfl, hR, hr, ht, hv, hk1, hk2, hB3⟩; obtain ⟨hcK, hfK⟩ := bcell hB3; have u0 := (hcK w.heap.size 0 (by simp; omega)).trans q0; have u1 := (hcK w.heap.size 1 (by simp; omega)).trans q1; have u2 := (hcK (w.heap.size + 1) 1 (by simp; omega)).trans q2; have k4 := (hcK (w.heap.size + 1 + 1) 0 (by simp; omega)).trans q4; have k5 := (hcK (w.heap.size + 1 + 1) 1 (by simp; omega)).trans q5; have k6 := (hfK (w.heap.size + 1 + 1) 0 (by simp; omega)).trans g4; have k7 := (hfK (w.heap.size + 1 + 1) 1 (by simp; omega)).trans g5))
    go_wp2
    obtain ⟨r0, r1⟩ := set2 (w := w3) (b := w.heap.size + 1 + 1) (x := .bool false) (y := .slice none 0 0) (.bool (b)) (.slice R r k) k4 k5
    have hz3 : W2.heap.size ≤ w3.heap.size := by have := hB3.size; simpa using this
    refine bodyPost_ret (ret_long rfl _ _ _ _ _ rfl r0 r1) rfl ⟨_, _, rfl, ⟨R, r, k, hh, rfl, hR.set2 k4 _ _, ht, by omega, ?_⟩, ?_⟩
    · rw [hv, HZ1.out, HZ2.out]; cases b <;> simp <;> omega
    · exact ((hB2.drew.trans (hB3.mono (by simp; omega))).setCell (by simp; omega) _).setCell (by simp; omega) _

theorem plus_any (b1 b2 : Bool) (s1 s2 : Value) (z1 z2 : Int) (L : Nat) (w : World) (h1 : LG w b1 s1 z1 L) (h2 : LG w b2 s2 z2 L) (l1 : L ≤ 1000000000000) :
    Calls Try.prog 124 #[.agg #[.bool b1, s1], .agg #[.bool b2, s2]] w fun e w' => ∃ b s, e = .returned (.agg #[.bool b, s]) ∧ LG w' b s (z1 + z2) (L + 1) ∧ Below w.heap.size w w' := by
  by_cases h : b1 = b2
  · subst h; exact plus_same b1 s1 s2 z1 z2 L w h1 h2 l1
  · obtain rfl : b2 = !b1 := by cases b1 <;> cases b2 <;> simp_all
    exact plus_diff b1 s1 s2 z1 z2 L w h1 h2 l1

set_option maxHeartbeats 2000000 in
theorem minus_any (b1 b2 : Bool) (s1 s2 : Value) (z1 z2 : Int) (L : Nat) (w : World) (h1 : LG w b1 s1 z1 L) (h2 : LG w b2 s2 z2 L) (l1 : L ≤ 1000000000000) :
    Calls Try.prog 147 #[.agg #[.bool b1, s1], .agg #[.bool b2, s2]] w fun e w' => ∃ b s, e = .returned (.agg #[.bool b, s]) ∧ LG w' b s (z1 - z2) (L + 1) ∧ Below w.heap.size w w' := by
  obtain ⟨A, n, c, f, rfl, _⟩ := id h1
  obtain ⟨C, m, d, g, rfl, _⟩ := id h2
  have HZ := Lib.hid (Int.sub_eq_add_neg (a := z1) (b := z2))
  go_enter Try.func147, Try.ntmps147
  go_wp2
  go_region_held3 (fun w' => w'.cell? ⟨w.heap.size, 0, none⟩ = some (.bool b1) ∧ w'.cell? ⟨w.heap.size, 1, none⟩ = some (.slice A n c) ∧ w'.cell? ⟨w.heap.size + 1, 0, none⟩ = some (.bool b2) ∧ w'.cell? ⟨w.heap.size + 1, 1, none⟩ = some (.slice C m d))
    (first | (simp [go_sem, World.cell?_alloc_past]; done) | (exact ⟨v0, v1, v2, v3⟩) | (exact ⟨u0, u1, u2, u3⟩) | (refine ⟨?_, ?_, ?_, ?_⟩ <;> simp [go_sem, *]; done))
    (first
      | (go_at_call 133; refine (opposite_any b2 _ z2 L _ (by exact h2.below (Nat.le_refl _) (by repeat (first | exact Below.refl _ _ | refine Below.drew ?_ | refine Below.drewN' ?_ _ | refine Below.alloc ?_ (by first | exact Nat.le_refl _ | (simp; done) | (simp; omega)) _)))).mono ?_; rintro e w1 ⟨b3, s3, rfl, hL3, hB1⟩; obtain ⟨hcK, hfK⟩ := bcell hB1; have u0 : w1.cell? ⟨w.heap.size, 0, none⟩ = some (.bool b1) := (by rw [hcK _ _ (by simp <;> omega)]; simp [go_sem, World.cell?_alloc_past]); have u1 : w1.cell? ⟨w.heap.size, 1, none⟩ = some (.slice A n c) := (by rw [hcK _ _ (by simp <;> omega)]; simp [go_sem, World.cell?_alloc_past]); have u2 : w1.cell? ⟨w.heap.size + 1, 0, none⟩ = some (.bool b2) := (by rw [hcK _ _ (by simp <;> omega)]; simp [go_sem, World.cell?_alloc_past]); have u3 : w1.cell? ⟨w.heap.size + 1, 1, none⟩ = some (.slice C m d) := (by rw [hcK _ _ (by simp <;> omega)]; simp [go_sem, World.cell?_alloc_past]); have u4 : w1.cell? ⟨w.heap.size + 1 + 1, 0, none⟩ = some (.bool false) := (by rw [hcK _ _ (by simp <;> omega)]; simp [go_sem, World.cell?_alloc_past]); have u5 : w1.cell? ⟨w.heap.size + 1 + 1, 1, none⟩ = some (.slice none 0 0) := (by rw [hcK _ _ (by simp <;> omega)]; simp [go_sem, World.cell?_alloc_past]); have u6 : w1.frozen? ⟨w.heap.size + 1 + 1, 0, none⟩ = false := (by rw [hfK _ _ (by simp <;> omega)]; simp [go_sem, World.frozen?_alloc_past]); have u7 : w1.frozen? ⟨w.heap.size + 1 + 1, 1, none⟩ = false := (by rw [hfK _ _ (by simp <;> omega)]; simp [go_sem, World.frozen?_alloc_past]); have hz1 : w.heap.size + 3 ≤ w1.heap.size := (by have := hB1.size; simp at this; omega); have hBB : Below w.heap.size w w1 := (((by repeat (first | exact Below.refl _ _ | refine Below.drew ?_ | refine Below.drewN' ?_ _ | refine Below.alloc ?_ (by first | exact Nat.le_refl _ | (simp; done) | (simp; omega)) _)) : Below w.heap.size w _).trans (hB1.mono (by simp; omega))))
      | (go_at_call 124; refine (plus_any b1 b3 _ _ z1 (-z2) L _ (by exact h1.below (Nat.le_refl _) hBB) (by exact hL3) l1).mono ?_; rintro e w3 ⟨b5, s5, rfl, hL5, hB3⟩; obtain ⟨hcL, hfL⟩ := bcell hB3; have v0 := (hcL w.heap.size 0 (by first | omega | (simp; omega))).trans u0; have v1 := (hcL w.heap.size 1 (by first | omega | (simp; omega))).trans u1; have v2 := (hcL (w.heap.size + 1) 0 (by first | omega | (simp; omega))).trans u2; have v3 := (hcL (w.heap.size + 1) 1 (by first | omega | (simp; omega))).trans u3; have v4 := (hcL (w.heap.size + 1 + 1) 0 (by first | omega | (simp; omega))).trans u4; have v5 := (hcL (w.heap.size + 1 + 1) 1 (by first | omega | (simp; omega))).trans u5; have v6 := (hfL (w.heap.size + 1 + 1) 0 (by first | omega | (simp; omega))).trans u6; have v7 := (hfL (w.heap.size + 1 + 1) 1 (by first | omega | (simp; omega))).trans u7; obtain ⟨A5, n5, c5, f5, rfl, _⟩ := id hL5))
  go_wp2
  obtain ⟨r0, r1⟩ := set2 (w := w3) (b := w.heap.size + 1 + 1) (x := .bool false) (y := .slice none 0 0) (.bool b5) (.slice A5 n5 c5) v4 v5
  have hz3 := hB3.size
  refine bodyPost_ret (ret_long rfl _ _ _ _ _ rfl r0 r1) rfl ⟨_, _, rfl, ?_, ?_⟩
  · rw [HZ.out]; exact hL5.set2 v4 _ _
  · exact ((hBB.trans (hB3.mono (by omega))).setCell (by simp; omega) _).setCell (by simp; omega) _

end Go.Proofs.Ytfnmnnbmhfbkbaa
