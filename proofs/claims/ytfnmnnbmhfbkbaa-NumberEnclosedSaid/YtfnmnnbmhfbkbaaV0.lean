/- Numbers to the base 10000, no Go in sight (as Words, to another base). -/
import Derived.Test.YtfnmnnbmhfbkbaaBa
set_option linter.unusedVariables false
set_option linter.unusedSimpArgs false
namespace Go.Proofs.Ytfnmnnbmhfbkbaa.T4

/-- A word. -/
def U64 (x : Int) : Prop := 0 ≤ x ∧ x ≤ 9999
/-- One more than the greatest word. -/
def BB : Int := 10000
theorem BB_eq : BB = 10000 := rfl
/-- The number of the first n words. -/
def vf (f : Nat → Int) : Nat → Int
  | 0 => 0
  | n + 1 => vf f n + f n * BB ^ n
theorem BB_pos (n : Nat) : 0 < BB ^ n := Int.pow_pos (by decide)
theorem vf_congr {f g : Nat → Int} : ∀ n, (∀ i, i < n → f i = g i) → vf f n = vf g n
  | 0, _ => rfl
  | n + 1, h => by
    show vf f n + f n * BB ^ n = vf g n + g n * BB ^ n
    rw [vf_congr n (fun i hi => h i (by omega)), h n (by omega)]
theorem vf_bd {f : Nat → Int} : ∀ n, (∀ i, i < n → U64 (f i)) → 0 ≤ vf f n ∧ vf f n < BB ^ n
  | 0, _ => ⟨by simp [vf], by simp [vf]⟩
  | n + 1, h => by
    obtain ⟨a, b⟩ := vf_bd n (fun i hi => h i (by omega))
    obtain ⟨c, d⟩ := h n (by omega)
    have p := BB_pos n
    have e := Int.mul_nonneg c (show 0 ≤ BB ^ n by omega)
    have g : f n * BB ^ n ≤ (BB - 1) * BB ^ n := Int.mul_le_mul_of_nonneg_right (by rw [BB_eq]; omega) (by omega)
    rw [Int.sub_mul] at g
    show 0 ≤ vf f n + f n * BB ^ n ∧ vf f n + f n * BB ^ n < BB ^ (n + 1)
    rw [Int.pow_succ, Int.mul_comm (BB ^ n) BB]
    omega
/-- Zeros at the end add nothing. -/
theorem vf_trim {f : Nat → Int} {m : Nat} : ∀ n, m ≤ n → (∀ i, m ≤ i → i < n → f i = 0) → vf f n = vf f m
  | 0, h, _ => by obtain rfl : m = 0 := by omega
                  rfl
  | n + 1, h, hz => by
    rcases Nat.lt_or_ge n m with h1 | h1
    · obtain rfl : m = n + 1 := by omega
      rfl
    · show vf f n + f n * BB ^ n = _
      rw [hz n h1 (by omega), vf_trim n h1 (fun i hi hi' => hz i hi (by omega))]
      omega
/-- A top word that is not 0. -/
theorem vf_top {f : Nat → Int} {n : Nat} (h : ∀ i, i < n + 1 → U64 (f i)) (ht : f n ≠ 0) : BB ^ n ≤ vf f (n + 1) := by
  obtain ⟨a, _⟩ := vf_bd n (fun i hi => h i (by omega))
  obtain ⟨c, _⟩ := h n (by omega)
  have g : 1 * BB ^ n ≤ f n * BB ^ n := Int.mul_le_mul_of_nonneg_right (by omega) (by have := BB_pos n; omega)
  show _ ≤ vf f n + f n * BB ^ n
  omega

/-- The words beyond the end are 0. -/
def ext (g : Nat → Int) (m : Nat) : Nat → Int := fun j => if j < m then g j else 0
theorem ext_lt {g : Nat → Int} {m k : Nat} (h : k < m) : ext g m k = g k := by unfold ext; rw [if_pos h]
theorem ext_ge {g : Nat → Int} {m k : Nat} (h : ¬ k < m) : ext g m k = 0 := by unfold ext; rw [if_neg h]
theorem ext_U64 {g : Nat → Int} {m : Nat} (h : ∀ i, i < m → U64 (g i)) (k : Nat) : U64 (ext g m k) := by
  unfold ext
  split
  · exact h _ (by assumption)
  · exact ⟨by omega, by omega⟩
theorem vf_ext {g : Nat → Int} {m n : Nat} (h : m ≤ n) : vf (ext g m) n = vf g m := by
  rw [vf_trim (m := m) n h (fun i hi _ => ext_ge (by omega))]
  exact vf_congr m fun i hi => ext_lt hi
/-- One word set. -/
def upd (s : Nat → Int) (k : Nat) (v : Int) : Nat → Int := fun j => if j = k then v else s j
theorem upd_same (s : Nat → Int) (k : Nat) (v : Int) : upd s k v k = v := by unfold upd; rw [if_pos rfl]
theorem upd_other {s : Nat → Int} {k j : Nat} {v : Int} (h : j ≠ k) : upd s k v j = s j := by unfold upd; rw [if_neg h]
theorem vf_upd (s : Nat → Int) (k : Nat) (v : Int) : vf (upd s k v) k = vf s k := vf_congr k fun i hi => upd_other (by omega)
theorem upd_U64 {s : Nat → Int} {k : Nat} {v : Int} (h : ∀ i, U64 (s i)) (hv : U64 v) (i : Nat) : U64 (upd s k v i) := by
  unfold upd; split
  · exact hv
  · exact h i
theorem U64_mod (x : Int) : U64 (x % 10000) := ⟨by omega, by omega⟩
/-- One word added. -/
theorem add_step {s f g : Nat → Int} {k : Nat} {c : Int} (h : vf s k + c * BB ^ k = vf f k + vf g k) :
    vf (upd s k ((f k + g k + c) % 10000)) (k + 1) + (f k + g k + c) / 10000 * BB ^ (k + 1) = vf f (k + 1) + vf g (k + 1) := by
  show vf (upd s k _) k + upd s k _ k * BB ^ k + _ = vf f k + f k * BB ^ k + (vf g k + g k * BB ^ k)
  rw [vf_upd, upd_same, Int.pow_succ]
  generalize hT : f k + g k + c = t
  have e : t % 10000 + t / 10000 * BB = t := by rw [BB_eq]; omega
  have e2 : (t % 10000 + t / 10000 * BB) * BB ^ k = f k * BB ^ k + g k * BB ^ k + c * BB ^ k := by rw [e, ← hT, Int.add_mul, Int.add_mul]
  rw [Int.add_mul, Int.mul_assoc, Int.mul_comm BB] at e2
  omega

/-- The borrow. -/
def bor (x y : Int) : Int := if x < y then 1 else 0
theorem bor_bd (x y : Int) : 0 ≤ bor x y ∧ bor x y ≤ 1 := by unfold bor; split <;> omega
theorem sub_step {s f g : Nat → Int} {k : Nat} {c : Int} (h : vf s k = vf f k - vf g k + c * BB ^ k) (hf : U64 (f k)) (hg : U64 (g k)) (hc : 0 ≤ c) (hc' : c ≤ 1) :
    vf (upd s k ((f k - g k - c) % 10000)) (k + 1) = vf f (k + 1) - vf g (k + 1) + bor (f k) (g k + c) * BB ^ (k + 1) := by
  show vf (upd s k _) k + upd s k _ k * BB ^ k = vf f k + f k * BB ^ k - (vf g k + g k * BB ^ k) + _
  rw [vf_upd, upd_same, Int.pow_succ, h]
  obtain ⟨f0, f1⟩ := hf
  obtain ⟨g0, g1⟩ := hg
  have e : (f k - g k - c) % 10000 = f k - g k - c + bor (f k) (g k + c) * BB := by rw [BB_eq]; unfold bor; split <;> omega
  rw [e, Int.add_mul, Int.sub_mul, Int.sub_mul, Int.mul_assoc, Int.mul_comm BB]
  omega
theorem sub_end {s f g : Nat → Int} {n m : Nat} {c : Int} (h : vf s n = vf f n - vf (ext g m) n + c * BB ^ n) (hmn : m ≤ n) (hs : ∀ i, U64 (s i)) (hle : vf g m ≤ vf f n) (hc : 0 ≤ c) (hc' : c ≤ 1) : vf s n = vf f n - vf g m := by
  obtain ⟨a, b⟩ := vf_bd n (fun i _ => hs i)
  rw [vf_ext hmn] at h
  rcases Int.lt_or_le 0 c with h1 | h1
  · obtain rfl : c = 1 := by omega
    omega
  · obtain rfl : c = 0 := by omega
    omega

/-- One word of a product. -/
theorem mul_step {s s0 g : Nat → Int} {i j : Nat} {F c c' new : Int} (h : vf s (i + j) + c * BB ^ (i + j) = vf s0 (i + j) + F * vf g j * BB ^ i) (ht : new + c' * BB = F * g j + s0 (i + j) + c) :
    vf (upd s (i + j) new) (i + (j + 1)) + c' * BB ^ (i + (j + 1)) = vf s0 (i + (j + 1)) + F * vf g (j + 1) * BB ^ i := by
  show vf (upd s (i + j) new) (i + j) + upd s (i + j) new (i + j) * BB ^ (i + j) + c' * BB ^ (i + j + 1) = vf s0 (i + j) + s0 (i + j) * BB ^ (i + j) + F * (vf g j + g j * BB ^ j) * BB ^ i
  rw [vf_upd, upd_same, Int.pow_succ]
  have e1 : (new + c' * BB) * BB ^ (i + j) = (F * g j + s0 (i + j) + c) * BB ^ (i + j) := by rw [ht]
  have e2 : F * (g j * BB ^ j) * BB ^ i = F * g j * BB ^ (i + j) := by
    rw [Int.pow_add, ← Int.mul_assoc F, Int.mul_assoc (F * g j), Int.mul_comm (BB ^ j)]
  have e3 : c' * (BB ^ (i + j) * BB) = c' * BB * BB ^ (i + j) := by rw [Int.mul_assoc, Int.mul_comm BB]
  rw [Int.add_mul, Int.add_mul, Int.add_mul] at e1
  rw [Int.mul_add, Int.add_mul, e2, e3]
  omega
/-- The two words of x y + p + c. -/
theorem mul_end {s0 f g s : Nat → Int} {i m : Nat} {c : Int} (h : vf s (i + m) + c * BB ^ (i + m) = vf s0 (i + m) + f i * vf g m * BB ^ i) (h0 : vf s0 (i + m) = vf f i * vf g m) :
    vf (upd s (i + m) c) (i + 1 + m) = vf f (i + 1) * vf g m := by
  rw [show i + 1 + m = i + m + 1 by omega]
  show vf (upd s (i + m) c) (i + m) + upd s (i + m) c (i + m) * BB ^ (i + m) = (vf f i + f i * BB ^ i) * vf g m
  rw [vf_upd, upd_same, h, h0, Int.add_mul, Int.mul_right_comm]

/-- Canonical words: the last one is not 0. -/
def Can (f : Nat → Int) (n : Nat) : Prop := 0 < n → f (n - 1) ≠ 0
theorem Can.low {f : Nat → Int} {n : Nat} (h : Can f n) (hf : ∀ i, i < n → U64 (f i)) (hn : 0 < n) : BB ^ (n - 1) ≤ vf f n := by
  obtain ⟨k, rfl⟩ : ∃ k, n = k + 1 := ⟨n - 1, by omega⟩
  exact vf_top hf (h hn)
theorem Can.lt {f g : Nat → Int} {n m : Nat} (hg : Can g m) (hf' : ∀ i, i < n → U64 (f i)) (hg' : ∀ i, i < m → U64 (g i)) (h : n < m) : vf f n < vf g m := by
  have a := (vf_bd n hf').2
  have b := hg.low hg' (by omega)
  have c : BB ^ n ≤ BB ^ (m - 1) := by
    obtain ⟨d, hd⟩ : ∃ d, m - 1 = n + d := ⟨m - 1 - n, by omega⟩
    rw [hd, Int.pow_add]
    have := Int.mul_le_mul_of_nonneg_left (c := BB ^ n) (a := 1) (b := BB ^ d) (by have := BB_pos d; omega) (by have := BB_pos n; omega)
    omega
  omega
theorem Can.zero {f : Nat → Int} {n : Nat} (h : Can f n) (hf : ∀ i, i < n → U64 (f i)) : vf f n = 0 ↔ n = 0 := by
  constructor
  · intro h0
    rcases Nat.eq_zero_or_pos n with h1 | h1
    · exact h1
    · have := h.low hf h1; have := BB_pos (n - 1); omega
  · rintro rfl; rfl
/-- The word in which two numbers differ first decides. -/
theorem vf_differ {f g : Nat → Int} (k : Nat) : ∀ n, k < n → (∀ i, i < n → U64 (f i)) → (∀ i, i < n → U64 (g i)) → (∀ i, k < i → i < n → f i = g i) → f k < g k → vf f n < vf g n
  | 0, h, _, _, _, _ => by omega
  | n + 1, h, hf, hg, he, hlt => by
    show vf f n + f n * BB ^ n < vf g n + g n * BB ^ n
    rcases Nat.lt_or_ge k n with h1 | h1
    · have := vf_differ k n h1 (fun i hi => hf i (by omega)) (fun i hi => hg i (by omega)) (fun i h2 h3 => he i h2 (by omega)) hlt
      rw [he n h1 (by omega)]; omega
    · obtain rfl : k = n := by omega
      have a := vf_bd k (fun i hi => hf i (by omega))
      have b := vf_bd k (fun i hi => hg i (by omega))
      have c : (f k + 1) * BB ^ k ≤ g k * BB ^ k := Int.mul_le_mul_of_nonneg_right (by omega) (by omega)
      rw [Int.add_mul] at c
      omega
/-- What compareWords tells. -/
def cmpW (n m : Nat) (f g : Nat → Int) : Int := if n = m then cmpI (vf f n) (vf g m) else cmpI n m
theorem cmpI_lt {a b : Int} (h : a < b) : cmpI a b = -1 := by unfold cmpI; rw [if_pos h]
theorem cmpI_gt {a b : Int} (h : b < a) : cmpI a b = 1 := by unfold cmpI; rw [if_neg (by omega), if_pos h]
theorem cmpI_eq (a : Int) : cmpI a a = 0 := by unfold cmpI; rw [if_neg (by omega), if_neg (by omega)]
theorem cmpW_is {n m : Nat} {f g : Nat → Int} (hf : Can f n) (hg : Can g m) (hf' : ∀ i, i < n → U64 (f i)) (hg' : ∀ i, i < m → U64 (g i)) : cmpW n m f g = cmpI (vf f n) (vf g m) := by
  unfold cmpW
  split
  · rfl
  · rcases Nat.lt_or_ge n m with h | h
    · rw [cmpI_lt (hg.lt hf' hg' h), cmpI_lt (by omega)]
    · rw [cmpI_gt (hf.lt hg' hf' (by omega)), cmpI_gt (by omega)]
theorem cmp_first {f g : Nat → Int} {n k : Nat} (h : k < n) (hf : ∀ i, i < n → U64 (f i)) (hg : ∀ i, i < n → U64 (g i)) (he : ∀ i, k < i → i < n → f i = g i) (hk : f k ≠ g k) : cmpI (f k) (g k) = cmpI (vf f n) (vf g n) := by
  rcases Int.lt_or_le (f k) (g k) with h1 | h1
  · rw [cmpI_lt h1, cmpI_lt (vf_differ k n h hf hg he h1)]
  · rw [cmpI_gt (by omega), cmpI_gt (vf_differ k n h hg hf (fun i a b => (he i a b).symm) (by omega))]

end Go.Proofs.Ytfnmnnbmhfbkbaa.T4
