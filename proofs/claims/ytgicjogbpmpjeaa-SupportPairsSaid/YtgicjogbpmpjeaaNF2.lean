/- Fractions of package number and of the reference, plain. -/
import Derived.Test.YtgicjogbpmpjeaaP1
import Derived.Test.YtgicjogbpmpjeaaWb
set_option linter.unusedVariables false
set_option linter.unusedSimpArgs false
namespace Go.Proofs.Ytgicjogbpmpjeaa.Vg
open Go Go.Proofs.Ytgicjogbpmpjeaa.Ev Go.Proofs.Ytgicjogbpmpjeaa.Vv
theorem w64_id {n : Int} (h1 : -9223372036854775808 ≤ n) (h2 : n ≤ 9223372036854775807) : w64 n = n := by
  unfold w64 IntKind.wrap
  simp [IntKind.signed, IntKind.bits]
  omega
theorem w64_succ {i : Nat} (h : i < 1000000000000) : w64 ((i : Int) + 1) = ((i + 1 : Nat) : Int) := by
  rw [w64_id (by omega) (by omega)]; omega
theorem u64_id {n : Int} (h1 : 0 ≤ n) (h2 : n < 18446744073709551616) : IntKind.u64.wrap n = n := by
  unfold IntKind.wrap
  simp [IntKind.signed, IntKind.bits]
  omega
theorem size_any (k : Nat) {n : Int} (h : In64 n) : nnumber_size k n = some (n.natAbs : Int) := by
  unfold In64 at h
  unfold nnumber_size
  by_cases h0 : n < 0
  · rw [if_pos h0]
    congr 1
    unfold IntKind.wrap
    simp [IntKind.signed, IntKind.bits]
    omega
  · rw [if_neg h0, u64_id (by omega) (by omega)]
    congr 1; omega
theorem gcd_step (x y : Int) : Nat.gcd y.natAbs (x.tmod y).natAbs = Nat.gcd x.natAbs y.natAbs := by
  rw [Int.natAbs_tmod, Nat.gcd_comm x.natAbs, Nat.gcd_rec y.natAbs x.natAbs, Nat.gcd_comm]
theorem gl (k : Nat) : ∀ (n fuel : Nat) (x y : Int), y.natAbs < n → n ≤ fuel →
    ∃ r, nspeculumbase_Gcd_l0_0 k fuel x y = some r ∧ r.natAbs = Nat.gcd x.natAbs y.natAbs := by
  intro n
  induction n with
  | zero => intro fuel x y h; omega
  | succ n ih =>
    intro fuel x y h hf
    obtain ⟨g, rfl⟩ : ∃ g, fuel = g + 1 := ⟨fuel - 1, by omega⟩
    rw [nspeculumbase_Gcd_l0_0.eq_2]
    by_cases h0 : y = 0
    · rw [if_pos h0]
      exact ⟨x, rfl, by rw [h0]; simp⟩
    · rw [if_neg h0, if_pos h0]
      have hy : 0 < y.natAbs := by omega
      obtain ⟨r, e1, e3⟩ := ih g y (x.tmod y) (by rw [Int.natAbs_tmod]; have := Nat.mod_lt x.natAbs hy; omega) (by omega)
      exact ⟨r, e1, by rw [e3, gcd_step]⟩
theorem gd (k : Nat) : ∀ (n fuel : Nat) (x y : Nat), y < n → n ≤ fuel →
    nnumber_divisor_l0_0 k fuel (x : Int) (y : Int) = some (Nat.gcd x y : Int) := by
  intro n
  induction n with
  | zero => intro fuel x y h; omega
  | succ n ih =>
    intro fuel x y h hf
    obtain ⟨g, rfl⟩ : ∃ g, fuel = g + 1 := ⟨fuel - 1, by omega⟩
    rw [nnumber_divisor_l0_0.eq_2]
    by_cases h0 : y = 0
    · subst h0
      rw [if_pos (show ((0 : Nat) : Int) = 0 from rfl), Nat.gcd_zero_right]
    · rw [if_neg (by omega), if_pos (by omega)]
      have e : ((x : Int).tmod (y : Int)) = ((x % y : Nat) : Int) := by
        rw [Int.tmod_eq_emod_of_nonneg (by omega)]; omega
      rw [e, ih g y (x % y) (by have := Nat.mod_lt x (show 0 < y by omega); omega) (by omega), Nat.gcd_comm x y, Nat.gcd_rec y x, Nat.gcd_comm]
/-- the error of a fraction. -/
def cf (f : SFrac) : Int := if f.Den ≤ 0 then 3 else if Nat.gcd f.Num.natAbs f.Den.natAbs = 1 then (if f.Num < -1000000000 ∨ 1000000000 < f.Num ∨ 1000000000 < f.Den then 2 else 0) else 3
theorem cf_prog (k : Nat) (hk : 18446744073709551617 ≤ k) (f : SFrac) (h1 : In64 f.Num) (h2 : In64 f.Den) : nnumber_CheckFrac k f = some (cf f) := by
  unfold nnumber_CheckFrac cf nnumber_divisor
  by_cases c1 : f.Den ≤ 0
  · rw [if_pos c1, if_pos c1]
  · rw [if_neg c1, if_neg c1, size_any k h1, Option.bind_some, size_any k h2, Option.bind_some]
    unfold In64 at h1 h2
    rw [gd k (f.Den.natAbs + 1) k _ _ (by omega) (by omega), Option.bind_some, Option.bind_some]
    by_cases c2 : Nat.gcd f.Num.natAbs f.Den.natAbs = 1
    · rw [if_pos c2, if_pos (by omega)]
      by_cases c3 : f.Num < -1000000000 ∨ 1000000000 < f.Num ∨ 1000000000 < f.Den
      · rw [if_pos c3]
        by_cases c4 : (1000000000 : Int) < (f.Num.natAbs : Int)
        · rw [if_pos c4]
        · rw [if_neg c4, if_pos (by omega)]
      · rw [if_neg c3, if_neg (by omega), if_neg (by omega)]
    · rw [if_neg c2, if_neg (by omega)]
theorem cf_ref (k : Nat) (hk : 18446744073709551617 ≤ k) (f : SFrac) (h1 : In64 f.Num) (h2 : In64 f.Den) : nspeculumref01_CheckFrac k f = some (cf f) := by
  unfold nspeculumref01_CheckFrac cf nspeculumbase_Gcd
  unfold In64 at h1 h2
  by_cases c1 : f.Den ≤ 0
  · rw [if_pos c1, if_pos (by omega)]
  · rw [if_neg c1, if_neg (by omega)]
    obtain ⟨r, e1, e2⟩ := gl k (f.Den.natAbs + 1) k f.Num f.Den (by omega) (by omega)
    have hr : r.natAbs ≤ f.Den.natAbs := by rw [e2]; exact Nat.gcd_le_right _ (by omega)
    rw [e1, Option.bind_some]
    have ha : nspeculumbase_Abs k r = some (r.natAbs : Int) := by
      unfold nspeculumbase_Abs
      by_cases h : r < 0
      · rw [if_pos h, w64_id (by omega) (by omega)]; congr 1; omega
      · rw [if_neg h]; congr 1; omega
    rw [ha, Option.bind_some, Option.bind_some, e2]
    by_cases c2 : Nat.gcd f.Num.natAbs f.Den.natAbs = 1
    · rw [if_pos c2, if_pos (by omega)]
      by_cases c3 : f.Num < -1000000000 ∨ 1000000000 < f.Num ∨ 1000000000 < f.Den
      · rw [if_pos c3]
        by_cases c4 : f.Num < -1000000000
        · rw [if_pos c4]
        · rw [if_neg c4]
          by_cases c5 : 1000000000 < f.Num
          · rw [if_pos c5]
          · rw [if_neg c5, if_pos (by omega)]
      · rw [if_neg c3, if_neg (by omega), if_neg (by omega), if_neg (by omega)]
    · rw [if_neg c2, if_neg (by omega)]

theorem gcd_any (k : Nat) (x y : Int) (hk : y.natAbs < k) (hx : x.natAbs ≤ 9000000000000000000) (hy : y.natAbs ≤ 9000000000000000000) : nspeculumbase_Gcd k x y = some (Nat.gcd x.natAbs y.natAbs : Int) := by
  unfold nspeculumbase_Gcd nspeculumbase_Abs
  obtain ⟨r, e1, e2⟩ := gl k (y.natAbs + 1) k x y (by omega) (by omega)
  have hr : r.natAbs ≤ 9000000000000000000 := by
    rw [e2]
    rcases Nat.eq_zero_or_pos y.natAbs with h | h
    · rw [h, Nat.gcd_zero_right]; exact hx
    · exact Nat.le_trans (Nat.gcd_le_right _ h) hy
  rw [e1, Option.bind_some, ← e2]
  by_cases h : r < 0
  · rw [if_pos h, w64_id (by omega) (by omega), Option.bind_some]; congr 1; omega
  · rw [if_neg h, Option.bind_some]; congr 1; omega
theorem gcd_pos {x y : Int} (h : y ≠ 0) : 0 < Nat.gcd x.natAbs y.natAbs := Nat.gcd_pos_of_pos_right _ (by omega)
/-- in lowest terms, with a denominator above 0. -/
def lowF (n d : Int) : SFrac := if d < 0 then ⟨-(n.tdiv (Nat.gcd n.natAbs d.natAbs : Int)), -(d.tdiv (Nat.gcd n.natAbs d.natAbs : Int))⟩ else ⟨n.tdiv (Nat.gcd n.natAbs d.natAbs : Int), d.tdiv (Nat.gcd n.natAbs d.natAbs : Int)⟩
def lowS (n d : Int) : SFrac × Int := if cf (lowF n d) = 0 then (lowF n d, 0) else (⟨0, 0⟩, 8)
theorem tdiv_le (n g : Int) : (n.tdiv g).natAbs ≤ n.natAbs := by rw [Int.natAbs_tdiv]; exact Nat.div_le_self _ _
theorem low_base (k : Nat) (n d : Int) (hd : d ≠ 0) (hk : 9000000000000000000 < k) (hn : n.natAbs ≤ 9000000000000000000) (hdd : d.natAbs ≤ 9000000000000000000) : nspeculumbase_Lowest k n d = some (lowF n d) := by
  unfold nspeculumbase_Lowest lowF
  rw [gcd_any k n d (by omega) hn hdd, Option.bind_some]
  have hg := gcd_pos (x := n) hd
  have hgl : Nat.gcd n.natAbs d.natAbs ≤ 9000000000000000000 := Nat.le_trans (Nat.gcd_le_right _ (by omega)) hdd
  have h1 := tdiv_le n (Nat.gcd n.natAbs d.natAbs : Int)
  have h2 := tdiv_le d (Nat.gcd n.natAbs d.natAbs : Int)
  by_cases h : d < 0
  · rw [if_pos h, if_pos h, w64_id (n := 0 - _) (by omega) (by omega), if_pos (by omega)]
    rw [show (0 : Int) - (Nat.gcd n.natAbs d.natAbs : Int) = -(Nat.gcd n.natAbs d.natAbs : Int) by omega, Int.tdiv_neg, Int.tdiv_neg, w64_id (by omega) (by omega), w64_id (by omega) (by omega)]
  · rw [if_neg h, if_neg h, if_pos (by omega), w64_id (by omega) (by omega), w64_id (by omega) (by omega)]
theorem lowF_in (n d : Int) (hn : n.natAbs ≤ 9000000000000000000) (hdd : d.natAbs ≤ 9000000000000000000) : In64 (lowF n d).Num ∧ In64 (lowF n d).Den := by
  have h1 := tdiv_le n (Nat.gcd n.natAbs d.natAbs : Int)
  have h2 := tdiv_le d (Nat.gcd n.natAbs d.natAbs : Int)
  unfold lowF In64
  split <;> dsimp only <;> omega
/-- a valid fraction. -/
structure Ok (f : SFrac) : Prop where
  den : 1 ≤ f.Den
  denB : f.Den ≤ 1000000000
  num : f.Num.natAbs ≤ 1000000000
  low : Nat.gcd f.Num.natAbs f.Den.natAbs = 1
theorem ok_of {f : SFrac} (h : cf f = 0) : Ok f := by
  unfold cf at h
  split at h
  · omega
  split at h
  case isFalse => omega
  rename_i h2
  split at h
  · omega
  exact ⟨by omega, by omega, by omega, h2⟩
theorem Ok.cf {f : SFrac} (h : Ok f) : cf f = 0 := by
  have h1 := h.den
  have h2 := h.denB
  have h3 := h.num
  unfold Vg.cf
  rw [if_neg (by omega), if_pos h.low, if_neg (by omega)]
theorem Ok.in64 {f : SFrac} (h : Ok f) : In64 f.Num ∧ In64 f.Den := by
  have h1 := h.den
  have h2 := h.denB
  have h3 := h.num
  unfold In64; omega
theorem mul_bd9 {a b : Int} (ha : a.natAbs ≤ 1000000000) (hb : b.natAbs ≤ 1000000000) : (a * b).natAbs ≤ 1000000000000000000 := by
  rw [Int.natAbs_mul]; exact Nat.mul_le_mul ha hb
theorem lowS_ok {n d : Int} (h : (lowS n d).2 = 0) : Ok (lowS n d).1 ∧ (lowS n d).1 = lowF n d := by
  unfold lowS at h ⊢
  by_cases hc : cf (lowF n d) = 0
  · rw [if_pos hc]; exact ⟨ok_of hc, rfl⟩
  · rw [if_neg hc] at h; simp at h
theorem lowS_err (n d : Int) : (lowS n d).2 = 0 ∨ (lowS n d).2 = 8 := by
  unfold lowS
  by_cases hc : cf (lowF n d) = 0
  · rw [if_pos hc]; exact .inl rfl
  · rw [if_neg hc]; exact .inr rfl
/-- what lowest terms are. -/
theorem lowF_facts {n d : Int} (hd : 0 < d) : 0 < (lowF n d).Den ∧ n = (lowF n d).Num * (Nat.gcd n.natAbs d.natAbs : Int) ∧ d = (lowF n d).Den * (Nat.gcd n.natAbs d.natAbs : Int) ∧ Nat.gcd (lowF n d).Num.natAbs (lowF n d).Den.natAbs = 1 := by
  have hg := gcd_pos (x := n) (y := d) (by omega)
  have d1 : (Nat.gcd n.natAbs d.natAbs : Int) ∣ n := Int.ofNat_dvd_left.2 (Nat.gcd_dvd_left _ _)
  have d2 : (Nat.gcd n.natAbs d.natAbs : Int) ∣ d := Int.ofNat_dvd_left.2 (Nat.gcd_dvd_right _ _)
  unfold lowF
  rw [if_neg (by omega)]
  dsimp only
  have e1 := Int.tdiv_mul_cancel d1
  have e2 := Int.tdiv_mul_cancel d2
  refine ⟨?_, e1.symm, e2.symm, ?_⟩
  · rcases Int.lt_trichotomy (d.tdiv (Nat.gcd n.natAbs d.natAbs : Int)) 0 with h | h | h
    · have := Int.mul_neg_of_neg_of_pos h (show (0 : Int) < (Nat.gcd n.natAbs d.natAbs : Int) by omega); omega
    · rw [h] at e2; omega
    · exact h
  · rw [Int.natAbs_tdiv, Int.natAbs_tdiv]
    simp only [Int.natAbs_natCast]
    exact Nat.gcd_div_gcd_div_gcd_of_pos_right (by omega)
end Go.Proofs.Ytgicjogbpmpjeaa.Vg
