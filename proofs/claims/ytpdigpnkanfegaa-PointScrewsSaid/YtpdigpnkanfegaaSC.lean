/- PointScrews, plain. -/
import Derived.Test.YtpdigpnkanfegaaS1
import Derived.Test.YtpdigpnkanfegaaWb
set_option linter.unusedVariables false
set_option linter.unusedSimpArgs false
namespace Go.Proofs.Ytpdigpnkanfegaa.Vg
open Go Go.Proofs.Ytpdigpnkanfegaa.Ev Go.Proofs.Ytpdigpnkanfegaa.Vv
theorem w64_id {n : Int} (h1 : -9223372036854775808 ≤ n) (h2 : n ≤ 9223372036854775807) : w64 n = n := by
  unfold w64 IntKind.wrap
  simp [IntKind.signed, IntKind.bits]
  omega
theorem w64_succ {i : Nat} (h : i < 1000000000000) : w64 ((i : Int) + 1) = ((i + 1 : Nat) : Int) := by
  rw [w64_id (by omega) (by omega)]; omega
theorem gcd_step (x y : Int) : Nat.gcd y.natAbs (x.tmod y).natAbs = Nat.gcd x.natAbs y.natAbs := by
  rw [Int.natAbs_tmod, Nat.gcd_comm x.natAbs, Nat.gcd_rec y.natAbs x.natAbs, Nat.gcd_comm]
theorem gl (k : Nat) : ∀ (n fuel : Nat) (x y : Int), y.natAbs < n → n ≤ fuel →
    ∃ r, nspeculumbase_Gcd_l0_0 k fuel x y = some r ∧ r.natAbs = Nat.gcd x.natAbs y.natAbs := by
  intro n
  induction n with
  | zero => intro fuel x y h; omega
  | succ n ih =>
    intro fuel x y h hf
    obtain ⟨g, rfl⟩ : ∃ g, fuel = g + 1 := ⟨fuel - 1, by omega⟩
    rw [nspeculumbase_Gcd_l0_0.eq_2]
    by_cases h0 : y = 0
    · rw [if_pos h0]
      exact ⟨x, rfl, by rw [h0]; simp⟩
    · rw [if_neg h0, if_pos h0]
      have hy : 0 < y.natAbs := by omega
      obtain ⟨r, e1, e3⟩ := ih g y (x.tmod y) (by rw [Int.natAbs_tmod]; have := Nat.mod_lt x.natAbs hy; omega) (by omega)
      exact ⟨r, e1, by rw [e3, gcd_step]⟩
theorem gcd_any (k : Nat) (x y : Int) (hk : y.natAbs < k) (hx : x.natAbs ≤ 9000000000000000000) (hy : y.natAbs ≤ 9000000000000000000) : nspeculumbase_Gcd k x y = some (Nat.gcd x.natAbs y.natAbs : Int) := by
  unfold nspeculumbase_Gcd nspeculumbase_Abs
  obtain ⟨r, e1, e2⟩ := gl k (y.natAbs + 1) k x y (by omega) (by omega)
  have hr : r.natAbs ≤ 9000000000000000000 := by
    rw [e2]
    rcases Nat.eq_zero_or_pos y.natAbs with h | h
    · rw [h, Nat.gcd_zero_right]; exact hx
    · exact Nat.le_trans (Nat.gcd_le_right _ h) hy
  rw [e1, Option.bind_some, ← e2]
  by_cases h : r < 0
  · rw [if_pos h, w64_id (by omega) (by omega), Option.bind_some]; congr 1; omega
  · rw [if_neg h, Option.bind_some]; congr 1; omega
theorem gcd_pos {x y : Int} (h : y ≠ 0) : 0 < Nat.gcd x.natAbs y.natAbs := Nat.gcd_pos_of_pos_right _ (by omega)
def lowF (n d : Int) : SFrac := if d < 0 then ⟨-(n.tdiv (Nat.gcd n.natAbs d.natAbs : Int)), -(d.tdiv (Nat.gcd n.natAbs d.natAbs : Int))⟩ else ⟨n.tdiv (Nat.gcd n.natAbs d.natAbs : Int), d.tdiv (Nat.gcd n.natAbs d.natAbs : Int)⟩
theorem tdiv_le (n g : Int) : (n.tdiv g).natAbs ≤ n.natAbs := by rw [Int.natAbs_tdiv]; exact Nat.div_le_self _ _
theorem low_base (k : Nat) (n d : Int) (hd : d ≠ 0) (hk : 9000000000000000000 < k) (hn : n.natAbs ≤ 9000000000000000000) (hdd : d.natAbs ≤ 9000000000000000000) : nspeculumbase_Lowest k n d = some (lowF n d) := by
  unfold nspeculumbase_Lowest lowF
  rw [gcd_any k n d (by omega) hn hdd, Option.bind_some]
  have hg := gcd_pos (x := n) hd
  have hgl : Nat.gcd n.natAbs d.natAbs ≤ 9000000000000000000 := Nat.le_trans (Nat.gcd_le_right _ (by omega)) hdd
  have h1 := tdiv_le n (Nat.gcd n.natAbs d.natAbs : Int)
  have h2 := tdiv_le d (Nat.gcd n.natAbs d.natAbs : Int)
  by_cases h : d < 0
  · rw [if_pos h, if_pos h, w64_id (n := 0 - _) (by omega) (by omega), if_pos (by omega)]
    rw [show (0 : Int) - (Nat.gcd n.natAbs d.natAbs : Int) = -(Nat.gcd n.natAbs d.natAbs : Int) by omega, Int.tdiv_neg, Int.tdiv_neg, w64_id (by omega) (by omega), w64_id (by omega) (by omega)]
  · rw [if_neg h, if_neg h, if_pos (by omega), w64_id (by omega) (by omega), w64_id (by omega) (by omega)]
theorem lowF_facts {n d : Int} (hd : 0 < d) : 0 < (lowF n d).Den ∧ n = (lowF n d).Num * (Nat.gcd n.natAbs d.natAbs : Int) ∧ d = (lowF n d).Den * (Nat.gcd n.natAbs d.natAbs : Int) ∧ Nat.gcd (lowF n d).Num.natAbs (lowF n d).Den.natAbs = 1 := by
  have hg := gcd_pos (x := n) (y := d) (by omega)
  have d1 : (Nat.gcd n.natAbs d.natAbs : Int) ∣ n := Int.ofNat_dvd_left.2 (Nat.gcd_dvd_left _ _)
  have d2 : (Nat.gcd n.natAbs d.natAbs : Int) ∣ d := Int.ofNat_dvd_left.2 (Nat.gcd_dvd_right _ _)
  unfold lowF
  rw [if_neg (by omega)]
  dsimp only
  have e1 := Int.tdiv_mul_cancel d1
  have e2 := Int.tdiv_mul_cancel d2
  refine ⟨?_, e1.symm, e2.symm, ?_⟩
  · rcases Int.lt_trichotomy (d.tdiv (Nat.gcd n.natAbs d.natAbs : Int)) 0 with h | h | h
    · have := Int.mul_neg_of_neg_of_pos h (show (0 : Int) < (Nat.gcd n.natAbs d.natAbs : Int) by omega); omega
    · rw [h] at e2; omega
    · exact h
  · rw [Int.natAbs_tdiv, Int.natAbs_tdiv]
    simp only [Int.natAbs_natCast]
    exact Nat.gcd_div_gcd_div_gcd_of_pos_right (by omega)
theorem lowF_neg {n d : Int} (hd : d < 0) : lowF n d = lowF (-n) (-d) := by
  unfold lowF
  rw [if_pos hd, if_neg (by omega), Int.natAbs_neg, Int.natAbs_neg, Int.neg_tdiv, Int.neg_tdiv]
theorem lowF_cross {n d : Int} (hd : d ≠ 0) : (lowF n d).Num * d = n * (lowF n d).Den := by
  have go : ∀ {n d : Int}, 0 < d → (lowF n d).Num * d = n * (lowF n d).Den := by
    intro n d h
    obtain ⟨_, f2, f3, _⟩ := lowF_facts (n := n) h
    generalize (lowF n d).Num = a at *
    generalize (lowF n d).Den = b at *
    generalize (Nat.gcd n.natAbs d.natAbs : Int) = g at *
    rw [f2, f3]; grind
  rcases Int.lt_or_le 0 d with h | h
  · exact go h
  · rw [lowF_neg (by omega)]
    have := go (n := -n) (d := -d) (by omega)
    generalize (lowF (-n) (-d)).Num = a at *
    generalize (lowF (-n) (-d)).Den = b at *
    grind
def sumB (b : Bool) : Sum Unit Unit := match b with | true => .inr () | false => .inl ()
theorem wi (k : Nat) (a b c : Int) : nspeculumbase_Within k a b c = some (decide (b ≤ a ∧ a ≤ c)) := by
  unfold nspeculumbase_Within
  by_cases h1 : b ≤ a
  · rw [if_pos h1]; congr 1; by_cases h2 : a ≤ c
    · rw [decide_eq_true h2, decide_eq_true ⟨h1, h2⟩]
    · rw [decide_eq_false h2, decide_eq_false (fun h => h2 h.2)]
  · rw [if_neg h1, decide_eq_false (fun h => h1 h.1)]
theorem aw_two (k : Nat) (hk : 10 ≤ k) (x y a b : Int) : npoint_areWithin k x y [a, b] = some (decide (x ≤ a ∧ a ≤ y) && decide (x ≤ b ∧ b ≤ y)) := by
  obtain ⟨j, hj⟩ : ∃ j, k = j + 1 + 1 + 1 := ⟨k - 3, by omega⟩
  unfold npoint_areWithin
  have go : npoint_areWithin_l0_0 k x y [a, b] (j + 1 + 1 + 1) 0 = some (sumB (decide (x ≤ a ∧ a ≤ y) && decide (x ≤ b ∧ b ≤ y))) := by
    rw [npoint_areWithin_l0_0.eq_2, if_pos (by simp), if_pos (by simp), show ([a, b] : List Int).getD (0 : Int).toNat 0 = a from rfl]
    by_cases h1 : a < x
    · rw [if_pos h1, decide_eq_false (show ¬(x ≤ a ∧ a ≤ y) by omega)]; rfl
    · rw [if_neg h1]
      by_cases h2 : y < a
      · rw [if_pos h2, decide_eq_false (show ¬(x ≤ a ∧ a ≤ y) by omega)]; rfl
      · rw [if_neg h2, decide_eq_true (show x ≤ a ∧ a ≤ y by omega), show w64 (0 + 1) = 1 from rfl, npoint_areWithin_l0_0.eq_2, if_pos (by simp), if_pos (by simp), show ([a, b] : List Int).getD (1 : Int).toNat 0 = b from rfl, Bool.true_and]
        by_cases h3 : b < x
        · rw [if_pos h3, decide_eq_false (by omega)]; rfl
        · rw [if_neg h3]
          by_cases h4 : y < b
          · rw [if_pos h4, decide_eq_false (by omega)]; rfl
          · rw [if_neg h4, show w64 (1 + 1) = 2 from rfl, npoint_areWithin_l0_0.eq_2, if_neg (by simp), decide_eq_true (by omega)]; rfl
  rw [← hj] at go
  rw [go, Option.bind_some]
  cases (decide (x ≤ a ∧ a ≤ y) && decide (x ≤ b ∧ b ≤ y)) <;> rfl
abbrev P2 := A23
theorem small_two (k : Nat) (hk : 10 ≤ k) (M : Int) (hM : 0 ≤ M ∧ M ≤ 1000000) (a b : Int) : npoint_areSmall k M [a, b] = some (decide (-M ≤ a ∧ a ≤ M) && decide (-M ≤ b ∧ b ≤ M)) := by
  unfold npoint_areSmall
  rw [w64_id (by omega) (by omega), show (0 : Int) - M = -M by omega, aw_two k hk, Option.bind_some]
def cr (a b : P2) : Int := w64 (w64 (a.e0 * b.e1) - w64 (a.e1 * b.e0))
def sm (M : Int) (a : P2) : Bool := decide (-M ≤ a.e0 ∧ a.e0 ≤ M) && decide (-M ≤ a.e1 ∧ a.e1 ≤ M)
theorem mulB {x y X Y : Int} (h1 : -X ≤ x ∧ x ≤ X) (h2 : -Y ≤ y ∧ y ≤ Y) : -(X * Y) ≤ x * y ∧ x * y ≤ X * Y := by
  have h : (x * y).natAbs ≤ (X * Y).natAbs := by
    rw [Int.natAbs_mul, Int.natAbs_mul]; exact Nat.mul_le_mul (by omega) (by omega)
  have hp : 0 ≤ X * Y := Int.mul_nonneg (by omega) (by omega)
  omega
theorem cr_exact {M N : Int} (hM : M ≤ 1000) (hN : N ≤ 100000) {a b : P2} (ha : sm M a = true) (hb : sm N b = true) : cr a b = a.e0 * b.e1 - a.e1 * b.e0 ∧ -(2 * (M * N)) ≤ cr a b ∧ cr a b ≤ 2 * (M * N) ∧ M * N ≤ 100000000 := by
  unfold sm at ha hb
  simp only [Bool.and_eq_true, decide_eq_true_eq] at ha hb
  have p1 := mulB ha.1 hb.2
  have p2 := mulB ha.2 hb.1
  have p3 := mulB (x := M) (y := N) (X := 1000) (Y := 100000) (by omega) (by omega)
  unfold cr
  rw [w64_id (n := a.e0 * b.e1) (by omega) (by omega), w64_id (n := a.e1 * b.e0) (by omega) (by omega), w64_id (by omega) (by omega)]
  exact ⟨rfl, by omega, by omega, by omega⟩
def scE (l : List P2) : Int := if l.length = 2 then match sm 1000 (l.getD 0 default) && sm 1000 (l.getD 1 default) with | false => 2 | true => if cr (l.getD 0 default) (l.getD 1 default) = 0 then 11 else 0
  else 10
theorem screws_p (k : Nat) (hk : 10 ≤ k) (l : List P2) : npoint_CheckScrews k l = some (scE l) := by
  unfold npoint_CheckScrews scE npoint_across
  by_cases c : l.length = 2
  · rw [if_pos (by omega), if_pos c, if_pos (by omega), show ((0 : Int)).toNat = 0 from rfl, show ((1 : Int)).toNat = 1 from rfl, small_two k hk 1000 (by omega), Option.bind_some]
    show (if sm 1000 (l.getD 0 default) = true then _ else _) = _
    cases sm 1000 (l.getD 0 default) with
    | false => rfl
    | true =>
      rw [if_pos rfl, if_pos (by omega), small_two k hk 1000 (by omega), Option.bind_some]
      show (if sm 1000 (l.getD 1 default) = true then _ else _) = _
      cases sm 1000 (l.getD 1 default) with
      | false => rfl
      | true =>
        rw [if_pos rfl, Option.bind_some]
        show (if cr (l.getD 0 default) (l.getD 1 default) = 0 then _ else _) = some (if cr (l.getD 0 default) (l.getD 1 default) = 0 then 11 else 0)
        by_cases h : cr (l.getD 0 default) (l.getD 1 default) = 0
        · rw [if_pos h, if_pos h]
        · rw [if_neg h, if_neg h]
  · rw [if_neg (by omega), if_neg c]
theorem sr_step (k : Nat) (l : List P2) (j i : Nat) (hi : i < 2) (hl : l.length = 2) : nspeculumref09_CheckScrews_l0_0 k l (j + 1) (i : Int) = match sm 1000 (l.getD i default) with | true => nspeculumref09_CheckScrews_l0_0 k l j ((i + 1 : Nat) : Int) | false => some (.inl ()) := by
  rw [nspeculumref09_CheckScrews_l0_0.eq_2, if_pos (by omega), if_pos (by omega), Int.toNat_natCast, wi, Option.bind_some, wi, Option.bind_some, w64_succ (by omega)]
  unfold sm
  cases decide (-1000 ≤ (l.getD i default).e0 ∧ (l.getD i default).e0 ≤ 1000) with
  | false => rfl
  | true => cases decide (-1000 ≤ (l.getD i default).e1 ∧ (l.getD i default).e1 ≤ 1000) <;> rfl
theorem screws_r (k : Nat) (hk : 10 ≤ k) (l : List P2) : nspeculumref09_CheckScrews k l = some (scE l) := by
  unfold nspeculumref09_CheckScrews scE nspeculumref09_cross
  by_cases c : l.length = 2
  · have e : nspeculumref09_CheckScrews_l0_0 k l k 0 = some (sumB (sm 1000 (l.getD 0 default) && sm 1000 (l.getD 1 default))) := by
      obtain ⟨j, hj⟩ : ∃ j, k = j + 1 + 1 + 1 := ⟨k - 3, by omega⟩
      have go : nspeculumref09_CheckScrews_l0_0 k l (j + 1 + 1 + 1) 0 = some (sumB (sm 1000 (l.getD 0 default) && sm 1000 (l.getD 1 default))) := by
        have h0 := sr_step k l (j + 1 + 1) 0 (by omega) c
        have h1 := sr_step k l (j + 1) 1 (by omega) c
        have h2 : nspeculumref09_CheckScrews_l0_0 k l (j + 1) ((1 + 1 : Nat) : Int) = some (.inr ()) := by rw [nspeculumref09_CheckScrews_l0_0.eq_2, if_neg (by omega)]
        rw [show ((0 : Nat) : Int) = 0 from rfl, show (0 + 1 : Nat) = 1 from rfl] at h0
        rw [h0, h1, h2]
        cases sm 1000 (l.getD 0 default) with
        | false => rfl
        | true => cases sm 1000 (l.getD 1 default) <;> rfl
      rw [← hj] at go
      exact go
    rw [if_pos (by omega), if_pos c, e, Option.bind_some]
    cases (sm 1000 (l.getD 0 default) && sm 1000 (l.getD 1 default)) with
    | false => rfl
    | true =>
      dsimp only [sumB]
      rw [if_pos (by omega), if_pos (by omega), Option.bind_some, show ((0 : Int)).toNat = 0 from rfl, show ((1 : Int)).toNat = 1 from rfl]
      show (if cr (l.getD 0 default) (l.getD 1 default) = 0 then _ else _) = _
      by_cases h : cr (l.getD 0 default) (l.getD 1 default) = 0
      · rw [if_pos h, if_pos h]
      · rw [if_neg h, if_neg h]
  · rw [if_neg (by omega), if_neg c]
theorem scE_zero {l : List P2} (h : scE l = 0) : l.length = 2 ∧ sm 1000 (l.getD 0 default) = true ∧ sm 1000 (l.getD 1 default) = true ∧ cr (l.getD 0 default) (l.getD 1 default) ≠ 0 := by
  unfold scE at h
  split at h
  case isFalse => omega
  rename_i h1
  cases h2 : sm 1000 (l.getD 0 default) with
  | false => rw [h2] at h; simp at h
  | true =>
    cases h3 : sm 1000 (l.getD 1 default) with
    | false => rw [h2, h3] at h; simp at h
    | true =>
      rw [h2, h3] at h
      change (if cr (l.getD 0 default) (l.getD 1 default) = 0 then (11 : Int) else 0) = 0 at h
      split at h
      · omega
      · exact ⟨h1, rfl, rfl, by assumption⟩
/- divisors. -/
theorem gp (k : Nat) (a : List Int) (z : Int) : ∀ (n fuel : Nat) (x y : Int), y.natAbs < n → n ≤ fuel → ∃ r, npoint_divisor_l1_0 k a z fuel x y = some r ∧ r.natAbs = Nat.gcd x.natAbs y.natAbs := by
  intro n
  induction n with
  | zero => intro fuel x y h; omega
  | succ n ih =>
    intro fuel x y h hf
    obtain ⟨g, rfl⟩ : ∃ g, fuel = g + 1 := ⟨fuel - 1, by omega⟩
    rw [npoint_divisor_l1_0.eq_2]
    by_cases h0 : y = 0
    · rw [if_pos h0]
      exact ⟨x, rfl, by rw [h0]; simp⟩
    · rw [if_neg h0, if_pos h0]
      have hy : 0 < y.natAbs := by omega
      obtain ⟨r, e1, e3⟩ := ih g y (x.tmod y) (by rw [Int.natAbs_tmod]; have := Nat.mod_lt x.natAbs hy; omega) (by omega)
      exact ⟨r, e1, by rw [e3, gcd_step]⟩
theorem div_two (k : Nat) (x y : Int) (hk : 9000000000000000000 < k) (hx : x.natAbs ≤ 9000000000000000000) (hy : y.natAbs ≤ 9000000000000000000) (h0 : y ≠ 0) : npoint_divisor k [x, y] = some (Nat.gcd x.natAbs y.natAbs : Int) := by
  unfold npoint_divisor
  obtain ⟨j, hj⟩ : ∃ j, k = j + 1 + 1 + 1 := ⟨k - 3, by omega⟩
  obtain ⟨r, r1, r2⟩ := gp k [x, y] 0 (x.natAbs + 1) k 0 x (by omega) (by omega)
  obtain ⟨s, s1, s2⟩ := gp k [x, y] 1 (y.natAbs + 1) k r y (by omega) (by omega)
  have go : npoint_divisor_l0_0 k [x, y] (j + 1 + 1 + 1) 0 0 = some s := by
    rw [npoint_divisor_l0_0.eq_2, if_pos (by simp), if_pos (by simp), show ([x, y] : List Int).getD (0 : Int).toNat 0 = x from rfl, r1, Option.bind_some, show w64 (0 + 1) = 1 from rfl,
      npoint_divisor_l0_0.eq_2, if_pos (by simp), if_pos (by simp), show ([x, y] : List Int).getD (1 : Int).toNat 0 = y from rfl, s1, Option.bind_some, show w64 (1 + 1) = 2 from rfl,
      npoint_divisor_l0_0.eq_2, if_neg (by simp)]
  rw [← hj] at go
  have e : s.natAbs = Nat.gcd x.natAbs y.natAbs := by rw [s2, r2]; simp
  have hs : s.natAbs ≤ 9000000000000000000 := by rw [e]; exact Nat.le_trans (Nat.gcd_le_right _ (by omega)) hy
  rw [go, Option.bind_some, ← e]
  congr 1
  rw [w64_id (by omega) (by omega)]
  unfold maxI
  split <;> omega
theorem low_p (k : Nat) (n d : Int) (hd : d ≠ 0) (hk : 9000000000000000000 < k) (hn : n.natAbs ≤ 9000000000000000000) (hdd : d.natAbs ≤ 9000000000000000000) : npoint_lowest k n d = some (lowF n d) := by
  unfold npoint_lowest lowF
  rw [div_two k n d (by omega) hn hdd hd, Option.bind_some]
  have hg := gcd_pos (x := n) hd
  have hgl : Nat.gcd n.natAbs d.natAbs ≤ 9000000000000000000 := Nat.le_trans (Nat.gcd_le_right _ (by omega)) hdd
  have h1 := tdiv_le n (Nat.gcd n.natAbs d.natAbs : Int)
  have h2 := tdiv_le d (Nat.gcd n.natAbs d.natAbs : Int)
  by_cases h : d < 0
  · rw [if_pos h, if_pos h, w64_id (n := 0 - _) (by omega) (by omega), if_pos (by omega)]
    rw [show (0 : Int) - (Nat.gcd n.natAbs d.natAbs : Int) = -(Nat.gcd n.natAbs d.natAbs : Int) by omega, Int.tdiv_neg, Int.tdiv_neg, w64_id (by omega) (by omega), w64_id (by omega) (by omega)]
  · rw [if_neg h, if_neg h, if_pos (by omega), w64_id (by omega) (by omega), w64_id (by omega) (by omega)]
theorem lowF_le (n d : Int) : (lowF n d).Num.natAbs ≤ n.natAbs ∧ (lowF n d).Den.natAbs ≤ d.natAbs := by
  have h1 := tdiv_le n (Nat.gcd n.natAbs d.natAbs : Int)
  have h2 := tdiv_le d (Nat.gcd n.natAbs d.natAbs : Int)
  unfold lowF
  split <;> dsimp only <;> omega
def colF (a b off : P2) : A27 := ⟨lowF (cr b off) (cr a b), lowF (cr off a) (cr a b)⟩
theorem col_p (k : Nat) (hk : 9000000000000000000 < k) (l : List P2) (off : P2) : npoint_Collimate k l off = some (if scE l = 0 then (match sm 100000 off with | true => (colF (l.getD 0 default) (l.getD 1 default) off, 0) | false => (⟨⟨0, 0⟩, ⟨0, 0⟩⟩, 2)) else (⟨⟨0, 0⟩, ⟨0, 0⟩⟩, scE l)) := by
  unfold npoint_Collimate
  rw [screws_p k (by omega), Option.bind_some]
  by_cases h : scE l = 0
  · obtain ⟨h1, h2, h3, h4⟩ := scE_zero h
    rw [if_pos h, if_pos h, small_two k (by omega) 100000 (by omega), Option.bind_some]
    show (if sm 100000 off = true then _ else _) = _
    cases ho : sm 100000 off with
    | false => rfl
    | true =>
      obtain ⟨_, b1, b2, b3⟩ := cr_exact (by omega) (by omega) h2 h3
      obtain ⟨_, b4, b5, b6⟩ := cr_exact (by omega) (by omega) h3 ho
      have e5 : cr off (l.getD 0 default) = -(cr (l.getD 0 default) off) := by
        obtain ⟨q1, q2, q3, q4⟩ := cr_exact (by omega) (by omega) h2 ho
        rw [q1]
        unfold sm at h2 ho
        simp only [Bool.and_eq_true, decide_eq_true_eq] at h2 ho
        have p1 := mulB ho.1 h2.2
        have p2 := mulB ho.2 h2.1
        unfold cr
        rw [w64_id (n := off.e0 * _) (by omega) (by omega), w64_id (n := off.e1 * _) (by omega) (by omega), w64_id (by omega) (by omega)]
        grind
      obtain ⟨_, b7, b8, b9⟩ := cr_exact (by omega) (by omega) h2 ho
      unfold npoint_across
      rw [if_pos rfl, if_pos (by omega), if_pos (by omega)]
      simp only [Option.bind_some]
      rw [show ((0 : Int)).toNat = 0 from rfl, show ((1 : Int)).toNat = 1 from rfl]
      show ((npoint_lowest k (cr (l.getD 1 default) off) (cr (l.getD 0 default) (l.getD 1 default))).bind fun r366 => ((npoint_lowest k (cr off (l.getD 0 default)) (cr (l.getD 0 default) (l.getD 1 default))).bind fun r372 => _)) = _
      rw [low_p k _ _ h4 hk (by omega) (by omega), Option.bind_some, low_p k _ _ h4 hk (by omega) (by omega), Option.bind_some]
      rfl
  · rw [if_neg h, if_neg h]
theorem cr_neg {a off : P2} (ha : sm 1000 a = true) (ho : sm 100000 off = true) : cr off a = -(cr a off) := by
  obtain ⟨q1, q2, q3, q4⟩ := cr_exact (by omega) (by omega) ha ho
  rw [q1]
  unfold sm at ha ho
  simp only [Bool.and_eq_true, decide_eq_true_eq] at ha ho
  have p1 := mulB ho.1 ha.2
  have p2 := mulB ho.2 ha.1
  unfold cr
  rw [w64_id (n := off.e0 * _) (by omega) (by omega), w64_id (n := off.e1 * _) (by omega) (by omega), w64_id (by omega) (by omega)]
  grind
theorem col_r (k : Nat) (hk : 9000000000000000000 < k) (l : List P2) (off : P2) (h : scE l = 0) (ho : sm 100000 off = true) : nspeculumref09_Collimate k l off = some (colF (l.getD 0 default) (l.getD 1 default) off) := by
  obtain ⟨h1, h2, h3, h4⟩ := scE_zero h
  obtain ⟨_, b1, b2, b3⟩ := cr_exact (by omega) (by omega) h2 h3
  obtain ⟨_, b4, b5, b6⟩ := cr_exact (by omega) (by omega) h3 ho
  obtain ⟨_, b7, b8, b9⟩ := cr_exact (by omega) (by omega) h2 ho
  have e1 := cr_neg h2 ho
  have e2 := cr_neg h3 ho
  unfold nspeculumref09_Collimate nspeculumref09_cross
  rw [if_pos (by omega), if_pos (by omega)]
  simp only [Option.bind_some]
  rw [show ((0 : Int)).toNat = 0 from rfl, show ((1 : Int)).toNat = 1 from rfl]
  show ((nspeculumbase_Lowest k (w64 (0 - cr off (l.getD 1 default))) (cr (l.getD 0 default) (l.getD 1 default))).bind fun r366 => ((nspeculumbase_Lowest k (w64 (0 - cr (l.getD 0 default) off)) (cr (l.getD 0 default) (l.getD 1 default))).bind fun r372 => _)) = _
  rw [e2, w64_id (n := 0 - -_) (by omega) (by omega), w64_id (n := 0 - cr (l.getD 0 default) off) (by omega) (by omega), low_base k _ _ h4 hk (by omega) (by omega), Option.bind_some, low_base k _ _ h4 hk (by omega) (by omega), Option.bind_some]
  unfold colF
  rw [e1, show (0 : Int) - -(cr (l.getD 1 default) off) = cr (l.getD 1 default) off by omega, show (0 : Int) - cr (l.getD 0 default) off = -(cr (l.getD 0 default) off) by omega]
theorem off_r (k : Nat) (off : P2) : nspeculumref09_IsOff k off = some (sm 100000 off) := by
  unfold nspeculumref09_IsOff sm
  rw [wi, Option.bind_some, wi, Option.bind_some]
  cases decide (-100000 ≤ off.e0 ∧ off.e0 ≤ 100000) <;> rfl
theorem zero_sum {a b o n0 d0 n1 d1 d v0 v1 : Int} (hd : d ≠ 0) (h0 : n0 * d = v0 * d0) (h1 : n1 * d = v1 * d1) (hv : a * v0 + b * v1 + o * d = 0) : a * n0 * d1 + b * n1 * d0 + o * d0 * d1 = 0 := by
  have e : (a * n0 * d1 + b * n1 * d0 + o * d0 * d1) * d = 0 := by
    have : (a * n0 * d1 + b * n1 * d0 + o * d0 * d1) * d = a * (n0 * d) * d1 + b * (n1 * d) * d0 + o * d0 * d1 * d := by grind
    rw [this, h0, h1]
    have : a * (v0 * d0) * d1 + b * (v1 * d1) * d0 + o * d0 * d1 * d = (a * v0 + b * v1 + o * d) * (d0 * d1) := by grind
    rw [this, hv, Int.zero_mul]
  rcases Int.mul_eq_zero.1 e with h | h
  · exact h
  · exact absurd h hd
theorem sum_w {a b o n0 d0 n1 d1 : Int} (ha : -1000 ≤ a ∧ a ≤ 1000) (hb : -1000 ≤ b ∧ b ≤ 1000) (ho : -100000 ≤ o ∧ o ≤ 100000) (h0 : n0.natAbs ≤ 200000000) (h1 : n1.natAbs ≤ 200000000) (e0 : d0.natAbs ≤ 2000000) (e1 : d1.natAbs ≤ 2000000)
    (h : a * n0 * d1 + b * n1 * d0 + o * d0 * d1 = 0) : w64 ((w64 ((w64 ((w64 (a * n0)) * d1)) + (w64 ((w64 (b * n1)) * d0)))) + (w64 ((w64 (o * d0)) * d1))) = 0 := by
  have p1 := mulB (x := a) (y := n0) (X := 1000) (Y := 200000000) ha (by omega)
  have p2 := mulB (x := b) (y := n1) (X := 1000) (Y := 200000000) hb (by omega)
  have p3 := mulB (x := o) (y := d0) (X := 100000) (Y := 2000000) ho (by omega)
  have p4 := mulB (x := a * n0) (y := d1) (X := 200000000000) (Y := 2000000) (by omega) (by omega)
  have p5 := mulB (x := b * n1) (y := d0) (X := 200000000000) (Y := 2000000) (by omega) (by omega)
  have p6 := mulB (x := o * d0) (y := d1) (X := 200000000000) (Y := 2000000) (by omega) (by omega)
  rw [w64_id (n := a * n0) (by omega) (by omega), w64_id (n := b * n1) (by omega) (by omega), w64_id (n := o * d0) (by omega) (by omega), w64_id (n := a * n0 * d1) (by omega) (by omega), w64_id (n := b * n1 * d0) (by omega) (by omega), w64_id (n := o * d0 * d1) (by omega) (by omega),
    w64_id (n := a * n0 * d1 + b * n1 * d0) (by omega) (by omega), w64_id (by omega) (by omega), h]
theorem law_loop (k : Nat) (hk : 10 ≤ k) (l : List P2) (off : P2) (e : Int) (h : scE l = 0) (ho : sm 100000 off = true) : nspeculumlaw09_PointScrews_l0_0 k l off (colF (l.getD 0 default) (l.getD 1 default) off, e) k 0 = some (.inr ()) := by
  obtain ⟨h1, h2, h3, h4⟩ := scE_zero h
  obtain ⟨c1, b1, b2, b3⟩ := cr_exact (by omega) (by omega) h2 h3
  obtain ⟨c2, b4, b5, b6⟩ := cr_exact (by omega) (by omega) h3 ho
  obtain ⟨c3, b7, b8, b9⟩ := cr_exact (by omega) (by omega) h2 ho
  have c4 := cr_neg h2 ho
  have x0 := lowF_cross (n := cr (l.getD 1 default) off) h4
  have x1 := lowF_cross (n := cr off (l.getD 0 default)) h4
  obtain ⟨y1, y2⟩ := lowF_le (cr (l.getD 1 default) off) (cr (l.getD 0 default) (l.getD 1 default))
  obtain ⟨y3, y4⟩ := lowF_le (cr off (l.getD 0 default)) (cr (l.getD 0 default) (l.getD 1 default))
  obtain ⟨j, hj⟩ : ∃ j, k = j + 1 + 1 + 1 := ⟨k - 3, by omega⟩
  unfold sm at h2 h3 ho
  simp only [Bool.and_eq_true, decide_eq_true_eq] at h2 h3 ho
  have go : nspeculumlaw09_PointScrews_l0_0 k l off (colF (l.getD 0 default) (l.getD 1 default) off, e) (j + 1 + 1 + 1) 0 = some (.inr ()) := by
    unfold colF
    generalize lowF (cr (l.getD 1 default) off) (cr (l.getD 0 default) (l.getD 1 default)) = f0 at *
    generalize lowF (cr off (l.getD 0 default)) (cr (l.getD 0 default) (l.getD 1 default)) = f1 at *
    rw [nspeculumlaw09_PointScrews_l0_0.eq_2, if_pos (by omega), if_pos (by omega), if_pos rfl, if_pos (by omega), show ((0 : Int)).toNat = 0 from rfl, show ((1 : Int)).toNat = 1 from rfl]
    dsimp only
    rw [if_pos (sum_w h2.1 h3.1 ho.1 (by omega) (by omega) (by omega) (by omega) (zero_sum h4 x0 x1 (by rw [c4, c1, c2, c3]; grind))), show w64 (0 + 1) = 1 from rfl,
      nspeculumlaw09_PointScrews_l0_0.eq_2, if_pos (by omega), if_pos (by omega), if_neg (by omega), if_pos rfl, if_pos (by omega), show ((0 : Int)).toNat = 0 from rfl, show ((1 : Int)).toNat = 1 from rfl]
    dsimp only
    rw [if_pos (sum_w h2.2 h3.2 ho.2 (by omega) (by omega) (by omega) (by omega) (zero_sum h4 x0 x1 (by rw [c4, c1, c2, c3]; grind))), show w64 (1 + 1) = 2 from rfl, nspeculumlaw09_PointScrews_l0_0.eq_2, if_neg (by omega)]
  rw [← hj] at go
  exact go
theorem law_screws (k : Nat) (hk : 9000000000000000000 < k) (l : List P2) (off : P2) : nspeculumlaw09_PointScrews k l off = some true := by
  unfold nspeculumlaw09_PointScrews
  rw [show nawake k = some true from rfl, Option.bind_some, if_pos rfl, show ([] : List P2) ++ l = l from rfl]
  by_cases c : 4 < (l.length : Int)
  · rw [if_pos c]
  · rw [if_neg c, if_pos (by omega), col_p k hk, Option.bind_some, screws_r k (by omega), Option.bind_some, if_pos (by simp only [List.length_nil]; omega), screws_p k (by omega), Option.bind_some, if_pos rfl]
    by_cases h : scE l = 0
    · rw [if_pos h, if_pos h, off_r, Option.bind_some]
      cases ho : sm 100000 off with
      | true =>
        rw [if_pos rfl]
        dsimp only
        rw [if_pos rfl, col_r k hk l off h ho, Option.bind_some, if_pos (by simp), law_loop k (by omega) l off 0 h ho, Option.bind_some]
      | false => rfl
    · rw [if_neg h, if_neg h, if_pos rfl]; rfl
theorem vc_screws (l : List P2) (off : P2) : VC Go.Proofs.Try.prog 3 [VV.tr (l.flatMap c_A23) l.length, VV.ag (c_A23 off)] (vb true) := nspeculumlaw09_PointScrews_ok _ _ _ _ (law_screws 100000000000000000000 (by decide) l off)
end Go.Proofs.Ytpdigpnkanfegaa.Vg
