/- Words, fractions in lowest terms. -/
import Derived.Test.YtggggonmlmondaaQ1
import Derived.Test.YtggggonmlmondaaWb
set_option linter.unusedVariables false
set_option linter.unusedSimpArgs false
namespace Go.Proofs.Ytggggonmlmondaa.Vg
open Go Go.Proofs.Ytggggonmlmondaa.Ev Go.Proofs.Ytggggonmlmondaa.Vv
theorem w64_id {n : Int} (h1 : -9223372036854775808 ≤ n) (h2 : n ≤ 9223372036854775807) : w64 n = n := by
  unfold w64 IntKind.wrap
  simp [IntKind.signed, IntKind.bits]
  omega
theorem w64_succ {i : Nat} (h : i < 1000000000000) : w64 ((i : Int) + 1) = ((i + 1 : Nat) : Int) := by
  rw [w64_id (by omega) (by omega)]; omega
theorem within_fig (k : Nat) (a b c : Int) : nfigure_isWithin k a b c = some (decide (b ≤ a ∧ a ≤ c)) := by
  unfold nfigure_isWithin
  by_cases h : b ≤ a
  · rw [if_pos h]; simp [h]
  · rw [if_neg h]; simp [h]
theorem within_base (k : Nat) (a b c : Int) : nspeculumbase_Within k a b c = some (decide (b ≤ a ∧ a ≤ c)) := by
  unfold nspeculumbase_Within
  by_cases h : b ≤ a
  · rw [if_pos h]; simp [h]
  · rw [if_neg h]; simp [h]
def inH (n : Int) : Bool := decide (-100000 ≤ n ∧ n ≤ 100000)
theorem isHeight_any (k : Nat) (a : Int) : nspeculumref06_isHeight k a = some (inH a) := by
  unfold nspeculumref06_isHeight
  rw [within_base]; rfl
theorem areHeights_one (k : Nat) (a : Int) : nfigure_areHeights (k + 2) [a] = some (inH a) := by
  unfold nfigure_areHeights
  rw [nfigure_areHeights_l0_0.eq_2, if_pos (by simp), if_pos (by simp), within_fig, Option.bind_some]
  change (Option.bind (if inH a = true then _ else _) _) = _
  cases inH a with
  | false => rfl
  | true =>
    rw [if_pos rfl, nfigure_areHeights_l0_0.eq_2, if_neg (by rw [w64_id (by omega) (by omega)]; simp)]; rfl
def sumB (b : Bool) : Sum Unit Unit := match b with | true => .inr () | false => .inl ()
theorem gcd_step (x y : Int) : Nat.gcd y.natAbs (x.tmod y).natAbs = Nat.gcd x.natAbs y.natAbs := by
  rw [Int.natAbs_tmod, Nat.gcd_comm x.natAbs, Nat.gcd_rec y.natAbs x.natAbs, Nat.gcd_comm]
theorem gl_b (k : Nat) : ∀ (n fuel : Nat) (x y : Int), y.natAbs < n → n ≤ fuel → ∃ r, nspeculumbase_Gcd_l0_0 k fuel x y = some r ∧ nfigure_divisor_l0_0 k fuel x y = some r ∧ r.natAbs = Nat.gcd x.natAbs y.natAbs := by
  intro n
  induction n with
  | zero => intro fuel x y h; omega
  | succ n ih =>
    intro fuel x y h hf
    obtain ⟨g, rfl⟩ : ∃ g, fuel = g + 1 := ⟨fuel - 1, by omega⟩
    rw [nspeculumbase_Gcd_l0_0.eq_2, nfigure_divisor_l0_0.eq_2]
    by_cases h0 : y = 0
    · rw [if_pos h0, if_pos h0]
      exact ⟨x, rfl, rfl, by rw [h0]; simp⟩
    · rw [if_neg h0, if_pos h0, if_neg h0, if_pos h0]
      have hy : 0 < y.natAbs := by omega
      obtain ⟨r, e1, e2, e3⟩ := ih g y (x.tmod y) (by rw [Int.natAbs_tmod]; have := Nat.mod_lt x.natAbs hy; omega) (by omega)
      exact ⟨r, e1, e2, by rw [e3, gcd_step]⟩
theorem gcds (k : Nat) (hk : 9223372036854775808 < k) {x y : Int} (hy : 0 < y) (hb : y ≤ 9223372036854775807) : nspeculumbase_Gcd k x y = some (Nat.gcd x.natAbs y.natAbs : Int) ∧ nfigure_divisor k x y = some (Nat.gcd x.natAbs y.natAbs : Int) := by
  obtain ⟨r, e1, e2, e3⟩ := gl_b k (y.natAbs + 1) k x y (by omega) (by omega)
  have hr : r.natAbs ≤ y.natAbs := by rw [e3]; exact Nat.gcd_le_right _ (by omega)
  unfold nspeculumbase_Gcd nfigure_divisor nspeculumbase_Abs maxI
  rw [e1, e2, Option.bind_some, Option.bind_some, ← e3, w64_id (n := 0 - r) (by omega) (by omega)]
  constructor
  · by_cases h : r < 0
    · rw [if_pos h, Option.bind_some]; congr 1; omega
    · rw [if_neg h, Option.bind_some]; congr 1; omega
  · by_cases h : 0 - r > r
    · rw [if_pos h]; congr 1; omega
    · rw [if_neg h]; congr 1; omega
structure Low (f : SFrac) : Prop where
  d : 0 < f.Den
  g : Nat.gcd f.Num.natAbs f.Den.natAbs = 1
def lw (x y : Int) : SFrac := ⟨x / (Nat.gcd x.natAbs y.natAbs : Int), y / (Nat.gcd x.natAbs y.natAbs : Int)⟩
theorem lw_parts {x y : Int} (hy : 0 < y) : ∃ g : Int, 0 < g ∧ g = (Nat.gcd x.natAbs y.natAbs : Int) ∧ x = (lw x y).Num * g ∧ y = (lw x y).Den * g := by
  have hg : 0 < Nat.gcd x.natAbs y.natAbs := Nat.gcd_pos_of_pos_right _ (by omega)
  refine ⟨(Nat.gcd x.natAbs y.natAbs : Int), by omega, rfl, ?_, ?_⟩
  · show x = x / _ * _
    rw [Int.ediv_mul_cancel]
    exact Int.dvd_natAbs.1 (Int.natCast_dvd_natCast.2 (Nat.gcd_dvd_left _ _))
  · show y = y / _ * _
    rw [Int.ediv_mul_cancel]
    exact Int.dvd_natAbs.1 (Int.natCast_dvd_natCast.2 (Nat.gcd_dvd_right _ _))
theorem lw_cross {x y : Int} (hy : 0 < y) : (lw x y).Num * y = x * (lw x y).Den := by
  obtain ⟨g, h1, _, h3, h4⟩ := lw_parts (x := x) hy
  generalize (lw x y).Num = a at *
  generalize (lw x y).Den = b at *
  rw [h3, h4]; grind
theorem lw_low {x y : Int} (hy : 0 < y) : Low (lw x y) := by
  obtain ⟨g, h1, h2, h3, h4⟩ := lw_parts (x := x) hy
  have hd : 0 < (lw x y).Den := by
    rcases Int.lt_or_le 0 (lw x y).Den with h | h
    · exact h
    · have := Int.mul_le_mul_of_nonneg_right h (Int.le_of_lt h1)
      omega
  refine ⟨hd, ?_⟩
  have e1 : x.natAbs = (lw x y).Num.natAbs * g.natAbs := by rw [← Int.natAbs_mul, ← h3]
  have e2 : y.natAbs = (lw x y).Den.natAbs * g.natAbs := by rw [← Int.natAbs_mul, ← h4]
  have e3 : g.natAbs = Nat.gcd x.natAbs y.natAbs := by omega
  have e4 : Nat.gcd x.natAbs y.natAbs = Nat.gcd (lw x y).Num.natAbs (lw x y).Den.natAbs * g.natAbs := by
    have : Nat.gcd ((lw x y).Num.natAbs * g.natAbs) ((lw x y).Den.natAbs * g.natAbs) = _ := Nat.gcd_mul_right _ _ _
    rw [← e1, ← e2] at this; exact this
  rw [← e3] at e4
  have hg : 0 < g.natAbs := by omega
  have : Nat.gcd (lw x y).Num.natAbs (lw x y).Den.natAbs * g.natAbs = 1 * g.natAbs := by omega
  exact Nat.eq_of_mul_eq_mul_right hg this
theorem lw_le {x y : Int} (hy : 0 < y) : (lw x y).Den ≤ y ∧ (lw x y).Num.natAbs ≤ x.natAbs := by
  obtain ⟨g, h1, h2, h3, h4⟩ := lw_parts (x := x) hy
  have hd := (lw_low (x := x) hy).d
  have e1 : x.natAbs = (lw x y).Num.natAbs * g.natAbs := by rw [← Int.natAbs_mul, ← h3]
  have e2 : y.natAbs = (lw x y).Den.natAbs * g.natAbs := by rw [← Int.natAbs_mul, ← h4]
  have hg : 0 < g.natAbs := by omega
  have i1 : (lw x y).Num.natAbs ≤ (lw x y).Num.natAbs * g.natAbs := Nat.le_mul_of_pos_right _ hg
  have i2 : (lw x y).Den.natAbs ≤ (lw x y).Den.natAbs * g.natAbs := Nat.le_mul_of_pos_right _ hg
  omega
theorem Low.eq {f h : SFrac} (a : Low f) (b : Low h) (e : f.Num * h.Den = h.Num * f.Den) : f = h := by
  have e' : f.Num.natAbs * h.Den.natAbs = h.Num.natAbs * f.Den.natAbs := by rw [← Int.natAbs_mul, ← Int.natAbs_mul, e]
  have d1 : f.Den.natAbs ∣ h.Den.natAbs := Nat.Coprime.dvd_of_dvd_mul_left (show Nat.Coprime f.Den.natAbs f.Num.natAbs from by unfold Nat.Coprime; rw [Nat.gcd_comm]; exact a.g) (by rw [e']; exact Nat.dvd_mul_left _ _)
  have d2 : h.Den.natAbs ∣ f.Den.natAbs := Nat.Coprime.dvd_of_dvd_mul_left (show Nat.Coprime h.Den.natAbs h.Num.natAbs from by unfold Nat.Coprime; rw [Nat.gcd_comm]; exact b.g) (by rw [← e']; exact Nat.dvd_mul_left _ _)
  have ed := Nat.dvd_antisymm d1 d2
  have ha := a.d
  have hb := b.d
  have ed : f.Den = h.Den := by omega
  rw [← ed] at e
  have en : f.Num = h.Num := Int.eq_of_mul_eq_mul_right (by omega) e
  cases f; cases h; simp only at ed en; rw [ed, en]
theorem lw_eq {x y : Int} {f : SFrac} (hy : 0 < y) (hf : Low f) (e : f.Num * y = x * f.Den) : lw x y = f := by
  refine (lw_low hy).eq hf ?_
  have h := lw_cross (x := x) hy
  have hd := (lw_low (x := x) hy).d
  generalize (lw x y).Num = a at *
  generalize (lw x y).Den = b at *
  -- a y = x b, n y = x d : a d = n b
  have : y * (a * f.Den) = y * (f.Num * b) := by grind
  exact Int.eq_of_mul_eq_mul_left (by omega) this
theorem lowests (k : Nat) (hk : 9223372036854775808 < k) {x y : Int} (hx : x.natAbs ≤ 9000000000000000000) (hy : 0 < y) (hb : y ≤ 9000000000000000000) : nspeculumbase_Lowest k x y = some (lw x y) ∧ nfigure_lowest k x y = some (lw x y) := by
  obtain ⟨e1, e2⟩ := gcds k hk (x := x) hy (by omega)
  obtain ⟨g, h1, h2, h3, h4⟩ := lw_parts (x := x) hy
  obtain ⟨l1, l2⟩ := lw_le (x := x) hy
  have hd := (lw_low (x := x) hy).d
  unfold nspeculumbase_Lowest nfigure_lowest
  rw [e1, e2, Option.bind_some, Option.bind_some, if_neg (by omega), ← h2, if_pos (by omega)]
  have t1 : x.tdiv g = (lw x y).Num := by
    conv => lhs; rw [h3]
    exact Int.mul_tdiv_cancel _ (by omega)
  have t2 : y.tdiv g = (lw x y).Den := by
    conv => lhs; rw [h4]
    exact Int.mul_tdiv_cancel _ (by omega)
  rw [t1, t2, w64_id (n := (lw x y).Num) (by omega) (by omega), w64_id (n := (lw x y).Den) (by omega) (by omega)]
  exact ⟨rfl, rfl⟩
end Go.Proofs.Ytggggonmlmondaa.Vg
