/- SupportConvergents, plain. -/
import Derived.Test.YtpaclgmigndilaaC1
import Derived.Test.YtpaclgmigndilaaWb
set_option linter.unusedVariables false
set_option linter.unusedSimpArgs false
namespace Go.Proofs.Ytpaclgmigndilaa.Vg
open Go Go.Proofs.Ytpaclgmigndilaa.Ev Go.Proofs.Ytpaclgmigndilaa.Vv
theorem w64_id {n : Int} (h1 : -9223372036854775808 ≤ n) (h2 : n ≤ 9223372036854775807) : w64 n = n := by
  unfold w64 IntKind.wrap
  simp [IntKind.signed, IntKind.bits]
  omega
theorem w64_succ {i : Nat} (h : i < 1000000000000) : w64 ((i : Int) + 1) = ((i + 1 : Nat) : Int) := by
  rw [w64_id (by omega) (by omega)]; omega
theorem u64_id {n : Int} (h1 : 0 ≤ n) (h2 : n < 18446744073709551616) : IntKind.u64.wrap n = n := by
  unfold IntKind.wrap
  simp [IntKind.signed, IntKind.bits]
  omega
theorem size_any (k : Nat) {n : Int} (h : In64 n) : nnumber_size k n = some (n.natAbs : Int) := by
  unfold In64 at h
  unfold nnumber_size
  by_cases h0 : n < 0
  · rw [if_pos h0]
    congr 1
    unfold IntKind.wrap
    simp [IntKind.signed, IntKind.bits]
    omega
  · rw [if_neg h0, u64_id (by omega) (by omega)]
    congr 1; omega
theorem gcd_step (x y : Int) : Nat.gcd y.natAbs (x.tmod y).natAbs = Nat.gcd x.natAbs y.natAbs := by
  rw [Int.natAbs_tmod, Nat.gcd_comm x.natAbs, Nat.gcd_rec y.natAbs x.natAbs, Nat.gcd_comm]
theorem gl (k : Nat) : ∀ (n fuel : Nat) (x y : Int), y.natAbs < n → n ≤ fuel →
    ∃ r, nspeculumbase_Gcd_l0_0 k fuel x y = some r ∧ r.natAbs = Nat.gcd x.natAbs y.natAbs := by
  intro n
  induction n with
  | zero => intro fuel x y h; omega
  | succ n ih =>
    intro fuel x y h hf
    obtain ⟨g, rfl⟩ : ∃ g, fuel = g + 1 := ⟨fuel - 1, by omega⟩
    rw [nspeculumbase_Gcd_l0_0.eq_2]
    by_cases h0 : y = 0
    · rw [if_pos h0]
      exact ⟨x, rfl, by rw [h0]; simp⟩
    · rw [if_neg h0, if_pos h0]
      have hy : 0 < y.natAbs := by omega
      obtain ⟨r, e1, e3⟩ := ih g y (x.tmod y) (by rw [Int.natAbs_tmod]; have := Nat.mod_lt x.natAbs hy; omega) (by omega)
      exact ⟨r, e1, by rw [e3, gcd_step]⟩
theorem gd (k : Nat) : ∀ (n fuel : Nat) (x y : Nat), y < n → n ≤ fuel →
    nnumber_divisor_l0_0 k fuel (x : Int) (y : Int) = some (Nat.gcd x y : Int) := by
  intro n
  induction n with
  | zero => intro fuel x y h; omega
  | succ n ih =>
    intro fuel x y h hf
    obtain ⟨g, rfl⟩ : ∃ g, fuel = g + 1 := ⟨fuel - 1, by omega⟩
    rw [nnumber_divisor_l0_0.eq_2]
    by_cases h0 : y = 0
    · subst h0
      rw [if_pos (show ((0 : Nat) : Int) = 0 from rfl), Nat.gcd_zero_right]
    · rw [if_neg (by omega), if_pos (by omega)]
      have e : ((x : Int).tmod (y : Int)) = ((x % y : Nat) : Int) := by
        rw [Int.tmod_eq_emod_of_nonneg (by omega)]; omega
      rw [e, ih g y (x % y) (by have := Nat.mod_lt x (show 0 < y by omega); omega) (by omega), Nat.gcd_comm x y, Nat.gcd_rec y x, Nat.gcd_comm]
/-- the error of a fraction. -/
def cf (f : SFrac) : Int := if f.Den ≤ 0 then 3 else if Nat.gcd f.Num.natAbs f.Den.natAbs = 1 then (if f.Num < -1000000000 ∨ 1000000000 < f.Num ∨ 1000000000 < f.Den then 2 else 0) else 3
theorem cf_prog (k : Nat) (hk : 18446744073709551617 ≤ k) (f : SFrac) (h1 : In64 f.Num) (h2 : In64 f.Den) : nnumber_CheckFrac k f = some (cf f) := by
  unfold nnumber_CheckFrac cf nnumber_divisor
  by_cases c1 : f.Den ≤ 0
  · rw [if_pos c1, if_pos c1]
  · rw [if_neg c1, if_neg c1, size_any k h1, Option.bind_some, size_any k h2, Option.bind_some]
    unfold In64 at h1 h2
    rw [gd k (f.Den.natAbs + 1) k _ _ (by omega) (by omega), Option.bind_some, Option.bind_some]
    by_cases c2 : Nat.gcd f.Num.natAbs f.Den.natAbs = 1
    · rw [if_pos c2, if_pos (by omega)]
      by_cases c3 : f.Num < -1000000000 ∨ 1000000000 < f.Num ∨ 1000000000 < f.Den
      · rw [if_pos c3]
        by_cases c4 : (1000000000 : Int) < (f.Num.natAbs : Int)
        · rw [if_pos c4]
        · rw [if_neg c4, if_pos (by omega)]
      · rw [if_neg c3, if_neg (by omega), if_neg (by omega)]
    · rw [if_neg c2, if_neg (by omega)]
theorem cf_ref (k : Nat) (hk : 18446744073709551617 ≤ k) (f : SFrac) (h1 : In64 f.Num) (h2 : In64 f.Den) : nspeculumref01_CheckFrac k f = some (cf f) := by
  unfold nspeculumref01_CheckFrac cf nspeculumbase_Gcd
  unfold In64 at h1 h2
  by_cases c1 : f.Den ≤ 0
  · rw [if_pos c1, if_pos (by omega)]
  · rw [if_neg c1, if_neg (by omega)]
    obtain ⟨r, e1, e2⟩ := gl k (f.Den.natAbs + 1) k f.Num f.Den (by omega) (by omega)
    have hr : r.natAbs ≤ f.Den.natAbs := by rw [e2]; exact Nat.gcd_le_right _ (by omega)
    rw [e1, Option.bind_some]
    have ha : nspeculumbase_Abs k r = some (r.natAbs : Int) := by
      unfold nspeculumbase_Abs
      by_cases h : r < 0
      · rw [if_pos h, w64_id (by omega) (by omega)]; congr 1; omega
      · rw [if_neg h]; congr 1; omega
    rw [ha, Option.bind_some, Option.bind_some, e2]
    by_cases c2 : Nat.gcd f.Num.natAbs f.Den.natAbs = 1
    · rw [if_pos c2, if_pos (by omega)]
      by_cases c3 : f.Num < -1000000000 ∨ 1000000000 < f.Num ∨ 1000000000 < f.Den
      · rw [if_pos c3]
        by_cases c4 : f.Num < -1000000000
        · rw [if_pos c4]
        · rw [if_neg c4]
          by_cases c5 : 1000000000 < f.Num
          · rw [if_pos c5]
          · rw [if_neg c5, if_pos (by omega)]
      · rw [if_neg c3, if_neg (by omega), if_neg (by omega), if_neg (by omega)]
    · rw [if_neg c2, if_neg (by omega)]
/-- convergents so far. -/
structure Cv (y : List SFrac) : Prop where
  bd : ∀ i, i < y.length → 0 ≤ (y.getD i default).Num ∧ (y.getD i default).Num ≤ 1000000000 ∧ 0 ≤ (y.getD i default).Den ∧ (y.getD i default).Den ≤ 1000000000
  one : ∀ i, i + 1 < y.length → (y.getD (i + 1) default).Num * (y.getD i default).Den - (y.getD i default).Num * (y.getD (i + 1) default).Den = 1 ∨ (y.getD (i + 1) default).Num * (y.getD i default).Den - (y.getD i default).Num * (y.getD (i + 1) default).Den = -1
structure St7 (F : SFrac) (y : List SFrac) (p0 q0 p1 q1 a b : Int) : Prop where
  cv : Cv y
  last : y.length ≠ 0 → y.getD (y.length - 1) default = ⟨p1, q1⟩
  fp0 : 0 ≤ p0
  fq0 : 0 ≤ q0
  fp1 : 0 ≤ p1
  fq1 : 0 ≤ q1
  fa : 0 ≤ a
  fb : 0 ≤ b
  aB : a ≤ 1000000000
  g : Nat.gcd a.natAbs b.natAbs = 1
  num : p1 * a + p0 * b = F.Num
  den : q1 * a + q0 * b = F.Den
  det : p1 * q0 - p0 * q1 = 1 ∨ p1 * q0 - p0 * q1 = -1
  room : (y.length : Int) + b ≤ 1000000000
  some : y.length = 0 → 0 < b
theorem getD_app1 {y : List SFrac} {x : SFrac} {i : Nat} (h : i < y.length) : (y ++ [x]).getD i default = y.getD i default := by
  rw [List.getD_eq_getElem?_getD, List.getD_eq_getElem?_getD, List.getElem?_append_left h]
theorem getD_app2 {y : List SFrac} {x : SFrac} : (y ++ [x]).getD y.length default = x := by
  rw [List.getD_eq_getElem?_getD, List.getElem?_append_right (Nat.le_refl _)]; simp
theorem mul_bd {a b c : Int} (ha : 0 ≤ a) (hb : 1 ≤ b) (h : a * b ≤ c) : a ≤ c := by
  have : a * 1 ≤ a * b := Int.mul_le_mul_of_nonneg_left hb ha
  omega
theorem step7 {F : SFrac} (hF : F.Num ≤ 1000000000 ∧ F.Den ≤ 1000000000) {y : List SFrac} {p0 q0 p1 q1 a b : Int} (s : St7 F y p0 q0 p1 q1 a b) (hb : 0 < b) :
    ∃ p q, w64 ((w64 ((w64 (a.tdiv b)) * p1)) + p0) = p ∧ w64 ((w64 ((w64 (a.tdiv b)) * q1)) + q0) = q ∧ St7 F (y ++ [⟨p, q⟩]) p1 q1 p q b (a.tmod b) ∧ 0 ≤ a.tmod b ∧ a.tmod b < b := by
  have ha := s.fa
  have e1 : a.tdiv b = a / b := Int.tdiv_eq_ediv_of_nonneg ha
  have e2 : a.tmod b = a % b := Int.tmod_eq_emod_of_nonneg ha
  have m1 := Int.emod_nonneg a (show b ≠ 0 by omega)
  have m2 := Int.emod_lt_of_pos a hb
  have m3 := Int.mul_ediv_add_emod a b
  generalize hw : a / b = w at *
  generalize hr : a % b = r at *
  have hw0 : 0 ≤ w := by rw [← hw]; exact Int.ediv_nonneg ha (by omega)
  have hwB : w ≤ 1000000000 := by
    have : w * b ≤ 1000000000 := by have := s.aB; rw [Int.mul_comm]; omega
    exact mul_bd hw0 (by omega) this
  have key : ∀ {x1 x0 X : Int}, 0 ≤ x1 → 0 ≤ x0 → X ≤ 1000000000 → x1 * a + x0 * b = X → (w * x1 + x0) * b + x1 * r = X ∧ 0 ≤ w * x1 ∧ w * x1 + x0 ≤ 1000000000 := by
    intro x1 x0 X h1 h0 hX h
    have k1 : (w * x1 + x0) * b + x1 * r = X := by rw [← h, ← m3]; grind
    have k2 : 0 ≤ w * x1 := Int.mul_nonneg hw0 h1
    have k3 : 0 ≤ x1 * r := Int.mul_nonneg h1 m1
    exact ⟨k1, k2, mul_bd (b := b) (by omega) (by omega) (by omega)⟩
  obtain ⟨n1, n2, n3⟩ := key s.fp1 s.fp0 hF.1 s.num
  obtain ⟨d1, d2, d3⟩ := key s.fq1 s.fq0 hF.2 s.den
  have hp0' := s.fp0
  have hq0' := s.fq0
  have ew : w64 (a.tdiv b) = w := by rw [e1]; exact w64_id (by omega) (by omega)
  refine ⟨w * p1 + p0, w * q1 + q0, ?_, ?_, ?_, by rw [e2]; exact m1, by rw [e2]; exact m2⟩
  · rw [ew, w64_id (n := w * p1) (by omega) (by omega), w64_id (by omega) (by omega)]
  · rw [ew, w64_id (n := w * q1) (by omega) (by omega), w64_id (by omega) (by omega)]
  · rw [e2]
    have hl : (y ++ [(⟨w * p1 + p0, w * q1 + q0⟩ : SFrac)]).length = y.length + 1 := by simp
    have hdet : (w * p1 + p0) * q1 - p1 * (w * q1 + q0) = -(p1 * q0 - p0 * q1) := by grind
    refine ⟨⟨?_, ?_⟩, ?_, s.fp1, s.fq1, by omega, by omega, by omega, m1, ?_, ?_, n1, d1, ?_, ?_, ?_⟩
    · intro i hi
      by_cases h : i < y.length
      · rw [getD_app1 h]; exact s.cv.bd i h
      · obtain rfl : i = y.length := by omega
        rw [getD_app2]
        exact ⟨by show 0 ≤ w * p1 + p0; omega, n3, by show 0 ≤ w * q1 + q0; omega, d3⟩
    · intro i hi
      rw [hl] at hi
      rw [getD_app1 (show i < y.length by omega)]
      by_cases h : i + 1 < y.length
      · rw [getD_app1 h]; exact s.cv.one i h
      · have hi' : i + 1 = y.length := by omega
        rw [hi', getD_app2, show i = y.length - 1 by omega, s.last (by omega)]
        show (w * p1 + p0) * q1 - p1 * (w * q1 + q0) = 1 ∨ (w * p1 + p0) * q1 - p1 * (w * q1 + q0) = -1
        rcases s.det with h | h <;> omega
    · intro _
      rw [hl, Nat.add_sub_cancel, getD_app2]
    · have := s.room; omega
    · have := s.g
      rw [← gcd_step, e2] at this
      exact this
    · rcases s.det with h | h <;> omega
    · rw [hl]; have := s.room; omega
    · intro h; rw [hl] at h; omega
theorem loop7 (k : Nat) {F : SFrac} (hF : F.Num ≤ 1000000000 ∧ F.Den ≤ 1000000000) : ∀ (n fuel : Nat) (y : List SFrac) (p0 q0 p1 q1 a b : Int), b.natAbs < n → n ≤ fuel → St7 F y p0 q0 p1 q1 a b →
    ∃ z u v s t, nsupport_Convergents_l0_0 k F fuel y p0 q0 p1 q1 a b = some (u, v, s, t, z) ∧ nspeculumref07_Convergents_l0_0 k fuel y p1 p0 q1 q0 a b = some z ∧ Cv z ∧ z.length ≤ 1000000000 ∧ z.length ≠ 0 ∧ z.getD (z.length - 1) default = F := by
  intro n
  induction n with
  | zero => intro fuel y p0 q0 p1 q1 a b h; omega
  | succ n ih =>
    intro fuel y p0 q0 p1 q1 a b h hf s
    obtain ⟨g, rfl⟩ : ∃ g, fuel = g + 1 := ⟨fuel - 1, by omega⟩
    rw [nsupport_Convergents_l0_0.eq_2, nspeculumref07_Convergents_l0_0.eq_2]
    have hb := s.fb
    by_cases h0 : b = 0
    · rw [if_pos h0, if_neg (by omega)]
      have hy : y.length ≠ 0 := fun e => by have := s.some e; omega
      refine ⟨y, _, _, _, _, rfl, rfl, s.cv, by have := s.room; omega, hy, ?_⟩
      rw [s.last hy]
      have hg := s.g
      have hn := s.num
      have hd := s.den
      have ha := s.fa
      subst h0
      simp at hg
      obtain rfl : a = 1 := by omega
      simp at hn hd
      rw [hn, hd]
    · obtain ⟨p, q, f1, f2, f3, f4, f5⟩ := step7 hF s (by omega)
      have hroom := s.room
      rw [if_neg h0, if_pos h0, if_pos (show (0 : Int) < b by omega), if_pos h0, f1, f2, if_pos (by simp only [List.length_cons, List.length_nil]; omega), if_pos (by simp only [List.length_cons, List.length_nil]; omega)]
      exact ih g _ _ _ _ _ _ _ (by omega) (by omega) f3
theorem fracs_l (k : Nat) (y : List SFrac) (hl : y.length ≤ 1000000000) : ∀ (d fuel i : Nat), y.length = i + d → d < fuel → nspeculumbase_Fracs_l0_0 k y y fuel (i : Int) = some (.inr ()) := by
  intro d
  induction d with
  | zero =>
    intro fuel i h hf
    obtain ⟨g, rfl⟩ : ∃ g, fuel = g + 1 := ⟨fuel - 1, by omega⟩
    rw [nspeculumbase_Fracs_l0_0.eq_2, if_neg (by omega)]
  | succ d ih =>
    intro fuel i h hf
    obtain ⟨g, rfl⟩ : ∃ g, fuel = g + 1 := ⟨fuel - 1, by omega⟩
    rw [nspeculumbase_Fracs_l0_0.eq_2, if_pos (by omega), if_pos (by omega), if_pos (by omega), if_pos (by simp), w64_succ (by omega)]
    exact ih g (i + 1) (by omega) (by omega)
theorem abs_one (k : Nat) {n : Int} (h : n = 1 ∨ n = -1) : nspeculumbase_Abs k n = some 1 := by
  unfold nspeculumbase_Abs
  rcases h with rfl | rfl
  · rw [if_neg (by omega)]
  · rw [if_pos (by omega)]; rfl
theorem prod_bd {a b : Int} (ha : 0 ≤ a ∧ a ≤ 1000000000) (hb : 0 ≤ b ∧ b ≤ 1000000000) : 0 ≤ a * b ∧ a * b ≤ 1000000000000000000 := by
  refine ⟨Int.mul_nonneg ha.1 hb.1, ?_⟩
  have h1 := Int.mul_le_mul_of_nonneg_right ha.2 hb.1
  have h2 := Int.mul_le_mul_of_nonneg_left hb.2 (show (0 : Int) ≤ 1000000000 by omega)
  omega
theorem last_l (k : Nat) (z : List SFrac) (e : Int) (hz : Cv z) (hl : z.length ≤ 1000000000) : ∀ (d fuel i : Nat), z.length = i + d → d < fuel → 1 ≤ i → nspeculumlaw07_SupportConvergents_l0_0 k (z, e) fuel (i : Int) = some (.inr ()) := by
  intro d
  induction d with
  | zero =>
    intro fuel i h hf h1
    obtain ⟨g, rfl⟩ : ∃ g, fuel = g + 1 := ⟨fuel - 1, by omega⟩
    rw [nspeculumlaw07_SupportConvergents_l0_0.eq_2]; dsimp only; rw [if_neg (by omega)]
  | succ d ih =>
    intro fuel i h hf h1
    obtain ⟨g, rfl⟩ : ∃ g, fuel = g + 1 := ⟨fuel - 1, by omega⟩
    have e1 : w64 ((i : Int) - 1) = ((i - 1 : Nat) : Int) := by rw [w64_id (by omega) (by omega)]; omega
    rw [nspeculumlaw07_SupportConvergents_l0_0.eq_2]; dsimp only; rw [if_pos (by omega), if_pos (by omega), e1, if_pos (by omega), Int.toNat_natCast, Int.toNat_natCast]
    have b1 := hz.bd i (by omega)
    have b0 := hz.bd (i - 1) (by omega)
    have o := hz.one (i - 1) (by omega)
    rw [show i - 1 + 1 = i by omega] at o
    have q1 := prod_bd ⟨b1.1, b1.2.1⟩ ⟨b0.2.2.1, b0.2.2.2⟩
    have q2 := prod_bd ⟨b0.1, b0.2.1⟩ ⟨b1.2.2.1, b1.2.2.2⟩
    rw [w64_id (n := (z.getD i default).Num * _) (by omega) (by omega), w64_id (n := (z.getD (i - 1) default).Num * _) (by omega) (by omega), w64_id (by omega) (by omega), abs_one k o, Option.bind_some, if_pos rfl, w64_succ (by omega)]
    exact ih g (i + 1) (by omega) (by omega) (by omega)
theorem law_conv (k : Nat) (hk : 18446744073709551617 ≤ k) (f : SFrac) (h1 : In64 f.Num) (h2 : In64 f.Den) : nspeculumlaw07_SupportConvergents k f = some true := by
  unfold nspeculumlaw07_SupportConvergents nsupport_Convergents
  rw [show nawake k = some true from rfl, Option.bind_some, if_pos rfl, cf_prog k hk f h1 h2, Option.bind_some, cf_ref k hk f h1 h2]
  by_cases c0 : cf f = 0
  · rw [if_pos c0]
    by_cases c1 : f.Num < 0
    · rw [if_pos c1, Option.bind_some, Option.bind_some, if_pos c0, if_pos c1, if_pos rfl]; simp
    · rw [if_neg c1]
      have hc := c0
      unfold cf at hc
      split at hc
      · omega
      split at hc
      case isFalse => omega
      split at hc
      · omega
      rename_i n1 n2 n3
      have st : St7 f [] 0 1 1 0 f.Num f.Den := ⟨⟨fun i hi => by simp at hi, fun i hi => by simp at hi⟩, fun h => by simp at h, by omega, by omega, by omega, by omega, by omega, by omega, by omega, n2, by omega, by omega, by omega, by simp; omega, fun _ => by omega⟩
      obtain ⟨z, u, v, s, t, g1, g2, g3, g4, g5, g6⟩ := loop7 k (F := f) (by omega) (f.Den.natAbs + 1) k [] 0 1 1 0 f.Num f.Den (by omega) (by omega) st
      have hfr : nspeculumbase_Fracs k z z = some true := by
        unfold nspeculumbase_Fracs
        rw [if_pos rfl, show nspeculumbase_Fracs_l0_0 k z z k 0 = some (.inr ()) from fracs_l k z g4 z.length k 0 (by omega) (by omega)]; rfl
      unfold nspeculumref07_Convergents
      have e1 : w64 ((z.length : Int) - 1) = ((z.length - 1 : Nat) : Int) := by rw [w64_id (by omega) (by omega)]; omega
      rw [g1, Option.bind_some, Option.bind_some, Option.bind_some, if_pos c0, if_neg c1, if_pos rfl, g2, Option.bind_some, Option.bind_some]
      dsimp only
      rw [hfr, Option.bind_some, if_pos rfl, if_neg (by omega), e1, if_pos (by omega), Int.toNat_natCast, g6, if_pos (by simp), show nspeculumlaw07_SupportConvergents_l0_0 k (z, 0) k 1 = some (.inr ()) from last_l k z 0 g3 g4 (z.length - 1) k 1 (by omega) (by omega) (by omega)]
      rfl
  · rw [if_neg c0, Option.bind_some, Option.bind_some, if_neg c0, if_pos rfl]; simp
theorem vc_conv (f : SFrac) (hb : (In64 f.Num) ∧ (In64 f.Den)) : VC Go.Proofs.Try.prog 4 [VV.ag (c_SFrac f)] (vb true) := nspeculumlaw07_SupportConvergents_ok _ _ _ (law_conv 100000000000000000000 (by decide) f hb.1 hb.2)
end Go.Proofs.Ytpaclgmigndilaa.Vg
