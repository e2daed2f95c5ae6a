/- Chapter 2, plain: the first call reckoned; fractions, roots, sags. -/
import Derived.Test.YtojmekclegbndaaO2
import Derived.Test.YtojmekclegbndaaWb
set_option linter.unusedVariables false
set_option linter.unusedSimpArgs false
namespace Go.Proofs.Ytojmekclegbndaa.Vg
open Go Go.Proofs.Ytojmekclegbndaa.Ev Go.Proofs.Ytojmekclegbndaa.Vv
/-- as much as any function's loops may go round. -/
abbrev big : Nat := 100000000000000000000
set_option maxRecDepth 100000 in
theorem seen_big : nspeculumtop_seen big = some true := by kernel_rfl
theorem w64_id {n : Int} (h1 : -9223372036854775808 ≤ n) (h2 : n ≤ 9223372036854775807) : w64 n = n := by
  unfold w64 IntKind.wrap
  simp [IntKind.signed, IntKind.bits]
  omega
theorem w64_succ {i : Nat} (h : i < 1000000000000) : w64 ((i : Int) + 1) = ((i + 1 : Nat) : Int) := by
  rw [w64_id (by omega) (by omega)]; omega
def inR (a b n : Int) : Bool := decide (a ≤ n ∧ n ≤ b)
theorem inR_t {a b n : Int} : inR a b n = true ↔ a ≤ n ∧ n ≤ b := by unfold inR; exact decide_eq_true_iff
theorem inR_f {a b n : Int} : inR a b n = false ↔ ¬(a ≤ n ∧ n ≤ b) := by unfold inR; exact decide_eq_false_iff_not
theorem within_base (k : Nat) (a b c : Int) : nspeculumbase_Within k a b c = some (inR b c a) := by
  unfold nspeculumbase_Within inR
  by_cases h : b ≤ a
  · rw [if_pos h]; simp [h]
  · rw [if_neg h]; simp [h]
theorem within_opt (k : Nat) (a b c : Int) : noptics_isWithin k a b c = some (inR b c a) := within_base k a b c
theorem sized_any (k : Nat) (a : Int) {m : Int} (h0 : 0 ≤ m) (h1 : m ≤ 1000000000000) : noptics_isSized k a m = some (inR (-m) m a) := by
  unfold noptics_isSized
  rw [w64_id (by omega) (by omega), show (0 : Int) - m = -m by omega, within_opt, Option.bind_some]
/-- greatest common divisors: both ways reckon them. -/
theorem div_gcd (k : Nat) : ∀ (n fuel : Nat) (x y : Int), 0 ≤ x → 0 ≤ y → y < (n : Int) → n ≤ fuel → nnumber_divisor_l0_0 k fuel x y = some ((Nat.gcd x.natAbs y.natAbs : Nat) : Int) := by
  intro n
  induction n with
  | zero => intro fuel x y h1 h2 h; omega
  | succ n ih =>
    intro fuel x y h1 h2 h hf
    obtain ⟨g, rfl⟩ : ∃ g, fuel = g + 1 := ⟨fuel - 1, by omega⟩
    rw [nnumber_divisor_l0_0.eq_2]
    by_cases c : y = 0
    · rw [if_pos c, c]; simp; omega
    · have hm : x.tmod y = x % y := Int.tmod_eq_emod_of_nonneg h1
      have m0 := Int.emod_nonneg x c
      have m1 := Int.emod_lt_of_pos x (show 0 < y by omega)
      rw [if_neg c, if_pos c, hm, ih g y (x % y) h2 m0 (by omega) (by omega)]
      congr 2
      rw [show (x % y).natAbs = x.natAbs % y.natAbs by rw [Int.natAbs_emod_of_nonneg h1]]
      rw [Nat.gcd_comm y.natAbs, ← Nat.gcd_rec, Nat.gcd_comm]
theorem base_gcd (k : Nat) : ∀ (n fuel : Nat) (x y : Int), y.natAbs < n → n ≤ fuel → ∃ r, nspeculumbase_Gcd_l0_0 k fuel x y = some r ∧ r.natAbs = Nat.gcd x.natAbs y.natAbs := by
  intro n
  induction n with
  | zero => intro fuel x y h; omega
  | succ n ih =>
    intro fuel x y h hf
    obtain ⟨g, rfl⟩ : ∃ g, fuel = g + 1 := ⟨fuel - 1, by omega⟩
    rw [nspeculumbase_Gcd_l0_0.eq_2]
    by_cases c : y = 0
    · rw [if_pos c, c]; exact ⟨x, rfl, by simp⟩
    · have hm : (x.tmod y).natAbs = x.natAbs % y.natAbs := Int.natAbs_tmod x y
      have m1 : x.natAbs % y.natAbs < y.natAbs := Nat.mod_lt _ (by omega)
      obtain ⟨r, e1, e2⟩ := ih g y (x.tmod y) (by omega) (by omega)
      rw [if_neg c, if_pos c]
      refine ⟨r, e1, ?_⟩
      rw [e2, hm, Nat.gcd_comm y.natAbs, ← Nat.gcd_rec, Nat.gcd_comm]
def gcF (f : SFrac) : Nat := Nat.gcd f.Num.natAbs f.Den.natAbs
structure IF (f : SFrac) : Prop where
  n : Vv.In64 f.Num
  d : Vv.In64 f.Den
theorem in64_w {n : Int} (h : Vv.In64 n) : -9223372036854775808 ≤ n ∧ n ≤ 9223372036854775807 := by
  unfold Vv.In64 at h; omega
theorem gcd_any (k : Nat) (hk : 100000000000000000000 ≤ k) (x : Int) {y : Int} (h0 : 0 < y) (h1 : y ≤ 9223372036854775807) : nspeculumbase_Gcd k x y = some ((Nat.gcd x.natAbs y.natAbs : Nat) : Int) := by
  unfold nspeculumbase_Gcd nspeculumbase_Abs
  obtain ⟨r, e1, e2⟩ := base_gcd k (y.natAbs + 1) k x y (by omega) (by omega)
  have hle : Nat.gcd x.natAbs y.natAbs ≤ y.natAbs := Nat.gcd_le_right _ (by omega)
  rw [e1, Option.bind_some]
  by_cases c : r < 0
  · rw [if_pos c, Option.bind_some, w64_id (by omega) (by omega)]; congr 1; omega
  · rw [if_neg c, Option.bind_some]; congr 1; omega
def lowB (f : SFrac) : Bool := decide (0 < f.Den) && decide (gcF f = 1)
theorem isLowest_any (k : Nat) (hk : 100000000000000000000 ≤ k) {f : SFrac} (h : IF f) : nspeculumbase_IsLowest k f = some (lowB f) := by
  have h1 := in64_w h.d
  unfold nspeculumbase_IsLowest lowB gcF
  by_cases c : 0 < f.Den
  · rw [if_pos c, gcd_any k hk _ c h1.2, Option.bind_some, decide_eq_true c, Bool.true_and]
    congr 1
    by_cases g : Nat.gcd f.Num.natAbs f.Den.natAbs = 1
    · rw [decide_eq_true g, decide_eq_true (by omega)]
    · rw [decide_eq_false g, decide_eq_false (by omega)]
  · rw [if_neg c]; simp [c]
theorem size_any (k : Nat) {n : Int} (h : Vv.In64 n) : nnumber_size k n = some ((n.natAbs : Nat) : Int) := by
  have h1 := in64_w h
  unfold nnumber_size
  by_cases c : n < 0
  · rw [if_pos c]; congr 1
    unfold IntKind.wrap
    simp [IntKind.signed, IntKind.bits]
    omega
  · rw [if_neg c]; congr 1
    unfold IntKind.wrap
    simp [IntKind.signed, IntKind.bits]
    omega
/-- the error of a fraction. -/
def ckE (f : SFrac) : Int := if lowB f = true then (if 1000000000 < (f.Num.natAbs : Int) then 2 else if 1000000000 < f.Den then 2 else 0) else 3
theorem checkFrac_any (k : Nat) (hk : 100000000000000000000 ≤ k) {f : SFrac} (h : IF f) : nnumber_CheckFrac k f = some (ckE f) := by
  have h1 := in64_w h.d
  unfold nnumber_CheckFrac ckE lowB gcF
  by_cases c : f.Den ≤ 0
  · rw [if_pos c, decide_eq_false (show ¬ 0 < f.Den by omega)]; rfl
  · rw [if_neg c, size_any k h.n, Option.bind_some, size_any k h.d, Option.bind_some]
    unfold nnumber_divisor
    rw [div_gcd k (f.Den.natAbs + 1) k _ _ (by omega) (by omega) (by omega) (by omega), Option.bind_some, Option.bind_some, decide_eq_true (show 0 < f.Den by omega), Bool.true_and]
    simp only [Int.natAbs_natCast]
    by_cases g : Nat.gcd f.Num.natAbs f.Den.natAbs = 1
    · rw [if_pos (by omega), if_pos (decide_eq_true g)]
      split
      · rfl
      · split <;> rfl
    · rw [if_neg (by omega), if_neg (by simpa using g)]
/-- the first error of fractions. -/
def fcE : List SFrac → Int
  | [] => 0
  | f :: l => if ckE f = 0 then fcE l else ckE f
def sumE (e : Int) : Sum Int Unit := if e = 0 then .inr () else .inl e
theorem checkFracs_l (k : Nat) (hk : 100000000000000000000 ≤ k) (xs : List SFrac) (hx : ∀ f, f ∈ xs → IF f) (hl : xs.length < 1000000000000) : ∀ (d fuel i : Nat), xs.length = i + d → d < fuel →
    noptics_checkFracs_l0_0 k xs fuel (i : Int) = some (sumE (fcE (xs.drop i))) := by
  intro d
  induction d with
  | zero =>
    intro fuel i h hf
    obtain ⟨g, rfl⟩ : ∃ g, fuel = g + 1 := ⟨fuel - 1, by omega⟩
    rw [noptics_checkFracs_l0_0.eq_2, if_neg (by omega), List.drop_eq_nil_of_le (by omega)]; rfl
  | succ d ih =>
    intro fuel i h hf
    obtain ⟨g, rfl⟩ : ∃ g, fuel = g + 1 := ⟨fuel - 1, by omega⟩
    have hi : i < xs.length := by omega
    rw [noptics_checkFracs_l0_0.eq_2, if_pos (by omega), if_pos (by omega), w64_succ (by omega), ih g (i + 1) (by omega) (by omega), List.drop_eq_getElem_cons hi]
    simp only [Int.toNat_natCast]
    rw [show xs.getD i default = xs[i] by rw [List.getD_eq_getElem?_getD, List.getElem?_eq_getElem hi]; rfl, checkFrac_any k hk (hx _ (List.getElem_mem hi)), Option.bind_some]
    unfold sumE
    by_cases c : ckE xs[i] = 0
    · rw [if_pos c]; simp only [fcE, if_pos c]
    · rw [if_neg c]; simp only [fcE, if_neg c]
theorem checkFracs_any (k : Nat) (hk : 100000000000000000000 ≤ k) (xs : List SFrac) (hx : ∀ f, f ∈ xs → IF f) (hl : xs.length < 1000000000000) : noptics_checkFracs k xs = some (fcE xs) := by
  unfold noptics_checkFracs
  rw [show noptics_checkFracs_l0_0 k xs k 0 = _ from checkFracs_l k hk xs hx hl xs.length k 0 (by omega) (by omega), Option.bind_some]
  unfold sumE
  rw [List.drop_zero]
  by_cases c : fcE xs = 0
  · rw [if_pos c, c]
  · rw [if_neg c]
theorem fcE1 (f : SFrac) : fcE [f] = ckE f := by
  show (if ckE f = 0 then 0 else ckE f) = ckE f
  by_cases c : ckE f = 0
  · rw [if_pos c, c]
  · rw [if_neg c]
structure IC (c : SConic) : Prop where
  r : Vv.In64 c.Radius
  k : IF c.K
/-- the error of a conic. -/
def conE (c : SConic) : Int := if c.Radius = 0 ∨ inR (-10000000) 10000000 c.Radius = false then 2 else if lowB c.K = false then 3 else if inR (-100) 100 c.K.Num = true ∧ c.K.Den ≤ 100 then 0 else 2
theorem conic_opt (k : Nat) (hk : 100000000000000000000 ≤ k) {c : SConic} (h : IC c) : noptics_CheckConic k c = some (conE c) := by
  unfold noptics_CheckConic conE
  by_cases h0 : c.Radius = 0
  · rw [if_pos h0, if_pos (.inl h0)]
  · rw [if_neg h0, sized_any k _ (by decide) (by decide), Option.bind_some]
    cases hr : inR (-10000000) 10000000 c.Radius with
    | false => rw [if_neg (by simp), if_pos (.inr rfl)]
    | true =>
      rw [if_pos rfl, if_neg (show ¬ (c.Radius = 0 ∨ true = false) by simp [h0]), checkFracs_any k hk _ (fun f hf => by rw [List.mem_singleton.1 hf]; exact h.k) (by simp), Option.bind_some, fcE1]
      have ck : ckE c.K = if lowB c.K = true then (if 1000000000 < (c.K.Num.natAbs : Int) then 2 else if 1000000000 < c.K.Den then 2 else 0) else 3 := rfl
      cases hlb : lowB c.K with
      | false =>
        have e3 : ckE c.K = 3 := by rw [ck, hlb, if_neg (by simp)]
        rw [e3, if_neg (by decide), if_pos rfl]
      | true =>
        rw [hlb, if_pos rfl] at ck
        rw [if_neg (show ¬ (true = false) by decide), sized_any k _ (by decide) (by decide), Option.bind_some]
        by_cases hn : inR (-100) 100 c.K.Num = true
        · have hn' := inR_t.1 hn
          rw [if_neg (by omega)] at ck
          by_cases hd : c.K.Den ≤ 100
          · rw [if_neg (by omega)] at ck
            rw [ck, if_pos rfl, if_pos hn, if_neg (by omega), if_pos ⟨hn, hd⟩]
          · by_cases hb : 1000000000 < c.K.Den
            · rw [if_pos hb] at ck
              rw [ck, if_neg (by decide), if_neg (fun hh => hd hh.2)]
            · rw [if_neg hb] at ck
              rw [ck, if_pos rfl, if_pos hn, if_pos (by omega), if_neg (fun hh => hd hh.2)]
        · by_cases hz : ckE c.K = 0
          · rw [if_pos hz, if_neg hn, if_neg (fun hh => hn hh.1)]
          · have e2 : ckE c.K = 2 := by
              rw [ck] at hz ⊢
              split at hz
              · rw [if_pos (by assumption)]
              · split at hz
                · rename_i h1 h2; rw [if_neg h1, if_pos h2]
                · exact absurd rfl hz
            rw [e2, if_neg (by decide), if_neg (fun hh => hn hh.1)]
end Go.Proofs.Ytojmekclegbndaa.Vg
