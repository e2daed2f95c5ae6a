/- Law of fits, second half: which fits are accepted, and the fit itself. -/
import Derived.Test.YtbgdjjnkgjjffaaMf
set_option linter.unusedVariables false
set_option linter.unusedSimpArgs false
namespace Go.Proofs.Ytbgdjjnkgjjffaa.Vg
open Go Go.Proofs.Ytbgdjjnkgjjffaa.Ev Go.Proofs.Ytbgdjjnkgjjffaa.Vv

theorem sv_bd {n : Nat} {t : List (List Int)} {h : List Int} {f : STermFit} (hg : GoodF n t h f) (i : Nat) (hi : i < n) : ∀ (d j : Nat), t.length = j + d → -(d * 1000000000000000) ≤ sv (f.Nums.drop j) (t.drop j) i ∧ sv (f.Nums.drop j) (t.drop j) i ≤ d * 1000000000000000 := by
  have hl := hg.tl
  have hfl := hg.fl
  intro d
  induction d with
  | zero => intro j hj; rw [List.drop_eq_nil_of_le (by omega), show sv [] (t.drop j) i = 0 by cases t.drop j <;> rfl]; simp
  | succ d ih =>
    intro j hj
    have hp := mb (hg.fn j (by omega)) ((hg.tr j (by omega)).all i hi)
    have h1 := ih (j + 1) (by omega)
    rw [sv_drop (f := f.Nums) (t := t) (i := i) (j := j) (by omega) (by omega)]
    omega
theorem lv_bd {n : Nat} {t : List (List Int)} {h : List Int} {f : STermFit} (hg : GoodF n t h f) (i : Nat) (hi : i < n) : -2500000000000000 ≤ lv t h f i ∧ lv t h f i ≤ 2500000000000000 := by
  have h1 := sv_bd hg i hi t.length 0 (by omega)
  have h2 := hg.tl
  have h3 := mb (hg.hh.all i hi) (show -100000000000 ≤ f.Den ∧ f.Den ≤ 100000000000 by have := hg.fd; omega)
  simp only [List.drop_zero] at h1
  unfold lv
  omega
theorem lvL_len (t : List (List Int)) (h : List Int) (f : STermFit) : ∀ (d i : Nat), (lvL t h f i d).length = d
  | 0, _ => rfl
  | d + 1, i => by rw [lvL, List.length_cons, lvL_len t h f d]
theorem lvL_get (t : List (List Int)) (h : List Int) (f : STermFit) : ∀ (d i m : Nat), m < d → (lvL t h f i d).getD m 0 = lv t h f (i + m)
  | 0, _, _, h => by omega
  | d + 1, i, 0, _ => by simp [lvL]
  | d + 1, i, m + 1, hm => by
    rw [lvL, List.getD_cons_succ, lvL_get t h f d (i + 1) m (by omega)]
    congr 1; omega
def left (n : Nat) (t : List (List Int)) (h : List Int) (f : STermFit) : List Int := lvL t h f 0 n
theorem left_row {n : Nat} {t : List (List Int)} {h : List Int} {f : STermFit} (hg : GoodF n t h f) : Row n 2500000000000000 (left n t h f) :=
  ⟨lvL_len t h f n 0, fun i hi => by unfold left; rw [lvL_get t h f n 0 i hi, Nat.zero_add]; exact lv_bd hg i hi⟩
theorem pl0 (k : Nat) {n : Nat} {t : List (List Int)} {h : List Int} {f : STermFit} (hg : GoodF n t h f) (hk : 100 ≤ k) : ∀ (d fuel i : Nat) (y : List Int), n = i + d → d < fuel → y.length = n →
    nprofile_CheckFit_l0_0 k t h f fuel y (i : Int) = some (y.take i ++ lvL t h f i d) := by
  have hl := hg.tl
  have hn := hg.n20
  have hh := hg.hh.len
  intro d
  induction d with
  | zero =>
    intro fuel i y hi hf hy
    obtain ⟨g, rfl⟩ : ∃ g, fuel = g + 1 := ⟨fuel - 1, by omega⟩
    rw [nprofile_CheckFit_l0_0.eq_2, if_neg (by omega), List.take_of_length_le (by omega)]; simp [lvL]
  | succ d ih =>
    intro fuel i y hi hf hy
    obtain ⟨g, rfl⟩ : ∃ g, fuel = g + 1 := ⟨fuel - 1, by omega⟩
    have hp := mb (hg.hh.all i (by omega)) (show -100000000000 ≤ f.Den ∧ f.Den ≤ 100000000000 by have := hg.fd; omega)
    have h1 := (pl1 k hg 0 0 i (by omega) t.length k 0 (y.set i (h.getD i 0 * f.Den)) (by omega) (by omega) (by simpa using hy) (by rw [get_set _ _ (by omega)]; omega) (by rw [get_set _ _ (by omega)]; omega)).1
    rw [get_set _ _ (by omega), List.set_set, List.drop_zero, List.drop_zero, show ((0 : Nat) : Int) = 0 from rfl] at h1
    rw [nprofile_CheckFit_l0_0.eq_2, if_pos (by omega), if_pos (by omega), if_pos (by omega), Int.toNat_natCast, w64_id (n := h.getD i 0 * f.Den) (by omega) (by omega), h1, Option.bind_some, w64_succ (by omega), ih g (i + 1) _ (by omega) (by omega) (by simpa using hy), take_set (by omega), List.append_assoc]
    rfl
theorem rl2 (k : Nat) {n : Nat} {t : List (List Int)} {h : List Int} {f : STermFit} (hg : GoodF n t h f) (hk : 100 ≤ k) (q : Nat) (hq : q < t.length) : ∀ (d fuel i : Nat) (s : Int), n = i + d → d < fuel → -(i * 250000000000000000) ≤ s → s ≤ i * 250000000000000000 →
    nspeculumref05_CheckFit_l2_0 k t h f (q : Int) fuel s (i : Int) = some (s + dotL ((t.getD q default).drop i) (lvL t h f i d)) := by
  have hl := hg.tl
  have hn := hg.n20
  have hh := hg.hh.len
  have hr := hg.tr q hq
  have hrl := hr.len
  intro d
  induction d with
  | zero =>
    intro fuel i s hi hf _ _
    obtain ⟨g, rfl⟩ : ∃ g, fuel = g + 1 := ⟨fuel - 1, by omega⟩
    rw [nspeculumref05_CheckFit_l2_0.eq_2, if_neg (by omega), List.drop_eq_nil_of_le (by omega)]; simp [dotL]
  | succ d ih =>
    intro fuel i s hi hf hs1 hs2
    obtain ⟨g, rfl⟩ : ∃ g, fuel = g + 1 := ⟨fuel - 1, by omega⟩
    have hp := mb (hg.hh.all i (by omega)) (show -100000000000 ≤ f.Den ∧ f.Den ≤ 100000000000 by have := hg.fd; omega)
    have h1 := (pl1 k hg (q : Int) s i (by omega) t.length k 0 (h.set i (h.getD i 0 * f.Den)) (by omega) (by omega) (by simpa using hh) (by rw [get_set _ _ (by omega)]; omega) (by rw [get_set _ _ (by omega)]; omega)).2
    rw [get_set _ _ (by omega), List.drop_zero, List.drop_zero, show ((0 : Nat) : Int) = 0 from rfl] at h1
    have hv := mb (hr.all i (by omega)) (lv_bd hg i (by omega))
    rw [nspeculumref05_CheckFit_l2_0.eq_2, if_pos (by omega), if_pos (by omega), Int.toNat_natCast, Int.toNat_natCast, w64_id (n := h.getD i 0 * f.Den) (by omega) (by omega), h1, Option.bind_some, if_pos (by omega), if_pos (by omega)]
    change nspeculumref05_CheckFit_l2_0 k t h f (q : Int) g (w64 (s + w64 ((t.getD q default).getD i 0 * lv t h f i))) (w64 ((i : Int) + 1)) = _
    rw [w64_id (n := (t.getD q default).getD i 0 * lv t h f i) (by omega) (by omega), w64_id (n := s + (t.getD q default).getD i 0 * lv t h f i) (by omega) (by omega), w64_succ (by omega), ih g (i + 1) _ (by omega) (by omega) (by omega) (by omega),
      drop_get (y := t.getD q default) (i := i) (by omega) 0, lvL, dotL, Int.add_assoc]
def orth (L r : List Int) : Bool := decide (dotL r L = 0)
theorem pl2 (k : Nat) {n : Nat} {t : List (List Int)} {h : List Int} {f : STermFit} (hg : GoodF n t h f) (hk : 100 ≤ k) : ∀ (d fuel j : Nat), t.length = j + d → d < fuel →
    nprofile_CheckFit_l2_0 k t f (left n t h f) fuel (j : Int) = some (sumB ((t.drop j).all (orth (left n t h f)))) := by
  have hl := hg.tl
  intro d
  induction d with
  | zero =>
    intro fuel i h hf
    obtain ⟨g, rfl⟩ : ∃ g, fuel = g + 1 := ⟨fuel - 1, by omega⟩
    rw [nprofile_CheckFit_l2_0.eq_2, if_neg (by omega), List.drop_eq_nil_of_le (by omega)]; rfl
  | succ d ih =>
    intro fuel i h1 hf
    obtain ⟨g, rfl⟩ : ∃ g, fuel = g + 1 := ⟨fuel - 1, by omega⟩
    have hp := (prod_any k ((hg.tr i (by omega)).pr (left_row hg)) (by omega) hg.n20 (by omega) hk).1
    rw [nprofile_CheckFit_l2_0.eq_2, if_pos (by omega), if_pos (by omega), Int.toNat_natCast, hp, Option.bind_some, w64_succ (by omega), ih g (i + 1) (by omega) (by omega), drop_get (y := t) (i := i) (by omega) default, List.all_cons]
    by_cases hx : dotL (t.getD i default) (left n t h f) = 0
    · rw [if_pos hx, show orth (left n t h f) (t.getD i default) = true from decide_eq_true hx]; rfl
    · rw [if_neg hx, show orth (left n t h f) (t.getD i default) = false from decide_eq_false hx]; rfl
theorem rl1 (k : Nat) {n : Nat} {t : List (List Int)} {h : List Int} {f : STermFit} (hg : GoodF n t h f) (hk : 100 ≤ k) : ∀ (d fuel j : Nat), t.length = j + d → d < fuel →
    nspeculumref05_CheckFit_l1_0 k t h f fuel (j : Int) = some (sumB ((t.drop j).all (orth (left n t h f)))) := by
  have hl := hg.tl
  have hn := hg.n20
  intro d
  induction d with
  | zero =>
    intro fuel i h hf
    obtain ⟨g, rfl⟩ : ∃ g, fuel = g + 1 := ⟨fuel - 1, by omega⟩
    rw [nspeculumref05_CheckFit_l1_0.eq_2, if_neg (by omega), List.drop_eq_nil_of_le (by omega)]; rfl
  | succ d ih =>
    intro fuel i h1 hf
    obtain ⟨g, rfl⟩ : ∃ g, fuel = g + 1 := ⟨fuel - 1, by omega⟩
    have hp := rl2 k hg hk i (by omega) n k 0 0 (by omega) (by omega) (by simp) (by simp)
    rw [show ((0 : Nat) : Int) = 0 from rfl, Int.zero_add, List.drop_zero] at hp
    rw [nspeculumref05_CheckFit_l1_0.eq_2, if_pos (by omega), hp, Option.bind_some, w64_succ (by omega), ih g (i + 1) (by omega) (by omega), drop_get (y := t) (i := i) (by omega) default, List.all_cons]
    change (if dotL (t.getD i default) (left n t h f) = 0 then _ else _) = _
    by_cases hx : dotL (t.getD i default) (left n t h f) = 0
    · rw [if_pos hx, show orth (left n t h f) (t.getD i default) = true from decide_eq_true hx]; rfl
    · rw [if_neg hx, show orth (left n t h f) (t.getD i default) = false from decide_eq_false hx]; rfl
def gS (g : Nat) (xs : List Int) : Sum Unit Int := match xs.all (inB 10000000000000) with | true => .inr (gL g xs : Int) | false => .inl ()
theorem rl0 (k : Nat) (t : List (List Int)) (h : List Int) (f : STermFit) (hl : f.Nums.length ≤ 10) (hk : 100000000000000 ≤ k) : ∀ (d fuel i g : Nat), f.Nums.length = i + d → d < fuel → g ≤ 10000000000000 →
    nspeculumref05_CheckFit_l0_0 k t h f fuel (g : Int) (i : Int) = some (gS g (f.Nums.drop i)) := by
  intro d
  induction d with
  | zero =>
    intro fuel i g h hf hg
    obtain ⟨p, rfl⟩ : ∃ p, fuel = p + 1 := ⟨fuel - 1, by omega⟩
    rw [nspeculumref05_CheckFit_l0_0.eq_2, if_neg (by omega), List.drop_eq_nil_of_le (by omega)]; rfl
  | succ d ih =>
    intro fuel i g h1 hf hg
    obtain ⟨p, rfl⟩ : ∃ p, fuel = p + 1 := ⟨fuel - 1, by omega⟩
    rw [nspeculumref05_CheckFit_l0_0.eq_2, if_pos (by omega), if_pos (by omega), within_base, Option.bind_some, Int.toNat_natCast, drop_get (y := f.Nums) (i := i) (by omega) 0]
    unfold gS
    rw [List.all_cons]
    by_cases hb : -10000000000000 ≤ f.Nums.getD i 0 ∧ f.Nums.getD i 0 ≤ 10000000000000
    · rw [decide_eq_true hb, if_pos rfl, show inB 10000000000000 (f.Nums.getD i 0) = true from decide_eq_true hb, gcd_ref k _ _ (by omega) (by omega) hk, Option.bind_some, w64_succ (by omega),
        ih p (i + 1) _ (by omega) (by omega) (gcd_le (by omega) (by omega)), Bool.true_and]
      rfl
    · rw [decide_eq_false hb, show inB 10000000000000 (f.Nums.getD i 0) = false from decide_eq_false hb]; rfl
def cfE (t : List (List Int)) (h : List Int) (f : STermFit) : Int :=
  if f.Nums.length = t.length then (if 1 ≤ f.Den ∧ f.Den ≤ 100000000000 then (match f.Nums.all (inB 10000000000000) with | false => 2 | true => (if 1 < gL f.Den.natAbs f.Nums then 3 else (match t.all (orth (left h.length t h f)) with | true => 0 | false => 22))) else 2) else 10
theorem goodF {t : List (List Int)} {h : List Int} {f : STermFit} (h0 : fE t h = 0) (h1 : f.Nums.length = t.length) (h2 : 1 ≤ f.Den ∧ f.Den ≤ 100000000000) (h3 : f.Nums.all (inB 10000000000000) = true) : GoodF h.length t h f := by
  obtain ⟨e1, e2, e3, e4⟩ := fE_zero h0
  have ha : ∀ j, j < t.length → -10000000000000 ≤ f.Nums.getD j 0 ∧ f.Nums.getD j 0 ≤ 10000000000000 := fun j hj => all_get h3 j (by omega)
  rcases e4 with ⟨a, rfl, ra⟩ | ⟨a, b, rfl, ra, rb⟩
  · refine ⟨e2, e3, by simp, fun j hj => ?_, h1, h2, ha⟩
    simp at hj; subst hj; exact ra
  · refine ⟨e2, e3, by simp, fun j hj => ?_, h1, h2, ha⟩
    simp at hj
    rcases j with _ | j
    · exact ra
    · obtain rfl : j = 0 := by omega
      exact rb
theorem checkFit_any (k : Nat) (t : List (List Int)) (h : List Int) (f : STermFit) (h0 : fE t h = 0) (hl : f.Nums.length ≤ 4) (hk : 100000000000000 ≤ k) :
    nprofile_CheckFit k t h f = some (cfE t h f) ∧ nspeculumref05_CheckFit k t h f = some (cfE t h f) := by
  obtain ⟨e1, e2, e3, e4⟩ := fE_zero h0
  have htl : t.length ≤ 2 := by rcases e4 with ⟨a, rfl, _⟩ | ⟨a, b, rfl, _⟩ <;> simp
  unfold nprofile_CheckFit nspeculumref05_CheckFit cfE
  rw [fitted_any k t h (by omega) (by omega), Option.bind_some, if_pos h0]
  by_cases h1 : f.Nums.length = t.length
  · have h1i : (f.Nums.length : Int) = (t.length : Int) := by omega
    rw [if_pos h1i, if_pos h1i, if_pos h1, within_prof, within_base, Option.bind_some, Option.bind_some]
    by_cases h2 : 1 ≤ f.Den ∧ f.Den ≤ 100000000000
    · rw [if_pos h2, if_pos (decide_eq_true h2), if_pos (decide_eq_true h2), small_any k _ (by omega) _ (by omega) (by omega), Option.bind_some]
      have hr := rl0 k t h f (by omega) hk f.Nums.length k 0 f.Den.natAbs (by omega) (by omega) (by omega)
      rw [show ((f.Den.natAbs : Nat) : Int) = f.Den by omega, List.drop_zero, show ((0 : Nat) : Int) = 0 from rfl] at hr
      unfold gS at hr
      rw [hr, Option.bind_some]
      cases h3 : f.Nums.all (inB 10000000000000) with
      | false => exact ⟨rfl, rfl⟩
      | true =>
        have hg := goodF h0 h1 h2 h3
        simp only [if_true]
        have hd := div_any k ([f.Den] ++ f.Nums) (by simp; omega) hk (fun i hi => by
          rcases i with _ | i
          · simp; omega
          · have := all_get h3 i (by simp at hi; omega)
            simp only [List.cons_append, List.nil_append, List.getD_cons_succ]; omega)
        have e5 : gL 0 ([f.Den] ++ f.Nums) = gL f.Den.natAbs f.Nums := by simp [gL]
        rw [if_pos (by simp; omega), hd, e5, Option.bind_some]
        have hpos : 0 < gL f.Den.natAbs f.Nums := Nat.pos_of_dvd_of_pos (gL_dvd0 _ _) (by omega)
        by_cases hgt : 1 < gL f.Den.natAbs f.Nums
        · rw [if_pos (by omega), if_pos hgt, if_neg (by omega)]; exact ⟨rfl, rfl⟩
        · rw [if_neg (by omega), if_neg hgt, if_pos (by omega), if_pos (by omega)]
          have h5 := pl0 k hg (by omega) h.length k 0 (List.replicate (h.length : Int).toNat 0) (by omega) (by omega) (by simp)
          rw [List.take_zero, List.nil_append, show ((0 : Nat) : Int) = 0 from rfl] at h5
          have h6 := pl2 k hg (by omega) t.length k 0 (by omega) (by omega)
          have h7 := rl1 k hg (by omega) t.length k 0 (by omega) (by omega)
          rw [List.drop_zero, show ((0 : Nat) : Int) = 0 from rfl] at h6 h7
          unfold left at h6
          rw [h5, Option.bind_some, h6, h7, Option.bind_some, Option.bind_some]
          unfold left
          cases t.all (orth (lvL t h f 0 h.length)) <;> exact ⟨rfl, rfl⟩
    · rw [if_neg h2, decide_eq_false h2]; exact ⟨rfl, rfl⟩
  · have h1i : ¬ (f.Nums.length : Int) = (t.length : Int) := by omega
    rw [if_neg h1i, if_neg h1i, if_neg h1]; exact ⟨rfl, rfl⟩
end Go.Proofs.Ytbgdjjnkgjjffaa.Vg
