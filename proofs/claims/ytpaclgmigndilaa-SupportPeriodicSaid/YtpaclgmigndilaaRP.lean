/- SupportPeriodic, plain. -/
import Derived.Test.YtpaclgmigndilaaR1
import Derived.Test.YtpaclgmigndilaaTR
set_option linter.unusedVariables false
set_option linter.unusedSimpArgs false
namespace Go.Proofs.Ytpaclgmigndilaa.Vg
open Go Go.Proofs.Ytpaclgmigndilaa.Ev Go.Proofs.Ytpaclgmigndilaa.Vv
def sumF (f : Nat → Int) : Nat → Int
  | 0 => 0
  | n + 1 => sumF f n + f n
theorem sumF_bd {f : Nat → Int} {B : Int} : ∀ n : Nat, (∀ i, i < n → -B ≤ f i ∧ f i ≤ B) → -((n : Int) * B) ≤ sumF f n ∧ sumF f n ≤ (n : Int) * B
  | 0, _ => by simp [sumF]
  | n + 1, h => by
    have ih := sumF_bd n (fun i hi => h i (by omega))
    have hn := h n (by omega)
    have e : ((n + 1 : Nat) : Int) * B = (n : Int) * B + B := by rw [Int.natCast_add, Int.add_mul]; simp
    simp only [sumF]; omega
/- ceilings. -/
def ceilT (a b : Int) : Int := if 0 < a.tmod b then a.tdiv b + 1 else a.tdiv b
theorem ceilT_bd {a b : Int} (ha : a.natAbs ≤ 1000000000000000) : -1000000000000000 ≤ ceilT a b ∧ ceilT a b ≤ 1000000000000001 := by
  have h := tdiv_le a b
  unfold ceilT
  split <;> omega
theorem ceil_r (k : Nat) {a b : Int} (ha : a.natAbs ≤ 1000000000000000) (hb : 1 ≤ b) : nspeculumbase_Ceil k a b = some (ceilT a b) := by
  have h := tdiv_le a b
  unfold nspeculumbase_Ceil nspeculumbase_Floor ceilT
  rw [w64_id (n := 0 - a) (by omega) (by omega), show (0 : Int) - a = -a by omega, Int.neg_tmod, Int.neg_tdiv, if_pos (by omega)]
  by_cases c : 0 < a.tmod b
  · rw [if_pos (by omega), if_pos c, w64_id (n := -(a.tdiv b)) (by omega) (by omega), w64_id (n := -(a.tdiv b) - 1) (by omega) (by omega), Option.bind_some, w64_id (by omega) (by omega)]; congr 1; omega
  · rw [if_neg (by omega), if_neg c, w64_id (n := -(a.tdiv b)) (by omega) (by omega), Option.bind_some, w64_id (by omega) (by omega)]; congr 1; omega
theorem round_p (k : Nat) {a b : Int} (ha : a.natAbs ≤ 1000000000000000) (hb : 1 ≤ b) : ∃ lo, nsupport_rounded k a b = some ⟨lo, ceilT a b⟩ := by
  have h := tdiv_le a b
  unfold nsupport_rounded ceilT
  rw [if_pos (show b ≠ 0 by omega), w64_id (n := a.tdiv b) (by omega) (by omega)]
  by_cases c1 : a.tmod b < 0
  · rw [if_pos c1, if_neg (by omega)]; exact ⟨_, rfl⟩
  · rw [if_neg c1]
    by_cases c2 : 0 < a.tmod b
    · rw [if_pos c2, if_pos c2, w64_id (n := a.tdiv b + 1) (by omega) (by omega)]; exact ⟨_, rfl⟩
    · rw [if_neg c2, if_neg c2]; exact ⟨_, rfl⟩
/- errors in range. -/
def errB (x : Int) : Bool := decide (0 ≤ x ∧ x ≤ 1000000)
theorem errs_p (k : Nat) (l : List Int) (hl : l.length ≤ 1000) : ∀ (d fuel i : Nat), l.length = i + d → d < fuel → nsupport_areWithin_l0_0 k 0 1000000 l fuel (i : Int) = some (sumB ((l.drop i).all errB)) := by
  intro d
  induction d with
  | zero =>
    intro fuel i h hf
    obtain ⟨g, rfl⟩ : ∃ g, fuel = g + 1 := ⟨fuel - 1, by omega⟩
    rw [nsupport_areWithin_l0_0.eq_2, if_neg (by omega), List.drop_eq_nil_of_le (by omega)]; rfl
  | succ d ih =>
    intro fuel i h hf
    obtain ⟨g, rfl⟩ : ∃ g, fuel = g + 1 := ⟨fuel - 1, by omega⟩
    rw [nsupport_areWithin_l0_0.eq_2, if_pos (by omega), if_pos (by omega), Int.toNat_natCast, w64_succ (by omega), ih g (i + 1) (by omega) (by omega), drop_get (y := l) (i := i) (by omega) 0, List.all_cons]
    generalize l.getD i 0 = x
    unfold errB
    by_cases c1 : x < 0
    · rw [if_pos c1, decide_eq_false (by omega), Bool.false_and]; rfl
    · rw [if_neg c1]
      by_cases c2 : 1000000 < x
      · rw [if_pos c2, decide_eq_false (by omega), Bool.false_and]; rfl
      · rw [if_neg c2, decide_eq_true (by omega), Bool.true_and]
theorem areW (k : Nat) (hk : 1000 < k) (l : List Int) (hl : l.length ≤ 100) : nsupport_areWithin k 0 1000000 l = some (l.all errB) := by
  have h := errs_p k l (by omega) l.length k 0 (by omega) (by omega)
  rw [List.drop_zero] at h
  unfold nsupport_areWithin
  rw [show nsupport_areWithin_l0_0 k 0 1000000 l k 0 = _ from h, Option.bind_some]
  cases l.all errB <;> rfl
theorem errs_r (k : Nat) (a0 : List SGearPair) (l : List Int) (hl : l.length ≤ 1000) : ∀ (d fuel i : Nat), l.length = i + d → d < fuel → nspeculumref07_Periodic_l0_0 k a0 l fuel (i : Int) = some (sumB ((l.drop i).all errB)) := by
  intro d
  induction d with
  | zero =>
    intro fuel i h hf
    obtain ⟨g, rfl⟩ : ∃ g, fuel = g + 1 := ⟨fuel - 1, by omega⟩
    rw [nspeculumref07_Periodic_l0_0.eq_2, if_neg (by omega), List.drop_eq_nil_of_le (by omega)]; rfl
  | succ d ih =>
    intro fuel i h hf
    obtain ⟨g, rfl⟩ : ∃ g, fuel = g + 1 := ⟨fuel - 1, by omega⟩
    rw [nspeculumref07_Periodic_l0_0.eq_2, if_pos (by omega), if_pos (by omega), Int.toNat_natCast, w64_succ (by omega), ih g (i + 1) (by omega) (by omega), drop_get (y := l) (i := i) (by omega) 0, List.all_cons]
    generalize l.getD i 0 = x
    unfold errB nspeculumbase_Within
    by_cases c1 : 0 ≤ x
    · rw [if_pos c1, Option.bind_some]
      by_cases c2 : x ≤ 1000000
      · rw [if_pos (decide_eq_true c2), decide_eq_true ⟨c1, c2⟩, Bool.true_and]
      · rw [if_neg (by simp [c2]), decide_eq_false (by omega), Bool.false_and]; rfl
    · rw [if_neg c1, Option.bind_some, if_neg (by simp), decide_eq_false (by omega), Bool.false_and]; rfl
/- a list is reversed. -/
theorem getD_set {α : Type} [Inhabited α] {y : List α} {i j : Nat} {v : α} (hi : i < y.length) : (y.set i v).getD j default = if j = i then v else y.getD j default := by
  rw [List.getD_eq_getElem?_getD, List.getD_eq_getElem?_getD, List.getElem?_set]
  by_cases c : i = j
  · rw [if_pos c, if_pos hi, if_pos c.symm]; rfl
  · rw [if_neg c, if_neg (fun h => c h.symm)]
theorem rev_l (k : Nat) (a0 : List SGearPair) (a1 : List Int) (r1 : Int) (r2 : Bool) (l : List SGearPair) (hl : l.length ≤ 1000) : ∀ (d fuel i : Nat) (y : List SGearPair) (x3 : Int), l.length ≤ i + i + d → d < fuel → i ≤ l.length → x3 = (l.length : Int) - 1 - i → y.length = l.length →
    (∀ j, j < l.length → y.getD j default = if j < i ∨ l.length - 1 - i < j then l.getD (l.length - 1 - j) default else l.getD j default) →
    nsupport_Periodic_i91_l0_0 k a0 a1 r1 r2 l fuel y (i : Int) x3 = some l.reverse := by
  have fin : ∀ (i : Nat) (y : List SGearPair), l.length ≤ i + i + 1 → i ≤ l.length → y.length = l.length → (∀ j, j < l.length → y.getD j default = if j < i ∨ l.length - 1 - i < j then l.getD (l.length - 1 - j) default else l.getD j default) → y = l.reverse := by
    intro i y h h2 hy hj
    apply List.ext_getElem (by rw [hy, List.length_reverse])
    intro j h1 h3
    have := hj j (by omega)
    rw [List.getElem_reverse]
    rw [List.getD_eq_getElem?_getD, List.getElem?_eq_getElem h1, Option.getD_some] at this
    rw [this]
    have e : l.getD (l.length - 1 - j) default = l[l.length - 1 - j]'(by omega) := by
      rw [List.getD_eq_getElem?_getD, List.getElem?_eq_getElem (by omega), Option.getD_some]
    by_cases c : j < i ∨ l.length - 1 - i < j
    · rw [if_pos c, e]
    · rw [if_neg c, ← e, show l.length - 1 - j = j by omega]
  intro d
  induction d with
  | zero =>
    intro fuel i y x3 h hf hi hx hy hj
    obtain ⟨g, rfl⟩ : ∃ g, fuel = g + 1 := ⟨fuel - 1, by omega⟩
    rw [nsupport_Periodic_i91_l0_0.eq_2, if_neg (by omega), fin i y (by omega) hi hy hj]
  | succ d ih =>
    intro fuel i y x3 h hf hi hx hy hj
    obtain ⟨g, rfl⟩ : ∃ g, fuel = g + 1 := ⟨fuel - 1, by omega⟩
    rw [nsupport_Periodic_i91_l0_0.eq_2]
    by_cases c : (i : Int) < x3
    · obtain ⟨b, hb⟩ : ∃ b : Nat, x3 = (b : Int) := ⟨x3.toNat, by omega⟩
      subst hb
      rw [if_pos c, if_pos (by omega), if_pos (by omega), if_pos (by rw [List.length_set]; omega), if_pos (by omega), Int.toNat_natCast, Int.toNat_natCast, w64_succ (by omega), w64_id (n := (b : Int) - 1) (by omega) (by omega)]
      refine ih g (i + 1) _ _ (by omega) (by omega) (by omega) (by omega) (by simp only [List.length_set]; omega) (fun j hjl => ?_)
      rw [getD_set (by rw [List.length_set]; omega), getD_set (by omega)]
      have hb2 : b = l.length - 1 - i := by omega
      by_cases c1 : j = b
      · rw [if_pos c1, hj i (by omega), if_neg (by omega), if_pos (by omega)]; congr 1; omega
      · rw [if_neg c1]
        by_cases c2 : j = i
        · rw [if_pos c2, hj b (by omega), if_neg (by omega), if_pos (by omega)]; congr 1; omega
        · rw [if_neg c2, hj j hjl]
          by_cases c3 : j < i ∨ l.length - 1 - i < j
          · rw [if_pos c3, if_pos (by omega)]
          · rw [if_neg c3, if_neg (by omega)]
    · rw [if_neg c, fin i y (by omega) hi hy hj]
theorem reversed (k : Nat) (hk : 2000 < k) (a0 : List SGearPair) (a1 : List Int) (r1 : Int) (r2 : Bool) (l : List SGearPair) (hl : l.length ≤ 1000) : nsupport_Periodic_i91_l0_0 k a0 a1 r1 r2 l k l 0 (w64 (((l.length : Nat) : Int) - 1)) = some l.reverse := by
  rw [w64_id (by omega) (by omega)]
  exact rev_l k a0 a1 r1 r2 l hl l.length k 0 l _ (by omega) (by omega) (by omega) (by omega) rfl (fun j hj => by rw [if_neg (by omega)])
theorem trE_rev (l : List SGearPair) : trE l.reverse = trE l := by
  unfold trE; rw [List.length_reverse, List.all_reverse]
/- the sum of the errors. -/
theorem prods_pre : ∀ (gs : List SGearPair) (f : SFrac) (y z : List SFrac), prods f gs y = some z → ∃ t, z = y ++ t
  | [], f, y, z, h => ⟨[], by simp only [prods, Option.some.injEq] at h; simp [h]⟩
  | g :: gs, f, y, z, h => by
    simp only [prods] at h
    split at h
    · obtain ⟨t, ht⟩ := prods_pre gs _ _ z h
      exact ⟨_, by rw [ht, List.append_assoc]⟩
    · cases h
def tmP (a : List Int) (z : List SFrac) (n j : Nat) : Int := ceilT (a.getD (n - 1 - j) 0 * (z.getD j default).Num) (z.getD j default).Den
theorem mem_getD {α : Type} {y : List α} {i : Nat} (h : i < y.length) (d : α) : y.getD i d ∈ y := by
  rw [List.getD_eq_getElem?_getD, List.getElem?_eq_getElem h]; exact List.getElem_mem h
theorem num_bd {a : List Int} (ha : ∀ x ∈ a, errB x = true) {f : SFrac} (hf : Ok f) {i : Nat} (hi : i < a.length) : (a.getD i 0 * f.Num).natAbs ≤ 1000000000000000 ∧ 1 ≤ f.Den := by
  have h1 := of_decide_eq_true (ha _ (mem_getD hi 0))
  have h2 := hf.num
  refine ⟨?_, hf.den⟩
  rw [Int.natAbs_mul]
  exact Nat.mul_le_mul (show (a.getD i 0).natAbs ≤ 1000000 by omega) (show f.Num.natAbs ≤ 1000000000 by omega)
theorem sum_p (k : Nat) (l : List SGearPair) (a : List Int) (hal : a.length = l.length) (hl : l.length ≤ 12) (ha : ∀ x ∈ a, errB x = true) (z : List SFrac) (hz : z.length = l.length + 1) (hok : ∀ f ∈ z, Ok f) (r2 : Int) : ∀ (d fuel i : Nat) (s : Int), l.length = i + d → d < fuel → s.natAbs ≤ i * 1000000000000001 →
    nsupport_Periodic_l0_0 k l a (z, r2) fuel s (i : Int) = some (s + sumF (tmP a z l.length) d) := by
  intro d
  induction d with
  | zero =>
    intro fuel i s h hf hs
    obtain ⟨g, rfl⟩ : ∃ g, fuel = g + 1 := ⟨fuel - 1, by omega⟩
    rw [nsupport_Periodic_l0_0.eq_2, if_neg (by omega)]; simp [sumF]
  | succ d ih =>
    intro fuel i s h hf hs
    obtain ⟨g, rfl⟩ : ∃ g, fuel = g + 1 := ⟨fuel - 1, by omega⟩
    have hi2 : l.length - 1 - i = d := by omega
    have ew : w64 (w64 ((l.length : Int) - 1) - (i : Int)) = (d : Int) := by
      rw [w64_id (n := (l.length : Int) - 1) (by omega) (by omega), w64_id (by omega) (by omega)]; omega
    have okf := hok _ (mem_getD (y := z) (i := d) (by omega) default)
    obtain ⟨b1, b2⟩ := num_bd ha okf (i := i) (by omega)
    obtain ⟨lo, hr⟩ := round_p k b1 b2
    have b3 := ceilT_bd (b := (z.getD d default).Den) b1
    have et : tmP a z l.length d = ceilT (a.getD i 0 * (z.getD d default).Num) (z.getD d default).Den := by
      unfold tmP; rw [show l.length - 1 - d = i by omega]
    rw [nsupport_Periodic_l0_0.eq_2, if_pos (by omega), if_pos (by omega), ew]
    dsimp only
    rw [if_pos (by omega), Int.toNat_natCast, Int.toNat_natCast, w64_id (n := a.getD i 0 * (z.getD d default).Num) (by omega) (by omega), hr, Option.bind_some]
    dsimp only
    rw [w64_succ (by omega), w64_id (by omega) (by omega), ih g (i + 1) _ (by omega) (by omega) (by omega)]
    simp only [sumF]
    rw [et]; congr 1; omega
theorem sum_r (k : Nat) (hk : 18446744073709551617 ≤ k) (l : List SGearPair) (a : List Int) (hal : a.length = l.length) (hl : l.length ≤ 12) (ht : ∀ g ∈ l, teeth g) (ha : ∀ x ∈ a, errB x = true) : ∀ (d fuel j : Nat) (y : List SFrac) (s x9 : Int), l.length = j + d → d < fuel → y.length = j + 1 → (∀ f ∈ y, Ok f) → s.natAbs ≤ j * 1000000000000001 → x9 = (l.length : Int) - 1 - j →
    nspeculumref07_Periodic_l1_0 k l a fuel (y.getD j default).Num (y.getD j default).Den s x9 = some (match prods (y.getD j default) (l.reverse.drop j) y with | some z => .inr (s + (sumF (tmP a z l.length) l.length - sumF (tmP a z l.length) j)) | none => .inl ()) := by
  intro d
  induction d with
  | zero =>
    intro fuel j y s x9 h hf hy hok hs hx
    obtain ⟨g, rfl⟩ : ∃ g, fuel = g + 1 := ⟨fuel - 1, by omega⟩
    rw [nspeculumref07_Periodic_l1_0.eq_2, if_neg (by omega), List.drop_eq_nil_of_le (by rw [List.length_reverse]; omega)]
    simp only [prods]
    rw [show j = l.length by omega]; congr 2; omega
  | succ d ih =>
    intro fuel j y s x9 h hf hy hok hs hx
    obtain ⟨g, rfl⟩ : ∃ g, fuel = g + 1 := ⟨fuel - 1, by omega⟩
    subst hx
    have hj : j < l.reverse.length := by rw [List.length_reverse]; omega
    have e9 : (l.length : Int) - 1 - j = ((l.length - 1 - j : Nat) : Int) := by omega
    have hrev : l.reverse.getD j default = l.getD (l.length - 1 - j) default := by
      rw [List.getD_eq_getElem?_getD, List.getElem?_eq_getElem hj, List.getElem_reverse, List.getD_eq_getElem?_getD, List.getElem?_eq_getElem (by omega)]
    have hd : l.reverse.drop j = l.getD (l.length - 1 - j) default :: l.reverse.drop (j + 1) := by
      rw [drop_get hj default, hrev]
    have okf := hok _ (mem_getD (y := y) (i := j) (by omega) default)
    obtain ⟨b1, b2⟩ := num_bd ha okf (i := l.length - 1 - j) (by omega)
    have b3 := ceilT_bd (b := (y.getD j default).Den) b1
    have ht1 := ht _ (mem_getD (y := l) (i := l.length - 1 - j) (by omega) default)
    obtain ⟨_, r2⟩ := ratio_any k hk _ ht1
    obtain ⟨_, m2⟩ := mul_both k hk _ _ (rat_ok ht1) okf
    have hcomm : mulS (ratF (l.getD (l.length - 1 - j) default)) (y.getD j default) = mulS (y.getD j default) (ratF (l.getD (l.length - 1 - j) default)) := by
      unfold mulS; rw [Int.mul_comm, Int.mul_comm (ratF _).Den]
    rw [nspeculumref07_Periodic_l1_0.eq_2, if_pos (by omega), if_pos (by omega), e9, Int.toNat_natCast, w64_id (n := a.getD (l.length - 1 - j) 0 * (y.getD j default).Num) (by omega) (by omega), ceil_r k b1 b2, Option.bind_some, if_pos (by omega), r2, Option.bind_some, show (⟨(y.getD j default).Num, (y.getD j default).Den⟩ : SFrac) = y.getD j default from rfl, m2, Option.bind_some, hcomm, hd]
    simp only [prods]
    by_cases h0 : (mulS (y.getD j default) (ratF (l.getD (l.length - 1 - j) default))).2 = 0
    · rw [if_pos h0, if_pos h0]
      have hi := ih g (j + 1) (y ++ [(mulS (y.getD j default) (ratF (l.getD (l.length - 1 - j) default))).1]) (s + ceilT (a.getD (l.length - 1 - j) 0 * (y.getD j default).Num) (y.getD j default).Den) ((l.length : Int) - 1 - ((j + 1 : Nat) : Int)) (by omega) (by omega) (by simp; omega) (fun f hf => by
        rcases List.mem_append.1 hf with hf | hf
        · exact hok f hf
        · rw [List.mem_singleton.1 hf]; exact (lowS_ok h0).1) (by omega) rfl
      rw [show (y ++ [(mulS (y.getD j default) (ratF (l.getD (l.length - 1 - j) default))).1]).getD (j + 1) default = (mulS (y.getD j default) (ratF (l.getD (l.length - 1 - j) default))).1 by
        rw [← hy, List.getD_eq_getElem?_getD, List.getElem?_append_right (Nat.le_refl _)]; simp] at hi
      rw [w64_id (n := s + _) (by omega) (by omega), w64_id (n := ((l.length - 1 - j : Nat) : Int) - 1) (by omega) (by omega), show ((l.length - 1 - j : Nat) : Int) - 1 = (l.length : Int) - 1 - ((j + 1 : Nat) : Int) by omega, hi]
      cases hp : prods (mulS (y.getD j default) (ratF (l.getD (l.length - 1 - j) default))).1 (l.reverse.drop (j + 1)) (y ++ [(mulS (y.getD j default) (ratF (l.getD (l.length - 1 - j) default))).1]) with
      | none => rfl
      | some z =>
        obtain ⟨t, rfl⟩ := prods_pre _ _ _ _ hp
        have et : tmP a (y ++ [(mulS (y.getD j default) (ratF (l.getD (l.length - 1 - j) default))).1] ++ t) l.length j = ceilT (a.getD (l.length - 1 - j) 0 * (y.getD j default).Num) (y.getD j default).Den := by
          unfold tmP
          rw [show (y ++ [(mulS (y.getD j default) (ratF (l.getD (l.length - 1 - j) default))).1] ++ t).getD j default = y.getD j default by
            rw [List.append_assoc, List.getD_eq_getElem?_getD, List.getElem?_append_left (by omega), ← List.getD_eq_getElem?_getD]]
        dsimp only
        rw [show sumF (tmP a (y ++ [(mulS (y.getD j default) (ratF (l.getD (l.length - 1 - j) default))).1] ++ t) l.length) (j + 1) = sumF (tmP a (y ++ [(mulS (y.getD j default) (ratF (l.getD (l.length - 1 - j) default))).1] ++ t) l.length) j + tmP a (y ++ [(mulS (y.getD j default) (ratF (l.getD (l.length - 1 - j) default))).1] ++ t) l.length j from rfl, et]
        congr 2; omega
    · rw [if_neg h0, if_neg h0]
/- both, and the law. -/
def perS (l : List SGearPair) (a : List Int) : Int × Int := if a.length = l.length then (match a.all errB with
  | false => (0, 2)
  | true => match begs l.reverse with
    | none => (0, 8)
    | some z => (sumF (tmP a z l.length) l.length, 0)) else (0, 10)
theorem per_p (k : Nat) (hk : 18446744073709551617 ≤ k) (l : List SGearPair) (a : List Int) (hl : l.length ≤ 15) (ha : a.length ≤ 20) : nsupport_Periodic k l a = some (if trE l = 0 then perS l a else (0, trE l)) := by
  unfold nsupport_Periodic
  rw [(train_any k (by omega) l hl).1, Option.bind_some]
  by_cases h0 : trE l = 0
  · rw [if_pos h0, if_pos h0]
    unfold perS
    by_cases c : a.length = l.length
    · obtain ⟨h12, hte⟩ := trE_zero h0
      rw [if_pos (by omega), if_pos c, areW k (by omega) a (by omega), Option.bind_some]
      cases hw : a.all errB with
      | false => rfl
      | true =>
        have hrev := reversed k (by omega) l a (trE l) true l (by omega)
        have hcl : nslices_Clone_api_GearPair_api_GearPair_ k l = some l := by
          unfold nslices_Clone_api_GearPair_api_GearPair_; rw [if_pos (by simp; omega)]; rfl
        obtain ⟨b1, _, b3⟩ := begs_any k hk l.reverse (by rw [trE_rev]; exact h0)
        rw [if_pos rfl, hcl, Option.bind_some, hrev, Option.bind_some, if_pos (by rw [List.length_reverse]), b1, Option.bind_some]
        cases hb : begs l.reverse with
        | none => rfl
        | some z =>
          obtain ⟨z1, z2⟩ := b3 z hb
          rw [List.length_reverse] at z1
          have hs := sum_p k l a c h12 (fun x hx => List.all_eq_true.1 hw x hx) z z1 z2 0 l.length k 0 0 (by omega) (by omega) (by omega)
          dsimp only
          rw [if_pos rfl, show nsupport_Periodic_l0_0 k l a (z, 0) k 0 0 = _ from hs, Option.bind_some, Int.zero_add]
    · rw [if_neg (by omega), if_neg c]
  · rw [if_neg h0, if_neg h0]
theorem per_r (k : Nat) (hk : 18446744073709551617 ≤ k) (l : List SGearPair) (a : List Int) (h0 : trE l = 0) (ha : a.length ≤ 20) : nspeculumref07_Periodic k l a = some (perS l a) := by
  obtain ⟨h12, hte⟩ := trE_zero h0
  unfold nspeculumref07_Periodic perS
  by_cases c : a.length = l.length
  · have he := errs_r k l a (by omega) a.length k 0 (by omega) (by omega)
    rw [List.drop_zero] at he
    rw [if_pos (by omega), if_pos c, show nspeculumref07_Periodic_l0_0 k l a k 0 = _ from he, Option.bind_some]
    cases hw : a.all errB with
    | false => rfl
    | true =>
      have hs := sum_r k hk l a c h12 hte (fun x hx => List.all_eq_true.1 hw x hx) l.length k 0 [⟨1, 1⟩] 0 (w64 ((l.length : Int) - 1)) (by omega) (by omega) rfl (fun f hf => by rw [List.mem_singleton.1 hf]; exact one_ok) (by omega) (by rw [w64_id (by omega) (by omega)]; omega)
      rw [List.drop_zero] at hs
      dsimp only [sumB]
      rw [show nspeculumref07_Periodic_l1_0 k l a k 1 1 0 (w64 ((l.length : Int) - 1)) = _ from hs, Option.bind_some, show ([⟨1, 1⟩] : List SFrac).getD 0 default = ⟨1, 1⟩ from rfl]
      unfold begs
      cases prods ⟨1, 1⟩ l.reverse [⟨1, 1⟩] with
      | none => rfl
      | some z => dsimp only; congr 2; simp only [sumF]; omega
  · rw [if_neg (by omega), if_neg c]
theorem begs_one {l : List SGearPair} {z : List SFrac} (hl : 0 < l.length) (h : begs l.reverse = some z) : begs [l.getD (l.length - 1) default] = some [⟨1, 1⟩, (mulS ⟨1, 1⟩ (ratF (l.getD (l.length - 1) default))).1] := by
  have hj : 0 < l.reverse.length := by rw [List.length_reverse]; omega
  have e : l.reverse = l.getD (l.length - 1) default :: l.reverse.drop 1 := by
    have := drop_get (y := l.reverse) (i := 0) hj default
    rw [List.drop_zero] at this
    rw [show l.reverse.getD 0 default = l.getD (l.length - 1) default by
      rw [List.getD_eq_getElem?_getD, List.getElem?_eq_getElem hj, List.getElem_reverse, List.getD_eq_getElem?_getD, List.getElem?_eq_getElem (by omega)]; simp] at this
    exact this
  rw [e] at h
  unfold begs at *
  simp only [prods] at *
  by_cases c : (mulS ⟨1, 1⟩ (ratF (l.getD (l.length - 1) default))).2 = 0
  · rw [if_pos c]; rfl
  · rw [if_neg c] at h; cases h
theorem short_any (k : Nat) (l : List SGearPair) : ∃ b, nspeculumlaw07_short k l = some b ∧ (b = true → l.length ≤ 15) := by
  unfold nspeculumlaw07_short
  by_cases c1 : (l.length : Int) ≤ 5
  · rw [if_pos c1]; exact ⟨_, rfl, fun _ => by omega⟩
  · rw [if_neg c1]
    by_cases c2 : 12 < (l.length : Int)
    · rw [if_pos c2]; exact ⟨_, rfl, fun h => by have := of_decide_eq_true h; omega⟩
    · rw [if_neg c2]; exact ⟨_, rfl, fun h => by cases h⟩
theorem law_periodic (k : Nat) (hk : k = 100000000000000000000) (l : List SGearPair) (a : List Int) : nspeculumlaw07_SupportPeriodic k l a = some true := by
  unfold nspeculumlaw07_SupportPeriodic
  obtain ⟨b, hb, hb2⟩ := short_any k l
  rw [show nawake k = some true from rfl, Option.bind_some, if_pos rfl, hb, Option.bind_some]
  cases b with
  | false => rfl
  | true =>
    have hl := hb2 rfl
    rw [if_pos rfl]
    by_cases ca : 20 < (a.length : Int)
    · rw [if_pos ca]
    · have ht : ∀ y : List SGearPair, y.length ≤ 15 → nspeculumlaw07_train k y = some y := fun y hy => by unfold nspeculumlaw07_train; rw [if_pos (by simp; omega)]; rfl
      have hc : nspeculumbase_CopyInts k a = some a := by unfold nspeculumbase_CopyInts; rw [if_pos (by simp; omega)]; rfl
      rw [if_neg ca, ht l hl, Option.bind_some, hc, Option.bind_some, per_p k (by omega) l a hl (by omega), Option.bind_some, (train_any k (by omega) l hl).2, Option.bind_some]
      by_cases h0 : trE l = 0
      · rw [if_pos h0, if_pos h0, per_r k (by omega) l a h0 (by omega), Option.bind_some, if_pos rfl, if_pos rfl]
        by_cases c0 : (perS l a).2 = 0
        · rw [if_pos c0]
          by_cases cl : (l.length : Int) = 0
          · rw [if_pos cl]
          · obtain ⟨h12, hte⟩ := trE_zero h0
            have key : a.length = l.length ∧ a.all errB = true ∧ ∃ z, begs l.reverse = some z := by
              unfold perS at c0
              split at c0
              · rename_i hal
                cases hw : a.all errB with
                | false => rw [hw] at c0; simp at c0
                | true =>
                  rw [hw] at c0
                  cases hbz : begs l.reverse with
                  | none => rw [hbz] at c0; simp at c0
                  | some z => exact ⟨hal, rfl, z, rfl⟩
              · simp at c0
            obtain ⟨hal, hw, z, hz⟩ := key
            have hlast := mem_getD (y := l) (i := l.length - 1) (by omega) default
            have halast := mem_getD (y := a) (i := l.length - 1) (by omega) 0
            have hsl : sl l (l.length - 1) l.length = [l.getD (l.length - 1) default] := by
              unfold sl
              rw [show l.length - (l.length - 1) = 1 by omega, List.drop_eq_getElem_cons (show l.length - 1 < l.length by omega), List.getD_eq_getElem?_getD, List.getElem?_eq_getElem (show l.length - 1 < l.length by omega)]; rfl
            have e1 : w64 ((l.length : Int) - 1) = ((l.length - 1 : Nat) : Int) := by rw [w64_id (by omega) (by omega)]; omega
            have e2 : w64 ((a.length : Int) - 1) = ((l.length - 1 : Nat) : Int) := by rw [w64_id (by omega) (by omega)]; omega
            have hg := hte _ hlast
            have hone : trE [l.getD (l.length - 1) default] = 0 := by rw [trE_one, if_pos hg]
            have herr := of_decide_eq_true (List.all_eq_true.1 hw _ halast)
            have hps : perS [l.getD (l.length - 1) default] [a.getD (l.length - 1) 0] = (a.getD (l.length - 1) 0, 0) := by
              unfold perS
              rw [if_pos (show [a.getD (l.length - 1) 0].length = [l.getD (l.length - 1) default].length from rfl), show [l.getD (l.length - 1) default].reverse = [l.getD (l.length - 1) default] from rfl, begs_one (by omega) hz]
              rw [show ([a.getD (l.length - 1) 0] : List Int).all errB = true by simp only [List.all_cons, List.all_nil, Bool.and_true]; exact decide_eq_true herr]
              dsimp only
              congr 1
              show 0 + ceilT (a.getD (l.length - 1) 0 * 1) 1 = _
              unfold ceilT
              rw [Int.mul_one, Int.tmod_one, Int.tdiv_one, if_neg (by omega), Int.zero_add]
            rw [if_neg cl, e1, e2, if_pos (by omega), Int.toNat_natCast, hsl, ht _ (by simp), Option.bind_some, if_pos (by omega), per_p k (by omega) _ _ (by simp) (by simp), if_pos hone, hps, Option.bind_some, if_pos rfl]
            simp
        · rw [if_neg c0]
      · rw [if_neg h0, if_neg h0, if_pos rfl]; rfl
theorem vc_periodic (l : List SGearPair) (a : List Int) : VC Go.Proofs.Try.prog 10 [VV.tr (l.flatMap c_SGearPair) l.length, VV.tr (a.map vi) a.length] (vb true) := nspeculumlaw07_SupportPeriodic_ok _ _ _ _ (law_periodic 100000000000000000000 rfl l a)
end Go.Proofs.Ytpaclgmigndilaa.Vg
