/- Trains and their ratios, plain. -/
import Derived.Test.YtcjdpgoojhkaiaaT1
import Derived.Test.YtcjdpgoojhkaiaaNF
set_option linter.unusedVariables false
set_option linter.unusedSimpArgs false
namespace Go.Proofs.Ytcjdpgoojhkaiaa.Vg
open Go Go.Proofs.Ytcjdpgoojhkaiaa.Ev Go.Proofs.Ytcjdpgoojhkaiaa.Vv
abbrev teeth (g : SGearPair) : Prop := 1 ≤ g.Driver ∧ g.Driver ≤ 500 ∧ 1 ≤ g.Driven ∧ g.Driven ≤ 500
theorem within_two (k : Nat) (hk : 10 ≤ k) (a b : Int) : nsupport_areWithin k 1 500 [a, b] = some (decide (1 ≤ a ∧ a ≤ 500 ∧ 1 ≤ b ∧ b ≤ 500)) := by
  obtain ⟨j, hj⟩ : ∃ j, k = j + 1 + 1 + 1 := ⟨k - 3, by omega⟩
  unfold nsupport_areWithin
  have go : nsupport_areWithin_l0_0 k 1 500 [a, b] (j + 1 + 1 + 1) 0 = some (if 1 ≤ a ∧ a ≤ 500 ∧ 1 ≤ b ∧ b ≤ 500 then .inr () else .inl ()) := by
    rw [nsupport_areWithin_l0_0.eq_2, if_pos (by simp), if_pos (by simp), show ([a, b] : List Int).getD (0 : Int).toNat 0 = a from rfl]
    by_cases h1 : a < 1
    · rw [if_pos h1, if_neg (by omega)]
    · rw [if_neg h1]
      by_cases h2 : 500 < a
      · rw [if_pos h2, if_neg (by omega)]
      · rw [if_neg h2, show w64 (0 + 1) = 1 from rfl, nsupport_areWithin_l0_0.eq_2, if_pos (by simp), if_pos (by simp), show ([a, b] : List Int).getD (1 : Int).toNat 0 = b from rfl]
        by_cases h3 : b < 1
        · rw [if_pos h3, if_neg (by omega)]
        · rw [if_neg h3]
          by_cases h4 : 500 < b
          · rw [if_pos h4, if_neg (by omega)]
          · rw [if_neg h4, show w64 (1 + 1) = 2 from rfl, nsupport_areWithin_l0_0.eq_2, if_neg (by simp), if_pos (by omega)]
  rw [← hj] at go
  rw [go, Option.bind_some]
  by_cases h : 1 ≤ a ∧ a ≤ 500 ∧ 1 ≤ b ∧ b ≤ 500
  · rw [if_pos h, decide_eq_true h]
  · rw [if_neg h, decide_eq_false h]
def sumB (b : Bool) : Sum Unit Unit := match b with | true => .inr () | false => .inl ()
def teethB (g : SGearPair) : Bool := decide (1 ≤ g.Driver ∧ g.Driver ≤ 500 ∧ 1 ≤ g.Driven ∧ g.Driven ≤ 500)
theorem drop_get {α : Type} {y : List α} {i : Nat} (h : i < y.length) (d : α) : y.drop i = y.getD i d :: y.drop (i + 1) := by
  rw [List.drop_eq_getElem_cons h, List.getD_eq_getElem?_getD, List.getElem?_eq_getElem h]; rfl
theorem train_p (k : Nat) (hk : 10 ≤ k) (l : List SGearPair) (hl : l.length ≤ 1000) : ∀ (d fuel i : Nat), l.length = i + d → d < fuel →
    nsupport_CheckTrain_l0_0 k l fuel (i : Int) = some (sumB ((l.drop i).all teethB)) := by
  intro d
  induction d with
  | zero =>
    intro fuel i h hf
    obtain ⟨g, rfl⟩ : ∃ g, fuel = g + 1 := ⟨fuel - 1, by omega⟩
    rw [nsupport_CheckTrain_l0_0.eq_2, if_neg (by omega), List.drop_eq_nil_of_le (by omega)]; rfl
  | succ d ih =>
    intro fuel i h hf
    obtain ⟨g, rfl⟩ : ∃ g, fuel = g + 1 := ⟨fuel - 1, by omega⟩
    rw [nsupport_CheckTrain_l0_0.eq_2, if_pos (by omega), if_pos (by omega), Int.toNat_natCast, within_two k hk, Option.bind_some, w64_succ (by omega), ih g (i + 1) (by omega) (by omega), drop_get (y := l) (i := i) (by omega) default, List.all_cons]
    show (if teethB (l.getD i default) = true then _ else _) = _
    cases teethB (l.getD i default) with
    | true => rw [if_pos rfl, Bool.true_and]
    | false => rw [if_neg (by simp), Bool.false_and]; rfl
theorem is_any (k : Nat) (n : Int) : nspeculumref07_isTeeth k n = some (decide (1 ≤ n ∧ n ≤ 500)) := by
  unfold nspeculumref07_isTeeth nspeculumbase_Within
  by_cases c1 : 1 ≤ n
  · rw [if_pos c1, Option.bind_some]
    by_cases c2 : n ≤ 500
    · rw [decide_eq_true c2, decide_eq_true ⟨c1, c2⟩]
    · rw [decide_eq_false c2, decide_eq_false (fun h => c2 h.2)]
  · rw [if_neg c1, Option.bind_some, decide_eq_false (fun h => c1 h.1)]
theorem train_r (k : Nat) (l : List SGearPair) (hl : l.length ≤ 1000) : ∀ (d fuel i : Nat), l.length = i + d → d < fuel →
    nspeculumref07_CheckTrain_l0_0 k l fuel (i : Int) = some (sumB ((l.drop i).all teethB)) := by
  intro d
  induction d with
  | zero =>
    intro fuel i h hf
    obtain ⟨g, rfl⟩ : ∃ g, fuel = g + 1 := ⟨fuel - 1, by omega⟩
    rw [nspeculumref07_CheckTrain_l0_0.eq_2, if_neg (by omega), List.drop_eq_nil_of_le (by omega)]; rfl
  | succ d ih =>
    intro fuel i h hf
    obtain ⟨g, rfl⟩ : ∃ g, fuel = g + 1 := ⟨fuel - 1, by omega⟩
    rw [nspeculumref07_CheckTrain_l0_0.eq_2, if_pos (by omega), if_pos (by omega), Int.toNat_natCast, is_any, Option.bind_some, w64_succ (by omega), ih g (i + 1) (by omega) (by omega), drop_get (y := l) (i := i) (by omega) default, List.all_cons, is_any, Option.bind_some]
    generalize l.getD i default = x
    have e : teethB x = (decide (1 ≤ x.Driver ∧ x.Driver ≤ 500) && decide (1 ≤ x.Driven ∧ x.Driven ≤ 500)) := by
      unfold teethB; rw [← Bool.decide_and]; congr 1; simp only [eq_iff_iff]; omega
    rw [e]
    cases decide (1 ≤ x.Driver ∧ x.Driver ≤ 500) with
    | false => rw [if_neg (by simp), Bool.false_and, Bool.false_and]; rfl
    | true =>
      rw [if_pos rfl, Bool.true_and]
      cases decide (1 ≤ x.Driven ∧ x.Driven ≤ 500) with
      | true => rw [if_pos rfl, Bool.true_and]
      | false => rw [if_neg (by simp), Bool.false_and]; rfl
def trE (l : List SGearPair) : Int := if 12 < l.length then 8 else match l.all teethB with | true => 0 | false => 2
theorem train_any (k : Nat) (hk : 1000 ≤ k) (l : List SGearPair) (hl : l.length ≤ 15) : nsupport_CheckTrain k l = some (trE l) ∧ nspeculumref07_CheckTrain k l = some (trE l) := by
  have h1 := train_p k (by omega) l (by omega) l.length k 0 (by omega) (by omega)
  have h2 := train_r k l (by omega) l.length k 0 (by omega) (by omega)
  rw [List.drop_zero] at h1 h2
  unfold nsupport_CheckTrain nspeculumref07_CheckTrain trE
  by_cases c : 12 < l.length
  · rw [if_pos c]; exact ⟨if_pos (by omega), if_pos (by omega)⟩
  · rw [if_neg c, show nsupport_CheckTrain_l0_0 k l k 0 = _ from h1, show nspeculumref07_CheckTrain_l0_0 k l k 0 = _ from h2]
    cases l.all teethB
    · exact ⟨if_neg (by omega), if_neg (by omega)⟩
    · exact ⟨if_neg (by omega), if_neg (by omega)⟩
theorem trE_zero {l : List SGearPair} (h : trE l = 0) : l.length ≤ 12 ∧ ∀ g ∈ l, teeth g := by
  unfold trE at h
  split at h
  · omega
  split at h
  · rename_i h2; exact ⟨by omega, fun g hg => of_decide_eq_true (List.all_eq_true.1 h2 g hg)⟩
  · omega
theorem trE_one (g : SGearPair) : trE [g] = if teeth g then 0 else 2 := by
  unfold trE
  rw [if_neg (by simp)]
  simp only [List.all_cons, List.all_nil, Bool.and_true]
  unfold teethB
  by_cases h : teeth g
  · rw [decide_eq_true h, if_pos h]
  · rw [decide_eq_false h, if_neg h]
/- the divisor of package support. -/
theorem gs (k : Nat) : ∀ (n fuel : Nat) (x y : Nat), y < n → n ≤ fuel →
    nsupport_divisor_l0_0 k fuel (x : Int) (y : Int) = some (Nat.gcd x y : Int) := by
  intro n
  induction n with
  | zero => intro fuel x y h; omega
  | succ n ih =>
    intro fuel x y h hf
    obtain ⟨g, rfl⟩ : ∃ g, fuel = g + 1 := ⟨fuel - 1, by omega⟩
    rw [nsupport_divisor_l0_0.eq_2]
    by_cases h0 : y = 0
    · subst h0
      rw [if_pos (show ((0 : Nat) : Int) = 0 from rfl), Nat.gcd_zero_right]
    · rw [if_neg (by omega), if_pos (by omega)]
      have e : ((x : Int).tmod (y : Int)) = ((x % y : Nat) : Int) := by
        rw [Int.tmod_eq_emod_of_nonneg (by omega)]; omega
      rw [e, ih g y (x % y) (by have := Nat.mod_lt x (show 0 < y by omega); omega) (by omega), Nat.gcd_comm x y, Nat.gcd_rec y x, Nat.gcd_comm]
theorem div_sup (k : Nat) (x y : Int) (hx : 0 ≤ x) (hy : 0 ≤ y) (hk : y.natAbs < k) : nsupport_divisor k x y = some (Nat.gcd x.natAbs y.natAbs : Int) := by
  have h := gs k (y.natAbs + 1) k x.natAbs y.natAbs (by omega) (by omega)
  unfold nsupport_divisor
  rw [show ((x.natAbs : Nat) : Int) = x by omega, show ((y.natAbs : Nat) : Int) = y by omega] at h
  rw [h]; rfl
def ratF (g : SGearPair) : SFrac := lowF g.Driver g.Driven
theorem ratio_any (k : Nat) (hk : 18446744073709551617 ≤ k) (g : SGearPair) (h : teeth g) : nsupport_ratioOf k g = some (ratF g) ∧ nspeculumref07_of k g = some (ratF g) := by
  unfold teeth at h
  unfold nsupport_ratioOf nspeculumref07_of nsupport_lowest ratF
  have hg := gcd_pos (x := g.Driver) (y := g.Driven) (by omega)
  have h1 := tdiv_le g.Driver (Nat.gcd g.Driver.natAbs g.Driven.natAbs : Int)
  have h2 := tdiv_le g.Driven (Nat.gcd g.Driver.natAbs g.Driven.natAbs : Int)
  rw [div_sup k _ _ (by omega) (by omega) (by omega), Option.bind_some, if_pos (by omega), Option.bind_some, low_base k _ _ (by omega) (by omega) (by omega) (by omega), Option.bind_some, w64_id (by omega) (by omega), w64_id (by omega) (by omega)]
  unfold lowF
  rw [if_neg (by omega)]
  exact ⟨rfl, rfl⟩
theorem rat_ok {g : SGearPair} (h : teeth g) : Ok (ratF g) := by
  unfold teeth at h
  obtain ⟨f1, f2, f3, f4⟩ := lowF_facts (n := g.Driver) (d := g.Driven) (by omega)
  have h1 := tdiv_le g.Driver (Nat.gcd g.Driver.natAbs g.Driven.natAbs : Int)
  have h2 := tdiv_le g.Driven (Nat.gcd g.Driver.natAbs g.Driven.natAbs : Int)
  unfold ratF
  refine ⟨by omega, ?_, ?_, f4⟩
  · unfold lowF; rw [if_neg (by omega)]; dsimp only; omega
  · unfold lowF; rw [if_neg (by omega)]; dsimp only; omega
/-- the ratios behind those in y; none: one is too large. -/
def prods : SFrac → List SGearPair → List SFrac → Option (List SFrac)
  | _, [], y => some y
  | f, g :: gs, y => if (mulS f (ratF g)).2 = 0 then prods (mulS f (ratF g)).1 gs (y ++ [(mulS f (ratF g)).1]) else none
theorem prods_l (k : Nat) (hk : 18446744073709551617 ≤ k) (l : List SGearPair) (hl : l.length ≤ 12) (ht : ∀ g ∈ l, teeth g) : ∀ (d fuel i : Nat) (y : List SFrac), l.length = i + d → d < fuel → y.length = i + 1 → (∀ f ∈ y, Ok f) →
    nsupport_products_l0_0 k l fuel y (i : Int) = some (match prods (y.getD i default) (l.drop i) y with | some z => .inr z | none => .inl 8) ∧ nspeculumref07_Beginnings_l0_0 k l fuel y (i : Int) = some (match prods (y.getD i default) (l.drop i) y with | some z => .inr z | none => .inl ()) ∧
    ∀ z, prods (y.getD i default) (l.drop i) y = some z → z.length = l.length + 1 ∧ ∀ f ∈ z, Ok f := by
  intro d
  induction d with
  | zero =>
    intro fuel i y h hf hy hok
    obtain ⟨g, rfl⟩ : ∃ g, fuel = g + 1 := ⟨fuel - 1, by omega⟩
    rw [nsupport_products_l0_0.eq_2, nspeculumref07_Beginnings_l0_0.eq_2, if_neg (by omega), if_neg (by omega), List.drop_eq_nil_of_le (by omega)]
    refine ⟨rfl, rfl, fun z hz => ?_⟩
    injection hz with hz; subst hz
    exact ⟨by omega, hok⟩
  | succ d ih =>
    intro fuel i y h hf hy hok
    obtain ⟨g, rfl⟩ : ∃ g, fuel = g + 1 := ⟨fuel - 1, by omega⟩
    have hi : i < l.length := by omega
    have hd : l.drop i = l.getD i default :: l.drop (i + 1) := by
      rw [List.drop_eq_getElem_cons hi, List.getD_eq_getElem?_getD, List.getElem?_eq_getElem hi]; rfl
    have hm : l.getD i default ∈ l := by rw [List.getD_eq_getElem?_getD, List.getElem?_eq_getElem hi]; exact List.getElem_mem hi
    have hyi : y.getD i default ∈ y := by rw [List.getD_eq_getElem?_getD, List.getElem?_eq_getElem (show i < y.length by omega)]; exact List.getElem_mem _
    have ht1 := ht _ hm
    obtain ⟨r1, r2⟩ := ratio_any k hk _ ht1
    obtain ⟨m1, m2⟩ := mul_both k hk _ _ (hok _ hyi) (rat_ok ht1)
    rw [nsupport_products_l0_0.eq_2, nspeculumref07_Beginnings_l0_0.eq_2, if_pos (by omega), if_pos (by omega), if_pos (by omega), if_pos (by omega), if_pos (by omega), if_pos (by omega), Int.toNat_natCast, r1, r2, Option.bind_some, Option.bind_some, m1, m2, Option.bind_some, Option.bind_some, hd]
    simp only [prods]
    by_cases h0 : (mulS (y.getD i default) (ratF (l.getD i default))).2 = 0
    · rw [if_pos h0, if_pos h0, if_pos h0, if_pos (by simp only [List.length_cons, List.length_nil]; omega), if_pos (by simp only [List.length_cons, List.length_nil]; omega), w64_succ (by omega)]
      have := ih g (i + 1) (y ++ [(mulS (y.getD i default) (ratF (l.getD i default))).1]) (by omega) (by omega) (by simp; omega) (fun f hf => by
        rcases List.mem_append.1 hf with hf | hf
        · exact hok f hf
        · rw [List.mem_singleton.1 hf]; exact (lowS_ok h0).1)
      rw [show (y ++ [(mulS (y.getD i default) (ratF (l.getD i default))).1]).getD (i + 1) default = (mulS (y.getD i default) (ratF (l.getD i default))).1 by
        rw [← hy, List.getD_eq_getElem?_getD, List.getElem?_append_right (Nat.le_refl _)]; simp] at this
      exact this
    · rw [if_neg h0, if_neg h0, if_neg h0]
      rcases lowS_err ((y.getD i default).Num * (ratF (l.getD i default)).Num) ((y.getD i default).Den * (ratF (l.getD i default)).Den) with e | e
      · exact absurd e h0
      · exact ⟨by rw [show (mulS (y.getD i default) (ratF (l.getD i default))).2 = 8 from e], rfl, fun z hz => by cases hz⟩
def begs (l : List SGearPair) : Option (List SFrac) := prods ⟨1, 1⟩ l [⟨1, 1⟩]
theorem one_ok : Ok ⟨1, 1⟩ := ⟨by simp, by simp, by simp, by simp⟩
theorem begs_any (k : Nat) (hk : 18446744073709551617 ≤ k) (l : List SGearPair) (h : trE l = 0) :
    nsupport_products k l = some (match begs l with | some z => (z, 0) | none => ([], 8)) ∧ nspeculumref07_Beginnings k l = some (match begs l with | some z => (z, true) | none => ([], false)) ∧ ∀ z, begs l = some z → z.length = l.length + 1 ∧ ∀ f ∈ z, Ok f := by
  obtain ⟨hl, ht⟩ := trE_zero h
  obtain ⟨h1, h2, h3⟩ := prods_l k hk l hl ht l.length k 0 [⟨1, 1⟩] (by omega) (by omega) rfl (fun f hf => by rw [List.mem_singleton.1 hf]; exact one_ok)
  rw [List.drop_zero, show ([⟨1, 1⟩] : List SFrac).getD 0 default = ⟨1, 1⟩ from rfl] at h1 h2 h3
  unfold nsupport_products nspeculumref07_Beginnings nsupport_one begs
  rw [Option.bind_some, show nsupport_products_l0_0 k l k [⟨1, 1⟩] 0 = _ from h1, show nspeculumref07_Beginnings_l0_0 k l k [⟨1, 1⟩] 0 = _ from h2, Option.bind_some, Option.bind_some]
  refine ⟨?_, ?_, h3⟩
  · cases prods ⟨1, 1⟩ l [⟨1, 1⟩] <;> rfl
  · cases prods ⟨1, 1⟩ l [⟨1, 1⟩] <;> rfl
theorem mulS_pos {f g : SFrac} (hf : Ok f) (hg : Ok g) (pf : 1 ≤ f.Num) (pg : 1 ≤ g.Num) (h : (mulS f g).2 = 0) : 1 ≤ (mulS f g).1.Num := by
  obtain ⟨_, e⟩ := lowS_ok h
  have b3 : 0 < f.Den * g.Den := Int.mul_pos (by have := hf.den; omega) (by have := hg.den; omega)
  have b4 : 0 < f.Num * g.Num := Int.mul_pos (by omega) (by omega)
  obtain ⟨_, f2, _, _⟩ := lowF_facts (n := f.Num * g.Num) b3
  unfold mulS
  rw [e]
  rcases Int.lt_or_le (lowF (f.Num * g.Num) (f.Den * g.Den)).Num 1 with c | c
  · have hp := Int.mul_nonneg (show 0 ≤ -(lowF (f.Num * g.Num) (f.Den * g.Den)).Num by omega) (show (0 : Int) ≤ (Nat.gcd (f.Num * g.Num).natAbs (f.Den * g.Den).natAbs : Int) by omega)
    rw [Int.neg_mul, ← f2] at hp
    omega
  · exact c
theorem rat_pos {g : SGearPair} (h : teeth g) : 1 ≤ (ratF g).Num := by
  unfold teeth at h
  obtain ⟨_, f2, _, _⟩ := lowF_facts (n := g.Driver) (d := g.Driven) (by omega)
  unfold ratF
  rcases Int.lt_or_le (lowF g.Driver g.Driven).Num 1 with c | c
  · have hp := Int.mul_nonneg (show 0 ≤ -(lowF g.Driver g.Driven).Num by omega) (show (0 : Int) ≤ (Nat.gcd g.Driver.natAbs g.Driven.natAbs : Int) by omega)
    rw [Int.neg_mul, ← f2] at hp
    omega
  · exact c
theorem prods_pos : ∀ (gs : List SGearPair) (f : SFrac) (y z : List SFrac), (∀ g ∈ gs, teeth g) → Ok f → 1 ≤ f.Num → (∀ x ∈ y, 1 ≤ x.Num) → prods f gs y = some z → ∀ x ∈ z, 1 ≤ x.Num
  | [], f, y, z, _, _, _, hy, h => by simp only [prods, Option.some.injEq] at h; subst h; exact hy
  | g :: gs, f, y, z, ht, hf, pf, hy, h => by
    simp only [prods] at h
    split at h
    · rename_i h0
      have htg := ht g (by simp)
      have p := mulS_pos hf (rat_ok htg) pf (rat_pos htg) h0
      exact prods_pos gs _ _ z (fun x hx => ht x (by simp [hx])) (lowS_ok h0).1 p (fun x hx => by
        rcases List.mem_append.1 hx with hx | hx
        · exact hy x hx
        · rw [List.mem_singleton.1 hx]; exact p) h
    · cases h
theorem ratio_both (k : Nat) (hk : 18446744073709551617 ≤ k) (l : List SGearPair) (h : trE l = 0) : ∃ f e, nsupport_Ratio k l = some (f, e) ∧ nspeculumref07_Ratio k l = some (f, e) ∧ ((e = 0 ∧ Ok f ∧ 1 ≤ f.Num) ∨ (e = 8 ∧ f = ⟨0, 0⟩)) := by
  obtain ⟨hl, ht⟩ := trE_zero h
  obtain ⟨b1, b2, b3⟩ := begs_any k hk l h
  obtain ⟨c1, c2⟩ := train_any k (by omega) l (by omega)
  unfold nsupport_Ratio nsupport_beginnings nspeculumref07_Ratio
  rw [c1, b2]
  simp only [Option.bind_some]
  rw [if_pos h, b1]
  cases hb : begs l with
  | none => exact ⟨⟨0, 0⟩, 8, by simp, by simp, .inr ⟨rfl, rfl⟩⟩
  | some z =>
    obtain ⟨z1, z2⟩ := b3 z hb
    have hz : z.getD l.length default ∈ z := by rw [List.getD_eq_getElem?_getD, List.getElem?_eq_getElem (show l.length < z.length by omega)]; exact List.getElem_mem _
    have hp := prods_pos l ⟨1, 1⟩ [⟨1, 1⟩] z ht one_ok (by simp) (fun x hx => by rw [List.mem_singleton.1 hx]; simp) hb
    refine ⟨z.getD l.length default, 0, ?_, ?_, .inl ⟨rfl, z2 _ hz, hp _ hz⟩⟩
    · simp only [Option.bind_some]; simp; omega
    · simp only [Option.bind_some]; simp; omega
theorem ratio_bad (k : Nat) (hk : 18446744073709551617 ≤ k) (l : List SGearPair) (hl : l.length ≤ 15) (h : trE l ≠ 0) : nsupport_Ratio k l = some (⟨0, 0⟩, trE l) := by
  obtain ⟨c1, c2⟩ := train_any k (by omega) l hl
  unfold nsupport_Ratio nsupport_beginnings
  rw [c1]
  simp only [Option.bind_some]
  rw [if_neg h]
  simp [h]
end Go.Proofs.Ytcjdpgoojhkaiaa.Vg
