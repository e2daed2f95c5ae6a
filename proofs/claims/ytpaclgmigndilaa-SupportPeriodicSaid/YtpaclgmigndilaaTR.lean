/- SupportTrains, plain. -/
import Derived.Test.YtpaclgmigndilaaT1
import Derived.Test.YtpaclgmigndilaaNF
set_option linter.unusedVariables false
set_option linter.unusedSimpArgs false
namespace Go.Proofs.Ytpaclgmigndilaa.Vg
open Go Go.Proofs.Ytpaclgmigndilaa.Ev Go.Proofs.Ytpaclgmigndilaa.Vv
abbrev teeth (g : SGearPair) : Prop := 1 ≤ g.Driver ∧ g.Driver ≤ 500 ∧ 1 ≤ g.Driven ∧ g.Driven ≤ 500
theorem within_two (k : Nat) (hk : 10 ≤ k) (a b : Int) : nsupport_areWithin k 1 500 [a, b] = some (decide (1 ≤ a ∧ a ≤ 500 ∧ 1 ≤ b ∧ b ≤ 500)) := by
  obtain ⟨j, hj⟩ : ∃ j, k = j + 1 + 1 + 1 := ⟨k - 3, by omega⟩
  unfold nsupport_areWithin
  have go : nsupport_areWithin_l0_0 k 1 500 [a, b] (j + 1 + 1 + 1) 0 = some (if 1 ≤ a ∧ a ≤ 500 ∧ 1 ≤ b ∧ b ≤ 500 then .inr () else .inl ()) := by
    rw [nsupport_areWithin_l0_0.eq_2, if_pos (by simp), if_pos (by simp), show ([a, b] : List Int).getD (0 : Int).toNat 0 = a from rfl]
    by_cases h1 : a < 1
    · rw [if_pos h1, if_neg (by omega)]
    · rw [if_neg h1]
      by_cases h2 : 500 < a
      · rw [if_pos h2, if_neg (by omega)]
      · rw [if_neg h2, show w64 (0 + 1) = 1 from rfl, nsupport_areWithin_l0_0.eq_2, if_pos (by simp), if_pos (by simp), show ([a, b] : List Int).getD (1 : Int).toNat 0 = b from rfl]
        by_cases h3 : b < 1
        · rw [if_pos h3, if_neg (by omega)]
        · rw [if_neg h3]
          by_cases h4 : 500 < b
          · rw [if_pos h4, if_neg (by omega)]
          · rw [if_neg h4, show w64 (1 + 1) = 2 from rfl, nsupport_areWithin_l0_0.eq_2, if_neg (by simp), if_pos (by omega)]
  rw [← hj] at go
  rw [go, Option.bind_some]
  by_cases h : 1 ≤ a ∧ a ≤ 500 ∧ 1 ≤ b ∧ b ≤ 500
  · rw [if_pos h, decide_eq_true h]
  · rw [if_neg h, decide_eq_false h]
def sumB (b : Bool) : Sum Unit Unit := match b with | true => .inr () | false => .inl ()
def teethB (g : SGearPair) : Bool := decide (1 ≤ g.Driver ∧ g.Driver ≤ 500 ∧ 1 ≤ g.Driven ∧ g.Driven ≤ 500)
theorem drop_get {α : Type} {y : List α} {i : Nat} (h : i < y.length) (d : α) : y.drop i = y.getD i d :: y.drop (i + 1) := by
  rw [List.drop_eq_getElem_cons h, List.getD_eq_getElem?_getD, List.getElem?_eq_getElem h]; rfl
theorem train_p (k : Nat) (hk : 10 ≤ k) (l : List SGearPair) (hl : l.length ≤ 1000) : ∀ (d fuel i : Nat), l.length = i + d → d < fuel →
    nsupport_CheckTrain_l0_0 k l fuel (i : Int) = some (sumB ((l.drop i).all teethB)) := by
  intro d
  induction d with
  | zero =>
    intro fuel i h hf
    obtain ⟨g, rfl⟩ : ∃ g, fuel = g + 1 := ⟨fuel - 1, by omega⟩
    rw [nsupport_CheckTrain_l0_0.eq_2, if_neg (by omega), List.drop_eq_nil_of_le (by omega)]; rfl
  | succ d ih =>
    intro fuel i h hf
    obtain ⟨g, rfl⟩ : ∃ g, fuel = g + 1 := ⟨fuel - 1, by omega⟩
    rw [nsupport_CheckTrain_l0_0.eq_2, if_pos (by omega), if_pos (by omega), Int.toNat_natCast, within_two k hk, Option.bind_some, w64_succ (by omega), ih g (i + 1) (by omega) (by omega), drop_get (y := l) (i := i) (by omega) default, List.all_cons]
    show (if teethB (l.getD i default) = true then _ else _) = _
    cases teethB (l.getD i default) with
    | true => rw [if_pos rfl, Bool.true_and]
    | false => rw [if_neg (by simp), Bool.false_and]; rfl
theorem is_any (k : Nat) (n : Int) : nspeculumref07_isTeeth k n = some (decide (1 ≤ n ∧ n ≤ 500)) := by
  unfold nspeculumref07_isTeeth nspeculumbase_Within
  by_cases c1 : 1 ≤ n
  · rw [if_pos c1, Option.bind_some]
    by_cases c2 : n ≤ 500
    · rw [decide_eq_true c2, decide_eq_true ⟨c1, c2⟩]
    · rw [decide_eq_false c2, decide_eq_false (fun h => c2 h.2)]
  · rw [if_neg c1, Option.bind_some, decide_eq_false (fun h => c1 h.1)]
theorem train_r (k : Nat) (l : List SGearPair) (hl : l.length ≤ 1000) : ∀ (d fuel i : Nat), l.length = i + d → d < fuel →
    nspeculumref07_CheckTrain_l0_0 k l fuel (i : Int) = some (sumB ((l.drop i).all teethB)) := by
  intro d
  induction d with
  | zero =>
    intro fuel i h hf
    obtain ⟨g, rfl⟩ : ∃ g, fuel = g + 1 := ⟨fuel - 1, by omega⟩
    rw [nspeculumref07_CheckTrain_l0_0.eq_2, if_neg (by omega), List.drop_eq_nil_of_le (by omega)]; rfl
  | succ d ih =>
    intro fuel i h hf
    obtain ⟨g, rfl⟩ : ∃ g, fuel = g + 1 := ⟨fuel - 1, by omega⟩
    rw [nspeculumref07_CheckTrain_l0_0.eq_2, if_pos (by omega), if_pos (by omega), Int.toNat_natCast, is_any, Option.bind_some, w64_succ (by omega), ih g (i + 1) (by omega) (by omega), drop_get (y := l) (i := i) (by omega) default, List.all_cons, is_any, Option.bind_some]
    generalize l.getD i default = x
    have e : teethB x = (decide (1 ≤ x.Driver ∧ x.Driver ≤ 500) && decide (1 ≤ x.Driven ∧ x.Driven ≤ 500)) := by
      unfold teethB; rw [← Bool.decide_and]; congr 1; simp only [eq_iff_iff]; omega
    rw [e]
    cases decide (1 ≤ x.Driver ∧ x.Driver ≤ 500) with
    | false => rw [if_neg (by simp), Bool.false_and, Bool.false_and]; rfl
    | true =>
      rw [if_pos rfl, Bool.true_and]
      cases decide (1 ≤ x.Driven ∧ x.Driven ≤ 500) with
      | true => rw [if_pos rfl, Bool.true_and]
      | false => rw [if_neg (by simp), Bool.false_and]; rfl
def trE (l : List SGearPair) : Int := if 12 < l.length then 8 else match l.all teethB with | true => 0 | false => 2
theorem train_any (k : Nat) (hk : 1000 ≤ k) (l : List SGearPair) (hl : l.length ≤ 15) : nsupport_CheckTrain k l = some (trE l) ∧ nspeculumref07_CheckTrain k l = some (trE l) := by
  have h1 := train_p k (by omega) l (by omega) l.length k 0 (by omega) (by omega)
  have h2 := train_r k l (by omega) l.length k 0 (by omega) (by omega)
  rw [List.drop_zero] at h1 h2
  unfold nsupport_CheckTrain nspeculumref07_CheckTrain trE
  by_cases c : 12 < l.length
  · rw [if_pos c]; exact ⟨if_pos (by omega), if_pos (by omega)⟩
  · rw [if_neg c, show nsupport_CheckTrain_l0_0 k l k 0 = _ from h1, show nspeculumref07_CheckTrain_l0_0 k l k 0 = _ from h2]
    cases l.all teethB
    · exact ⟨if_neg (by omega), if_neg (by omega)⟩
    · exact ⟨if_neg (by omega), if_neg (by omega)⟩
theorem trE_zero {l : List SGearPair} (h : trE l = 0) : l.length ≤ 12 ∧ ∀ g ∈ l, teeth g := by
  unfold trE at h
  split at h
  · omega
  split at h
  · rename_i h2; exact ⟨by omega, fun g hg => of_decide_eq_true (List.all_eq_true.1 h2 g hg)⟩
  · omega
theorem trE_one (g : SGearPair) : trE [g] = if teeth g then 0 else 2 := by
  unfold trE
  rw [if_neg (by simp)]
  simp only [List.all_cons, List.all_nil, Bool.and_true]
  unfold teethB
  by_cases h : teeth g
  · rw [decide_eq_true h, if_pos h]
  · rw [decide_eq_false h, if_neg h]
/- the divisor of package support. -/
theorem gs (k : Nat) : ∀ (n fuel : Nat) (x y : Nat), y < n → n ≤ fuel →
    nsupport_divisor_l0_0 k fuel (x : Int) (y : Int) = some (Nat.gcd x y : Int) := by
  intro n
  induction n with
  | zero => intro fuel x y h; omega
  | succ n ih =>
    intro fuel x y h hf
    obtain ⟨g, rfl⟩ : ∃ g, fuel = g + 1 := ⟨fuel - 1, by omega⟩
    rw [nsupport_divisor_l0_0.eq_2]
    by_cases h0 : y = 0
    · subst h0
      rw [if_pos (show ((0 : Nat) : Int) = 0 from rfl), Nat.gcd_zero_right]
    · rw [if_neg (by omega), if_pos (by omega)]
      have e : ((x : Int).tmod (y : Int)) = ((x % y : Nat) : Int) := by
        rw [Int.tmod_eq_emod_of_nonneg (by omega)]; omega
      rw [e, ih g y (x % y) (by have := Nat.mod_lt x (show 0 < y by omega); omega) (by omega), Nat.gcd_comm x y, Nat.gcd_rec y x, Nat.gcd_comm]
theorem div_sup (k : Nat) (x y : Int) (hx : 0 ≤ x) (hy : 0 ≤ y) (hk : y.natAbs < k) : nsupport_divisor k x y = some (Nat.gcd x.natAbs y.natAbs : Int) := by
  have h := gs k (y.natAbs + 1) k x.natAbs y.natAbs (by omega) (by omega)
  unfold nsupport_divisor
  rw [show ((x.natAbs : Nat) : Int) = x by omega, show ((y.natAbs : Nat) : Int) = y by omega] at h
  rw [h]; rfl
def ratF (g : SGearPair) : SFrac := lowF g.Driver g.Driven
theorem ratio_any (k : Nat) (hk : 18446744073709551617 ≤ k) (g : SGearPair) (h : teeth g) : nsupport_ratioOf k g = some (ratF g) ∧ nspeculumref07_of k g = some (ratF g) := by
  unfold teeth at h
  unfold nsupport_ratioOf nspeculumref07_of nsupport_lowest ratF
  have hg := gcd_pos (x := g.Driver) (y := g.Driven) (by omega)
  have h1 := tdiv_le g.Driver (Nat.gcd g.Driver.natAbs g.Driven.natAbs : Int)
  have h2 := tdiv_le g.Driven (Nat.gcd g.Driver.natAbs g.Driven.natAbs : Int)
  rw [div_sup k _ _ (by omega) (by omega) (by omega), Option.bind_some, if_pos (by omega), Option.bind_some, low_base k _ _ (by omega) (by omega) (by omega) (by omega), Option.bind_some, w64_id (by omega) (by omega), w64_id (by omega) (by omega)]
  unfold lowF
  rw [if_neg (by omega)]
  exact ⟨rfl, rfl⟩
theorem rat_ok {g : SGearPair} (h : teeth g) : Ok (ratF g) := by
  unfold teeth at h
  obtain ⟨f1, f2, f3, f4⟩ := lowF_facts (n := g.Driver) (d := g.Driven) (by omega)
  have h1 := tdiv_le g.Driver (Nat.gcd g.Driver.natAbs g.Driven.natAbs : Int)
  have h2 := tdiv_le g.Driven (Nat.gcd g.Driver.natAbs g.Driven.natAbs : Int)
  unfold ratF
  refine ⟨by omega, ?_, ?_, f4⟩
  · unfold lowF; rw [if_neg (by omega)]; dsimp only; omega
  · unfold lowF; rw [if_neg (by omega)]; dsimp only; omega
/-- the ratios behind those in y; none: one is too large. -/
def prods : SFrac → List SGearPair → List SFrac → Option (List SFrac)
  | _, [], y => some y
  | f, g :: gs, y => if (mulS f (ratF g)).2 = 0 then prods (mulS f (ratF g)).1 gs (y ++ [(mulS f (ratF g)).1]) else none
theorem prods_l (k : Nat) (hk : 18446744073709551617 ≤ k) (l : List SGearPair) (hl : l.length ≤ 12) (ht : ∀ g ∈ l, teeth g) : ∀ (d fuel i : Nat) (y : List SFrac), l.length = i + d → d < fuel → y.length = i + 1 → (∀ f ∈ y, Ok f) →
    nsupport_products_l0_0 k l fuel y (i : Int) = some (match prods (y.getD i default) (l.drop i) y with | some z => .inr z | none => .inl 8) ∧ nspeculumref07_Beginnings_l0_0 k l fuel y (i : Int) = some (match prods (y.getD i default) (l.drop i) y with | some z => .inr z | none => .inl ()) ∧
    ∀ z, prods (y.getD i default) (l.drop i) y = some z → z.length = l.length + 1 ∧ ∀ f ∈ z, Ok f := by
  intro d
  induction d with
  | zero =>
    intro fuel i y h hf hy hok
    obtain ⟨g, rfl⟩ : ∃ g, fuel = g + 1 := ⟨fuel - 1, by omega⟩
    rw [nsupport_products_l0_0.eq_2, nspeculumref07_Beginnings_l0_0.eq_2, if_neg (by omega), if_neg (by omega), List.drop_eq_nil_of_le (by omega)]
    refine ⟨rfl, rfl, fun z hz => ?_⟩
    injection hz with hz; subst hz
    exact ⟨by omega, hok⟩
  | succ d ih =>
    intro fuel i y h hf hy hok
    obtain ⟨g, rfl⟩ : ∃ g, fuel = g + 1 := ⟨fuel - 1, by omega⟩
    have hi : i < l.length := by omega
    have hd : l.drop i = l.getD i default :: l.drop (i + 1) := by
      rw [List.drop_eq_getElem_cons hi, List.getD_eq_getElem?_getD, List.getElem?_eq_getElem hi]; rfl
    have hm : l.getD i default ∈ l := by rw [List.getD_eq_getElem?_getD, List.getElem?_eq_getElem hi]; exact List.getElem_mem hi
    have hyi : y.getD i default ∈ y := by rw [List.getD_eq_getElem?_getD, List.getElem?_eq_getElem (show i < y.length by omega)]; exact List.getElem_mem _
    have ht1 := ht _ hm
    obtain ⟨r1, r2⟩ := ratio_any k hk _ ht1
    obtain ⟨m1, m2⟩ := mul_both k hk _ _ (hok _ hyi) (rat_ok ht1)
    rw [nsupport_products_l0_0.eq_2, nspeculumref07_Beginnings_l0_0.eq_2, if_pos (by omega), if_pos (by omega), if_pos (by omega), if_pos (by omega), if_pos (by omega), if_pos (by omega), Int.toNat_natCast, r1, r2, Option.bind_some, Option.bind_some, m1, m2, Option.bind_some, Option.bind_some, hd]
    simp only [prods]
    by_cases h0 : (mulS (y.getD i default) (ratF (l.getD i default))).2 = 0
    · rw [if_pos h0, if_pos h0, if_pos h0, if_pos (by simp only [List.length_cons, List.length_nil]; omega), if_pos (by simp only [List.length_cons, List.length_nil]; omega), w64_succ (by omega)]
      have := ih g (i + 1) (y ++ [(mulS (y.getD i default) (ratF (l.getD i default))).1]) (by omega) (by omega) (by simp; omega) (fun f hf => by
        rcases List.mem_append.1 hf with hf | hf
        · exact hok f hf
        · rw [List.mem_singleton.1 hf]; exact (lowS_ok h0).1)
      rw [show (y ++ [(mulS (y.getD i default) (ratF (l.getD i default))).1]).getD (i + 1) default = (mulS (y.getD i default) (ratF (l.getD i default))).1 by
        rw [← hy, List.getD_eq_getElem?_getD, List.getElem?_append_right (Nat.le_refl _)]; simp] at this
      exact this
    · rw [if_neg h0, if_neg h0, if_neg h0]
      rcases lowS_err ((y.getD i default).Num * (ratF (l.getD i default)).Num) ((y.getD i default).Den * (ratF (l.getD i default)).Den) with e | e
      · exact absurd e h0
      · exact ⟨by rw [show (mulS (y.getD i default) (ratF (l.getD i default))).2 = 8 from e], rfl, fun z hz => by cases hz⟩
def begs (l : List SGearPair) : Option (List SFrac) := prods ⟨1, 1⟩ l [⟨1, 1⟩]
theorem one_ok : Ok ⟨1, 1⟩ := ⟨by simp, by simp, by simp, by simp⟩
theorem begs_any (k : Nat) (hk : 18446744073709551617 ≤ k) (l : List SGearPair) (h : trE l = 0) :
    nsupport_products k l = some (match begs l with | some z => (z, 0) | none => ([], 8)) ∧ nspeculumref07_Beginnings k l = some (match begs l with | some z => (z, true) | none => ([], false)) ∧ ∀ z, begs l = some z → z.length = l.length + 1 ∧ ∀ f ∈ z, Ok f := by
  obtain ⟨hl, ht⟩ := trE_zero h
  obtain ⟨h1, h2, h3⟩ := prods_l k hk l hl ht l.length k 0 [⟨1, 1⟩] (by omega) (by omega) rfl (fun f hf => by rw [List.mem_singleton.1 hf]; exact one_ok)
  rw [List.drop_zero, show ([⟨1, 1⟩] : List SFrac).getD 0 default = ⟨1, 1⟩ from rfl] at h1 h2 h3
  unfold nsupport_products nspeculumref07_Beginnings nsupport_one begs
  rw [Option.bind_some, show nsupport_products_l0_0 k l k [⟨1, 1⟩] 0 = _ from h1, show nspeculumref07_Beginnings_l0_0 k l k [⟨1, 1⟩] 0 = _ from h2, Option.bind_some, Option.bind_some]
  refine ⟨?_, ?_, h3⟩
  · cases prods ⟨1, 1⟩ l [⟨1, 1⟩] <;> rfl
  · cases prods ⟨1, 1⟩ l [⟨1, 1⟩] <;> rfl
/-- the turns behind which all of these are whole. -/
def turn : Int → List SFrac → Option Int
  | n, [] => some n
  | n, f :: fs => if 1000000000 < n * f.Den / (Nat.gcd n.natAbs f.Den.natAbs : Int) then none else turn (n * f.Den / (Nat.gcd n.natAbs f.Den.natAbs : Int)) fs
theorem turn_eq {n d : Int} (hn : 1 ≤ n) (hd : 1 ≤ d) : n * d.tdiv (Nat.gcd n.natAbs d.natAbs : Int) = n * d / (Nat.gcd n.natAbs d.natAbs : Int) ∧ n.tdiv (Nat.gcd n.natAbs d.natAbs : Int) * d = n * d / (Nat.gcd n.natAbs d.natAbs : Int) ∧ n ∣ n * d / (Nat.gcd n.natAbs d.natAbs : Int) ∧ d ∣ n * d / (Nat.gcd n.natAbs d.natAbs : Int) ∧ 1 ≤ n * d / (Nat.gcd n.natAbs d.natAbs : Int) := by
  have hg := gcd_pos (x := n) (y := d) (by omega)
  obtain ⟨a, ha⟩ : (Nat.gcd n.natAbs d.natAbs : Int) ∣ n := Int.ofNat_dvd_left.2 (Nat.gcd_dvd_left _ _)
  obtain ⟨b, hb⟩ : (Nat.gcd n.natAbs d.natAbs : Int) ∣ d := Int.ofNat_dvd_left.2 (Nat.gcd_dvd_right _ _)
  have hg0 : (0 : Int) < (Nat.gcd n.natAbs d.natAbs : Int) := by omega
  clear hg
  generalize (Nat.gcd n.natAbs d.natAbs : Int) = g at *
  have e1 : d.tdiv g = b := by rw [hb]; exact Int.mul_tdiv_cancel_left _ (by omega)
  have e2 : n.tdiv g = a := by rw [ha]; exact Int.mul_tdiv_cancel_left _ (by omega)
  have e3 : n * d / g = n * b := by
    rw [hb, show n * (g * b) = g * (n * b) by grind]; exact Int.mul_ediv_cancel_left _ (by omega)
  have hb1 : 1 ≤ b := by
    rcases Int.lt_or_le 0 b with h | h
    · omega
    · have := Int.mul_nonpos_of_nonneg_of_nonpos (show (0 : Int) ≤ g by omega) h; omega
  refine ⟨by rw [e1, e3], by rw [e2, e3, hb]; rw [ha]; grind, by rw [e3]; exact Int.dvd_mul_right _ _, ?_, ?_⟩
  · rw [e3, ha, hb]; exact ⟨a, by grind⟩
  · rw [e3]; have := Int.mul_le_mul hn hb1 (by omega) (by omega); omega
theorem turn_l (k : Nat) (hk : 18446744073709551617 ≤ k) (y : List SFrac) (e : Int) (b : Bool) (hl : y.length ≤ 1000) (hok : ∀ f ∈ y, Ok f) : ∀ (d fuel i : Nat) (n : Int), y.length = i + d → d < fuel → 1 ≤ n → n ≤ 1000000000 →
    nsupport_Returns_l0_0 k (y, e) fuel (i : Int) n = some (match turn n (y.drop i) with | some m => .inr m | none => .inl ()) ∧ nspeculumref07_Returns_l0_0 k (y, b) fuel n (i : Int) = some (match turn n (y.drop i) with | some m => .inr m | none => .inl ()) ∧
    ∀ m, turn n (y.drop i) = some m → n ∣ m ∧ ∀ f ∈ y.drop i, f.Den ∣ m := by
  intro d
  induction d with
  | zero =>
    intro fuel i n h hf h1 h2
    obtain ⟨g, rfl⟩ : ∃ g, fuel = g + 1 := ⟨fuel - 1, by omega⟩
    rw [nsupport_Returns_l0_0.eq_2, nspeculumref07_Returns_l0_0.eq_2]
    dsimp only
    rw [if_neg (by omega), if_neg (by omega), List.drop_eq_nil_of_le (by omega)]
    refine ⟨rfl, rfl, fun m hm => ?_⟩
    injection hm with hm; subst hm
    exact ⟨Int.dvd_refl _, fun f hf => by cases hf⟩
  | succ d ih =>
    intro fuel i n h hf h1 h2
    obtain ⟨g, rfl⟩ : ∃ g, fuel = g + 1 := ⟨fuel - 1, by omega⟩
    have hi : i < y.length := by omega
    have hd : y.drop i = y.getD i default :: y.drop (i + 1) := by
      rw [List.drop_eq_getElem_cons hi, List.getD_eq_getElem?_getD, List.getElem?_eq_getElem hi]; rfl
    have hyi : y.getD i default ∈ y := by rw [List.getD_eq_getElem?_getD, List.getElem?_eq_getElem hi]; exact List.getElem_mem _
    have ok := hok _ hyi
    rw [nsupport_Returns_l0_0.eq_2, nspeculumref07_Returns_l0_0.eq_2, hd]
    dsimp only
    rw [if_pos (by omega), if_pos (by omega), if_pos (by omega), if_pos (by omega), Int.toNat_natCast]
    generalize y.getD i default = f at *
    have k1 := ok.den
    have k2 := ok.denB
    have hg := gcd_pos (x := n) (y := f.Den) (by omega)
    obtain ⟨t1, t2, t3, t4, t5⟩ := turn_eq h1 k1
    have l1 := tdiv_le f.Den (Nat.gcd n.natAbs f.Den.natAbs : Int)
    have l2 := tdiv_le n (Nat.gcd n.natAbs f.Den.natAbs : Int)
    have hB : n * f.Den / (Nat.gcd n.natAbs f.Den.natAbs : Int) ≤ 1000000000000000000 := by
      rw [← t1]
      have := mul_bd9 (a := n) (b := f.Den.tdiv (Nat.gcd n.natAbs f.Den.natAbs : Int)) (by omega) (by omega)
      omega
    rw [div_sup k n f.Den (by omega) (by omega) (by omega), Option.bind_some, gcd_any k n f.Den (by omega) (by omega) (by omega), Option.bind_some,
      w64_id (n := f.Den.tdiv (Nat.gcd n.natAbs f.Den.natAbs : Int)) (by omega) (by omega), w64_id (n := n.tdiv (Nat.gcd n.natAbs f.Den.natAbs : Int)) (by omega) (by omega), t1, t2, w64_id (n := n * f.Den / (Nat.gcd n.natAbs f.Den.natAbs : Int)) (by omega) (by omega),
      if_pos (show (Nat.gcd n.natAbs f.Den.natAbs : Int) ≠ 0 by omega), if_pos (show (Nat.gcd n.natAbs f.Den.natAbs : Int) ≠ 0 by omega)]
    simp only [turn]
    by_cases c : 1000000000 < n * f.Den / (Nat.gcd n.natAbs f.Den.natAbs : Int)
    · rw [if_pos c, if_pos c, if_pos c]; exact ⟨rfl, rfl, fun m hm => by cases hm⟩
    · rw [if_neg c, if_neg c, if_neg c, w64_succ (by omega)]
      obtain ⟨i1, i2, i3⟩ := ih g (i + 1) _ (by omega) (by omega) t5 (by omega)
      refine ⟨i1, i2, fun m hm => ?_⟩
      obtain ⟨j1, j2⟩ := i3 m hm
      refine ⟨Int.dvd_trans t3 j1, fun x hx => ?_⟩
      rcases List.mem_cons.1 hx with rfl | hx
      · exact Int.dvd_trans t4 j1
      · exact j2 x hx
theorem meet_p (k : Nat) (hk : 18446744073709551617 ≤ k) (g : SGearPair) : nsupport_MeetAgain k g = some (if teeth g then (g.Driven.tdiv (Nat.gcd g.Driver.natAbs g.Driven.natAbs : Int), 0) else (0, 2)) := by
  unfold nsupport_MeetAgain
  rw [(train_any k (by omega) [g] (by simp)).1, Option.bind_some]
  rw [trE_one]
  by_cases h : teeth g
  · rw [if_pos h, if_pos rfl, if_pos h, (ratio_any k hk g h).1, Option.bind_some]
    unfold ratF lowF; unfold teeth at h; rw [if_neg (by omega)]
  · rw [if_neg h, if_neg (by omega), if_neg h]
theorem meet_r (k : Nat) (hk : 18446744073709551617 ≤ k) (g : SGearPair) (h : teeth g) : nspeculumref07_MeetAgain k g = some (g.Driven.tdiv (Nat.gcd g.Driver.natAbs g.Driven.natAbs : Int)) := by
  unfold nspeculumref07_MeetAgain
  unfold teeth at h
  have hg := gcd_pos (x := g.Driver) (y := g.Driven) (by omega)
  have l1 := tdiv_le g.Driven (Nat.gcd g.Driver.natAbs g.Driven.natAbs : Int)
  rw [gcd_any k _ _ (by omega) (by omega) (by omega), Option.bind_some, if_pos (by omega), w64_id (by omega) (by omega)]
theorem law_l (k : Nat) (hk : 18446744073709551617 ≤ k) (l : List SGearPair) (hl : l.length ≤ 15) (r1 : SFrac × Int) (r2 : Int × Int) (r3 : Int) : ∀ (d fuel i : Nat), l.length = i + d → d < fuel → nspeculumlaw07_SupportTrains_l0_0 k l r1 r2 r3 fuel (i : Int) = some (.inr ()) := by
  intro d
  induction d with
  | zero =>
    intro fuel i h hf
    obtain ⟨g, rfl⟩ : ∃ g, fuel = g + 1 := ⟨fuel - 1, by omega⟩
    rw [nspeculumlaw07_SupportTrains_l0_0.eq_2, if_neg (by omega)]
  | succ d ih =>
    intro fuel i h hf
    obtain ⟨g, rfl⟩ : ∃ g, fuel = g + 1 := ⟨fuel - 1, by omega⟩
    have hi : i < l.length := by omega
    rw [nspeculumlaw07_SupportTrains_l0_0.eq_2, if_pos (by omega)]
    by_cases c : (i : Int) < 3
    · have hs : sl l i (i + 1) = [l.getD i default] := by
        unfold sl
        rw [show i + 1 - i = 1 by omega, List.drop_eq_getElem_cons hi, List.getD_eq_getElem?_getD, List.getElem?_eq_getElem hi]; rfl
      rw [if_pos c, if_pos (by omega), w64_succ (by omega), Int.toNat_natCast, Int.toNat_natCast, meet_p k hk, Option.bind_some, if_pos (by omega), hs, (train_any k (by omega) [l.getD i default] (by simp)).2, Option.bind_some]
      rw [trE_one]
      by_cases t : teeth (l.getD i default)
      · rw [if_pos t, if_pos t, if_pos rfl, if_pos rfl, meet_r k hk _ t, Option.bind_some, if_pos rfl]
        exact ih g (i + 1) (by omega) (by omega)
      · rw [if_neg t, if_neg t, if_pos rfl, if_neg (by omega), if_pos rfl]
        exact ih g (i + 1) (by omega) (by omega)
    · rw [if_neg c]
theorem law_trains (k : Nat) (hk : 18446744073709551617 ≤ k) (l : List SGearPair) : nspeculumlaw07_SupportTrains k l = some true := by
  unfold nspeculumlaw07_SupportTrains
  rw [show nawake k = some true from rfl, Option.bind_some, if_pos rfl]
  have main : l.length ≤ 15 → nspeculumlaw07_short k l = some true → nspeculumlaw07_SupportTrains k l = some true := by
    intro hl hs
    unfold nspeculumlaw07_SupportTrains
    have ht : nspeculumlaw07_train k l = some l := by unfold nspeculumlaw07_train; rw [if_pos (by simp; omega)]; rfl
    obtain ⟨c1, c2⟩ := train_any k (by omega) l hl
    have hlaw : ∀ r1 r2 r3, nspeculumlaw07_SupportTrains_l0_0 k l r1 r2 r3 k 0 = some (.inr ()) := fun r1 r2 r3 => law_l k hk l hl r1 r2 r3 l.length k 0 (by omega) (by omega)
    unfold nsupport_Ratio nsupport_Returns nsupport_beginnings
    rw [show nawake k = some true from rfl, Option.bind_some, if_pos rfl, hs, Option.bind_some, if_pos rfl, ht, Option.bind_some, c1, c2]
    simp only [Option.bind_some, hlaw, if_true]
    by_cases h0 : trE l = 0
    · obtain ⟨b1, b2, b3⟩ := begs_any k hk l h0
      unfold nspeculumref07_Ratio nspeculumref07_Returns
      rw [if_pos h0, b1, b2]
      simp only [Option.bind_some]
      cases hb : begs l with
      | none =>
        dsimp only
        rw [if_neg (by omega), if_neg (by omega), Option.bind_some, Option.bind_some, if_pos h0, if_neg (by simp), if_neg (by simp), Option.bind_some, Option.bind_some]
        simp
      | some z =>
        obtain ⟨z1, z2⟩ := b3 z hb
        dsimp only
        obtain ⟨t1, t2, t3⟩ := turn_l k hk z 0 true (by omega) z2 z.length k 0 1 (by omega) (by omega) (by omega) (by omega)
        rw [List.drop_zero] at t1 t2 t3
        have hz : z.getD l.length default ∈ z := by rw [List.getD_eq_getElem?_getD, List.getElem?_eq_getElem (show l.length < z.length by omega)]; exact List.getElem_mem _
        have hden := (z2 _ hz).den
        cases ht : turn 1 z with
        | none =>
          rw [ht] at t1 t2
          rw [if_pos rfl, if_pos (by omega), Option.bind_some, if_pos rfl, show nsupport_Returns_l0_0 k (z, 0) k 0 1 = _ from t1]
          simp [h0, show nspeculumref07_Returns_l0_0 k (z, true) k 1 0 = _ from t2]
        | some m =>
          rw [ht] at t1 t2
          have hdv := (t3 m ht).2 _ hz
          rw [if_pos rfl, if_pos (by omega), Option.bind_some, if_pos rfl, show nsupport_Returns_l0_0 k (z, 0) k 0 1 = _ from t1]
          have hne : (z.getD l.length default).Den ≠ 0 := by omega
          have hmod := Int.tmod_eq_zero_of_dvd hdv
          simp [h0, show nspeculumref07_Returns_l0_0 k (z, true) k 1 0 = _ from t2] at hne hmod ⊢
          exact ⟨hne, hmod⟩
    · rw [if_neg h0]
      simp only [Option.bind_some]
      rw [if_neg h0, if_neg h0]
      simp only [Option.bind_some]
      rw [if_neg h0]
      simp
  by_cases c1 : (l.length : Int) ≤ 5
  · have hs : nspeculumlaw07_short k l = some true := by unfold nspeculumlaw07_short; rw [if_pos c1]
    have := main (by omega) hs
    unfold nspeculumlaw07_SupportTrains at this
    rw [show nawake k = some true from rfl, Option.bind_some, if_pos rfl] at this
    exact this
  · by_cases c2 : (12 : Int) < (l.length : Int)
    · by_cases c3 : (l.length : Int) ≤ 15
      · have hs : nspeculumlaw07_short k l = some true := by unfold nspeculumlaw07_short; rw [if_neg c1, if_pos c2, decide_eq_true c3]
        have := main (by omega) hs
        unfold nspeculumlaw07_SupportTrains at this
        rw [show nawake k = some true from rfl, Option.bind_some, if_pos rfl] at this
        exact this
      · have hs : nspeculumlaw07_short k l = some false := by unfold nspeculumlaw07_short; rw [if_neg c1, if_pos c2, decide_eq_false c3]
        rw [hs]; rfl
    · have hs : nspeculumlaw07_short k l = some false := by unfold nspeculumlaw07_short; rw [if_neg c1, if_neg c2]
      rw [hs]; rfl
theorem vc_trains (l : List SGearPair) : VC Go.Proofs.Try.prog 8 [VV.tr (l.flatMap c_SGearPair) l.length] (vb true) := nspeculumlaw07_SupportTrains_ok _ _ _ (law_trains 100000000000000000000 (by decide) l)
end Go.Proofs.Ytpaclgmigndilaa.Vg
