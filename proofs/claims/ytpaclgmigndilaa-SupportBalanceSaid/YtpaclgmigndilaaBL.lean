/- SupportBalance, plain. -/
import Derived.Test.YtpaclgmigndilaaW1
import Derived.Test.YtpaclgmigndilaaNF
set_option linter.unusedVariables false
set_option linter.unusedSimpArgs false
namespace Go.Proofs.Ytpaclgmigndilaa.Vg
open Go Go.Proofs.Ytpaclgmigndilaa.Ev Go.Proofs.Ytpaclgmigndilaa.Vv
def sumB (b : Bool) : Sum Unit Unit := match b with | true => .inr () | false => .inl ()
theorem drop_get {α : Type} {y : List α} {i : Nat} (h : i < y.length) (d : α) : y.drop i = y.getD i d :: y.drop (i + 1) := by
  rw [List.drop_eq_getElem_cons h, List.getD_eq_getElem?_getD, List.getElem?_eq_getElem h]; rfl
theorem aw_one (k : Nat) (hk : 10 ≤ k) (x y a : Int) : nsupport_areWithin k x y [a] = some (decide (x ≤ a ∧ a ≤ y)) := by
  obtain ⟨j, hj⟩ : ∃ j, k = j + 1 + 1 := ⟨k - 2, by omega⟩
  unfold nsupport_areWithin
  have go : nsupport_areWithin_l0_0 k x y [a] (j + 1 + 1) 0 = some (sumB (decide (x ≤ a ∧ a ≤ y))) := by
    rw [nsupport_areWithin_l0_0.eq_2, if_pos (by simp), if_pos (by simp), show ([a] : List Int).getD (0 : Int).toNat 0 = a from rfl]
    by_cases h1 : a < x
    · rw [if_pos h1, decide_eq_false (by omega)]; rfl
    · rw [if_neg h1]
      by_cases h2 : y < a
      · rw [if_pos h2, decide_eq_false (by omega)]; rfl
      · rw [if_neg h2, show w64 (0 + 1) = 1 from rfl, nsupport_areWithin_l0_0.eq_2, if_neg (by simp), decide_eq_true (by omega)]; rfl
  rw [← hj] at go
  rw [go, Option.bind_some]
  cases decide (x ≤ a ∧ a ≤ y) <;> rfl
theorem aw_two (k : Nat) (hk : 10 ≤ k) (x y a b : Int) : nsupport_areWithin k x y [a, b] = some (decide (x ≤ a ∧ a ≤ y) && decide (x ≤ b ∧ b ≤ y)) := by
  obtain ⟨j, hj⟩ : ∃ j, k = j + 1 + 1 + 1 := ⟨k - 3, by omega⟩
  unfold nsupport_areWithin
  have go : nsupport_areWithin_l0_0 k x y [a, b] (j + 1 + 1 + 1) 0 = some (sumB (decide (x ≤ a ∧ a ≤ y) && decide (x ≤ b ∧ b ≤ y))) := by
    rw [nsupport_areWithin_l0_0.eq_2, if_pos (by simp), if_pos (by simp), show ([a, b] : List Int).getD (0 : Int).toNat 0 = a from rfl]
    by_cases h1 : a < x
    · rw [if_pos h1, decide_eq_false (show ¬(x ≤ a ∧ a ≤ y) by omega)]; rfl
    · rw [if_neg h1]
      by_cases h2 : y < a
      · rw [if_pos h2, decide_eq_false (show ¬(x ≤ a ∧ a ≤ y) by omega)]; rfl
      · rw [if_neg h2, decide_eq_true (show x ≤ a ∧ a ≤ y by omega), show w64 (0 + 1) = 1 from rfl, nsupport_areWithin_l0_0.eq_2, if_pos (by simp), if_pos (by simp), show ([a, b] : List Int).getD (1 : Int).toNat 0 = b from rfl, Bool.true_and]
        by_cases h3 : b < x
        · rw [if_pos h3, decide_eq_false (by omega)]; rfl
        · rw [if_neg h3]
          by_cases h4 : y < b
          · rw [if_pos h4, decide_eq_false (by omega)]; rfl
          · rw [if_neg h4, show w64 (1 + 1) = 2 from rfl, nsupport_areWithin_l0_0.eq_2, if_neg (by simp), decide_eq_true (by omega)]; rfl
  rw [← hj] at go
  rw [go, Option.bind_some]
  cases (decide (x ≤ a ∧ a ≤ y) && decide (x ≤ b ∧ b ≤ y)) <;> rfl
def inA (a : Int) : Bool := decide (-10000000 ≤ a ∧ a ≤ 10000000)
def inW (a : Int) : Bool := decide (0 ≤ a ∧ a ≤ 10000000)
def loadB (x : SAxisLoad) : Bool := inW x.Weight && (inA x.ArmX && inA x.ArmY)
/-- the sums, as the machine makes them. -/
def momW : List SAxisLoad → Int → Int → Int × Int
  | [], a, b => (a, b)
  | x :: l, a, b => momW l (w64 (a + w64 (x.Weight * x.ArmX))) (w64 (b + w64 (x.Weight * x.ArmY)))
def momR (l : List SAxisLoad) (a b : Int) : Sum Unit (Int × Int) := match l.all loadB with | true => .inr (momW l a b) | false => .inl ()
theorem mom_p (k : Nat) (hk : 10 ≤ k) (l : List SAxisLoad) (hl : l.length ≤ 1000) : ∀ (d fuel i : Nat) (a b : Int), l.length = i + d → d < fuel → nsupport_Moments_l0_0 k l fuel a b (i : Int) = some (momR (l.drop i) a b) := by
  intro d
  induction d with
  | zero =>
    intro fuel i a b h hf
    obtain ⟨g, rfl⟩ : ∃ g, fuel = g + 1 := ⟨fuel - 1, by omega⟩
    rw [nsupport_Moments_l0_0.eq_2, if_neg (by omega), List.drop_eq_nil_of_le (by omega)]; rfl
  | succ d ih =>
    intro fuel i a b h hf
    obtain ⟨g, rfl⟩ : ∃ g, fuel = g + 1 := ⟨fuel - 1, by omega⟩
    rw [nsupport_Moments_l0_0.eq_2, if_pos (by omega), if_pos (by omega), Int.toNat_natCast, aw_one k hk, Option.bind_some, aw_two k hk, Option.bind_some, w64_succ (by omega), ih g (i + 1) _ _ (by omega) (by omega), drop_get (y := l) (i := i) (by omega) default]
    generalize l.getD i default = x
    have e : (x :: l.drop (i + 1)).all loadB = (inW x.Weight && ((inA x.ArmX && inA x.ArmY) && (l.drop (i + 1)).all loadB)) := by rw [List.all_cons, loadB, Bool.and_assoc]
    have hm : momW (x :: l.drop (i + 1)) a b = momW (l.drop (i + 1)) (w64 (a + w64 (x.Weight * x.ArmX))) (w64 (b + w64 (x.Weight * x.ArmY))) := rfl
    unfold momR
    rw [e, hm]
    show (if inW x.Weight = true then (if (inA x.ArmX && inA x.ArmY) = true then _ else _) else _) = _
    cases inW x.Weight with
    | false => rfl
    | true => cases (inA x.ArmX && inA x.ArmY) <;> rfl
theorem mom_r (k : Nat) (l : List SAxisLoad) (hl : l.length ≤ 1000) : ∀ (d fuel i : Nat) (a b : Int), l.length = i + d → d < fuel → nspeculumref07_Moments_l0_0 k l fuel a b (i : Int) = some (momW (l.drop i) a b) := by
  intro d
  induction d with
  | zero =>
    intro fuel i a b h hf
    obtain ⟨g, rfl⟩ : ∃ g, fuel = g + 1 := ⟨fuel - 1, by omega⟩
    rw [nspeculumref07_Moments_l0_0.eq_2, if_neg (by omega), List.drop_eq_nil_of_le (by omega)]; rfl
  | succ d ih =>
    intro fuel i a b h hf
    obtain ⟨g, rfl⟩ : ∃ g, fuel = g + 1 := ⟨fuel - 1, by omega⟩
    rw [nspeculumref07_Moments_l0_0.eq_2, if_pos (by omega), if_pos (by omega), Int.toNat_natCast, w64_succ (by omega), ih g (i + 1) _ _ (by omega) (by omega), drop_get (y := l) (i := i) (by omega) default]; rfl
theorem wi (k : Nat) (a b c : Int) : nspeculumbase_Within k a b c = some (decide (b ≤ a ∧ a ≤ c)) := by
  unfold nspeculumbase_Within
  by_cases h1 : b ≤ a
  · rw [if_pos h1]; congr 1; by_cases h2 : a ≤ c
    · rw [decide_eq_true h2, decide_eq_true ⟨h1, h2⟩]
    · rw [decide_eq_false h2, decide_eq_false (fun h => h2 h.2)]
  · rw [if_neg h1, decide_eq_false (fun h => h1 h.1)]
theorem chk_r (k : Nat) (l : List SAxisLoad) (hl : l.length ≤ 1000) : ∀ (d fuel i : Nat), l.length = i + d → d < fuel → nspeculumref07_CheckLoads_l0_0 k l fuel (i : Int) = some (sumB ((l.drop i).all loadB)) := by
  intro d
  induction d with
  | zero =>
    intro fuel i h hf
    obtain ⟨g, rfl⟩ : ∃ g, fuel = g + 1 := ⟨fuel - 1, by omega⟩
    rw [nspeculumref07_CheckLoads_l0_0.eq_2, if_neg (by omega), List.drop_eq_nil_of_le (by omega)]; rfl
  | succ d ih =>
    intro fuel i h hf
    obtain ⟨g, rfl⟩ : ∃ g, fuel = g + 1 := ⟨fuel - 1, by omega⟩
    rw [nspeculumref07_CheckLoads_l0_0.eq_2, if_pos (by omega), if_pos (by omega), Int.toNat_natCast, wi, Option.bind_some, wi, Option.bind_some, wi, Option.bind_some, w64_succ (by omega), ih g (i + 1) (by omega) (by omega), drop_get (y := l) (i := i) (by omega) default]
    generalize l.getD i default = x
    have e : (x :: l.drop (i + 1)).all loadB = (inW x.Weight && ((inA x.ArmX && inA x.ArmY) && (l.drop (i + 1)).all loadB)) := by rw [List.all_cons, loadB, Bool.and_assoc]
    rw [e]
    show (if inW x.Weight = true then (if inA x.ArmX = true then (if inA x.ArmY = true then _ else _) else _) else _) = _
    cases inW x.Weight with
    | false => rfl
    | true =>
      cases inA x.ArmX with
      | false => rfl
      | true => cases inA x.ArmY <;> rfl
def momE (l : List SAxisLoad) : Int := if 60 < l.length then 8 else match l.all loadB with | true => 0 | false => 2
def momV (l : List SAxisLoad) : A47 := ⟨(momW l 0 0).1, (momW l 0 0).2⟩
def momP (l : List SAxisLoad) : A47 × Int := if 60 < l.length then (⟨0, 0⟩, 8) else match l.all loadB with | true => (momV l, 0) | false => (⟨0, 0⟩, 2)
theorem moments_p (k : Nat) (hk : 10000 ≤ k) (l : List SAxisLoad) (hl : l.length ≤ 1000) : nsupport_Moments k l = some (momP l) := by
  unfold nsupport_Moments momP
  by_cases h : 60 < l.length
  · rw [if_pos (by omega), if_pos h]
  · have e := mom_p k (by omega) l hl l.length k 0 0 0 (by omega) (by omega)
    rw [List.drop_zero] at e
    rw [if_neg (by omega), if_neg h, show nsupport_Moments_l0_0 k l k 0 0 0 = _ from e, Option.bind_some]
    unfold momR momV
    cases l.all loadB <;> rfl
theorem moments_r (k : Nat) (hk : 10000 ≤ k) (l : List SAxisLoad) (hl : l.length ≤ 1000) : nspeculumref07_Moments k l = some (momV l) := by
  unfold nspeculumref07_Moments
  have e := mom_r k l hl l.length k 0 0 0 (by omega) (by omega)
  rw [List.drop_zero] at e
  rw [show nspeculumref07_Moments_l0_0 k l k 0 0 0 = _ from e]; rfl
theorem check_r (k : Nat) (hk : 10000 ≤ k) (l : List SAxisLoad) (hl : l.length ≤ 1000) : nspeculumref07_CheckLoads k l = some (momE l) := by
  unfold nspeculumref07_CheckLoads momE
  by_cases h : 60 < l.length
  · rw [if_pos (by omega), if_pos h]
  · have e := chk_r k l hl l.length k 0 (by omega) (by omega)
    rw [List.drop_zero] at e
    rw [if_neg (by omega), if_neg h, show nspeculumref07_CheckLoads_l0_0 k l k 0 = _ from e, Option.bind_some]
    cases l.all loadB <;> rfl
theorem momP_eq (l : List SAxisLoad) : momP l = if momE l = 0 then (momV l, 0) else (⟨0, 0⟩, momE l) := by
  unfold momP momE
  by_cases h : 60 < l.length
  · rw [if_pos h, if_pos h]; rfl
  · rw [if_neg h, if_neg h]; cases l.all loadB <;> rfl
/- the sums are exact. -/
def sx : List SAxisLoad → Int
  | [] => 0
  | x :: l => x.Weight * x.ArmX + sx l
def sy : List SAxisLoad → Int
  | [] => 0
  | x :: l => x.Weight * x.ArmY + sy l
theorem prodB {w a : Int} (hw : inW w = true) (ha : inA a = true) : -100000000000000 ≤ w * a ∧ w * a ≤ 100000000000000 := by
  have h1 := of_decide_eq_true hw
  have h2 := of_decide_eq_true ha
  have := Int.mul_le_mul_of_nonneg_left h2.1 h1.1
  have := Int.mul_le_mul_of_nonneg_left h2.2 h1.1
  omega
theorem mom_exact : ∀ (l : List SAxisLoad) (a b : Int), l.all loadB = true → a.natAbs + l.length * 100000000000000 ≤ 200000000000000000 → b.natAbs + l.length * 100000000000000 ≤ 200000000000000000 → momW l a b = (a + sx l, b + sy l) ∧ (sx l).natAbs ≤ l.length * 100000000000000 ∧ (sy l).natAbs ≤ l.length * 100000000000000
  | [], a, b, _, _, _ => by simp [momW, sx, sy]
  | x :: l, a, b, h, ha, hb => by
    simp only [List.all_cons, Bool.and_eq_true, loadB] at h
    obtain ⟨⟨h1, h2, h3⟩, h4⟩ := h
    have p1 := prodB h1 h2
    have p2 := prodB h1 h3
    simp only [List.length_cons] at ha hb
    obtain ⟨g1, g2, g3⟩ := mom_exact l (a + x.Weight * x.ArmX) (b + x.Weight * x.ArmY) (List.all_eq_true.2 (fun y hy => List.all_eq_true.1 h4 y hy)) (by omega) (by omega)
    simp only [momW, sx, sy, List.length_cons]
    rw [w64_id (n := x.Weight * x.ArmX) (by omega) (by omega), w64_id (n := x.Weight * x.ArmY) (by omega) (by omega), w64_id (by omega) (by omega), w64_id (by omega) (by omega), g1]
    exact ⟨by rw [Int.add_assoc, Int.add_assoc], by omega, by omega⟩
theorem momE_zero {l : List SAxisLoad} (h : momE l = 0) : l.length ≤ 60 ∧ l.all loadB = true := by
  unfold momE at h
  split at h
  · omega
  split at h
  · exact ⟨by omega, by assumption⟩
  · omega
theorem momV_eq {l : List SAxisLoad} (h : momE l = 0) : momV l = ⟨sx l, sy l⟩ ∧ (sx l).natAbs ≤ 6000000000000000 ∧ (sy l).natAbs ≤ 6000000000000000 := by
  obtain ⟨h1, h2⟩ := momE_zero h
  obtain ⟨g1, g2, g3⟩ := mom_exact l 0 0 h2 (by omega) (by omega)
  unfold momV
  rw [g1, Int.zero_add, Int.zero_add]
  exact ⟨rfl, by omega, by omega⟩
theorem sx_app : ∀ (l : List SAxisLoad) (x : SAxisLoad), sx (l ++ [x]) = sx l + x.Weight * x.ArmX ∧ sy (l ++ [x]) = sy l + x.Weight * x.ArmY
  | [], x => by simp [sx, sy]
  | y :: l, x => by
    obtain ⟨h1, h2⟩ := sx_app l x
    simp only [List.cons_append, sx, sy, h1, h2]
    exact ⟨by omega, by omega⟩
/- divisors. -/
theorem gs (k : Nat) : ∀ (n fuel : Nat) (x y : Nat), y < n → n ≤ fuel →
    nsupport_divisor_l0_0 k fuel (x : Int) (y : Int) = some (Nat.gcd x y : Int) := by
  intro n
  induction n with
  | zero => intro fuel x y h; omega
  | succ n ih =>
    intro fuel x y h hf
    obtain ⟨g, rfl⟩ : ∃ g, fuel = g + 1 := ⟨fuel - 1, by omega⟩
    rw [nsupport_divisor_l0_0.eq_2]
    by_cases h0 : y = 0
    · subst h0
      rw [if_pos (show ((0 : Nat) : Int) = 0 from rfl), Nat.gcd_zero_right]
    · rw [if_neg (by omega), if_pos (by omega)]
      have e : ((x : Int).tmod (y : Int)) = ((x % y : Nat) : Int) := by
        rw [Int.tmod_eq_emod_of_nonneg (by omega)]; omega
      rw [e, ih g y (x % y) (by have := Nat.mod_lt x (show 0 < y by omega); omega) (by omega), Nat.gcd_comm x y, Nat.gcd_rec y x, Nat.gcd_comm]
theorem div_sup (k : Nat) (x y : Int) (hx : 0 ≤ x) (hy : 0 ≤ y) (hk : y.natAbs < k) : nsupport_divisor k x y = some (Nat.gcd x.natAbs y.natAbs : Int) := by
  have h := gs k (y.natAbs + 1) k x.natAbs y.natAbs (by omega) (by omega)
  unfold nsupport_divisor
  rw [show ((x.natAbs : Nat) : Int) = x by omega, show ((y.natAbs : Nat) : Int) = y by omega] at h
  rw [h]; rfl
theorem small_p (k : Nat) (hk : 18446744073709551617 ≤ k) (n d : Int) (hn : 0 ≤ n) (hn2 : n ≤ 9000000000000000000) (hd : 0 < d) (hd2 : d ≤ 9000000000000000000) : nsupport_small k n d = some (lowS n d) := by
  have hg := gcd_pos (x := n) (y := d) (by omega)
  have h1 := tdiv_le n (Nat.gcd n.natAbs d.natAbs : Int)
  have h2 := tdiv_le d (Nat.gcd n.natAbs d.natAbs : Int)
  obtain ⟨b1, b2⟩ := lowF_in n d (by omega) (by omega)
  have e : (⟨n.tdiv (Nat.gcd n.natAbs d.natAbs : Int), d.tdiv (Nat.gcd n.natAbs d.natAbs : Int)⟩ : SFrac) = lowF n d := by unfold lowF; rw [if_neg (by omega)]
  unfold nsupport_small nsupport_lowest lowS
  rw [div_sup k n d hn (by omega) (by omega), Option.bind_some, if_pos (by omega), Option.bind_some, w64_id (n := n.tdiv _) (by omega) (by omega), w64_id (n := d.tdiv _) (by omega) (by omega), e, cf_prog k hk _ b1 b2, Option.bind_some]
  by_cases h : cf (lowF n d) = 0
  · rw [if_pos h, if_pos h]
  · rw [if_neg h, if_neg h]
theorem lowF_neg {n d : Int} (hd : d < 0) : lowF n d = lowF (-n) (-d) := by
  unfold lowF
  rw [if_pos hd, if_neg (by omega), Int.natAbs_neg, Int.natAbs_neg, Int.neg_tdiv, Int.neg_tdiv]
theorem lowF_sign {n d : Int} (hd : 0 < d) : (lowF n d).Num < 0 ↔ n < 0 := by
  obtain ⟨_, f2, _, _⟩ := lowF_facts (n := n) hd
  have hg := gcd_pos (x := n) (y := d) (by omega)
  generalize (lowF n d).Num = a at *
  have hg0 : (0 : Int) < (Nat.gcd n.natAbs d.natAbs : Int) := by omega
  constructor
  · intro h; rw [f2]; exact Int.mul_neg_of_neg_of_pos h hg0
  · intro h
    rcases Int.lt_or_le a 0 with c | c
    · exact c
    · have := Int.mul_nonneg c (show (0 : Int) ≤ (Nat.gcd n.natAbs d.natAbs : Int) by omega); omega
theorem lowF_cross {n d : Int} (hd : d ≠ 0) : (lowF n d).Num * d = n * (lowF n d).Den := by
  have go : ∀ {n d : Int}, 0 < d → (lowF n d).Num * d = n * (lowF n d).Den := by
    intro n d h
    obtain ⟨_, f2, f3, _⟩ := lowF_facts (n := n) h
    generalize (lowF n d).Num = a at *
    generalize (lowF n d).Den = b at *
    generalize (Nat.gcd n.natAbs d.natAbs : Int) = g at *
    rw [f2, f3]; grind
  rcases Int.lt_or_le 0 d with h | h
  · exact go h
  · rw [lowF_neg (by omega)]
    have := go (n := -n) (d := -d) (by omega)
    generalize (lowF (-n) (-d)).Num = a at *
    generalize (lowF (-n) (-d)).Den = b at *
    grind
/-- the counterweight for a moment. -/
def cw (m arm : Int) : SFrac × Int := if (lowF (-m) arm).Num < 0 then (⟨0, 0⟩, 12) else lowS (-m) arm
theorem cw_p (k : Nat) (hk : 18446744073709551617 ≤ k) (m arm : Int) (hm : m.natAbs ≤ 6000000000000000) (ha : arm.natAbs ≤ 10000000) (h0 : arm ≠ 0) :
    (if arm < 0 then (if (w64 (0 - (w64 (0 - m)))) < 0 then (some ((⟨0, 0⟩ : SFrac), (12 : Int))) else ((nsupport_small k (w64 (0 - (w64 (0 - m)))) (w64 (0 - arm))).bind fun r => (some (r.1, r.2)))) else (if (w64 (0 - m)) < 0 then (some ((⟨0, 0⟩ : SFrac), 12)) else ((nsupport_small k (w64 (0 - m)) arm).bind fun r => (some (r.1, r.2))))) = some (cw m arm) := by
  rw [w64_id (n := 0 - m) (by omega) (by omega), w64_id (n := 0 - (0 - m)) (by omega) (by omega), w64_id (n := 0 - arm) (by omega) (by omega), show (0 : Int) - (0 - m) = m by omega, show (0 : Int) - m = -m by omega, show (0 : Int) - arm = -arm by omega]
  unfold cw
  by_cases c : arm < 0
  · have e := lowF_neg (n := -m) c
    rw [Int.neg_neg] at e
    have es : lowS (-m) arm = lowS m (-arm) := by unfold lowS; rw [e]
    have sg := lowF_sign (n := m) (d := -arm) (by omega)
    rw [if_pos c, e, es]
    by_cases c2 : m < 0
    · rw [if_pos c2, if_pos (sg.2 c2)]
    · rw [if_neg c2, if_neg (fun h => c2 (sg.1 h)), small_p k hk m (-arm) (by omega) (by omega) (by omega) (by omega), Option.bind_some]
  · have sg := lowF_sign (n := -m) (d := arm) (by omega)
    rw [if_neg c]
    by_cases c2 : -m < 0
    · rw [if_pos c2, if_pos (sg.2 c2)]
    · rw [if_neg c2, if_neg (fun h => c2 (sg.1 h)), small_p k hk (-m) arm (by omega) (by omega) (by omega) (by omega), Option.bind_some]
theorem cw_r (k : Nat) (hk : 18446744073709551617 ≤ k) (m arm : Int) (hm : m.natAbs ≤ 6000000000000000) (ha : arm.natAbs ≤ 10000000) (h0 : arm ≠ 0) :
    ((nspeculumbase_Lowest k (w64 (0 - m)) arm).bind fun r => (if r.Num < 0 then (some ((⟨0, 0⟩ : SFrac), (12 : Int))) else ((nspeculumref01_CheckFrac k r).bind fun s => (if s = 0 then (some (r, 0)) else (some ((⟨0, 0⟩ : SFrac), 8)))))) = some (cw m arm) := by
  obtain ⟨b1, b2⟩ := lowF_in (-m) arm (by omega) (by omega)
  rw [w64_id (n := 0 - m) (by omega) (by omega), show (0 : Int) - m = -m by omega, low_base k _ _ h0 (by omega) (by omega) (by omega), Option.bind_some, cf_ref k hk _ b1 b2, Option.bind_some]
  unfold cw lowS
  by_cases c : (lowF (-m) arm).Num < 0
  · rw [if_pos c, if_pos c]
  · rw [if_neg c, if_neg c]
    by_cases h : cf (lowF (-m) arm) = 0
    · rw [if_pos h, if_pos h]
    · rw [if_neg h, if_neg h]
/-- the moment that is meant. -/
def ax (v : A47) (axis : Int) : Int := if axis = 0 then v.e0 else v.e1
def cwS (l : List SAxisLoad) (axis arm : Int) : SFrac × Int := if 0 ≤ axis ∧ axis ≤ 1 then (if -10000000 ≤ arm ∧ arm ≤ 10000000 then (if arm = 0 then (⟨0, 0⟩, 11) else cw (ax ⟨sx l, sy l⟩ axis) arm) else (⟨0, 0⟩, 2)) else (⟨0, 0⟩, 2)
theorem counter_r (k : Nat) (hk : 18446744073709551617 ≤ k) (l : List SAxisLoad) (axis arm : Int) (h : momE l = 0) (hl : l.length ≤ 1000) : nspeculumref07_Counterweight k l axis arm = some (cwS l axis arm) := by
  obtain ⟨v1, v2, v3⟩ := momV_eq h
  unfold nspeculumref07_Counterweight cwS
  rw [wi, Option.bind_some, wi, Option.bind_some, moments_r k (by omega) l hl, Option.bind_some, v1]
  by_cases c1 : 0 ≤ axis ∧ axis ≤ 1
  · rw [decide_eq_true c1, if_pos rfl, if_pos c1]
    by_cases c2 : -10000000 ≤ arm ∧ arm ≤ 10000000
    · rw [decide_eq_true c2, if_pos rfl, if_pos c2]
      by_cases c3 : arm = 0
      · rw [if_pos c3, if_pos c3]
      · rw [if_neg c3, if_neg c3]
        unfold ax
        by_cases c4 : axis = 0
        · rw [if_pos c4, if_pos c4]; exact cw_r k hk _ _ v2 (by omega) c3
        · rw [if_neg c4, if_neg c4, if_pos (by omega)]; exact cw_r k hk _ _ v3 (by omega) c3
    · rw [decide_eq_false c2, if_neg c2]; rfl
  · rw [decide_eq_false c1, if_neg c1]; rfl
theorem counter_p (k : Nat) (hk : 18446744073709551617 ≤ k) (l : List SAxisLoad) (axis arm : Int) (hl : l.length ≤ 1000) : nsupport_Counterweight k l axis arm = some (if momE l = 0 then cwS l axis arm else (⟨0, 0⟩, momE l)) := by
  unfold nsupport_Counterweight
  rw [moments_p k (by omega) l hl, Option.bind_some, momP_eq]
  by_cases h : momE l = 0
  · obtain ⟨v1, v2, v3⟩ := momV_eq h
    rw [if_pos h, if_pos h, if_pos rfl, aw_one k (by omega), Option.bind_some, aw_one k (by omega), Option.bind_some, v1]
    unfold cwS
    by_cases c1 : 0 ≤ axis ∧ axis ≤ 1
    · rw [decide_eq_true c1, if_pos rfl, if_pos c1]
      by_cases c2 : -10000000 ≤ arm ∧ arm ≤ 10000000
      · rw [decide_eq_true c2, if_pos rfl, if_pos c2]
        by_cases c3 : arm = 0
        · rw [if_pos c3, if_pos c3]
        · rw [if_neg c3, if_neg c3]
          unfold ax
          by_cases c4 : axis = 0
          · rw [if_pos c4, if_pos c4]; exact cw_p k hk _ _ v2 (by omega) c3
          · rw [if_neg c4, if_neg c4, if_pos (by omega)]; exact cw_p k hk _ _ v3 (by omega) c3
      · rw [decide_eq_false c2, if_neg c2]; rfl
    · rw [decide_eq_false c1, if_neg c1]; rfl
  · rw [if_neg h, if_neg h, if_neg h]
theorem cw_zero {m arm : Int} (h : (cw m arm).2 = 0) (hd : (cw m arm).1.Den = 1) (h0 : arm ≠ 0) : (cw m arm).1.Num * arm + m = 0 ∧ 0 ≤ (cw m arm).1.Num := by
  unfold cw at h hd ⊢
  by_cases c : (lowF (-m) arm).Num < 0
  · rw [if_pos c] at h; simp at h
  · rw [if_neg c] at h hd ⊢
    obtain ⟨_, e⟩ := lowS_ok h
    rw [e] at hd ⊢
    have := lowF_cross (n := -m) h0
    rw [hd] at this
    exact ⟨by omega, by omega⟩
theorem more_ok {l : List SAxisLoad} (h : momE l = 0) (hl : l.length < 12) {x : SAxisLoad} (hx : loadB x = true) : momP (l ++ [x]) = (⟨sx l + x.Weight * x.ArmX, sy l + x.Weight * x.ArmY⟩, 0) := by
  obtain ⟨h1, h2⟩ := momE_zero h
  have e : momE (l ++ [x]) = 0 := by
    unfold momE
    rw [if_neg (by simp; omega), List.all_append, h2]
    simp [hx]
  rw [momP_eq, if_pos e, (momV_eq e).1, (sx_app l x).1, (sx_app l x).2]
theorem law_bal (k : Nat) (hk : 18446744073709551617 ≤ k) (l : List SAxisLoad) (axis arm : Int) : nspeculumlaw07_SupportBalance k l axis arm = some true := by
  have app : ([] : List SAxisLoad) ++ l = l := rfl
  have body : l.length ≤ 63 → ((nsupport_Moments k l).bind fun r1229 => ((nsupport_Counterweight k l axis arm).bind fun r1234 => ((nspeculumref07_CheckLoads k l).bind fun r1238 => (if r1238 = 0 then ((nspeculumref07_Counterweight k l axis arm).bind fun r1242 => (if r1229.2 = 0 then ((nspeculumref07_Moments k l).bind fun r1249 => (if ((r1229.1.e0 : Int) == r1249.e0 && ((r1229.1.e1 : Int) == r1249.e1 && true)) = true then (if r1234.2 = r1242.2 then (if ((r1234.1.Num : Int) == r1242.1.Num && ((r1234.1.Den : Int) == r1242.1.Den && true)) = true then (if r1242.2 = 0 then (if r1234.1.Den = 1 then (if 10000000 < r1234.1.Num then (some true) else (if 12 ≤ (l.length : Int) then (some true) else (if axis = 0 then (if l.length + ([(⟨r1234.1.Num, arm, 0⟩ : SAxisLoad)] : List SAxisLoad).length ≤ 1000000000 then ((nsupport_Moments k (l ++ ([(⟨r1234.1.Num, arm, 0⟩ : SAxisLoad)] : List SAxisLoad))).bind fun r1277 => (if r1277.2 = 0 then (some (decide (r1277.1.e0 = 0))) else (some false))) else none) else (if l.length + ([(⟨r1234.1.Num, 0, arm⟩ : SAxisLoad)] : List SAxisLoad).length ≤ 1000000000 then ((nsupport_Moments k (l ++ ([(⟨r1234.1.Num, 0, arm⟩ : SAxisLoad)] : List SAxisLoad))).bind fun r1288 => (if r1288.2 = 0 then (if axis = 1 then (some (decide (r1288.1.e1 = 0))) else none) else (some false))) else none)))) else (some true)) else (some true)) else (some false)) else (some false)) else (some false))) else (some false))) else (if r1229.2 = r1238 then (if r1234.2 = r1238 then (if ((r1229.1.e0 : Int) == 0 && ((r1229.1.e1 : Int) == 0 && true)) = true then (some ((r1234.1.Num : Int) == 0 && ((r1234.1.Den : Int) == 0 && true))) else (some false)) else (some false)) else (some false)))))) = some true := by
    intro hl
    rw [moments_p k (by omega) l (by omega), Option.bind_some, counter_p k hk l axis arm (by omega), Option.bind_some, check_r k (by omega) l (by omega), Option.bind_some, momP_eq]
    by_cases h : momE l = 0
    · obtain ⟨v1, v2, v3⟩ := momV_eq h
      obtain ⟨hl2, hall⟩ := momE_zero h
      rw [if_pos h, if_pos h, if_pos h, counter_r k hk l axis arm h (by omega), Option.bind_some, if_pos rfl, moments_r k (by omega) l (by omega), Option.bind_some, if_pos (by simp), if_pos rfl, if_pos (by simp)]
      by_cases c1 : (cwS l axis arm).2 = 0
      · rw [if_pos c1]
        by_cases c2 : (cwS l axis arm).1.Den = 1
        · rw [if_pos c2]
          by_cases c3 : 10000000 < (cwS l axis arm).1.Num
          · rw [if_pos c3]
          · rw [if_neg c3]
            by_cases c4 : 12 ≤ (l.length : Int)
            · rw [if_pos c4]
            · have hc : 0 ≤ axis ∧ axis ≤ 1 ∧ (-10000000 ≤ arm ∧ arm ≤ 10000000) ∧ arm ≠ 0 ∧ cwS l axis arm = cw (ax ⟨sx l, sy l⟩ axis) arm := by
                unfold cwS at c1 ⊢
                split at c1
                · rename_i q1
                  split at c1
                  · rename_i q2
                    split at c1
                    · simp at c1
                    · rename_i q3
                      rw [if_pos q1, if_pos q2, if_neg q3]
                      exact ⟨q1.1, q1.2, q2, q3, rfl⟩
                  · simp at c1
                · simp at c1
              obtain ⟨d1, d2, d3, d4, d5⟩ := hc
              rw [d5] at c1 c2 c3 ⊢
              obtain ⟨z1, z2⟩ := cw_zero c1 c2 d4
              have inw : inW (cw (ax ⟨sx l, sy l⟩ axis) arm).1.Num = true := decide_eq_true ⟨z2, by omega⟩
              have ina : inA arm = true := decide_eq_true d3
              rw [if_neg c4]
              unfold ax at *
              by_cases c5 : axis = 0
              · rw [if_pos c5] at z1 z2 inw c1 c2 c3 ⊢
                have := more_ok h (x := ⟨(cw (sx l) arm).1.Num, arm, 0⟩) (by omega) (by simp only [loadB, Bool.and_eq_true]; exact ⟨inw, ina, rfl⟩)
                rw [if_pos c5, if_pos (by simp only [List.length_cons, List.length_nil]; omega), moments_p k (by omega) _ (by simp; omega), this, Option.bind_some, if_pos rfl, decide_eq_true]
                show sx l + (cw (sx l) arm).1.Num * arm = 0
                have z1' : (cw (sx l) arm).1.Num * arm + sx l = 0 := z1
                omega
              · rw [if_neg c5] at z1 z2 inw c1 c2 c3 ⊢
                have := more_ok h (x := ⟨(cw (sy l) arm).1.Num, 0, arm⟩) (by omega) (by simp only [loadB, Bool.and_eq_true]; exact ⟨inw, rfl, ina⟩)
                rw [if_neg c5, if_pos (by simp only [List.length_cons, List.length_nil]; omega), moments_p k (by omega) _ (by simp; omega), this, Option.bind_some, if_pos rfl, if_pos (by omega), decide_eq_true]
                show sy l + (cw (sy l) arm).1.Num * arm = 0
                have z1' : (cw (sy l) arm).1.Num * arm + sy l = 0 := z1
                omega
        · rw [if_neg c2]
      · rw [if_neg c1]
    · rw [if_neg h, if_neg h, if_neg h, if_pos rfl, if_pos rfl]; rfl
  unfold nspeculumlaw07_SupportBalance
  rw [show nawake k = some true from rfl, Option.bind_some, if_pos rfl, app]
  simp only [List.length_nil, Nat.zero_add]
  by_cases c1 : 12 < (l.length : Int)
  · rw [if_pos c1]
    by_cases c2 : (l.length : Int) ≤ 60
    · rw [if_pos c2]
    · rw [if_neg c2]
      by_cases c3 : 63 < (l.length : Int)
      · rw [if_pos c3]
      · rw [if_neg c3, if_pos (by omega)]
        exact body (by omega)
  · rw [if_neg c1]
    by_cases c3 : 63 < (l.length : Int)
    · rw [if_pos c3]
    · rw [if_neg c3, if_pos (by omega)]
      exact body (by omega)
theorem vc_bal (l : List SAxisLoad) (axis arm : Int) : VC Go.Proofs.Try.prog 5 [VV.tr (l.flatMap c_SAxisLoad) l.length, vi axis, vi arm] (vb true) := nspeculumlaw07_SupportBalance_ok _ _ _ _ _ (law_bal 100000000000000000000 (by decide) l axis arm)
end Go.Proofs.Ytpaclgmigndilaa.Vg
