import Derived.Test.YtbaegoglpijnnabD1
import Derived.Test.YtbaegoglpijnnabKE
set_option linter.unusedVariables false
set_option linter.unusedSimpArgs false
namespace Go.Proofs.Ytbaegoglpijnnab.Vg
open Go Go.Proofs.Ytbaegoglpijnnab.Ev Go.Proofs.Ytbaegoglpijnnab.Vv
theorem strokes1 (k : Nat) (hk : 100 < k) (hk2 : k <= 100000000000000000000) (l : List SStroke) (hl : l.length <= 15) (hw : ∀ i, i < l.length -> (l.getD i default).Wear.length <= 43) : ngrind_validStrokes_1 k l = some (strE l) := by
 unfold ngrind_validStrokes_1
 rw [checkStrokes_p k hk hk2 l hl hw, Option.bind_some]
 unfold strR
 cases h : decide (strE l = 0) with
 | true => rw [of_decide_eq_true h]
 | false => rfl
def errE (e : Int) : Sum Int Unit := match decide (e = 0) with | true => .inr () | false => .inl e
def zones (l : List SStroke) : Nat := (l.getD 0 default).Wear.length
def demZ (d : SGrindDemand) (i : Nat) : Int := match inR 0 10000 (d.Low.getD i 0) && inR 0 10000 (d.High.getD i 0) with
 | false => 2
 | true => match decide (d.Low.getD i 0 <= d.High.getD i 0) with
   | false => 9
   | true => 0
def demL (d : SGrindDemand) : Nat -> Nat -> Int
 | 0, _ => 0
 | n + 1, i => match decide (demZ d i = 0) with
   | true => demL d n (i + 1)
   | false => demZ d i
def demE (l : List SStroke) (d : SGrindDemand) : Int := match decide (d.Low.length = zones l) && decide (d.High.length = zones l) with
 | false => 10
 | true => demL d (zones l) 0
theorem firstWN (k : Nat) (hk : 100 < k) (x y : Int) (b : Bool) : ngrind_firstOf_c0_Lgrind_within_1_grind_need_1 k (([x, y], 0, 10000), (b, 9)) = some (match inR 0 10000 x && inR 0 10000 y with | false => 2 | true => match b with | false => 9 | true => 0) := by
 unfold ngrind_firstOf_c0_Lgrind_within_1_grind_need_1
 simp only [need1, Option.bind_some, within1 k [x, y] 0 10000 (by simp) (by simp; omega), List.all_cons, List.all_nil, Bool.and_true]
 cases (inR 0 10000 x && inR 0 10000 y) with
 | false => rfl
 | true => cases b <;> rfl
theorem demZ_p (k : Nat) (hk : 100 < k) (d : SGrindDemand) (i : Nat) (h1 : i < d.Low.length) (h2 : i < d.High.length) : ngrind_validDemand_1_1 k (i : Int) d.Low d.High = some (demZ d i) := by
 unfold ngrind_validDemand_1_1 ngrind_within ngrind_need
 rw [if_pos (by omega), if_pos (by omega), Int.toNat_natCast]
 simp only [Option.bind_some]
 rw [firstWN k hk]; rfl
theorem demL_p (k : Nat) (hk : 100 < k) (d : SGrindDemand) (z : Nat) (hz : z <= 43) (h1 : z = d.Low.length) (h2 : z = d.High.length) : ∀ (n fuel i : Nat), z = i + n -> n < fuel -> ngrind_each_1_k_grind_validDemand_1_1_l0_0 k (z : Int) (d.Low, d.High) fuel (i : Int) = some (errE (demL d n i)) := by
 intro n
 induction n with
 | zero =>
   intro fuel i h hf
   obtain ⟨g, rfl⟩ : ∃ g, fuel = g + 1 := ⟨fuel - 1, by omega⟩
   rw [ngrind_each_1_k_grind_validDemand_1_1_l0_0.eq_2, if_neg (by omega)]; rfl
 | succ n ih =>
   intro fuel i h hf
   obtain ⟨g, rfl⟩ : ∃ g, fuel = g + 1 := ⟨fuel - 1, by omega⟩
   rw [ngrind_each_1_k_grind_validDemand_1_1_l0_0.eq_2, if_pos (by omega)]
   dsimp only
   rw [demZ_p k hk d i (by omega) (by omega), Option.bind_some, big_succ (by omega), ih g (i + 1) (by omega) (by omega)]
   simp only [demL]
   cases hd : decide (demZ d i = 0) with
   | true => rw [if_pos (of_decide_eq_true hd)]
   | false => rw [if_neg (of_decide_eq_false hd)]; unfold errE; rw [hd]
theorem dem_p (k : Nat) (hk : 100 < k) (l : List SStroke) (hl : strE l = 0) (d : SGrindDemand) : ngrind_validDemand_1 k d.Low d.High l = some (demE l d) := by
 obtain ⟨h0, _, hg⟩ := strE_zero hl
 have hz2 := (hg 0 h0).1.z2
 unfold ngrind_validDemand_1 ngrind_zonesOf ngrind_need ngrind_each_c1_grind_validDemand_1_1 ngrind_firstOf_c0_Lgrind_need_1_grind_each_1_grind_validDemand_1_1 ngrind_each_1_k_grind_validDemand_1_1 demE
 rw [if_pos (by omega), show ((0 : Int)).toNat = 0 from rfl]
 simp only [Option.bind_some]
 show (if (d.Low.length : Int) = (zones l : Int) then _ else _) = _
 by_cases c1 : d.Low.length = zones l
 ·rw [if_pos (by omega), decide_eq_true c1, Bool.true_and]
  by_cases c2 : d.High.length = zones l
  ·have hm := demL_p k hk d (zones l) (by unfold zones; omega) c1.symm c2.symm (zones l) k 0 (by omega) (by unfold zones; omega)
   rw [show decide ((d.High.length : Int) = ((l.getD 0 default).Wear.length : Int)) = true from decide_eq_true (by unfold zones at c2; omega), decide_eq_true c2, need1, Option.bind_some]
   dsimp only
   rw [if_pos rfl, show ngrind_each_1_k_grind_validDemand_1_1_l0_0 k ((l.getD 0 default).Wear.length : Int) (d.Low, d.High) k 0 = _ from hm, Option.bind_some]
   generalize demL d (zones l) 0 = e
   unfold errE
   cases he : decide (e = 0) with
   | true => have h := of_decide_eq_true he; subst h; rfl
   | false => dsimp only; rw [Option.bind_some, if_neg (of_decide_eq_false he)]; rfl
  ·rw [show decide ((d.High.length : Int) = ((l.getD 0 default).Wear.length : Int)) = false from decide_eq_false (by unfold zones at c2; omega), decide_eq_false c2, need1, Option.bind_some]; rfl
 ·rw [if_neg (by omega), decide_eq_false c1, need1, Option.bind_some]; rfl
theorem demL_r (k : Nat) (d : SGrindDemand) (z : Nat) (hz : z <= 43) (h1 : z = d.Low.length) (h2 : z = d.High.length) : ∀ (n fuel i : Nat), z = i + n -> n < fuel -> nspeculumref04_CheckDemand_l0_0 k d ((z : Int), 0) fuel (i : Int) = some (errE (demL d n i)) := by
 intro n
 induction n with
 | zero =>
   intro fuel i h hf
   obtain ⟨g, rfl⟩ : ∃ g, fuel = g + 1 := ⟨fuel - 1, by omega⟩
   rw [nspeculumref04_CheckDemand_l0_0.eq_2]; dsimp only; rw [if_neg (by omega)]; rfl
 | succ n ih =>
   intro fuel i h hf
   obtain ⟨g, rfl⟩ : ∃ g, fuel = g + 1 := ⟨fuel - 1, by omega⟩
   rw [nspeculumref04_CheckDemand_l0_0.eq_2]
   dsimp only
   rw [if_pos (by omega), if_pos (by omega), Int.toNat_natCast, wib, Option.bind_some, wib, Option.bind_some, big_succ (by omega), ih g (i + 1) (by omega) (by omega)]
   simp only [demL]
   have key : ∀ nx : Sum Int Unit, (if inR 0 10000 (d.Low.getD i 0) = true then (if 0 <= (i : Int) /\ (i : Int) < (d.High.length : Int) then (if inR 0 10000 (d.High.getD i 0) = true then (if d.High.getD i 0 < d.Low.getD i 0 then some (Sum.inl (9 : Int)) else some nx) else some (.inl 2)) else none) else some (.inl 2)) = some (match decide (demZ d i = 0) with | true => nx | false => .inl (demZ d i)) := by
    intro nx
    unfold demZ
    rw [if_pos (show 0 <= (i : Int) /\ (i : Int) < (d.High.length : Int) by omega)]
    cases inR 0 10000 (d.Low.getD i 0) with
    | false => rfl
    | true =>
      cases inR 0 10000 (d.High.getD i 0) with
      | false => rfl
      | true =>
        rw [if_pos rfl, if_pos rfl]
        by_cases c : d.Low.getD i 0 <= d.High.getD i 0
        ·rw [if_neg (by omega), decide_eq_true c]; rfl
        ·rw [if_pos (by omega), decide_eq_false c]; rfl
   rw [key]
   cases hd : decide (demZ d i = 0) with
   | true => rfl
   | false => unfold errE; rw [hd]
theorem checkDemand_r (k : Nat) (hk : 100 < k) (l : List SStroke) (hl15 : l.length <= 15) (hw : ∀ i, i < l.length -> (l.getD i default).Wear.length <= 43) (d : SGrindDemand) : nspeculumref04_CheckDemand k l d = some (if strE l = 0 then demE l d else strE l) := by
 unfold nspeculumref04_CheckDemand
 rw [checkStrokes_r k hk l hl15 hw, Option.bind_some]
 unfold strR
 cases h0 : decide (strE l = 0) with
 | false => dsimp only; rw [if_neg (of_decide_eq_false h0), if_neg (of_decide_eq_false h0)]
 | true =>
   have hl := of_decide_eq_true h0
   obtain ⟨hp, _, hg⟩ := strE_zero hl
   have hz2 := (hg 0 hp).1.z2
   dsimp only
   rw [if_pos rfl, if_pos hl]
   unfold demE
   show (if (d.Low.length : Int) = (zones l : Int) then (if (d.High.length : Int) = (zones l : Int) then _ else _) else _) = _
   by_cases c1 : d.Low.length = zones l
   ·rw [if_pos (by omega), decide_eq_true c1, Bool.true_and]
    by_cases c2 : d.High.length = zones l
    ·have hm := demL_r k d (zones l) (by unfold zones; omega) c1.symm c2.symm (zones l) k 0 (by omega) (by unfold zones; omega)
     rw [if_pos (by omega), decide_eq_true c2, show nspeculumref04_CheckDemand_l0_0 k d (((l.getD 0 default).Wear.length : Int), 0) k 0 = _ from hm, Option.bind_some]
     generalize demL d (zones l) 0 = e
     unfold errE
     cases he : decide (e = 0) with
     | true => have h := of_decide_eq_true he; subst h; rfl
     | false => rfl
    ·rw [if_neg (by omega), decide_eq_false c2]
   ·rw [if_neg (by omega), decide_eq_false c1]; rfl
theorem demL_zero (d : SGrindDemand) : ∀ (n i : Nat), demL d n i = 0 -> ∀ j, i <= j -> j < i + n -> demZ d j = 0
 | 0, i, _, j, h1, h2 => by omega
 | n + 1, i, h, j, h1, h2 => by
   simp only [demL] at h
   cases hd : decide (demZ d i = 0) with
   | false => rw [hd] at h; exact absurd h (of_decide_eq_false hd)
   | true =>
     rw [hd] at h
     by_cases e : i = j
     ·subst e; exact of_decide_eq_true hd
     ·exact demL_zero d n (i + 1) h j (by omega) (by omega)
theorem demE_zero {l : List SStroke} {d : SGrindDemand} (h : demE l d = 0) : d.Low.length = zones l /\ d.High.length = zones l /\ ∀ i, i < zones l -> 0 <= d.Low.getD i 0 /\ d.Low.getD i 0 <= d.High.getD i 0 /\ d.High.getD i 0 <= 10000 := by
 unfold demE at h
 cases hb : (decide (d.Low.length = zones l) && decide (d.High.length = zones l)) with
 | false => rw [hb] at h; simp at h
 | true =>
   rw [hb] at h
   rw [Bool.and_eq_true] at hb
   refine ⟨of_decide_eq_true hb.1, of_decide_eq_true hb.2, fun i hi => ?_⟩
   have hz := demL_zero d _ 0 h i (by omega) (by omega)
   unfold demZ at hz
   cases h1 : (inR 0 10000 (d.Low.getD i 0) && inR 0 10000 (d.High.getD i 0)) with
   | false => rw [h1] at hz; simp at hz
   | true =>
     rw [h1] at hz
     rw [Bool.and_eq_true] at h1
     have a1 := inR_t.1 h1.1
     have a2 := inR_t.1 h1.2
     cases h2 : decide (d.Low.getD i 0 <= d.High.getD i 0) with
     | false => rw [h2] at hz; simp at hz
     | true => have := of_decide_eq_true h2; omega
def planE (l : List SStroke) (p : SGrindPlan) : Int := match decide (p.Minutes.length = l.length) with
 | false => 10
 | true => match inR 1 10000000 p.Den with
   | false => 2
   | true => match p.Minutes.all (inR 0 1000000000) with
     | false => 2
     | true => 0
theorem plan_p (k : Nat) (hk : 100 < k) (l : List SStroke) (p : SGrindPlan) (hp : p.Minutes.length <= 15) : ngrind_validPlan_1 k p.Minutes p.Den l = some (planE l p) := by
 unfold ngrind_validPlan_1 ngrind_need ngrind_within ngrind_firstOf_c0_Lgrind_need_1_grind_within_1_grind_within_1 planE
 simp only [Option.bind_some, need1, within1 k [p.Den] 1 10000000 (by simp) (by simp; omega), within1 k p.Minutes 0 1000000000 (by omega) (by omega), List.all_cons, List.all_nil, Bool.and_true]
 rw [show decide ((p.Minutes.length : Int) = (l.length : Int)) = decide (p.Minutes.length = l.length) by congr 1; simp only [eq_iff_iff]; omega]
 cases decide (p.Minutes.length = l.length) with
 | false => rfl
 | true =>
   cases inR 1 10000000 p.Den with
   | false => rfl
   | true => cases p.Minutes.all (inR 0 1000000000) <;> rfl
theorem planErr_l (k : Nat) (p : SGrindPlan) (hp : p.Minutes.length <= 15) : ∀ (n fuel i : Nat), p.Minutes.length = i + n -> n < fuel -> nspeculumref04_PlanErr_l0_0 k p fuel (i : Int) = some (sumB ((p.Minutes.drop i).all (inR 0 1000000000))) := by
 intro n
 induction n with
 | zero =>
   intro fuel i h hf
   obtain ⟨g, rfl⟩ : ∃ g, fuel = g + 1 := ⟨fuel - 1, by omega⟩
   rw [nspeculumref04_PlanErr_l0_0.eq_2, if_neg (by omega), List.drop_eq_nil_of_le (by omega)]; rfl
 | succ n ih =>
   intro fuel i h hf
   obtain ⟨g, rfl⟩ : ∃ g, fuel = g + 1 := ⟨fuel - 1, by omega⟩
   rw [nspeculumref04_PlanErr_l0_0.eq_2, if_pos (by omega), if_pos (by omega), Int.toNat_natCast, wib, Option.bind_some, big_succ (by omega), ih g (i + 1) (by omega) (by omega), drop_get (y := p.Minutes) (i := i) (by omega) 0, List.all_cons]
   cases inR 0 1000000000 (p.Minutes.getD i 0) with
   | true => rw [if_pos rfl, Bool.true_and]
   | false => rw [if_neg (by simp), Bool.false_and]; rfl
theorem planErr_r (k : Nat) (hk : 100 < k) (l : List SStroke) (p : SGrindPlan) (hp : p.Minutes.length <= 15) : nspeculumref04_PlanErr k l p = some (planE l p) := by
 have hm := planErr_l k p hp p.Minutes.length k 0 (by omega) (by omega)
 rw [List.drop_zero] at hm
 unfold nspeculumref04_PlanErr planE
 by_cases c : p.Minutes.length = l.length
 ·rw [if_pos (by omega), decide_eq_true c, wib, Option.bind_some]
  cases inR 1 10000000 p.Den with
  | false => rfl
  | true =>
    dsimp only
    rw [if_pos rfl, show nspeculumref04_PlanErr_l0_0 k p k 0 = _ from hm, Option.bind_some]
    cases p.Minutes.all (inR 0 1000000000) <;> rfl
 ·rw [if_neg (by omega), decide_eq_false c]
structure GoodP (l : List SStroke) (p : SGrindPlan) : Prop where
 len : p.Minutes.length = l.length
 den : 1 <= p.Den /\ p.Den <= 10000000
 mins : ∀ i, i < p.Minutes.length -> 0 <= p.Minutes.getD i 0 /\ p.Minutes.getD i 0 <= 1000000000
theorem planE_zero {l : List SStroke} {p : SGrindPlan} (h : planE l p = 0) : GoodP l p := by
 unfold planE at h
 cases h1 : decide (p.Minutes.length = l.length) with
 | false => rw [h1] at h; simp at h
 | true =>
   rw [h1] at h
   cases h2 : inR 1 10000000 p.Den with
   | false => rw [h2] at h; simp at h
   | true =>
     rw [h2] at h
     cases h3 : p.Minutes.all (inR 0 1000000000) with
     | false => rw [h3] at h; simp at h
     | true =>
       refine ⟨of_decide_eq_true h1, inR_t.1 h2, fun i hi => inR_t.1 (List.all_eq_true.1 h3 _ ?_)⟩
       rw [List.getD_eq_getElem?_getD, List.getElem?_eq_getElem hi]; exact List.getElem_mem hi
def wsL (l : List SStroke) (ms : List Int) (z : Nat) : Nat -> Nat -> Int -> Int
 | 0, _, s => s
 | n + 1, i, s => wsL l ms z n (i + 1) (w64 (s + w64 (ms.getD i 0 * (l.getD i default).Wear.getD z 0)))
def wearZ (l : List SStroke) (p : SGrindPlan) (z : Nat) : Int := wsL l p.Minutes z l.length 0 0
theorem wear_l (k : Nat) (l : List SStroke) (hl : strE l = 0) (p : SGrindPlan) (hp : p.Minutes.length = l.length) (z : Nat) (hz : z < zones l) : ∀ (n fuel i : Nat) (s : Int), l.length = i + n -> n < fuel ->
 ngrind_wearTimesDen_l0_0 k l p (z : Int) fuel (i : Int) s = some (wsL l p.Minutes z n i s) /\ nspeculumref04_wearBy_l0_0 k l p (z : Int) fuel s (i : Int) = some (wsL l p.Minutes z n i s) := by
 obtain ⟨_, h12, hg⟩ := strE_zero hl
 intro n
 induction n with
 | zero =>
   intro fuel i s h hf
   obtain ⟨g, rfl⟩ : ∃ g, fuel = g + 1 := ⟨fuel - 1, by omega⟩
   exact ⟨by rw [ngrind_wearTimesDen_l0_0.eq_2, if_neg (by omega)]; rfl, by rw [nspeculumref04_wearBy_l0_0.eq_2, if_neg (by omega)]; rfl⟩
 | succ n ih =>
   intro fuel i s h hf
   obtain ⟨g, rfl⟩ : ∃ g, fuel = g + 1 := ⟨fuel - 1, by omega⟩
   have hgi := (hg i (by omega)).1.len
   obtain ⟨i1, i2⟩ := ih g (i + 1) (w64 (s + w64 (p.Minutes.getD i 0 * (l.getD i default).Wear.getD z 0))) (by omega) (by omega)
   unfold zones at hz
   constructor
   ·rw [ngrind_wearTimesDen_l0_0.eq_2, if_pos (by omega), if_pos (by omega), if_pos (by omega), Int.toNat_natCast, if_pos (by omega), Int.toNat_natCast, big_succ (by omega)]; exact i1
   ·rw [nspeculumref04_wearBy_l0_0.eq_2, if_pos (by omega), if_pos (by omega), if_pos (by omega), Int.toNat_natCast, if_pos (by omega), Int.toNat_natCast, big_succ (by omega)]; exact i2
theorem wear_any (k : Nat) (hk : 100 < k) (l : List SStroke) (hl : strE l = 0) (p : SGrindPlan) (hp : p.Minutes.length = l.length) (z : Nat) (hz : z < zones l) : ngrind_wearTimesDen k l p (z : Int) = some (wearZ l p z) /\ nspeculumref04_wearBy k l p (z : Int) = some (wearZ l p z) := by
 obtain ⟨_, h12, hg⟩ := strE_zero hl
 obtain ⟨h1, h2⟩ := wear_l k l hl p hp z hz l.length k 0 0 (by omega) (by omega)
 unfold ngrind_wearTimesDen nspeculumref04_wearBy wearZ
 exact ⟨by rw [show ngrind_wearTimesDen_l0_0 k l p (z : Int) k 0 0 = _ from h1]; rfl, by rw [show nspeculumref04_wearBy_l0_0 k l p (z : Int) k 0 0 = _ from h2]; rfl⟩
def planZ (l : List SStroke) (d : SGrindDemand) (p : SGrindPlan) (z : Nat) : Bool := inR (w64 (d.Low.getD z 0 * p.Den)) (w64 (d.High.getD z 0 * p.Den)) (wearZ l p z)
def planL (l : List SStroke) (d : SGrindDemand) (p : SGrindPlan) : Nat -> Nat -> Sum Int Unit
 | 0, _ => .inr ()
 | n + 1, i => match planZ l d p i with
   | true => planL l d p n (i + 1)
   | false => .inl (i : Int)
theorem planL_both (k : Nat) (hk : 100 < k) (l : List SStroke) (hl : strE l = 0) (d : SGrindDemand) (hd1 : d.Low.length = zones l) (hd2 : d.High.length = zones l) (p : SGrindPlan) (hp : p.Minutes.length = l.length) : ∀ (n fuel i : Nat), zones l = i + n -> n < fuel ->
 ngrind_CheckPlan_l0_0 k l d p fuel (i : Int) = some (planL l d p n i) /\ nspeculumref04_CheckPlan_l0_0 k l d p fuel (i : Int) = some (planL l d p n i) := by
 obtain ⟨h0, h12, hg⟩ := strE_zero hl
 have hz2 : zones l <= 40 := (hg 0 h0).1.z2
 intro n
 induction n with
 | zero =>
   intro fuel i h hf
   obtain ⟨g, rfl⟩ : ∃ g, fuel = g + 1 := ⟨fuel - 1, by omega⟩
   exact ⟨by rw [ngrind_CheckPlan_l0_0.eq_2, if_neg (by omega)]; rfl, by rw [nspeculumref04_CheckPlan_l0_0.eq_2, if_neg (by omega)]; rfl⟩
 | succ n ih =>
   intro fuel i h hf
   obtain ⟨g, rfl⟩ : ∃ g, fuel = g + 1 := ⟨fuel - 1, by omega⟩
   obtain ⟨i1, i2⟩ := ih g (i + 1) (by omega) (by omega)
   obtain ⟨w1, w2⟩ := wear_any k hk l hl p hp i (by omega)
   simp only [planL]
   constructor
   ·rw [ngrind_CheckPlan_l0_0.eq_2, if_pos (by omega), w1, Option.bind_some, if_pos (by omega), if_pos (by omega), Int.toNat_natCast, isw, Option.bind_some, big_succ (by omega), i1]
    show (if planZ l d p i = true then _ else _) = _
    cases planZ l d p i <;> rfl
   ·rw [nspeculumref04_CheckPlan_l0_0.eq_2, if_pos (by omega), w2, Option.bind_some, if_pos (by omega), if_pos (by omega), Int.toNat_natCast, wib, Option.bind_some, big_succ (by omega), i2]
    show (if planZ l d p i = true then _ else _) = _
    cases planZ l d p i <;> rfl
def timeL (ms : List Int) : Nat -> Nat -> Int -> Int
 | 0, _, s => s
 | n + 1, i, s => timeL ms n (i + 1) (w64 (s + ms.getD i 0))
theorem timeL_both (k : Nat) (d : SGrindDemand) (p : SGrindPlan) (hp : p.Minutes.length <= 15) : ∀ (n fuel i : Nat) (s : Int), p.Minutes.length = i + n -> n < fuel ->
 ngrind_CheckPlan_l1_0 k p fuel s (i : Int) = some (timeL p.Minutes n i s) /\ nspeculumref04_CheckPlan_l1_0 k d p fuel s (i : Int) = some (timeL p.Minutes n i s) := by
 intro n
 induction n with
 | zero =>
   intro fuel i s h hf
   obtain ⟨g, rfl⟩ : ∃ g, fuel = g + 1 := ⟨fuel - 1, by omega⟩
   exact ⟨by rw [ngrind_CheckPlan_l1_0.eq_2, if_neg (by omega)]; rfl, by rw [nspeculumref04_CheckPlan_l1_0.eq_2, if_neg (by omega)]; rfl⟩
 | succ n ih =>
   intro fuel i s h hf
   obtain ⟨g, rfl⟩ : ∃ g, fuel = g + 1 := ⟨fuel - 1, by omega⟩
   obtain ⟨i1, i2⟩ := ih g (i + 1) (w64 (s + p.Minutes.getD i 0)) (by omega) (by omega)
   constructor
   ·rw [ngrind_CheckPlan_l1_0.eq_2, if_pos (by omega), if_pos (by omega), Int.toNat_natCast, big_succ (by omega)]; exact i1
   ·rw [nspeculumref04_CheckPlan_l1_0.eq_2, if_pos (by omega), if_pos (by omega), Int.toNat_natCast, big_succ (by omega)]; exact i2
def planR (l : List SStroke) (d : SGrindDemand) (p : SGrindPlan) : Int × Int := match planL l d p (zones l) 0 with
 | .inl z => (z, 26)
 | .inr _ => (timeL p.Minutes p.Minutes.length 0 0, 0)
theorem checkPlan_r (k : Nat) (hk : 100 < k) (l : List SStroke) (hl : strE l = 0) (d : SGrindDemand) (hd : demE l d = 0) (p : SGrindPlan) (hp : p.Minutes.length <= 15) : nspeculumref04_CheckPlan k l d p = some (if planE l p = 0 then planR l d p else (0, planE l p)) := by
 unfold nspeculumref04_CheckPlan
 rw [planErr_r k hk l p hp, Option.bind_some]
 by_cases h : planE l p = 0
 ·obtain ⟨h0, h12, hg⟩ := strE_zero hl
  have hz2 : zones l <= 40 := (hg 0 h0).1.z2
  obtain ⟨d1, d2, _⟩ := demE_zero hd
  have gp := planE_zero h
  obtain ⟨_, e2⟩ := planL_both k hk l hl d d1 d2 p gp.len (zones l) k 0 (by omega) (by omega)
  obtain ⟨_, t2⟩ := timeL_both k d p hp p.Minutes.length k 0 0 (by omega) (by omega)
  rw [if_pos h, if_pos h, show nspeculumref04_CheckPlan_l0_0 k l d p k 0 = _ from e2, Option.bind_some]
  unfold planR
  cases planL l d p (zones l) 0 with
  | inl z => rfl
  | inr u => dsimp only; rw [show nspeculumref04_CheckPlan_l1_0 k d p k 0 0 = _ from t2]; rfl
 ·rw [if_neg h, if_neg h]
theorem checkPlan_p (k : Nat) (hk : 100 < k) (hk2 : k <= 100000000000000000000) (l : List SStroke) (hl15 : l.length <= 15) (hw : ∀ i, i < l.length -> (l.getD i default).Wear.length <= 43) (d : SGrindDemand) (p : SGrindPlan) (hp : p.Minutes.length <= 15) : ngrind_CheckPlan k l d p = some (if strE l = 0 then (if demE l d = 0 then (if planE l p = 0 then planR l d p else (0, planE l p)) else (0, demE l d)) else (0, strE l)) := by
 unfold ngrind_CheckPlan ngrind_validStrokes ngrind_validDemand ngrind_validPlan ngrind_firstOf_c0_Lgrind_validStrokes_1_grind_validDemand_1_grind_validPlan_1
 simp only [Option.bind_some]
 rw [strokes1 k hk hk2 l hl15 hw, Option.bind_some]
 by_cases hl : strE l = 0
 ·rw [if_pos hl, if_pos hl, dem_p k hk l hl, Option.bind_some]
  by_cases hd : demE l d = 0
  ·rw [if_pos hd, if_pos hd, plan_p k hk l p hp, Option.bind_some]
   by_cases h : planE l p = 0
   ·obtain ⟨h0, h12, hg⟩ := strE_zero hl
    have hz2 : zones l <= 40 := (hg 0 h0).1.z2
    obtain ⟨d1, d2, _⟩ := demE_zero hd
    have gp := planE_zero h
    obtain ⟨e1, _⟩ := planL_both k hk l hl d d1 d2 p gp.len (zones l) k 0 (by omega) (by omega)
    obtain ⟨t1, _⟩ := timeL_both k d p hp p.Minutes.length k 0 0 (by omega) (by omega)
    rw [if_pos h, if_pos h, Option.bind_some, if_pos rfl, show ngrind_CheckPlan_l0_0 k l d p k 0 = _ from e1, Option.bind_some]
    unfold planR
    cases planL l d p (zones l) 0 with
    | inl z => rfl
    | inr u => dsimp only; rw [show ngrind_CheckPlan_l1_0 k p k 0 0 = _ from t1]; rfl
   ·rw [if_neg h, if_neg h, Option.bind_some, if_neg h]
  ·rw [if_neg hd, if_neg hd, Option.bind_some, if_neg hd]
 ·rw [if_neg hl, if_neg hl, Option.bind_some, if_neg hl]
theorem slim_any (k : Nat) (d : SGrindDemand) : ∃ b, nspeculumlaw04_slim k d = some b /\ (b = true -> d.Low.length <= 43 /\ d.High.length <= 43) := by
 unfold nspeculumlaw04_slim
 by_cases c : (d.Low.length : Int) <= 43
 ·rw [if_pos c]; exact ⟨_, rfl, fun h => by have := of_decide_eq_true h; omega⟩
 ·rw [if_neg c]; exact ⟨_, rfl, fun h => by cases h⟩
theorem demand_copy (k : Nat) (d : SGrindDemand) (h1 : d.Low.length <= 43) (h2 : d.High.length <= 43) : nspeculumlaw04_demand k d = some d := by
 unfold nspeculumlaw04_demand
 rw [ints_copy k _ (by omega), Option.bind_some, ints_copy k _ (by omega), Option.bind_some]
theorem plan_copy (k : Nat) (p : SGrindPlan) (h1 : p.Minutes.length <= 15) : nspeculumlaw04_plan k p = some p := by
 unfold nspeculumlaw04_plan
 rw [ints_copy k _ (by omega), Option.bind_some]
end Go.Proofs.Ytbaegoglpijnnab.Vg
