import Derived.Test.YtodaannbkfmhfaaN1
import Derived.Test.YtodaannbkfmhfaaKE
set_option linter.unusedVariables false
set_option linter.unusedSimpArgs false
namespace Go.Proofs.Ytodaannbkfmhfaa.Vg
open Go Go.Proofs.Ytodaannbkfmhfaa.Ev Go.Proofs.Ytodaannbkfmhfaa.Vv
theorem strokes1 (k : Nat) (hk : 100 < k) (hk2 : k <= 100000000000000000000) (l : List SStroke) (hl : l.length <= 15) (hw : ∀ i, i < l.length -> (l.getD i default).Wear.length <= 43) : ngrind_validStrokes_1 k l = some (strE l) := by
 unfold ngrind_validStrokes_1
 rw [checkStrokes_p k hk hk2 l hl hw, Option.bind_some]
 unfold strR
 cases h : decide (strE l = 0) with
 | true => rw [of_decide_eq_true h]
 | false => rfl
def errE (e : Int) : Sum Int Unit := match decide (e = 0) with | true => .inr () | false => .inl e
def zones (l : List SStroke) : Nat := (l.getD 0 default).Wear.length
def demZ (d : SGrindDemand) (i : Nat) : Int := match inR 0 10000 (d.Low.getD i 0) && inR 0 10000 (d.High.getD i 0) with
 | false => 2
 | true => match decide (d.Low.getD i 0 <= d.High.getD i 0) with
   | false => 9
   | true => 0
def demL (d : SGrindDemand) : Nat -> Nat -> Int
 | 0, _ => 0
 | n + 1, i => match decide (demZ d i = 0) with
   | true => demL d n (i + 1)
   | false => demZ d i
def demE (l : List SStroke) (d : SGrindDemand) : Int := match decide (d.Low.length = zones l) && decide (d.High.length = zones l) with
 | false => 10
 | true => demL d (zones l) 0
theorem firstWN (k : Nat) (hk : 100 < k) (x y : Int) (b : Bool) : ngrind_firstOf_c0_Lgrind_within_1_grind_need_1 k (([x, y], 0, 10000), (b, 9)) = some (match inR 0 10000 x && inR 0 10000 y with | false => 2 | true => match b with | false => 9 | true => 0) := by
 unfold ngrind_firstOf_c0_Lgrind_within_1_grind_need_1
 simp only [need1, Option.bind_some, within1 k [x, y] 0 10000 (by simp) (by simp; omega), List.all_cons, List.all_nil, Bool.and_true]
 cases (inR 0 10000 x && inR 0 10000 y) with
 | false => rfl
 | true => cases b <;> rfl
theorem demZ_p (k : Nat) (hk : 100 < k) (d : SGrindDemand) (i : Nat) (h1 : i < d.Low.length) (h2 : i < d.High.length) : ngrind_validDemand_1_1 k (i : Int) d.Low d.High = some (demZ d i) := by
 unfold ngrind_validDemand_1_1 ngrind_within ngrind_need
 rw [if_pos (by omega), if_pos (by omega), Int.toNat_natCast]
 simp only [Option.bind_some]
 rw [firstWN k hk]; rfl
theorem demL_p (k : Nat) (hk : 100 < k) (d : SGrindDemand) (z : Nat) (hz : z <= 43) (h1 : z = d.Low.length) (h2 : z = d.High.length) : ∀ (n fuel i : Nat), z = i + n -> n < fuel -> ngrind_each_1_k_grind_validDemand_1_1_l0_0 k (z : Int) (d.Low, d.High) fuel (i : Int) = some (errE (demL d n i)) := by
 intro n
 induction n with
 | zero =>
   intro fuel i h hf
   obtain ⟨g, rfl⟩ : ∃ g, fuel = g + 1 := ⟨fuel - 1, by omega⟩
   rw [ngrind_each_1_k_grind_validDemand_1_1_l0_0.eq_2, if_neg (by omega)]; rfl
 | succ n ih =>
   intro fuel i h hf
   obtain ⟨g, rfl⟩ : ∃ g, fuel = g + 1 := ⟨fuel - 1, by omega⟩
   rw [ngrind_each_1_k_grind_validDemand_1_1_l0_0.eq_2, if_pos (by omega)]
   dsimp only
   rw [demZ_p k hk d i (by omega) (by omega), Option.bind_some, big_succ (by omega), ih g (i + 1) (by omega) (by omega)]
   simp only [demL]
   cases hd : decide (demZ d i = 0) with
   | true => rw [if_pos (of_decide_eq_true hd)]
   | false => rw [if_neg (of_decide_eq_false hd)]; unfold errE; rw [hd]
theorem dem_p (k : Nat) (hk : 100 < k) (l : List SStroke) (hl : strE l = 0) (d : SGrindDemand) : ngrind_validDemand_1 k d.Low d.High l = some (demE l d) := by
 obtain ⟨h0, _, hg⟩ := strE_zero hl
 have hz2 := (hg 0 h0).1.z2
 unfold ngrind_validDemand_1 ngrind_zonesOf ngrind_need ngrind_each_c1_grind_validDemand_1_1 ngrind_firstOf_c0_Lgrind_need_1_grind_each_1_grind_validDemand_1_1 ngrind_each_1_k_grind_validDemand_1_1 demE
 rw [if_pos (by omega), show ((0 : Int)).toNat = 0 from rfl]
 simp only [Option.bind_some]
 show (if (d.Low.length : Int) = (zones l : Int) then _ else _) = _
 by_cases c1 : d.Low.length = zones l
 ·rw [if_pos (by omega), decide_eq_true c1, Bool.true_and]
  by_cases c2 : d.High.length = zones l
  ·have hm := demL_p k hk d (zones l) (by unfold zones; omega) c1.symm c2.symm (zones l) k 0 (by omega) (by unfold zones; omega)
   rw [show decide ((d.High.length : Int) = ((l.getD 0 default).Wear.length : Int)) = true from decide_eq_true (by unfold zones at c2; omega), decide_eq_true c2, need1, Option.bind_some]
   dsimp only
   rw [if_pos rfl, show ngrind_each_1_k_grind_validDemand_1_1_l0_0 k ((l.getD 0 default).Wear.length : Int) (d.Low, d.High) k 0 = _ from hm, Option.bind_some]
   generalize demL d (zones l) 0 = e
   unfold errE
   cases he : decide (e = 0) with
   | true => have h := of_decide_eq_true he; subst h; rfl
   | false => dsimp only; rw [Option.bind_some, if_neg (of_decide_eq_false he)]; rfl
  ·rw [show decide ((d.High.length : Int) = ((l.getD 0 default).Wear.length : Int)) = false from decide_eq_false (by unfold zones at c2; omega), decide_eq_false c2, need1, Option.bind_some]; rfl
 ·rw [if_neg (by omega), decide_eq_false c1, need1, Option.bind_some]; rfl
theorem demL_zero (d : SGrindDemand) : ∀ (n i : Nat), demL d n i = 0 -> ∀ j, i <= j -> j < i + n -> demZ d j = 0
 | 0, i, _, j, h1, h2 => by omega
 | n + 1, i, h, j, h1, h2 => by
   simp only [demL] at h
   cases hd : decide (demZ d i = 0) with
   | false => rw [hd] at h; exact absurd h (of_decide_eq_false hd)
   | true =>
     rw [hd] at h
     by_cases e : i = j
     ·subst e; exact of_decide_eq_true hd
     ·exact demL_zero d n (i + 1) h j (by omega) (by omega)
theorem demE_zero {l : List SStroke} {d : SGrindDemand} (h : demE l d = 0) : d.Low.length = zones l /\ d.High.length = zones l /\ ∀ i, i < zones l -> 0 <= d.Low.getD i 0 /\ d.Low.getD i 0 <= d.High.getD i 0 /\ d.High.getD i 0 <= 10000 := by
 unfold demE at h
 cases hb : (decide (d.Low.length = zones l) && decide (d.High.length = zones l)) with
 | false => rw [hb] at h; simp at h
 | true =>
   rw [hb] at h
   rw [Bool.and_eq_true] at hb
   refine ⟨of_decide_eq_true hb.1, of_decide_eq_true hb.2, fun i hi => ?_⟩
   have hz := demL_zero d _ 0 h i (by omega) (by omega)
   unfold demZ at hz
   cases h1 : (inR 0 10000 (d.Low.getD i 0) && inR 0 10000 (d.High.getD i 0)) with
   | false => rw [h1] at hz; simp at hz
   | true =>
     rw [h1] at hz
     rw [Bool.and_eq_true] at h1
     have a1 := inR_t.1 h1.1
     have a2 := inR_t.1 h1.2
     cases h2 : decide (d.Low.getD i 0 <= d.High.getD i 0) with
     | false => rw [h2] at hz; simp at hz
     | true => have := of_decide_eq_true h2; omega
end Go.Proofs.Ytodaannbkfmhfaa.Vg
