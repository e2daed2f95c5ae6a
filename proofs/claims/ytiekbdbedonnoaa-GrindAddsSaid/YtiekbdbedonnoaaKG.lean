import Derived.Test.YtiekbdbedonnoaaD1
import Derived.Test.YtiekbdbedonnoaaKE
set_option linter.unusedVariables false
set_option linter.unusedSimpArgs false
namespace Go.Proofs.Ytiekbdbedonnoaa.Vg
open Go Go.Proofs.Ytiekbdbedonnoaa.Ev Go.Proofs.Ytiekbdbedonnoaa.Vv
theorem Qst (k : Nat) (hk : 100 < k) (hk2 : k <= 100000000000000000000) (l : List Qd) (hl : l.length <= 15) (hw : ∀ i, i < l.length -> (l.getD i default).Wear.length <= 43) : Yy k l = some (strE l) := by
 unfold Yy
 rw [Qmd k hk hk2 l hl hw, Option.bind_some]
 unfold strR
 cases h : decide (strE l = 0) with
 | true => rw [of_decide_eq_true h]
 | false => rfl
def errE (e : Int) : Sum Int Unit := match decide (e = 0) with | true => .inr () | false => .inl e
def zones (l : List Qd) : Nat := (l.getD 0 default).Wear.length
def demZ (d : Qg) (i : Nat) : Int := match inR 0 10000 (d.Low.getD i 0) && inR 0 10000 (d.High.getD i 0) with
 | false => 2
 | true => match decide (d.Low.getD i 0 <= d.High.getD i 0) with
   | false => 9
   | true => 0
def demL (d : Qg) : Nat -> Nat -> Int
 | 0, _ => 0
 | n + 1, i => match decide (demZ d i = 0) with
   | true => demL d n (i + 1)
   | false => demZ d i
def demE (l : List Qd) (d : Qg) : Int := match decide (d.Low.length = zones l) && decide (d.High.length = zones l) with
 | false => 10
 | true => demL d (zones l) 0
theorem Q0r (k : Nat) (hk : 100 < k) (x y : Int) (b : Bool) : Zu k (([x, y], 0, 10000), (b, 9)) = some (match inR 0 10000 x && inR 0 10000 y with | false => 2 | true => match b with | false => 9 | true => 0) := by
 unfold Zu
 simp only [Qme, Option.bind_some, Qq4 k [x, y] 0 10000 (by simp) (by simp; omega), List.all_cons, List.all_nil, Bool.and_true]
 cases (inR 0 10000 x && inR 0 10000 y) with
 | false => rfl
 | true => cases b <;> rfl
theorem Q2v (k : Nat) (hk : 100 < k) (d : Qg) (i : Nat) (h1 : i < d.Low.length) (h2 : i < d.High.length) : Wp k (i : Int) d.Low d.High = some (demZ d i) := by
 unfold Wp J7 Xd
 rw [if_pos (by omega), if_pos (by omega), Int.toNat_natCast]
 simp only [Option.bind_some]
 rw [Q0r k hk]; rfl
theorem Q2w (k : Nat) (hk : 100 < k) (d : Qg) (z : Nat) (hz : z <= 43) (h1 : z = d.Low.length) (h2 : z = d.High.length) : ∀ (n fuel i : Nat), z = i + n -> n < fuel -> Q8 k (z : Int) (d.Low, d.High) fuel (i : Int) = some (errE (demL d n i)) := by
 intro n
 induction n with
 | zero =>
   intro fuel i h hf
   obtain ⟨g, rfl⟩ : ∃ g, fuel = g + 1 := ⟨fuel - 1, by omega⟩
   rw [Q8.eq_2, if_neg (by omega)]; rfl
 | succ n ih =>
   intro fuel i h hf
   obtain ⟨g, rfl⟩ : ∃ g, fuel = g + 1 := ⟨fuel - 1, by omega⟩
   rw [Q8.eq_2, if_pos (by omega)]
   dsimp only
   rw [Q2v k hk d i (by omega) (by omega), Option.bind_some, Y9 (by omega), ih g (i + 1) (by omega) (by omega)]
   simp only [demL]
   cases hd : decide (demZ d i = 0) with
   | true => rw [if_pos (of_decide_eq_true hd)]
   | false => rw [if_neg (of_decide_eq_false hd)]; unfold errE; rw [hd]
theorem Q2x (k : Nat) (hk : 100 < k) (l : List Qd) (hl : strE l = 0) (d : Qg) : Y5 k d.Low d.High l = some (demE l d) := by
 obtain ⟨h0, _, hg⟩ := Qfg hl
 have hz2 := (hg 0 h0).1.z2
 unfold Y5 Qae Xd Xr Q9 Je demE
 rw [if_pos (by omega), show ((0 : Int)).toNat = 0 from rfl]
 simp only [Option.bind_some]
 show (if (d.Low.length : Int) = (zones l : Int) then _ else _) = _
 by_cases c1 : d.Low.length = zones l
 ·rw [if_pos (by omega), decide_eq_true c1, Bool.true_and]
  by_cases c2 : d.High.length = zones l
  ·have hm := Q2w k hk d (zones l) (by unfold zones; omega) c1.symm c2.symm (zones l) k 0 (by omega) (by unfold zones; omega)
   rw [show decide ((d.High.length : Int) = ((l.getD 0 default).Wear.length : Int)) = true from decide_eq_true (by unfold zones at c2; omega), decide_eq_true c2, Qme, Option.bind_some]
   dsimp only
   rw [if_pos rfl, show Q8 k ((l.getD 0 default).Wear.length : Int) (d.Low, d.High) k 0 = _ from hm, Option.bind_some]
   generalize demL d (zones l) 0 = e
   unfold errE
   cases he : decide (e = 0) with
   | true => have h := of_decide_eq_true he; subst h; rfl
   | false => dsimp only; rw [Option.bind_some, if_neg (of_decide_eq_false he)]; rfl
  ·rw [show decide ((d.High.length : Int) = ((l.getD 0 default).Wear.length : Int)) = false from decide_eq_false (by unfold zones at c2; omega), decide_eq_false c2, Qme, Option.bind_some]; rfl
 ·rw [if_neg (by omega), decide_eq_false c1, Qme, Option.bind_some]; rfl
theorem Q2y (k : Nat) (d : Qg) (z : Nat) (hz : z <= 43) (h1 : z = d.Low.length) (h2 : z = d.High.length) : ∀ (n fuel i : Nat), z = i + n -> n < fuel -> Zo k d ((z : Int), 0) fuel (i : Int) = some (errE (demL d n i)) := by
 intro n
 induction n with
 | zero =>
   intro fuel i h hf
   obtain ⟨g, rfl⟩ : ∃ g, fuel = g + 1 := ⟨fuel - 1, by omega⟩
   rw [Zo.eq_2]; dsimp only; rw [if_neg (by omega)]; rfl
 | succ n ih =>
   intro fuel i h hf
   obtain ⟨g, rfl⟩ : ∃ g, fuel = g + 1 := ⟨fuel - 1, by omega⟩
   rw [Zo.eq_2]
   dsimp only
   rw [if_pos (by omega), if_pos (by omega), Int.toNat_natCast, wib, Option.bind_some, wib, Option.bind_some, Y9 (by omega), ih g (i + 1) (by omega) (by omega)]
   simp only [demL]
   have key : ∀ nx : Sum Int Unit, (if inR 0 10000 (d.Low.getD i 0) = true then (if 0 <= (i : Int) /\ (i : Int) < (d.High.length : Int) then (if inR 0 10000 (d.High.getD i 0) = true then (if d.High.getD i 0 < d.Low.getD i 0 then some (Sum.inl (9 : Int)) else some nx) else some (.inl 2)) else none) else some (.inl 2)) = some (match decide (demZ d i = 0) with | true => nx | false => .inl (demZ d i)) := by
    intro nx
    unfold demZ
    rw [if_pos (show 0 <= (i : Int) /\ (i : Int) < (d.High.length : Int) by omega)]
    cases inR 0 10000 (d.Low.getD i 0) with
    | false => rfl
    | true =>
      cases inR 0 10000 (d.High.getD i 0) with
      | false => rfl
      | true =>
        rw [if_pos rfl, if_pos rfl]
        by_cases c : d.Low.getD i 0 <= d.High.getD i 0
        ·rw [if_neg (by omega), decide_eq_true c]; rfl
        ·rw [if_pos (by omega), decide_eq_false c]; rfl
   rw [key]
   cases hd : decide (demZ d i = 0) with
   | true => rfl
   | false => unfold errE; rw [hd]
theorem Qil (k : Nat) (hk : 100 < k) (l : List Qd) (hl15 : l.length <= 15) (hw : ∀ i, i < l.length -> (l.getD i default).Wear.length <= 43) (d : Qg) : Jq k l d = some (if strE l = 0 then demE l d else strE l) := by
 unfold Jq
 rw [Qmf k hk l hl15 hw, Option.bind_some]
 unfold strR
 cases h0 : decide (strE l = 0) with
 | false => dsimp only; rw [if_neg (of_decide_eq_false h0), if_neg (of_decide_eq_false h0)]
 | true =>
   have hl := of_decide_eq_true h0
   obtain ⟨hp, _, hg⟩ := Qfg hl
   have hz2 := (hg 0 hp).1.z2
   dsimp only
   rw [if_pos rfl, if_pos hl]
   unfold demE
   show (if (d.Low.length : Int) = (zones l : Int) then (if (d.High.length : Int) = (zones l : Int) then _ else _) else _) = _
   by_cases c1 : d.Low.length = zones l
   ·rw [if_pos (by omega), decide_eq_true c1, Bool.true_and]
    by_cases c2 : d.High.length = zones l
    ·have hm := Q2y k d (zones l) (by unfold zones; omega) c1.symm c2.symm (zones l) k 0 (by omega) (by unfold zones; omega)
     rw [if_pos (by omega), decide_eq_true c2, show Zo k d (((l.getD 0 default).Wear.length : Int), 0) k 0 = _ from hm, Option.bind_some]
     generalize demL d (zones l) 0 = e
     unfold errE
     cases he : decide (e = 0) with
     | true => have h := of_decide_eq_true he; subst h; rfl
     | false => rfl
    ·rw [if_neg (by omega), decide_eq_false c2]
   ·rw [if_neg (by omega), decide_eq_false c1]; rfl
theorem Qpm (d : Qg) : ∀ (n i : Nat), demL d n i = 0 -> ∀ j, i <= j -> j < i + n -> demZ d j = 0
 | 0, i, _, j, h1, h2 => by omega
 | n + 1, i, h, j, h1, h2 => by
   simp only [demL] at h
   cases hd : decide (demZ d i = 0) with
   | false => rw [hd] at h; exact absurd h (of_decide_eq_false hd)
   | true =>
     rw [hd] at h
     by_cases e : i = j
     ·subst e; exact of_decide_eq_true hd
     ·exact Qpm d n (i + 1) h j (by omega) (by omega)
theorem Qk3 {l : List Qd} {d : Qg} (h : demE l d = 0) : d.Low.length = zones l /\ d.High.length = zones l /\ ∀ i, i < zones l -> 0 <= d.Low.getD i 0 /\ d.Low.getD i 0 <= d.High.getD i 0 /\ d.High.getD i 0 <= 10000 := by
 unfold demE at h
 cases hb : (decide (d.Low.length = zones l) && decide (d.High.length = zones l)) with
 | false => rw [hb] at h; simp at h
 | true =>
   rw [hb] at h
   rw [Bool.and_eq_true] at hb
   refine ⟨of_decide_eq_true hb.1, of_decide_eq_true hb.2, fun i hi => ?_⟩
   have hz := Qpm d _ 0 h i (by omega) (by omega)
   unfold demZ at hz
   cases h1 : (inR 0 10000 (d.Low.getD i 0) && inR 0 10000 (d.High.getD i 0)) with
   | false => rw [h1] at hz; simp at hz
   | true =>
     rw [h1] at hz
     rw [Bool.and_eq_true] at h1
     have a1 := Qtv.1 h1.1
     have a2 := Qtv.1 h1.2
     cases h2 : decide (d.Low.getD i 0 <= d.High.getD i 0) with
     | false => rw [h2] at hz; simp at hz
     | true => have := of_decide_eq_true h2; omega
structure Q3u (l : List Qd) (p : Qgh) : Prop where
 len : p.Minutes.length = l.length
 den : 1 <= p.Den /\ p.Den <= 10000000
 mins : ∀ i, i < p.Minutes.length -> 0 <= p.Minutes.getD i 0 /\ p.Minutes.getD i 0 <= 1000000000
theorem Qxq (k : Nat) (d : Qg) : ∃ b, Qbc k d = some b /\ (b = true -> d.Low.length <= 43 /\ d.High.length <= 43) := by
 unfold Qbc
 by_cases c : (d.Low.length : Int) <= 43
 ·rw [if_pos c]; exact ⟨_, rfl, fun h => by have := of_decide_eq_true h; omega⟩
 ·rw [if_neg c]; exact ⟨_, rfl, fun h => by cases h⟩
theorem Qqp (k : Nat) (d : Qg) (h1 : d.Low.length <= 43) (h2 : d.High.length <= 43) : Qah k d = some d := by
 unfold Qah
 rw [Qlf k _ (by omega), Option.bind_some, Qlf k _ (by omega), Option.bind_some]
end Go.Proofs.Ytiekbdbedonnoaa.Vg
