import Derived.Test.YtmjmggkllmfmlaaND
set_option linter.unusedVariables false
set_option linter.unusedSimpArgs false
namespace Go.Proofs.Ytmjmggkllmfmlaa.Vg
open Go Go.Proofs.Ytmjmggkllmfmlaa.Ev Go.Proofs.Ytmjmggkllmfmlaa.Vv
open Mdl (S D3 M3 X0 X1 X2)
theorem w64_suc {i : Nat} (h : i < 9223372036854775807) : w64 ((i : Int) + 1) = ((i + 1 : Nat) : Int) := by
 rw [w64_id (by omega) (by omega)]; omega
theorem few_l (k : Nat) (l : List SSkyStar) (hl : l.length <= 9223372036854775807) : ∀ (d fuel i : Nat), l.length = i + d -> d < fuel -> ∃ r, nspeculumlaw09_Few_l0_0 k l fuel (i : Int) = some r /\ (r = .inl () \/ r = .inr () /\ ∀ p, i <= p -> p < l.length -> ns l p <= 6) := by
 intro d
 induction d with
 | zero =>
   intro fuel i he hf
   obtain ⟨f, rfl⟩ : ∃ f, fuel = f + 1 := ⟨fuel - 1, by omega⟩
   exact ⟨_, by rw [nspeculumlaw09_Few_l0_0.eq_2, if_neg (by omega)], .inr ⟨rfl, fun p h1 h2 => by omega⟩⟩
 | succ d ih =>
   intro fuel i he hf
   obtain ⟨f, rfl⟩ : ∃ f, fuel = f + 1 := ⟨fuel - 1, by omega⟩
   rw [nspeculumlaw09_Few_l0_0.eq_2, if_pos (by omega), if_pos (by omega), Int.toNat_natCast]
   show ∃ r, (if 6 < (ns l i : Int) then _ else _) = _ /\ _
   by_cases c : 6 < (ns l i : Int)
   ·rw [if_pos c]; exact ⟨_, rfl, .inl rfl⟩
   rw [if_neg c, w64_suc (by omega)]
   obtain ⟨r, e1, e2⟩ := ih f (i + 1) (by omega) (by omega)
   refine ⟨r, e1, ?_⟩
   rcases e2 with e2 | ⟨e2, e3⟩
   ·exact .inl e2
   ·refine .inr ⟨e2, fun p h1 h2 => ?_⟩
    by_cases e : p = i
    ·rw [e]; omega
    ·exact e3 p (by omega) h2
theorem few_p {k : Nat} (l : List SSkyStar) (hl : l.length <= 9223372036854775807) (hk : l.length < k) : ∃ b, nspeculumlaw09_Few k l = some b /\ (b = true -> ∀ p, p < l.length -> ns l p <= 6) := by
 unfold nspeculumlaw09_Few
 obtain ⟨r, e, e2⟩ := few_l k l hl l.length k 0 (by omega) hk
 rw [show nspeculumlaw09_Few_l0_0 k l k 0 = _ from e]
 rcases e2 with rfl | ⟨rfl, e2⟩
 ·exact ⟨false, rfl, fun h => by cases h⟩
 ·show ∃ b, (if (l.length : Int) <= 8 then _ else _) = _ /\ _
  have h : ∀ p, p < l.length -> ns l p <= 6 := fun p hp => e2 p (by omega) hp
  split
  ·exact ⟨_, rfl, fun _ => h⟩
  ·split <;> exact ⟨_, rfl, fun _ => h⟩
theorem copyI {k : Nat} {l : List SSkyStar} {i : Nat} (h : ns l i <= 6) : nspeculumbase_CopyInts k (l.getD i default).Shapes = some (l.getD i default).Shapes := by
 unfold nspeculumbase_CopyInts
 have : ns l i = (l.getD i default).Shapes.length := rfl
 rw [if_pos (by rw [List.length_nil]; omega)]; rfl
theorem take_s (l : List SSkyStar) {i : Nat} (h : i < l.length) : l.take i ++ [(⟨(l.getD i default).Shapes, (l.getD i default).Error⟩ : SSkyStar)] = l.take (i + 1) := by
 rw [List.take_add_one, List.getElem?_eq_getElem h, List.getD_eq_getElem?_getD, List.getElem?_eq_getElem h]; rfl
section
variable {k : Nat} {l : List SSkyStar} {u : List Int} {T : Nat}
theorem copy0 (r r2 : Bool) (hl : (l).length <= 1000) (hn : ∀ p, p < (l).length -> ns (l) p <= 6) : ∀ (d fuel i : Nat), (l).length = i + d -> d < fuel -> nspeculumlaw09_PointExact_i15_l0_0 k l u r r2 fuel ((l).take i) (i : Int) = some (l.take l.length) := by
 intro d
 induction d with
 | zero =>
   intro fuel i he hf
   obtain ⟨f, rfl⟩ : ∃ f, fuel = f + 1 := ⟨fuel - 1, by omega⟩
   rw [nspeculumlaw09_PointExact_i15_l0_0.eq_2, if_neg (by omega), show i = (l).length by omega]
 | succ d ih =>
   intro fuel i he hf
   obtain ⟨f, rfl⟩ : ∃ f, fuel = f + 1 := ⟨fuel - 1, by omega⟩
   rw [nspeculumlaw09_PointExact_i15_l0_0.eq_2, if_pos (by omega), if_pos (by omega), Int.toNat_natCast, copyI (hn i (by omega)), Option.bind_some, if_pos (by simp; omega), take_s (l) (by omega), w64_suc (by omega)]
   exact ih f (i + 1) (by omega) (by omega)
theorem copy1 (r r2 : Bool) (z : List SSkyStar) (zi : Int × Int) (hl : (l).length <= 1000) (hn : ∀ p, p < (l).length -> ns (l) p <= 6) : ∀ (d fuel i : Nat), (l).length = i + d -> d < fuel -> nspeculumlaw09_PointExact_i15_l0_1 k l u r r2 z zi fuel ((l).take i) (i : Int) = some (z, l.take l.length) := by
 intro d
 induction d with
 | zero =>
   intro fuel i he hf
   obtain ⟨f, rfl⟩ : ∃ f, fuel = f + 1 := ⟨fuel - 1, by omega⟩
   rw [nspeculumlaw09_PointExact_i15_l0_1.eq_2, if_neg (by omega), show i = (l).length by omega]
 | succ d ih =>
   intro fuel i he hf
   obtain ⟨f, rfl⟩ : ∃ f, fuel = f + 1 := ⟨fuel - 1, by omega⟩
   rw [nspeculumlaw09_PointExact_i15_l0_1.eq_2, if_pos (by omega), if_pos (by omega), Int.toNat_natCast, copyI (hn i (by omega)), Option.bind_some, if_pos (by simp; omega), take_s (l) (by omega), w64_suc (by omega)]
   exact ih f (i + 1) (by omega) (by omega)
theorem copy2 (r r2 : Bool) (z : List SSkyStar) (zi : Int × Int) (w : List SSkyStar × List SSkyStar) (hl : (l).length <= 1000) (hn : ∀ p, p < (l).length -> ns (l) p <= 6) : ∀ (d fuel i : Nat), (l).length = i + d -> d < fuel -> nspeculumlaw09_PointExact_i15_l0_2 k l u r r2 z zi w fuel ((l).take i) (i : Int) = some (w.1, w.2, l.take l.length) := by
 intro d
 induction d with
 | zero =>
   intro fuel i he hf
   obtain ⟨f, rfl⟩ : ∃ f, fuel = f + 1 := ⟨fuel - 1, by omega⟩
   rw [nspeculumlaw09_PointExact_i15_l0_2.eq_2, if_neg (by omega), show i = (l).length by omega]
 | succ d ih =>
   intro fuel i he hf
   obtain ⟨f, rfl⟩ : ∃ f, fuel = f + 1 := ⟨fuel - 1, by omega⟩
   rw [nspeculumlaw09_PointExact_i15_l0_2.eq_2, if_pos (by omega), if_pos (by omega), Int.toNat_natCast, copyI (hn i (by omega)), Option.bind_some, if_pos (by simp; omega), take_s (l) (by omega), w64_suc (by omega)]
   exact ih f (i + 1) (by omega) (by omega)
theorem copy3 (q : List SSkyStar × List SSkyStar × List SSkyStar) (w : SSkyModel × Int) (r2 : Bool) (hl : (q.2.2).length <= 1000) (hn : ∀ p, p < (q.2.2).length -> ns (q.2.2) p <= 6) : ∀ (d fuel i : Nat), (q.2.2).length = i + d -> d < fuel -> nspeculumlaw09_PointExact_i15_l0_3 k u q w r2 fuel ((q.2.2).take i) (i : Int) = some (q.1, q.2.1, q.2.2, q.2.2.take q.2.2.length) := by
 intro d
 induction d with
 | zero =>
   intro fuel i he hf
   obtain ⟨f, rfl⟩ : ∃ f, fuel = f + 1 := ⟨fuel - 1, by omega⟩
   rw [nspeculumlaw09_PointExact_i15_l0_3.eq_2, if_neg (by omega), show i = (q.2.2).length by omega]
 | succ d ih =>
   intro fuel i he hf
   obtain ⟨f, rfl⟩ : ∃ f, fuel = f + 1 := ⟨fuel - 1, by omega⟩
   rw [nspeculumlaw09_PointExact_i15_l0_3.eq_2, if_pos (by omega), if_pos (by omega), Int.toNat_natCast, copyI (hn i (by omega)), Option.bind_some, if_pos (by simp; omega), take_s (q.2.2) (by omega), w64_suc (by omega)]
   exact ih f (i + 1) (by omega) (by omega)
theorem mod_p (e : Int) (he : -1000 <= e /\ e <= 1000) : ∃ v, nspeculumbase_Mod k e 500 = some v /\ 0 <= v /\ v <= 499 := by
 unfold nspeculumbase_Mod
 rw [if_pos (by decide)]
 have h : (e.tmod 500).natAbs < 500 := by rw [Int.natAbs_tmod]; exact Nat.mod_lt _ (by decide)
 by_cases c : e.tmod 500 < 0
 ·rw [if_pos c, w64_id (by omega) (by omega)]; exact ⟨_, rfl, by omega, by omega⟩
 ·rw [if_neg c]; exact ⟨_, rfl, by omega, by omega⟩
theorem ints_l (a : List Int) (ha : a.length <= 1000) : ∀ (d fuel i : Nat), a.length = i + d -> d < fuel -> nspeculumbase_Ints_l0_0 k a a fuel (i : Int) = some (.inr ()) := by
 intro d
 induction d with
 | zero =>
   intro fuel i he hf
   obtain ⟨f, rfl⟩ : ∃ f, fuel = f + 1 := ⟨fuel - 1, by omega⟩
   rw [nspeculumbase_Ints_l0_0.eq_2, if_neg (by omega)]
 | succ d ih =>
   intro fuel i he hf
   obtain ⟨f, rfl⟩ : ∃ f, fuel = f + 1 := ⟨fuel - 1, by omega⟩
   rw [nspeculumbase_Ints_l0_0.eq_2, if_pos (by omega), if_pos (by omega), if_pos (by omega), if_pos rfl, w64_suc (by omega)]
   exact ih f (i + 1) (by omega) (by omega)
theorem ints_p (hk : 2000 < k) (a : List Int) (ha : a.length <= 1000) : nspeculumbase_Ints k a a = some true := by
 unfold nspeculumbase_Ints
 rw [if_pos rfl, show nspeculumbase_Ints_l0_0 k a a k 0 = _ from ints_l a ha a.length k 0 (by omega) (by omega)]; rfl
def fu (l : List SSkyStar) (u : List Int) (p : Nat) (j : Nat) : Int := u.getD j 0 * sh l p j
theorem fu_bd (hT : T <= 3) {p : Nat} (hs : ∀ j, j < T -> -100 <= sh l p j /\ sh l p j <= 100) {i : Nat} (hi : i <= T) (hu : ∀ j, j < i -> -3 <= u.getD j 0 /\ u.getD j 0 <= 3) : -900 <= S (fu l u p) i /\ S (fu l u p) i <= 900 := by
 have := Mdl.S_bd (f := fu l u p) (a := 300) i (fun j hj => by
  have h1 := hs j (by omega)
  have h2 := hu j hj
  have := abs_mul (x := u.getD j 0) (y := sh l p j) (a := 3) (b := 100) (by omega) (by omega)
  unfold fu; omega)
 omega
theorem in_l (hT : T <= 3) (hu : u.length = T) (y0 y2 b : List SSkyStar) {p : Nat} (hp : p < b.length) (hb : ns l p = T) (hs : ∀ j, j < T -> -100 <= sh l p j /\ sh l p j <= 100) : ∀ (d fuel i : Nat), T = i + d -> d < fuel -> (∀ j, j < i -> -3 <= u.getD j 0 /\ u.getD j 0 <= 3) ->
 ∃ r, nspeculumlaw09_PointExact_l1_0 k l u y0 y2 (p : Int) fuel (b.set p ⟨(l.getD p default).Shapes, S (fu l u p) i⟩) (i : Int) = some r /\ (r = .inl () \/ r = .inr (y0, b.set p ⟨(l.getD p default).Shapes, S (fu l u p) T⟩, y2) /\ ∀ j, j < T -> -3 <= u.getD j 0 /\ u.getD j 0 <= 3) := by
 have hns : ns l p = (l.getD p default).Shapes.length := rfl
 intro d
 induction d with
 | zero =>
   intro fuel i he hf hi
   obtain ⟨f, rfl⟩ : ∃ f, fuel = f + 1 := ⟨fuel - 1, by omega⟩
   refine ⟨_, by rw [nspeculumlaw09_PointExact_l1_0.eq_2, if_neg (by omega)], .inr ⟨by rw [show i = T by omega], fun j hj => hi j (by omega)⟩⟩
 | succ d ih =>
   intro fuel i he hf hi
   obtain ⟨f, rfl⟩ : ∃ f, fuel = f + 1 := ⟨fuel - 1, by omega⟩
   have eg : (b.set p (⟨(l.getD p default).Shapes, S (fu l u p) i⟩ : SSkyStar)).getD p default = ⟨(l.getD p default).Shapes, S (fu l u p) i⟩ := by rw [getD_set hp, if_pos rfl]
   have h1 := hs i (by omega)
   rw [nspeculumlaw09_PointExact_l1_0.eq_2, if_pos (by omega), if_pos (by rw [List.length_set]; omega), Int.toNat_natCast, Int.toNat_natCast, eg]
   dsimp only
   rw [if_pos (by omega), if_pos (by omega)]
   have hw : ∀ a, nspeculumbase_Within k a (-3) 3 = some (inR (-3) 3 a) := fun a => within_base k a (-3) 3
   rw [hw, Option.bind_some]
   by_cases c : inR (-3) 3 (u.getD i 0) = true
   case neg => rw [if_neg c]; exact ⟨_, rfl, .inl rfl⟩
   rw [if_pos c, if_pos (by omega)]
   rw [inR_t] at c
   have b1 := fu_bd (l := l) (u := u) hT hs (i := i) (by omega) hi
   have b2 := abs_mul (x := u.getD i 0) (y := sh l p i) (a := 3) (b := 100) (by omega) (by omega)
   rw [show (l.getD p default).Shapes.getD i 0 = sh l p i from rfl, w64_id (n := u.getD i 0 * sh l p i) (by omega) (by omega), w64_id (n := S (fu l u p) i + _) (by omega) (by omega), List.set_set, w64_suc (by omega)]
   exact ih f (i + 1) (by omega) (by omega) (fun j hj => by
    by_cases e : j = i
    ·rw [e]; exact c
    ·exact hi j (by omega))
def I1 (l : List SSkyStar) (u : List Int) (T i : Nat) (y : List SSkyStar) : Prop := y.length = l.length /\ ∀ p, p < l.length -> y.getD p default = if p < i then ⟨(l.getD p default).Shapes, S (fu l u p) T⟩ else l.getD p default
def I2 (l : List SSkyStar) (i : Nat) (y : List SSkyStar) : Prop := y.length = l.length /\ ∀ p, p < l.length -> (y.getD p default).Shapes = (l.getD p default).Shapes /\ (p < i -> 0 <= (y.getD p default).Error /\ (y.getD p default).Error <= 499)
theorem out_l (O : OKS l [] T) (hk : 2000 < k) (hu : u.length = T) (y0 : List SSkyStar) : ∀ (d fuel i : Nat) (y1 y2 : List SSkyStar), l.length = i + d -> d < fuel -> I1 l u T i y1 -> I2 l i y2 -> (0 < i -> ∀ j, j < T -> -3 <= u.getD j 0 /\ u.getD j 0 <= 3) ->
 ∃ r, nspeculumlaw09_PointExact_l0_0 k l u fuel y0 y1 y2 (i : Int) = some r /\ (r = .inl () \/ ∃ a b, r = .inr (y0, a, b) /\ I1 l u T l.length a /\ I2 l l.length b /\ ∀ j, j < T -> -3 <= u.getD j 0 /\ u.getD j 0 <= 3) := by
 have hn := O.n
 have hT := O.TT
 intro d
 induction d with
 | zero =>
   intro fuel i y1 y2 he hf h1 h2 h3
   obtain ⟨f, rfl⟩ : ∃ f, fuel = f + 1 := ⟨fuel - 1, by omega⟩
   have hi : i = l.length := by omega
   have hl1 := h1.1
   refine ⟨_, by rw [nspeculumlaw09_PointExact_l0_0.eq_2, if_neg (by omega)], .inr ⟨y1, y2, rfl, ?_, ?_, h3 (by omega)⟩⟩
   ·rw [<- hi]; exact h1
   ·rw [<- hi]; exact h2
 | succ d ih =>
   intro fuel i y1 y2 he hf h1 h2 h3
   obtain ⟨f, rfl⟩ : ∃ f, fuel = f + 1 := ⟨fuel - 1, by omega⟩
   have hl1 := h1.1
   have hl2 := h2.1
   obtain ⟨p1, p2, p3⟩ := O.p i (by omega)
   have hy1 : y1.getD i default = l.getD i default := by rw [h1.2 i (by omega), if_neg (by omega)]
   have hy2 := (h2.2 i (by omega)).1
   obtain ⟨r, e1, e2⟩ := in_l (k := k) (l := l) (u := u) hT.2 hu y0 y2 y1 (p := i) (by omega) p1 p3 T k 0 (by omega) (by omega) (fun j hj => by omega)
   rw [nspeculumlaw09_PointExact_l0_0.eq_2, if_pos (by omega), if_pos (by omega), Int.toNat_natCast, hy1]
   have e1' : nspeculumlaw09_PointExact_l1_0 k l u y0 y2 (i : Int) k (y1.set i ⟨(l.getD i default).Shapes, 0⟩) 0 = some r := e1
   rw [e1', Option.bind_some]
   rcases e2 with rfl | ⟨rfl, e2⟩
   ·exact ⟨_, rfl, .inl rfl⟩
   obtain ⟨v, e3, e4⟩ := mod_p (k := k) (l.getD i default).Error p2
   dsimp only
   rw [if_pos (by omega), e3, Option.bind_some, if_pos (by omega), hy2, w64_suc (by omega)]
   refine ih f (i + 1) _ _ (by omega) (by omega) ⟨by rw [List.length_set]; exact hl1, fun p hp => ?_⟩ ⟨by rw [List.length_set]; exact hl2, fun p hp => ?_⟩ (fun _ => e2)
   ·rw [getD_set (by omega)]
    by_cases e : p = i
    ·rw [if_pos e, if_pos (by omega), e]
    ·rw [if_neg e, h1.2 p hp]
     by_cases e' : p < i
     ·rw [if_pos e', if_pos (by omega)]
     ·rw [if_neg e', if_neg (by omega)]
   ·rw [getD_set (by omega)]
    by_cases e : p = i
    ·rw [if_pos e, e]; exact ⟨rfl, fun _ => e4⟩
    ·rw [if_neg e]; exact ⟨(h2.2 p hp).1, fun h => (h2.2 p hp).2 (by omega)⟩
def dbl (l : List SSkyStar) (i : Nat) (y : List SSkyStar) : Prop := y.length = l.length /\ ∀ p, p < l.length -> y.getD p default = if p < i then ⟨(l.getD p default).Shapes, 2 * (l.getD p default).Error⟩ else l.getD p default
theorem dbl_l (w1 : SSkyModel × Int) (w2 : List SSkyStar × List SSkyStar × List SSkyStar × List SSkyStar) (w3 : SSkyModel × Int) (hl : l.length <= 1000) (he : ∀ p, p < l.length -> 0 <= er l p /\ er l p <= 499) : ∀ (d fuel i : Nat) (y : List SSkyStar), l.length = i + d -> d < fuel -> dbl l i y ->
 ∃ b, nspeculumlaw09_PointExact_l2_0 k w1 w2 w3 fuel y (i : Int) = some (w2.1, w2.2.1, b, w2.2.2.2) /\ dbl l l.length b := by
 intro d
 induction d with
 | zero =>
   intro fuel i y hd hf h
   obtain ⟨f, rfl⟩ : ∃ f, fuel = f + 1 := ⟨fuel - 1, by omega⟩
   have h1 := h.1
   have hi : i = l.length := by omega
   subst hi
   exact ⟨y, by rw [nspeculumlaw09_PointExact_l2_0.eq_2, if_neg (by omega)], h⟩
 | succ d ih =>
   intro fuel i y hd hf h
   obtain ⟨f, rfl⟩ : ∃ f, fuel = f + 1 := ⟨fuel - 1, by omega⟩
   have hl1 := h.1
   have hy : y.getD i default = l.getD i default := by rw [h.2 i (by omega), if_neg (by omega)]
   have hE := he i (by omega)
   rw [nspeculumlaw09_PointExact_l2_0.eq_2, if_pos (by omega), if_pos (by omega), Int.toNat_natCast, hy, show (l.getD i default).Error = er l i from rfl, w64_id (n := 2 * er l i) (by omega) (by omega), w64_suc (by omega)]
   refine ih f (i + 1) _ (by omega) (by omega) ⟨by rw [List.length_set]; exact hl1, fun p hp => ?_⟩
   rw [getD_set (by omega)]
   by_cases e : p = i
   ·rw [if_pos e, if_pos (by omega), e]; rfl
   ·rw [if_neg e, h.2 p hp]
    by_cases e' : p < i
    ·rw [if_pos e', if_pos (by omega)]
    ·rw [if_neg e', if_neg (by omega)]
theorem cmp_l (w1 : SSkyModel × Int) (a b : SSkyModel) (ea eb : Int) (w2 : List SSkyStar × List SSkyStar × List SSkyStar × List SSkyStar) (hla : a.Terms.length = T) (hlb : b.Terms.length = T) (hT : T <= 3) (hda : 1 <= a.Den /\ a.Den <= 1000000000) (hdb : 1 <= b.Den /\ b.Den <= 1000000000) (heq : ∀ i, i < T -> 2 * a.Terms.getD i 0 * b.Den = b.Terms.getD i 0 * a.Den) : ∀ (d fuel i : Nat), T = i + d -> d < fuel ->
 ∃ r, nspeculumlaw09_PointExact_l3_0 k w1 (a, ea) w2 (b, eb) fuel (i : Int) = some r /\ (r = .inl true \/ r = .inr ()) := by
 intro d
 induction d with
 | zero =>
   intro fuel i hd hf
   obtain ⟨f, rfl⟩ : ∃ f, fuel = f + 1 := ⟨fuel - 1, by omega⟩
   exact ⟨_, by rw [nspeculumlaw09_PointExact_l3_0.eq_2, if_neg (show ¬ (i : Int) < (a.Terms.length : Int) by omega)], .inr rfl⟩
 | succ d ih =>
   intro fuel i hd hf
   obtain ⟨f, rfl⟩ : ∃ f, fuel = f + 1 := ⟨fuel - 1, by omega⟩
   rw [nspeculumlaw09_PointExact_l3_0.eq_2]
   dsimp only
   rw [if_pos (show (i : Int) < (a.Terms.length : Int) by omega), if_pos (show 0 <= (i : Int) /\ (i : Int) < (a.Terms.length : Int) by omega), within_base, Option.bind_some, Int.toNat_natCast]
   by_cases c1 : inR (-1000000000) 1000000000 (a.Terms.getD i 0) = true
   case neg => rw [if_neg c1]; exact ⟨_, rfl, .inl rfl⟩
   rw [if_pos c1, if_pos (show 0 <= (i : Int) /\ (i : Int) < (b.Terms.length : Int) by omega), within_base, Option.bind_some]
   by_cases c2 : inR (-1000000000) 1000000000 (b.Terms.getD i 0) = true
   case neg => rw [if_neg c2]; exact ⟨_, rfl, .inl rfl⟩
   rw [if_pos c2]
   rw [inR_t] at c1 c2
   have m1 := abs_mul (x := 2 * a.Terms.getD i 0) (y := b.Den) (a := 2000000000) (b := 1000000000) (by omega) (by omega)
   have m2 := abs_mul (x := b.Terms.getD i 0) (y := a.Den) (a := 1000000000) (b := 1000000000) (by omega) (by omega)
   rw [w64_id (n := 2 * a.Terms.getD i 0) (by omega) (by omega), w64_id (n := 2 * a.Terms.getD i 0 * b.Den) (by omega) (by omega), w64_id (n := b.Terms.getD i 0 * a.Den) (by omega) (by omega), if_pos (heq i (by omega)), w64_suc (by omega)]
   exact ih f (i + 1) (by omega) (by omega)
theorem gm_congr {l l' : List SSkyStar} (hn : l'.length = l.length) (hs : ∀ p, p < l.length -> ∀ i, sh l' p i = sh l p i) : gm l' T = gm l T := by
 have g : ∀ i j, gs l' i j l'.length = gs l i j l.length := fun i j => by
  rw [hn]; exact Mdl.S_congr _ fun p hp => by show sh l' p i * sh l' p j = _; rw [hs p hp, hs p hp]
 unfold gm; rw [g, g, g, g, g, g]
theorem same {y : List SSkyStar} (O : OKS l [] T) (hn : y.length = l.length) (hs : ∀ p, p < l.length -> (y.getD p default).Shapes = (l.getD p default).Shapes) (he : ∀ p, p < l.length -> -1000 <= er y p /\ er y p <= 1000) : OKS y [] T /\ ∀ p, p < l.length -> ∀ i, sh y p i = sh l p i := by
 have h : ∀ p, p < l.length -> ∀ i, sh y p i = sh l p i := fun p hp i => by unfold sh; rw [hs p hp]
 refine ⟨⟨by rw [hn]; exact O.n, O.TT, fun p hp => ?_⟩, h⟩
 rw [hn] at hp
 obtain ⟨a, b, c⟩ := O.p p hp
 exact ⟨by unfold ns; rw [hs p hp]; exact a, he p hp, fun i hi => by rw [h p hp]; exact c i hi⟩
end
theorem law_exact (k : Nat) (hk : 10000000000000000000 < k) (l : List SSkyStar) (u : List Int) (hl : l.length <= 9223372036854775807) : nspeculumlaw09_PointExact k l u = some true := by
 unfold nspeculumlaw09_PointExact nawake
 obtain ⟨b, e1, f1⟩ := few_p (k := k) l hl (by omega)
 rw [Option.bind_some, if_pos rfl, e1, Option.bind_some]
 by_cases c1 : b = true
 case neg => rw [if_neg c1]
 rw [if_pos c1]
 have hn6 := f1 c1
 by_cases c2 : 8 < (l.length : Int)
 ·rw [if_pos c2]
 rw [if_neg c2]
 by_cases c3 : 3 < (u.length : Int)
 ·rw [if_pos c3]
 rw [if_neg c3]
 have k0 : nspeculumlaw09_PointExact_i15_l0_0 k l u true b k ([] : List SSkyStar) 0 = some l := by
  have := copy0 (k := k) (l := l) (u := u) true b (by omega) hn6 l.length k 0 (by omega) (by omega)
  rw [List.take_length] at this; exact this
 rw [k0, Option.bind_some]
 obtain ⟨r, e2, f2⟩ := stars_p (k := k) (by omega) l
 rw [e2, Option.bind_some]
 by_cases c4 : r.2 = 0
 case neg => rw [if_neg c4]
 obtain ⟨hr, hn, hT, hp⟩ := f2 c4
 rw [if_pos c4]
 by_cases c5 : r.1 = (u.length : Int)
 case neg => rw [if_neg c5]
 rw [if_pos c5]
 have hu : u.length = ns l 0 := by rw [hr] at c5; dsimp only at c5; omega
 have O : OKS l [] (ns l 0) := ⟨by omega, hT, fun p hp' => ⟨(hp p hp').1, (hp p hp').2.2, fun i hi => (hp p hp').2.1 i (by rw [(hp p hp').1]; exact hi)⟩⟩
 generalize hTe : ns l 0 = T at *
 have k1 : nspeculumlaw09_PointExact_i15_l0_1 k l u true b l r k ([] : List SSkyStar) 0 = some (l, l) := by
  have := copy1 (k := k) (l := l) (u := u) true b l r (by omega) hn6 l.length k 0 (by omega) (by omega)
  rw [List.take_length] at this; exact this
 have k2 : nspeculumlaw09_PointExact_i15_l0_2 k l u true b l r (l, l) k ([] : List SSkyStar) 0 = some (l, l, l) := by
  have := copy2 (k := k) (l := l) (u := u) true b l r (l, l) (by omega) hn6 l.length k 0 (by omega) (by omega)
  rw [List.take_length] at this; exact this
 rw [k1, Option.bind_some]
 dsimp only
 rw [if_pos rfl, k2, Option.bind_some]
 dsimp only
 rw [if_pos rfl, if_pos rfl]
 obtain ⟨r', e3, f3⟩ := out_l (k := k) (u := u) O (by omega) hu l l.length k 0 l l (by omega) (by omega) ⟨rfl, fun p hp => by rw [if_neg (by omega)]⟩ ⟨rfl, fun p hp => ⟨rfl, fun h => by omega⟩⟩ (fun h => by omega)
 rw [show nspeculumlaw09_PointExact_l0_0 k l u k l l l 0 = _ from e3, Option.bind_some]
 rcases f3 with rfl | ⟨x, y, rfl, i1, i2, hub⟩
 ·rfl
 dsimp only
 have ex : ∀ p, p < l.length -> x.getD p default = ⟨(l.getD p default).Shapes, S (fu l u p) T⟩ := fun p hp => by rw [i1.2 p hp, if_pos hp]
 have erx : ∀ p, p < l.length -> er x p = S (fu l u p) T := fun p hp => by unfold er; rw [ex p hp]
 obtain ⟨OX, sX⟩ := same O i1.1 (fun p hp => by rw [ex p hp]) (fun p hp => by
  rw [erx p hp]
  have := fu_bd (l := l) (u := u) hT.2 (fun j hj => (O.p p hp).2.2 j hj) (Nat.le_refl T) hub
  omega)
 obtain ⟨OY, sY⟩ := same O i2.1 (fun p hp => (i2.2 p hp).1) (fun p hp => by
  have := (i2.2 p hp).2 hp
  unfold er; omega)
 obtain ⟨m, e, e4, F⟩ := fit_q OX hk
 have hx := exact_x OX u (fun p hp => by
  rw [i1.1] at hp
  rw [erx p hp, S3 hT _ (fun i hi => by show _ * sh l p i = 0; rw [O.z hp hi, Int.mul_zero]), sX p hp, sX p hp, sX p hp]
  have z : ∀ i, ez T u i * sh l p i = fu l u p i := fun i => by
   unfold ez fu
   by_cases c : i < T
   ·rw [if_pos c]
   ·rw [O.z hp (by omega), Int.mul_zero, Int.mul_zero]
  rw [z, z, z])
 rw [e4, Option.bind_some]
 dsimp only
 rcases fit_exact F u hu hub hx with rfl | ⟨rfl, d1, d2, d3⟩
 ·rw [if_neg (by decide)]; rfl
 rw [if_pos rfl, if_pos d1, d2, ints_p (by omega) u (by omega), Option.bind_some, if_pos rfl]
 have k3 : nspeculumlaw09_PointExact_i15_l0_3 k u (l, x, y) (m, 0) true k ([] : List SSkyStar) 0 = some (l, x, y, y) := by
  have := copy3 (k := k) (u := u) (l, x, y) (m, 0) true (by show y.length <= 1000; rw [i2.1]; omega) (fun p hp => by
   have hp' : p < l.length := by rw [<- i2.1]; exact hp
   show ns y p <= 6
   unfold ns; rw [(i2.2 p hp').1]; exact hn6 p hp') y.length k 0 (by show y.length = _; omega) (by rw [i2.1]; omega)
  dsimp only at this
  rw [List.take_length] at this; exact this
 rw [k3, Option.bind_some]
 dsimp only
 rw [if_pos rfl, if_pos rfl]
 obtain ⟨a, g, e5, FA⟩ := fit_q OY hk
 rw [e5, Option.bind_some]
 have hyl := i2.1
 obtain ⟨w, e6, f6⟩ := dbl_l (k := k) (l := y) (m, 0) (l, x, y, y) (a, g) (by omega) (fun p hp => (i2.2 p (by omega)).2 (by omega)) y.length k 0 y (by omega) (by omega) ⟨rfl, fun p hp => by rw [if_neg (by omega)]⟩
 rw [show nspeculumlaw09_PointExact_l2_0 k (m, 0) (l, x, y, y) (a, g) k y 0 = _ from e6, Option.bind_some]
 dsimp only
 have ew : ∀ p, p < y.length -> w.getD p default = ⟨(y.getD p default).Shapes, 2 * (y.getD p default).Error⟩ := fun p hp => by rw [f6.2 p hp, if_pos hp]
 have erw' : ∀ p, p < y.length -> er w p = 2 * er y p := fun p hp => by unfold er; rw [ew p hp]
 obtain ⟨OW, sW⟩ := same OY f6.1 (fun p hp => by rw [ew p hp]) (fun p hp => by
  rw [erw' p hp]
  have := (i2.2 p (by omega)).2 (by omega)
  unfold er; omega)
 obtain ⟨b', h, e7, FB⟩ := fit_q OW hk
 obtain ⟨gw, xw⟩ := twice (T := T) f6.1 sW erw'
 have gy : gm y T = gm x T := by rw [gm_congr i2.1 sY, gm_congr i1.1 sX]
 rw [e7, Option.bind_some]
 dsimp only
 rcases FA with ⟨_, hz⟩ | ⟨hDa, ya, la, pa, ma, ca⟩
 ·rw [gy] at hz; exact absurd hz d3
 rcases FB with ⟨_, hz⟩ | ⟨hDb, yb, lb, pb, mb, cb⟩
 ·rw [gw, gy] at hz; exact absurd hz d3
 rcases ca with ⟨rfl, _⟩ | ⟨rfl, rfl⟩
 ·rw [if_neg (by decide), if_pos rfl]
  rcases cb with ⟨rfl, _⟩ | ⟨rfl, _⟩
  ·rw [if_neg (by decide)]; rfl
  ·rw [if_pos rfl]
 rw [if_pos rfl]
 rcases cb with ⟨rfl, _⟩ | ⟨rfl, rfl⟩
 ·rw [if_neg (by decide)]; rfl
 have hla : (ya.drop 1).length = T := by simp; omega
 have hlb : (yb.drop 1).length = T := by simp; omega
 have hll : ((ya.drop 1).length : Int) = ((yb.drop 1).length : Int) := by omega
 rw [if_pos rfl, if_pos hll, within_base, Option.bind_some, within_base, Option.bind_some, decide_eq_true hll]
 by_cases w1 : inR 1 1000000000 (ya.getD 0 0) = true
 case neg => rw [if_neg w1]
 rw [if_pos w1]
 by_cases w2 : inR 1 1000000000 (yb.getD 0 0) = true
 case neg => rw [if_neg w2]
 rw [if_pos w2]
 rw [inR_t] at w1 w2
 obtain ⟨r, e8, e9⟩ := cmp_l (k := k) (T := T) (m, 0) ⟨ya.drop 1, ya.getD 0 0⟩ ⟨yb.drop 1, yb.getD 0 0⟩ 0 0 (l, x, w, y) hla hlb hT.2 w1 w2 (fun i hi => by
  show 2 * (ya.drop 1).getD i 0 * yb.getD 0 0 = (yb.drop 1).getD i 0 * ya.getD 0 0
  rw [drop1, drop1]
  have a0 := ma 0 (by omega)
  have a1 := ma (i + 1) (by omega)
  have b0 := mb 0 (by omega)
  have b1 := mb (i + 1) (by omega)
  rw [nums_0] at a0 b0
  rw [nums_s hi] at a1 b1
  rw [gw] at b0
  rw [xw] at b1
  generalize ya.getD 0 0 = A0 at *
  generalize ya.getD (i + 1) 0 = A1 at *
  generalize yb.getD 0 0 = B0 at *
  generalize yb.getD (i + 1) 0 = B1 at *
  have za : (0 : Int) < (fg 0 (nums y T T) : Int) := by omega
  have zb : (0 : Int) < (fg 0 (nums w T T) : Int) := by omega
  clear ma mb pa pb
  generalize (fg 0 (nums y T T) : Int) = da at *
  generalize (fg 0 (nums w T T) : Int) = db at *
  generalize D3 (gm y T) = D at *
  generalize XX y T i = X at *
  have key : da * db * (2 * A1 * B0) = da * db * (B1 * A0) := by
   have q1 : da * db * (2 * A1 * B0) = 2 * (A1 * da) * (B0 * db) := by grind
   have q2 : da * db * (B1 * A0) = (B1 * db) * (A0 * da) := by grind
   rw [q1, q2, a0, a1, b0, b1]
  have := Int.mul_pos za zb
  exact Int.eq_of_mul_eq_mul_left (by omega) key) T k 0 (by omega) (by omega)
 rw [show nspeculumlaw09_PointExact_l3_0 k (m, 0) (⟨ya.drop 1, ya.getD 0 0⟩, 0) (l, x, w, y) (⟨yb.drop 1, yb.getD 0 0⟩, 0) k 0 = _ from e8, Option.bind_some]
 rcases e9 with rfl | rfl <;> rfl
theorem vc_exact (l : List SSkyStar) (u : List Int) (hl : l.length <= 9223372036854775807) : VC Try.prog 4 [VV.tr (List.flatMap c_SSkyStar l) l.length, VV.tr (List.map vi u) u.length] (vb true) :=
 nspeculumlaw09_PointExact_ok 20000000000000000000 l u true (law_exact 20000000000000000000 (by omega) l u hl)
end Go.Proofs.Ytmjmggkllmfmlaa.Vg
