import Derived.Test.YtiekbdbedonnoaaA0
import Derived.Test.YtiekbdbedonnoaaKG
set_option linter.unusedVariables false
set_option linter.unusedSimpArgs false
namespace Go.Proofs.Ytiekbdbedonnoaa.Vg
open Go Go.Proofs.Ytiekbdbedonnoaa.Ev Go.Proofs.Ytiekbdbedonnoaa.Vv
theorem Qyp (k : Nat) (l : List Qd) (hl : l.length <= 15) : ∀ (d fuel i : Nat) (y : List (ByteArray × List Int)), l.length = i + d -> d < fuel -> (∀ n, mhas y n = Qcj l i n) ->
 (∀ j, j < i -> (∀ j', j' < l.length -> Qcj l j' (l.getD j' default).Name = false) -> mget y (l.getD j default).Name = (l.getD j default).Wear) ->
 ∃ z, Xv k l fuel y (i : Int) = some z /\ (∀ n, mhas z n = Qcj l l.length n) /\ ((∀ j', j' < l.length -> Qcj l j' (l.getD j' default).Name = false) -> ∀ j, j < l.length -> mget z (l.getD j default).Name = (l.getD j default).Wear) := by
 intro d
 induction d with
 | zero =>
   intro fuel i y h hf hy hg
   obtain ⟨g, rfl⟩ : ∃ g, fuel = g + 1 := ⟨fuel - 1, by omega⟩
   obtain rfl : i = l.length := by omega
   exact ⟨y, by rw [Xv.eq_2, if_neg (by omega)], hy, fun h j hj => hg j hj h⟩
 | succ d ih =>
   intro fuel i y h hf hy hg
   obtain ⟨g, rfl⟩ : ∃ g, fuel = g + 1 := ⟨fuel - 1, by omega⟩
   have hi : i < l.length := by omega
   rw [Xv.eq_2, if_pos (by omega), if_pos (by omega), Int.toNat_natCast, Y9 (by omega)]
   refine ih g (i + 1) _ (by omega) (by omega) (fun n => by rw [Qkm, Qhw l i hi, hy]) (fun j hj hu => ?_)
   rw [Qoo]
   by_cases e : (l.getD j default).Name = (l.getD i default).Name
   ·rw [decide_eq_true e]
    by_cases ej : j = i
    ·rw [ej]
    ·have h1 := Qgk l (l.getD i default).Name (show j + 1 <= i by omega) (Qkn l _ (show j < l.length by omega) e)
     rw [hu i hi] at h1; cases h1
   ·rw [decide_eq_false e]
    by_cases ej : j = i
    ·rw [ej] at e; exact absurd rfl e
    ·exact hg j (by omega) hu
theorem Qm7 (k : Nat) (hk : 100 < k) (l : List Qd) (hl : l.length <= 15) : ∃ z, Qa9 k l = some z /\ (∀ n, mhas z n = Qcj l l.length n) /\ ((∀ j', j' < l.length -> Qcj l j' (l.getD j' default).Name = false) -> ∀ j, j < l.length -> mget z (l.getD j default).Name = (l.getD j default).Wear) := by
 obtain ⟨z, h1, h2, h3⟩ := Qyp k l hl l.length k 0 [] (by omega) (by omega) (fun n => by simp [mhas, Qcj]) (fun j hj => by omega)
 refine ⟨z, ?_, h2, h3⟩
 unfold Qa9
 rw [show Xv k l k [] 0 = _ from h1]; rfl
def Qkf (l : List Qd) (s : Qb) : Int := match nameB s.Mirror with
 | false => 4
 | true => match Qcj l l.length s.Stroke with
   | false => 6
   | true => match inR 1 10000 s.Minutes with
     | false => 2
     | true => 0
def sesL (l : List Qd) : List Qb -> Int
 | [] => 0
 | s :: ss => match decide (Qkf l s = 0) with | true => sesL l ss | false => Qkf l s
def sesE (l : List Qd) (ss : List Qb) : Int := match decide (ss.length <= 200) with | false => 8 | true => sesL l ss
theorem Qzq (k : Nat) (hk : 100 < k) (n b : Bool) (x : Int) : Qz k ((n, 4), (b, 6), ([x], 1, 10000)) = some (match n with | false => 4 | true => match b with | false => 6 | true => match inR 1 10000 x with | false => 2 | true => 0) := by
 unfold Qz
 simp only [Qme, Option.bind_some, Qq4 k [x] 1 10000 (by simp) (by simp; omega), List.all_cons, List.all_nil, Bool.and_true]
 cases n with
 | false => rfl
 | true =>
   cases b with
   | false => rfl
   | true => cases inR 1 10000 x <;> rfl
theorem Q3p (k : Nat) (hk : 100 < k) (hk2 : k <= 100000000000000000000) (l : List Qd) (z : List (ByteArray × List Int)) (hz : ∀ n, mhas z n = Qcj l l.length n) (ss : List Qb) (hs : ss.length <= 203) (i : Nat) (hi : i < ss.length) : Yx k (i : Int) z ss = some (Qkf l (ss.getD i default)) := by
 unfold Yx Y7 Xd J7
 rw [if_pos (by omega), Int.toNat_natCast, hz, Qrh k hk hk2]
 simp only [Option.bind_some]
 rw [Qzq k hk, Qzq k hk]
 unfold Qkf
 cases Qcj l l.length (ss.getD i default).Stroke with
 | true => rw [if_pos rfl]; rfl
 | false => rw [if_neg (by simp)]; rfl
theorem Q3b (k : Nat) (hk : 100 < k) (hk2 : k <= 100000000000000000000) (l : List Qd) (z : List (ByteArray × List Int)) (hz : ∀ n, mhas z n = Qcj l l.length n) (ss : List Qb) (hs : ss.length <= 203) : ∀ (d fuel i : Nat), ss.length = i + d -> d < fuel -> Qy k (ss.length : Int) (z, ss) fuel (i : Int) = some (errE (sesL l (ss.drop i))) := by
 intro d
 induction d with
 | zero =>
   intro fuel i h hf
   obtain ⟨g, rfl⟩ : ∃ g, fuel = g + 1 := ⟨fuel - 1, by omega⟩
   rw [Qy.eq_2, if_neg (by omega), List.drop_eq_nil_of_le (by omega)]; rfl
 | succ d ih =>
   intro fuel i h hf
   obtain ⟨g, rfl⟩ : ∃ g, fuel = g + 1 := ⟨fuel - 1, by omega⟩
   rw [Qy.eq_2, if_pos (by omega)]
   dsimp only
   rw [Q3p k hk hk2 l z hz ss hs i (by omega), Option.bind_some, Y9 (by omega), ih g (i + 1) (by omega) (by omega), Qi6 (y := ss) (i := i) (by omega) default]
   simp only [sesL]
   cases hd : decide (Qkf l (ss.getD i default) = 0) with
   | true => rw [if_pos (of_decide_eq_true hd)]
   | false => rw [if_neg (of_decide_eq_false hd)]; unfold errE; rw [hd]
theorem Qrm (k : Nat) (hk : 1000 < k) (hk2 : k <= 100000000000000000000) (l : List Qd) (hl : l.length <= 15) (ss : List Qb) (hs : ss.length <= 203) : J4 k l ss = some (sesE l ss) := by
 obtain ⟨z, h1, h2, _⟩ := Qm7 k (by omega) l hl
 have he := Q3b k (by omega) hk2 l z h2 ss hs ss.length k 0 (by omega) (by omega)
 rw [List.drop_zero] at he
 have hd : decide ((ss.length : Int) <= 200) = decide (ss.length <= 200) := by congr 1; simp only [eq_iff_iff]; omega
 unfold J4 Xd X9 Zh Xz sesE
 rw [h1, hd]
 simp only [Option.bind_some]
 rw [Qme, Option.bind_some]
 cases decide (ss.length <= 200) with
 | false => rfl
 | true =>
   dsimp only
   rw [if_pos rfl, show Qy k (ss.length : Int) (z, ss) k 0 = _ from he, Option.bind_some]
   unfold errE
   cases h0 : decide (sesL l ss = 0) with
   | true => dsimp only; rw [of_decide_eq_true h0]; rfl
   | false => dsimp only; rw [Option.bind_some, if_neg (of_decide_eq_false h0), Option.bind_some]
theorem at_neg (k : Nat) (hk : 100 < k) (l : List Qd) (hl : l.length <= 15) (n : ByteArray) : ∃ j : Int, Xf k l n = some j /\ (j < 0 ↔ Qcj l l.length n = false) := by
 rcases Qlu k hk l hl n with ⟨j, e1, e3, e4, e5⟩ | ⟨e1, e2⟩
 ·refine ⟨_, e1, ?_⟩
  constructor
  ·intro h; omega
  ·intro h
   rw [Qgk l n (show j + 1 <= l.length by omega) (Qkn l n e3 e5)] at h; cases h
 ·exact ⟨_, e1, fun _ => e2, fun _ => by omega⟩
theorem Q3q (k : Nat) (hk : 100 < k) (l : List Qd) (hl : l.length <= 15) (ss : List Qb) (hs : ss.length <= 203) : ∀ (d fuel i : Nat), ss.length = i + d -> d < fuel -> Zy k l ss fuel (i : Int) = some (errE (sesL l (ss.drop i))) := by
 intro d
 induction d with
 | zero =>
   intro fuel i h hf
   obtain ⟨g, rfl⟩ : ∃ g, fuel = g + 1 := ⟨fuel - 1, by omega⟩
   rw [Zy.eq_2, if_neg (by omega), List.drop_eq_nil_of_le (by omega)]; rfl
 | succ d ih =>
   intro fuel i h hf
   obtain ⟨g, rfl⟩ : ∃ g, fuel = g + 1 := ⟨fuel - 1, by omega⟩
   obtain ⟨j, hj, hjn⟩ := at_neg k hk l hl (ss.getD i default).Stroke
   rw [Zy.eq_2, if_pos (by omega), if_pos (by omega), Int.toNat_natCast, Qnn k hk, Option.bind_some, hj, Option.bind_some, wib, Option.bind_some, Y9 (by omega), ih g (i + 1) (by omega) (by omega), Qi6 (y := ss) (i := i) (by omega) default]
   simp only [sesL]
   have key : (if nameB (ss.getD i default).Mirror = true then (if j < 0 then (some (Sum.inl (6 : Int))) else (if inR 1 10000 (ss.getD i default).Minutes = true then some (errE (sesL l (ss.drop (i + 1)))) else (some (.inl 2)))) else (some (.inl 4))) = some (match decide (Qkf l (ss.getD i default) = 0) with | true => errE (sesL l (ss.drop (i + 1))) | false => .inl (Qkf l (ss.getD i default))) := by
    unfold Qkf
    cases nameB (ss.getD i default).Mirror with
    | false => rfl
    | true =>
      rw [if_pos rfl]
      cases hsn : Qcj l l.length (ss.getD i default).Stroke with
      | false => rw [if_pos (hjn.2 hsn)]; rfl
      | true =>
        rw [if_neg (fun h => by rw [hjn.1 h] at hsn; cases hsn)]
        cases inR 1 10000 (ss.getD i default).Minutes <;> rfl
   rw [key]
   cases hd : decide (Qkf l (ss.getD i default) = 0) with
   | true => rfl
   | false => unfold errE; rw [hd]
theorem Qjk (k : Nat) (hk : 1000 < k) (l : List Qd) (hl : l.length <= 15) (ss : List Qb) (hs : ss.length <= 203) : Js k l ss = some (sesE l ss) := by
 have he := Q3q k (by omega) l hl ss hs ss.length k 0 (by omega) (by omega)
 rw [List.drop_zero] at he
 unfold Js sesE
 by_cases c : ss.length <= 200
 ·rw [if_neg (by omega), decide_eq_true c, show Zy k l ss k 0 = _ from he, Option.bind_some]
  unfold errE
  cases h0 : decide (sesL l ss = 0) with
  | true => dsimp only; rw [of_decide_eq_true h0]
  | false => rfl
 ·rw [if_pos (by omega), decide_eq_false c]
theorem Qp8 {l : List Qd} : ∀ {ss : List Qb}, sesL l ss = 0 -> ∀ s ∈ ss, Qkf l s = 0
 | [], _, s, hs => by cases hs
 | x :: ss, h, s, hs => by
   simp only [sesL] at h
   cases hd : decide (Qkf l x = 0) with
   | false => rw [hd] at h; exact absurd h (of_decide_eq_false hd)
   | true =>
     rw [hd] at h
     rcases List.mem_cons.1 hs with rfl | hs
     ·exact of_decide_eq_true hd
     ·exact Qp8 h s hs
theorem Qw4 (k : Nat) (l : List Qd) (ss : List Qb) (mi : ByteArray) (i : Nat) (hi : i < ss.length) (z : List (ByteArray × List Int)) (j : Nat) (hj : j < l.length) (ws : List Int) (hw1 : mget z (ss.getD i default).Stroke = ws) (hw2 : (l.getD j default).Wear = ws) (hwl : ws.length <= 43) :
 ∀ (d fuel x : Nat) (y : List Int), ws.length = x + d -> d < fuel -> y.length = ws.length -> ∃ u, J8 k ss mi (i : Int) z fuel y (x : Int) = some (z, u) /\ Xa k l ss mi (i : Int) (j : Int) fuel y (x : Int) = some u /\ u.length = ws.length := by
 intro d
 induction d with
 | zero =>
   intro fuel x y h hf hy
   obtain ⟨g, rfl⟩ : ∃ g, fuel = g + 1 := ⟨fuel - 1, by omega⟩
   refine ⟨y, ?_, ?_, hy⟩
   ·rw [J8.eq_2, Int.toNat_natCast, hw1, if_neg (by omega)]
   ·rw [Xa.eq_2, if_neg (by omega)]
 | succ d ih =>
   intro fuel x y h hf hy
   obtain ⟨g, rfl⟩ : ∃ g, fuel = g + 1 := ⟨fuel - 1, by omega⟩
   rw [J8.eq_2, Xa.eq_2]
   simp only [Int.toNat_natCast]
   rw [hw1, hw2]
   simp only [if_pos (show (x : Int) < (ws.length : Int) by omega), if_pos (show 0 <= (x : Int) /\ (x : Int) < (ws.length : Int) by omega), if_pos (show 0 <= (x : Int) /\ (x : Int) < (y.length : Int) by omega), if_pos (show (x : Int) < (y.length : Int) by omega), if_pos (show 0 <= (i : Int) /\ (i : Int) < (ss.length : Int) by omega), if_pos (show 0 <= (j : Int) /\ (j : Int) < (l.length : Int) by omega)]
   rw [Y9 (by omega)]
   refine ih g (x + 1) _ (by omega) (by omega) ?_
   rw [List.length_set]; exact hy
theorem Qw5 (k : Nat) (hk : 1000 < k) (l : List Qd) (hl : strE l = 0) (ss : List Qb) (hs : ss.length <= 203) (hok : sesL l ss = 0) (mi : ByteArray) (z : List (ByteArray × List Int)) (hz : ∀ n, mhas z n = Qcj l l.length n) (hz2 : ∀ j, j < l.length -> mget z (l.getD j default).Name = (l.getD j default).Wear) :
 ∀ (d fuel i : Nat) (y : List Int), ss.length = i + d -> d < fuel -> y.length = (l.getD 0 default).Wear.length -> ∃ u, X0 k ss mi fuel y (i : Int) z = some u /\ Zx k l ss mi fuel y (i : Int) = some u /\ u.length = (l.getD 0 default).Wear.length := by
 obtain ⟨_, hl12, hg⟩ := Qfg hl
 intro d
 induction d with
 | zero =>
   intro fuel i y h hf hy
   obtain ⟨g, rfl⟩ : ∃ g, fuel = g + 1 := ⟨fuel - 1, by omega⟩
   exact ⟨y, by rw [X0.eq_2, if_neg (by omega)], by rw [Zx.eq_2, if_neg (by omega)], hy⟩
 | succ d ih =>
   intro fuel i y h hf hy
   obtain ⟨g, rfl⟩ : ∃ g, fuel = g + 1 := ⟨fuel - 1, by omega⟩
   have hi : i < ss.length := by omega
   rw [X0.eq_2, Zx.eq_2]
   simp only [Int.toNat_natCast]
   simp only [if_pos (show (i : Int) < (ss.length : Int) by omega), if_pos (show 0 <= (i : Int) /\ (i : Int) < (ss.length : Int) by omega)]
   rw [Y9 (by omega)]
   by_cases c : (ss.getD i default).Mirror = mi
   ·rw [if_pos c, if_pos c]
    have hm : ss.getD i default ∈ ss := by rw [List.getD_eq_getElem?_getD, List.getElem?_eq_getElem hi]; exact List.getElem_mem hi
    have h1 := Qp8 hok _ hm
    have hseen : Qcj l l.length (ss.getD i default).Stroke = true := by
     unfold Qkf at h1
     cases hn : nameB (ss.getD i default).Mirror with
     | false => rw [hn] at h1; simp at h1
     | true =>
       rw [hn] at h1
       cases hsn : Qcj l l.length (ss.getD i default).Stroke with
       | true => rfl
       | false => rw [hsn] at h1; simp at h1
    rcases Qlu k (by omega) l (by omega) (ss.getD i default).Stroke with ⟨j, e1, e3, e4, e5⟩ | ⟨e1, e2⟩
    ·have hgj := (hg j e3).1
     have hwl : (l.getD j default).Wear.length <= 43 := by have := hgj.z2; omega
     have hz3 : mget z (ss.getD i default).Stroke = (l.getD j default).Wear := by rw [<- e5]; exact hz2 j e3
     obtain ⟨u, u1, u2, u3⟩ := Qw4 k l ss mi i hi z j e3 _ hz3 rfl hwl (l.getD j default).Wear.length k 0 y (by omega) (by omega) (by rw [hy]; exact hgj.len.symm)
     rw [if_pos (show mhas z (ss.getD i default).Stroke = true by rw [hz]; exact hseen), show J8 k ss mi (i : Int) z k y 0 = _ from u1, Option.bind_some, e1, Option.bind_some, show Xa k l ss mi (i : Int) (j : Int) k y 0 = _ from u2, Option.bind_some]
     exact ih g (i + 1) u (by omega) (by omega) (by rw [u3, hgj.len])
    ·rw [e2] at hseen; cases hseen
   ·rw [if_neg c, if_neg c]
    exact ih g (i + 1) y (by omega) (by omega) hy
theorem Ql0 (k : Nat) (hk : 1000 < k) (l : List Qd) (hl : strE l = 0) (ss : List Qb) (hs : ss.length <= 203) (hok : sesL l ss = 0) (mi : ByteArray) : ∃ u, Qa4 k l ss mi = some u /\ Jp k l ss mi = some u /\ u.length = zones l := by
 obtain ⟨h0, hl12, hg⟩ := Qfg hl
 obtain ⟨z, h1, h2, h3⟩ := Qm7 k (by omega) l (by omega)
 have hw0 := (hg 0 h0).1.z2
 obtain ⟨u, u1, u2, u3⟩ := Qw5 k hk l hl ss hs hok mi z h2 (h3 (fun j hj => (hg j hj).2)) ss.length k 0 (List.replicate (l.getD 0 default).Wear.length 0) (by omega) (by omega) (by simp)
 refine ⟨u, ?_, ?_, u3⟩
 ·unfold Qa4 Qae
  rw [h1, Option.bind_some, if_pos (by omega), Option.bind_some, show ((0 : Int)).toNat = 0 from rfl, if_pos (by omega), Int.toNat_natCast, show X0 k ss mi k (List.replicate (l.getD 0 default).Wear.length 0) 0 z = _ from u1]; rfl
 ·unfold Jp
  rw [if_pos (by omega), show ((0 : Int)).toNat = 0 from rfl, if_pos (by omega), Int.toNat_natCast, show Zx k l ss mi k (List.replicate (l.getD 0 default).Wear.length 0) 0 = _ from u2]; rfl
theorem Q3r (k : Nat) (l : List Qb) (hl : l.length <= 9223372036854775807) : ∀ (d fuel i : Nat), l.length = i + d -> d < fuel -> ∃ b, Xq k l fuel (i : Int) = some (sumB b) := by
 intro d
 induction d with
 | zero =>
   intro fuel i h hf
   obtain ⟨g, rfl⟩ : ∃ g, fuel = g + 1 := ⟨fuel - 1, by omega⟩
   exact ⟨true, by rw [Xq.eq_2, if_neg (by omega)]; rfl⟩
 | succ d ih =>
   intro fuel i h hf
   obtain ⟨g, rfl⟩ : ∃ g, fuel = g + 1 := ⟨fuel - 1, by omega⟩
   rw [Xq.eq_2, if_pos (by omega), if_pos (by omega), Int.toNat_natCast, Y9 (by omega)]
   by_cases c1 : 30 < (((l.getD i default).Mirror).size : Int)
   ·rw [if_pos c1]; exact ⟨false, rfl⟩
   ·rw [if_neg c1]
    by_cases c2 : 30 < (((l.getD i default).Stroke).size : Int)
    ·rw [if_pos c2]; exact ⟨false, rfl⟩
    ·rw [if_neg c2]; exact ih g (i + 1) (by omega) (by omega)
theorem Quw (k : Nat) (l : List Qb) (hl : l.length <= 9223372036854775807) (hk : l.length < k) : ∃ b, Qao k l = some b /\ (b = true -> l.length <= 203) := by
 obtain ⟨b, hb⟩ := Q3r k l hl l.length k 0 (by omega) hk
 unfold Qao
 rw [show Xq k l k 0 = _ from hb, Option.bind_some]
 cases b with
 | false => exact ⟨false, rfl, fun h => by cases h⟩
 | true =>
   dsimp only [sumB]
   by_cases c1 : (l.length : Int) <= 10
   ·rw [if_pos c1]; exact ⟨_, rfl, fun _ => by omega⟩
   ·rw [if_neg c1]
    by_cases c2 : (200 : Int) < (l.length : Int)
    ·rw [if_pos c2]; exact ⟨_, rfl, fun h => by have := of_decide_eq_true h; omega⟩
    ·rw [if_neg c2]; exact ⟨_, rfl, fun h => by cases h⟩
def sesC (l : List Qd) (d : Qg) (ss : List Qb) : Int := if strE l = 0 then (if demE l d = 0 then sesE l ss else demE l d) else strE l
theorem Q1i (k : Nat) (hk : 1000 < k) (hk2 : k <= 100000000000000000000) (l : List Qd) (hl15 : l.length <= 15) (hw : ∀ i, i < l.length -> (l.getD i default).Wear.length <= 43) (d : Qg) (ss : List Qb) (hs : ss.length <= 203) : Qu k (l, (d.Low, d.High, l), (l, ss)) = some (sesC l d ss) := by
 unfold Qu sesC
 dsimp only
 rw [Qst k (by omega) hk2 l hl15 hw, Option.bind_some]
 by_cases hl : strE l = 0
 ·rw [if_pos hl, if_pos hl, Q2x k (by omega) l hl, Option.bind_some]
  by_cases hd : demE l d = 0
  ·rw [if_pos hd, if_pos hd, Qrm k hk hk2 l hl15 ss hs, Option.bind_some]
   by_cases h : sesE l ss = 0
   ·rw [if_pos h, h]
   ·rw [if_neg h]
  ·rw [if_neg hd, if_neg hd]
 ·rw [if_neg hl, if_neg hl]
theorem Ql1 {l : List Qd} {ss : List Qb} (h : sesE l ss = 0) : ss.length <= 200 /\ sesL l ss = 0 := by
 unfold sesE at h
 cases hd : decide (ss.length <= 200) with
 | true => rw [hd] at h; exact ⟨of_decide_eq_true hd, h⟩
 | false => rw [hd] at h; simp at h
def lowB (u h : List Int) : Nat -> Nat -> Bool
 | 0, _ => true
 | n + 1, i => match decide (h.getD i 0 < u.getD i 0) with
   | true => false
   | false => lowB u h n (i + 1)
theorem Qzr (k : Nat) (lo hi u : List Int) (hu : u.length <= 43) (hd : u.length = hi.length) : ∀ (n fuel i : Nat), u.length = i + n -> n < fuel ->
 Z9 k lo hi u fuel (i : Int) = some (sumB (lowB u hi n i)) := by
 intro n
 induction n with
 | zero =>
   intro fuel i h hf
   obtain ⟨g, rfl⟩ : ∃ g, fuel = g + 1 := ⟨fuel - 1, by omega⟩
   rw [Z9.eq_2, if_neg (by omega)]; rfl
 | succ n ih =>
   intro fuel i h hf
   obtain ⟨g, rfl⟩ : ∃ g, fuel = g + 1 := ⟨fuel - 1, by omega⟩
   rw [Z9.eq_2, if_pos (by omega), if_pos (by omega), if_pos (by omega), Int.toNat_natCast, Y9 (by omega), ih g (i + 1) (by omega) (by omega)]
   simp only [lowB]
   by_cases c : hi.getD i 0 < u.getD i 0
   ·rw [if_pos c, decide_eq_true c]; rfl
   ·rw [if_neg c, decide_eq_false c]
theorem Q3c (k : Nat) (d : Qg) (u : List Int) (hu : u.length <= 43) (hd : u.length = d.High.length) : ∀ (n fuel i : Nat), u.length = i + n -> n < fuel ->
 Xj k d u fuel (i : Int) = some (sumB (lowB u d.High n i)) := by
 intro n
 induction n with
 | zero =>
   intro fuel i h hf
   obtain ⟨g, rfl⟩ : ∃ g, fuel = g + 1 := ⟨fuel - 1, by omega⟩
   rw [Xj.eq_2, if_neg (by omega)]; rfl
 | succ n ih =>
   intro fuel i h hf
   obtain ⟨g, rfl⟩ : ∃ g, fuel = g + 1 := ⟨fuel - 1, by omega⟩
   rw [Xj.eq_2, if_pos (by omega), if_pos (by omega), if_pos (by omega), Int.toNat_natCast, Y9 (by omega), ih g (i + 1) (by omega) (by omega)]
   simp only [lowB]
   by_cases c : d.High.getD i 0 < u.getD i 0
   ·rw [if_pos c, decide_eq_true c]; rfl
   ·rw [if_neg c, decide_eq_false c]
def under (u h : List Int) : Bool := lowB u h u.length 0
theorem Qs9 (k : Nat) (hk : 100 < k) (d : Qg) (u : List Int) (hu : u.length <= 43) (hd : u.length = d.High.length) : W9 k d u = some (!(under u d.High)) := by
 unfold W9
 rw [show Xj k d u k 0 = _ from Q3c k d u hu hd u.length k 0 (by omega) (by omega), Option.bind_some]
 unfold under
 cases lowB u d.High u.length 0 <;> rfl
theorem Qyq (k : Nat) (hk : 1000 < k) (l : List Qd) (ss : List Qb) (mi : ByteArray) (lo hi u : List Int) (hu : Qa4 k l ss mi = some u) (h1 : u.length <= 43) (h2 : u.length = hi.length) : Yv k l ss mi lo hi = some (match under u hi with | true => 0 | false => 26) := by
 unfold Yv
 rw [hu, Option.bind_some, show Z9 k lo hi u k 0 = _ from Qzr k lo hi u h1 h2 u.length k 0 (by omega) (by omega), Option.bind_some]
 unfold under
 cases lowB u hi u.length 0 <;> rfl
theorem Qw6 (k : Nat) (ss : List Qb) (hs : ss.length <= 1000) : Zq k ss = some ss := by
 unfold Zq; rw [if_pos (by simp; omega)]; rfl
theorem Qm8 (k : Nat) (ss : List Int) (hs : ss.length <= 1000) : Yo k ss = some ss := by
 unfold Yo; rw [if_pos (by simp; omega)]; rfl
theorem Qxr (k : Nat) (hk : 1000 < k) (hk2 : k <= 100000000000000000000) (l : List Qd) (hl15 : l.length <= 15) (hw : ∀ i, i < l.length -> (l.getD i default).Wear.length <= 43) (d : Qg) (ss : List Qb) (hs : ss.length <= 203) (x : Qb) :
 ∃ r, Qb5 k l d ss x = some r /\ Yp k l d ss x = some r /\ r.1.length <= 201 /\ (r.2 = 0 -> sesC l d ss = 0 /\ r.1 = ss ++ [x] /\ sesE l (ss ++ [x]) = 0 /\ ∃ u, Qa4 k l (ss ++ [x]) x.Mirror = some u /\ under u d.High = true) /\ (r.2 ≠ 0 -> r.1 = []) := by
 have e5 := Qil k (by omega) l hl15 hw d
 have e6 := Qjk k hk l hl15 ss hs
 unfold Qb5 Wx Qap Yi Qba Yp
 simp only [Option.bind_some]
 rw [Q1i k hk hk2 l hl15 hw d ss hs, Option.bind_some, e5, Option.bind_some, e6]
 unfold sesC
 by_cases hl : strE l = 0
 ·by_cases hd : demE l d = 0
  ·by_cases h : sesE l ss = 0
   ·obtain ⟨h200, _⟩ := Ql1 h
    have e7 := Qjk k hk l hl15 (ss ++ [x]) (by simp; omega)
    have e8 := Qrm k hk hk2 l hl15 (ss ++ [x]) (by simp; omega)
    rw [if_pos hl, if_pos hl, if_pos hd, if_pos h, if_pos hd, Qw6 k ss (by omega), Option.bind_some, Option.bind_some, if_pos h, if_pos (by simp; omega), if_pos (by omega), if_pos (by simp; omega), e7, Option.bind_some]
    unfold Zn
    dsimp only
    rw [e8, Option.bind_some]
    by_cases hm : sesE l (ss ++ [x]) = 0
    ·obtain ⟨_, hm2⟩ := Ql1 hm
     obtain ⟨u, u1, u2, u3⟩ := Ql0 k hk l hl (ss ++ [x]) (by simp; omega) hm2 x.Mirror
     obtain ⟨h0, h12, hg⟩ := Qfg hl
     have hz2 : zones l <= 40 := (hg 0 h0).1.z2
     obtain ⟨d1, d2, _⟩ := Qk3 hd
     rw [if_pos hm, if_pos hm, u2, Option.bind_some, Qs9 k (by omega) d u (by omega) (by omega), Option.bind_some, Qyq k hk l (ss ++ [x]) x.Mirror d.Low d.High u u1 (by omega) (by omega), Option.bind_some]
     cases hu : under u d.High with
     | true => exact ⟨_, rfl, rfl, by simp; omega, fun _ => ⟨h, rfl, hm, u, u1, hu⟩, fun h => absurd rfl h⟩
     | false => exact ⟨_, rfl, rfl, by simp, fun h => (by cases h), fun _ => rfl⟩
    ·rw [if_neg hm, if_neg hm, Option.bind_some, if_neg hm]; exact ⟨_, rfl, rfl, by simp, fun h => absurd h hm, fun _ => rfl⟩
   ·rw [if_pos hl, if_pos hl, if_pos hd, if_neg h, if_pos hd, Option.bind_some, if_neg h]; exact ⟨_, rfl, rfl, by simp, fun h2 => absurd h2 h, fun _ => rfl⟩
  ·rw [if_pos hl, if_pos hl, if_neg hd, if_neg hd, if_neg hd]; exact ⟨_, rfl, rfl, by simp, fun h => absurd h hd, fun _ => rfl⟩
 ·rw [if_neg hl, if_neg hl, if_neg hl, if_neg hl]; exact ⟨_, rfl, rfl, by simp, fun h => absurd h hl, fun _ => rfl⟩
def leL (d : Qg) (u : List Int) (z : Nat) : Int := maxI 0 (w64 (d.Low.getD z 0 - u.getD z 0))
def leH (d : Qg) (u : List Int) (z : Nat) : Int := w64 (d.High.getD z 0 - u.getD z 0)
theorem Qta {f : Nat -> Int} {y : List Int} {i : Nat} (hi : i < y.length) : ((List.range i).map f ++ y.drop i).set i (f i) = (List.range (i + 1)).map f ++ y.drop (i + 1) := by
 rw [List.set_append, if_neg (by simp), List.length_map, List.length_range, Nat.sub_self, List.drop_eq_getElem_cons hi, List.set_cons_zero, List.range_succ, List.map_append, List.append_assoc]
 rfl
theorem Qtb {f : Nat -> Int} {y : List Int} {i : Nat} (hi : i < y.length) : ((List.range i).map f ++ y.drop i).getD i 0 = y.getD i 0 := by
 rw [List.getD_eq_getElem?_getD, List.getElem?_append_right (by simp), List.length_map, List.length_range, Nat.sub_self, List.getElem?_drop, Nat.add_zero, <- List.getD_eq_getElem?_getD]
theorem Q3d (k : Nat) (d : Qg) (q1 : List Qd) (q2 : List Int × List Int × List Qd) (q3 : List Qd × List Qb) (q4 : Bool × Int) (q5 : List Qd × List Qb × ByteArray × List Int × List Int) (u : List Int) (hu : u.length <= 43) (h1 : u.length = d.Low.length) (h2 : u.length = d.High.length) : ∀ (n fuel i : Nat), u.length = i + n -> n < fuel ->
 X6 k d q1 q2 q3 q4 q5 u fuel ((List.range i).map (leL d u) ++ d.Low.drop i) ((List.range i).map (leH d u) ++ d.High.drop i) (i : Int) = some ((List.range u.length).map (leL d u), (List.range u.length).map (leH d u)) := by
 intro n
 induction n with
 | zero =>
   intro fuel i h hf
   obtain ⟨g, rfl⟩ : ∃ g, fuel = g + 1 := ⟨fuel - 1, by omega⟩
   rw [X6.eq_2, if_neg (by omega), List.drop_eq_nil_of_le (by omega), List.drop_eq_nil_of_le (by omega), List.append_nil, List.append_nil, show i = u.length by omega]
 | succ n ih =>
   intro fuel i h hf
   obtain ⟨g, rfl⟩ : ∃ g, fuel = g + 1 := ⟨fuel - 1, by omega⟩
   rw [X6.eq_2, if_pos (by omega), if_pos (by omega), if_pos (by simp; omega), if_pos (by simp; omega), Int.toNat_natCast, Y9 (by omega), Qtb (by omega), Qtb (by omega)]
   show X6 k d q1 q2 q3 q4 q5 u g (((List.range i).map (leL d u) ++ d.Low.drop i).set i (leL d u i)) (((List.range i).map (leH d u) ++ d.High.drop i).set i (leH d u i)) _ = _
   rw [Qta (by omega), Qta (by omega)]
   exact ih g (i + 1) (by omega) (by omega)
theorem Q3e (k : Nat) (d : Qg) (u : List Int) (hu : u.length <= 43) (h1 : u.length = d.Low.length) (h2 : u.length = d.High.length) : ∀ (n fuel i : Nat), u.length = i + n -> n < fuel ->
 Z7 k d u fuel ((List.range i).map (leL d u)) ((List.range i).map (leH d u)) (i : Int) = some ((List.range u.length).map (leL d u), (List.range u.length).map (leH d u)) := by
 intro n
 induction n with
 | zero =>
   intro fuel i h hf
   obtain ⟨g, rfl⟩ : ∃ g, fuel = g + 1 := ⟨fuel - 1, by omega⟩
   rw [Z7.eq_2, if_neg (by omega), show i = u.length by omega]
 | succ n ih =>
   intro fuel i h hf
   obtain ⟨g, rfl⟩ : ∃ g, fuel = g + 1 := ⟨fuel - 1, by omega⟩
   rw [Z7.eq_2, if_pos (by omega), if_pos (by omega), if_pos (by omega), if_pos (by simp; omega), if_pos (by omega), if_pos (by simp; omega), Int.toNat_natCast, Y9 (by omega)]
   have := ih g (i + 1) (by omega) (by omega)
   rw [List.range_succ, List.map_append, List.map_append] at this
   exact this
theorem Q3s (k : Nat) (hk : 100 < k) (hk2 : k <= 100000000000000000000) (mi : ByteArray) : Y7 k mi = some (nameB mi, 4) := by
 unfold Y7 Xd
 rw [Qrh k hk hk2]; rfl
theorem Qux (k : Nat) (hk : 1000 < k) (hk2 : k <= 100000000000000000000) (l : List Qd) (hl15 : l.length <= 15) (hw : ∀ i, i < l.length -> (l.getD i default).Wear.length <= 43) (d : Qg) (ss : List Qb) (hs : ss.length <= 203) (mi : ByteArray) :
 (sesC l d ss ≠ 0 /\ Qbw k l d ss mi = some (⟨[], []⟩, sesC l d ss)) \/ (sesC l d ss = 0 /\ ((nameB mi = false /\ Qbw k l d ss mi = some (⟨[], []⟩, 4)) \/
  (nameB mi = true /\ ∃ u, Qa4 k l ss mi = some u /\ Jp k l ss mi = some u /\ u.length = zones l /\ Qbw k l d ss mi = some (match under u d.High with | true => (⟨(List.range u.length).map (leL d u), (List.range u.length).map (leH d u)⟩, 0) | false => (⟨[], []⟩, 26))))) := by
 unfold Qbw Wx Qap Yi Qba Qp sesC
 simp only [Option.bind_some, Q3s k (by omega) hk2]
 rw [Qst k (by omega) hk2 l hl15 hw, Option.bind_some]
 by_cases hl : strE l = 0
 ·rw [if_pos hl, if_pos hl, Q2x k (by omega) l hl, Option.bind_some]
  by_cases hd : demE l d = 0
  ·rw [if_pos hd, if_pos hd, Qrm k hk hk2 l hl15 ss hs, Option.bind_some]
   by_cases h : sesE l ss = 0
   ·right
    obtain ⟨h200, hok⟩ := Ql1 h
    obtain ⟨h0, h12, hg⟩ := Qfg hl
    have hz2 : zones l <= 40 := (hg 0 h0).1.z2
    obtain ⟨d1, d2, _⟩ := Qk3 hd
    obtain ⟨u, u1, u2, u3⟩ := Ql0 k hk l hl ss hs hok mi
    refine ⟨h, ?_⟩
    rw [if_pos h, Qme, Option.bind_some]
    cases nameB mi with
    | false => exact .inl ⟨rfl, rfl⟩
    | true =>
      refine .inr ⟨rfl, u, u1, u2, u3, ?_⟩
      unfold Yv
      dsimp only
      rw [if_pos rfl, u1, Option.bind_some, show Z9 k d.Low d.High u k 0 = _ from Qzr k d.Low d.High u (by omega) (by omega) u.length k 0 (by omega) (by omega), Option.bind_some]
      show ((match sumB (under u d.High) with | .inl _ => some (26 : Int) | .inr _ => some 0).bind _).bind _ = _
      cases hu : under u d.High with
      | false => rfl
      | true =>
        have hle := Q3d k d l (d.Low, d.High, l) (l, ss) (true, 4) (l, ss, mi, d.Low, d.High) u (by omega) (by omega) (by omega) u.length k 0 (by omega) (by omega)
        simp only [List.range_zero, List.map_nil, List.nil_append, List.drop_zero] at hle
        dsimp only [sumB]
        rw [Option.bind_some, if_pos rfl, Option.bind_some, if_pos rfl, Qm8 k d.Low (by omega), Option.bind_some, Qm8 k d.High (by omega), Option.bind_some, Option.bind_some, show X6 k d l (d.Low, d.High, l) (l, ss) (true, 4) (l, ss, mi, d.Low, d.High) u k d.Low d.High 0 = _ from hle]; rfl
   ·left
    rw [if_neg h, Option.bind_some, if_neg h]; exact ⟨h, rfl⟩
  ·left
   rw [if_neg hd, if_neg hd, Option.bind_some, if_neg hd]; exact ⟨hd, rfl⟩
 ·left
  rw [if_neg hl, if_neg hl, Option.bind_some, if_neg hl]; exact ⟨hl, rfl⟩
theorem Quy (k : Nat) (hk : 1000 < k) (l : List Qd) (hz2 : zones l <= 40) (d : Qg) (h1 : d.Low.length = zones l) (h2 : d.High.length = zones l) (ss : List Qb) (mi : ByteArray) (u : List Int) (hu : Jp k l ss mi = some u) (hul : u.length = zones l) :
 Wn k l d ss mi = some (match under u d.High with | true => (⟨(List.range u.length).map (leL d u), (List.range u.length).map (leH d u)⟩, true) | false => (⟨[], []⟩, false)) := by
 unfold Wn
 rw [hu, Option.bind_some, Qs9 k (by omega) d u (by omega) (by omega), Option.bind_some]
 cases under u d.High with
 | false => rfl
 | true =>
   have hle := Q3e k d u (by omega) (by omega) (by omega) u.length k 0 (by omega) (by omega)
   simp only [List.range_zero, List.map_nil] at hle
   rw [if_neg (by simp), show Z7 k d u k [] [] 0 = _ from hle]; rfl
end Go.Proofs.Ytiekbdbedonnoaa.Vg
