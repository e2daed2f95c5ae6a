import Derived.Test.YtiekbdbedonnoaaK4
import Derived.Test.YtiekbdbedonnoaaKA
set_option linter.unusedVariables false
set_option linter.unusedSimpArgs false
namespace Go.Proofs.Ytiekbdbedonnoaa.Vg
open Go Go.Proofs.Ytiekbdbedonnoaa.Ev Go.Proofs.Ytiekbdbedonnoaa.Vv
theorem Y9 {i : Nat} (h : i < 9223372036854775807) : w64 ((i : Int) + 1) = ((i + 1 : Nat) : Int) := by
 rw [Qzm (by omega) (by omega)]; omega
theorem Qi6 {α : Type} {y : List α} {i : Nat} (h : i < y.length) (d : α) : y.drop i = y.getD i d :: y.drop (i + 1) := by
 rw [List.drop_eq_getElem_cons h, List.getD_eq_getElem?_getD, List.getElem?_eq_getElem h]; rfl
theorem Qkm {V : Type} (k n : ByteArray) (v : V) : ∀ l : List (ByteArray × V), mhas (mset l k v) n = (decide (n = k) || mhas l n)
 | [] => by simp [mset, mhas]
 | e :: l => by
   simp only [mset]
   by_cases h : k = e.1
   ·rw [decide_eq_true h]
    simp only [mhas]
    subst h
    by_cases h2 : n = e.1
    ·simp [h2]
    ·simp [h2]
   ·rw [decide_eq_false h]
    simp only [mhas]
    rw [Qkm k n v l]
    cases decide (n = e.1) <;> cases decide (n = k) <;> cases mhas l n <;> rfl
theorem Qoo {V : Type} [Inhabited V] (k n : ByteArray) (v : V) : ∀ l : List (ByteArray × V), mget (mset l k v) n = match decide (n = k) with | true => v | false => mget l n
 | [] => by simp only [mset, mget]; cases decide (n = k) <;> rfl
 | e :: l => by
   simp only [mset]
   by_cases h : k = e.1
   ·rw [decide_eq_true h]
    simp only [mget]
    subst h
    cases decide (n = e.1) <;> rfl
   ·rw [decide_eq_false h]
    simp only [mget]
    rw [Qoo k n v l]
    by_cases h2 : n = e.1
    ·rw [decide_eq_true h2, decide_eq_false (show ¬ n = k by rw [h2]; exact fun h3 => h h3.symm)]
    ·rw [decide_eq_false h2]
theorem Qme (k : Nat) (b : Bool) (e : Int) : Jt k b e = some (match b with | true => 0 | false => e) := by
 unfold Jt
 cases b <;> rfl
theorem Qyh (k : Nat) (xs : List Int) (lo hi : Int) (hl : xs.length <= 9223372036854775807) : ∀ (d fuel i : Nat), xs.length = i + d -> d < fuel -> Jd k xs lo hi fuel (i : Int) = some (sumB ((xs.drop i).all (inR lo hi))) := by
 intro d
 induction d with
 | zero =>
   intro fuel i h hf
   obtain ⟨g, rfl⟩ : ∃ g, fuel = g + 1 := ⟨fuel - 1, by omega⟩
   rw [Jd.eq_2, if_neg (by omega), List.drop_eq_nil_of_le (by omega)]; rfl
 | succ d ih =>
   intro fuel i h hf
   obtain ⟨g, rfl⟩ : ∃ g, fuel = g + 1 := ⟨fuel - 1, by omega⟩
   rw [Jd.eq_2, if_pos (by omega), if_pos (by omega), Int.toNat_natCast, isw, Option.bind_some, Y9 (by omega), ih g (i + 1) (by omega) (by omega), Qi6 (y := xs) (i := i) (by omega) 0, List.all_cons]
   cases inR lo hi (xs.getD i 0) with
   | true => rw [if_pos rfl, Bool.true_and]
   | false => rw [if_neg (by simp), Bool.false_and]; rfl
theorem Qq4 (k : Nat) (xs : List Int) (lo hi : Int) (hl : xs.length <= 9223372036854775807) (hk : xs.length < k) : Qbf k xs lo hi = some (match xs.all (inR lo hi) with | true => 0 | false => 2) := by
 unfold Qbf
 have h := Qyh k xs lo hi hl xs.length k 0 (by omega) (by omega)
 rw [List.drop_zero] at h
 rw [show Jd k xs lo hi k 0 = _ from h, Option.bind_some]
 cases xs.all (inR lo hi) <;> rfl
def Qp1 (l : List Qd) (s : Qd) : Bool := decide (s.Wear.length = (l.getD 0 default).Wear.length) && inR 1 40 (s.Wear.length : Int)
def Qcj (l : List Qd) (i : Nat) (n : ByteArray) : Bool := (l.take i).any fun g => decide (n = g.Name)
def chkS (l : List Qd) : Nat -> Nat -> Int
 | 0, _ => 0
 | d + 1, i => match nameB (l.getD i default).Name with
   | false => 4
   | true => match Qcj l i (l.getD i default).Name with
     | true => 5
     | false => match Qp1 l (l.getD i default) with
       | false => 10
       | true => match (l.getD i default).Wear.all (inR 0 100) with
         | false => 2
         | true => chkS l d (i + 1)
theorem Qhw (l : List Qd) (i : Nat) (hi : i < l.length) (n : ByteArray) : Qcj l (i + 1) n = (decide (n = (l.getD i default).Name) || Qcj l i n) := by
 unfold Qcj
 rw [List.take_add_one, List.getElem?_eq_getElem hi, List.any_append]
 rw [List.getD_eq_getElem?_getD, List.getElem?_eq_getElem hi]
 simp [Bool.or_comm]
def errS {A : Type} (e : Int) (a : A) : Sum (Int × A) A := match decide (e = 0) with | true => .inr a | false => .inl (e, a)
theorem Q26 (k : Nat) (hk : 100 < k) (n b z : Bool) (ws : List Int) (hw : ws.length <= 43) : Qi k ((n, 4), (b, 5), (z, 10), (ws, 0, 100)) = some (match n with | false => 4 | true => match b with | false => 5 | true => match z with | false => 10 | true => match ws.all (inR 0 100) with | false => 2 | true => 0) := by
 unfold Qi
 simp only [Qme, Option.bind_some, Qq4 k ws 0 100 (by omega) (by omega)]
 cases n with
 | false => rfl
 | true =>
   cases b with
   | false => rfl
   | true =>
     cases z with
     | false => rfl
     | true => cases ws.all (inR 0 100) <;> rfl
theorem Qwq (k : Nat) (hk : 100 < k) (hk2 : k <= 100000000000000000000) (l : List Qd) (hl : 0 < l.length) (s : Qd) (hw : s.Wear.length <= 43) (b : Bool) {A : Type} (next : Option A) (fail : Int -> Option A) :
 ((Y7 k s.Name).bind fun r2095 => ((Xd k b 5).bind fun r2098 => (if (0 : Int) <= 0 /\ 0 < (l.length : Int) then (if (s.Wear.length : Int) = (((l.getD ((0 : Int)).toNat default).Wear).length : Int) then ((Y3 k (s.Wear.length : Int) 1 40).bind fun r2105 => ((Xd k r2105 10).bind fun r2108 => ((J7 k 0 100 s.Wear).bind fun r2112 => ((Qi k (r2095, r2098, r2108, r2112)).bind fun r => (if r = 0 then next else fail r))))) else ((Xd k false 10).bind fun r2154 => ((J7 k 0 100 s.Wear).bind fun r2158 => ((Qi k (r2095, r2098, r2154, r2158)).bind fun r => (if r = 0 then next else fail r))))) else none))) =
   (match nameB s.Name with | false => fail 4 | true => match b with | false => fail 5 | true => match Qp1 l s with | false => fail 10 | true => match s.Wear.all (inR 0 100) with | false => fail 2 | true => next) := by
 unfold Y7 Xd J7
 rw [Qrh k hk hk2]
 simp only [Option.bind_some]
 rw [if_pos (show (0 : Int) <= 0 /\ 0 < (l.length : Int) by omega), isw]
 simp only [Option.bind_some]
 rw [show ((0 : Int)).toNat = 0 from rfl]
 have fin : ∀ z : Bool, ((Qi k ((nameB s.Name, 4), (b, 5), (z, 10), (s.Wear, 0, 100))).bind fun r => (if r = 0 then next else fail r)) = (match nameB s.Name with | false => fail 4 | true => match b with | false => fail 5 | true => match z with | false => fail 10 | true => match s.Wear.all (inR 0 100) with | false => fail 2 | true => next) := by
  intro z
  rw [Q26 k hk _ _ _ _ hw, Option.bind_some]
  cases nameB s.Name with
  | false => rfl
  | true =>
    cases b with
    | false => rfl
    | true =>
      cases z with
      | false => rfl
      | true => cases s.Wear.all (inR 0 100) <;> rfl
 by_cases c : s.Wear.length = (l.getD 0 default).Wear.length
 ·rw [if_pos (by omega), fin]
  unfold Qp1
  rw [decide_eq_true c, Bool.true_and]
 ·rw [if_neg (by omega), fin]
  unfold Qp1
  rw [decide_eq_false c, Bool.false_and]
theorem Qwr (k : Nat) (hk : 100 < k) (hk2 : k <= 100000000000000000000) (l : List Qd) (hl : l.length <= 15) (hw : ∀ i, i < l.length -> (l.getD i default).Wear.length <= 43) (r1 r2 : Bool × Int) (r3 : Int) : ∀ (d fuel i : Nat) (y : List (ByteArray × Bool)), l.length = i + d -> d < fuel -> (∀ n, mhas y n = Qcj l i n) -> (∀ n, mhas y n = true -> mget y n = true) ->
 ∃ z, Zb k l r1 r2 r3 fuel y (i : Int) = some (errS (chkS l d i) z) := by
 intro d
 induction d with
 | zero =>
   intro fuel i y h hf _ _
   obtain ⟨g, rfl⟩ : ∃ g, fuel = g + 1 := ⟨fuel - 1, by omega⟩
   refine ⟨y, ?_⟩
   rw [Zb.eq_2, if_neg (by omega)]; rfl
 | succ d ih =>
   intro fuel i y h hf hy hy2
   obtain ⟨g, rfl⟩ : ∃ g, fuel = g + 1 := ⟨fuel - 1, by omega⟩
   have hi : i < l.length := by omega
   obtain ⟨z, hz⟩ := ih g (i + 1) (mset y (l.getD i default).Name true) (by omega) (by omega) (fun n => by rw [Qkm, Qhw l i hi, hy]) (fun n hn => by
    rw [Qkm] at hn
    rw [Qoo]
    cases hd : decide (n = (l.getD i default).Name) with
    | true => rfl
    | false => rw [hd, Bool.false_or] at hn; exact hy2 n hn)
   rw [Zb.eq_2, if_pos (by omega), if_pos (by omega), Int.toNat_natCast, Y9 (by omega), hz, Qwq k hk hk2 l (by omega) _ (hw i hi), Qwq k hk hk2 l (by omega) _ (hw i hi), hy]
   have hyn := hy (l.getD i default).Name
   have hg := hy2 (l.getD i default).Name
   rw [hyn] at hg
   simp only [chkS]
   cases hs : Qcj l i (l.getD i default).Name with
   | true =>
     rw [if_pos rfl, hg hs]
     cases nameB (l.getD i default).Name with
     | false => exact ⟨_, rfl⟩
     | true => exact ⟨_, rfl⟩
   | false =>
     rw [if_neg (by simp)]
     cases nameB (l.getD i default).Name with
     | false => exact ⟨_, rfl⟩
     | true =>
       cases Qp1 l (l.getD i default) with
       | false => exact ⟨_, rfl⟩
       | true =>
         cases (l.getD i default).Wear.all (inR 0 100) with
         | false => exact ⟨_, rfl⟩
         | true => exact ⟨z, rfl⟩
def strE (l : List Qd) : Int := match decide (0 < l.length) with | false => 10 | true => match decide (l.length <= 12) with | false => 8 | true => chkS l l.length 0
def strR (l : List Qd) : Int × Int := match decide (strE l = 0) with | true => (((l.getD 0 default).Wear.length : Int), 0) | false => (0, strE l)
theorem Qmd (k : Nat) (hk : 100 < k) (hk2 : k <= 100000000000000000000) (l : List Qd) (hl : l.length <= 15) (hw : ∀ i, i < l.length -> (l.getD i default).Wear.length <= 43) : Qbg k l = some (strR l) := by
 unfold Qbg Xd strR strE
 have hd0 : decide (0 < (l.length : Int)) = decide (0 < l.length) := by congr 1; simp only [eq_iff_iff]; omega
 have hd : decide ((l.length : Int) <= 12) = decide (l.length <= 12) := by congr 1; simp only [eq_iff_iff]; omega
 rw [hd, hd0, Option.bind_some, Option.bind_some, Qme, Option.bind_some, Qme, Option.bind_some]
 cases h0 : decide (0 < l.length) with
 | false => rfl
 | true =>
   have h0 := of_decide_eq_true h0
   cases decide (l.length <= 12) with
   | false => rfl
   | true =>
     obtain ⟨z, hz⟩ := Qwr k hk hk2 l hl hw (true, 10) (true, 8) 0 l.length k 0 [] (by omega) (by omega) (fun n => by simp [mhas, Qcj]) (fun n h => by cases h)
     dsimp only
     rw [if_pos rfl, if_pos rfl, show Zb k l (true, 10) (true, 8) 0 k [] 0 = _ from hz, Option.bind_some]
     unfold errS Qae
     rw [if_pos (by omega)]
     cases h1 : decide (chkS l l.length 0 = 0) with
     | true => rfl
     | false => dsimp only; rw [if_neg (of_decide_eq_false h1)]
theorem Q08 (k : Nat) (l : List Qd) (hl : l.length <= 15) (n : ByteArray) : ∀ (d fuel i : Nat), l.length = i + d -> d < fuel -> Qcj l i n = false ->
 (∃ j : Nat, Zi k l n fuel (i : Int) = some (.inl (j : Int)) /\ i <= j /\ j < l.length /\ Qcj l j n = false /\ (l.getD j default).Name = n) \/ (Zi k l n fuel (i : Int) = some (.inr ()) /\ Qcj l l.length n = false) := by
 intro d
 induction d with
 | zero =>
   intro fuel i h hf hs
   obtain ⟨g, rfl⟩ : ∃ g, fuel = g + 1 := ⟨fuel - 1, by omega⟩
   right
   obtain rfl : i = l.length := by omega
   refine ⟨?_, hs⟩
   rw [Zi.eq_2, if_neg (by omega)]
 | succ d ih =>
   intro fuel i h hf hs
   obtain ⟨g, rfl⟩ : ∃ g, fuel = g + 1 := ⟨fuel - 1, by omega⟩
   have hi : i < l.length := by omega
   rw [Zi.eq_2, if_pos (by omega), if_pos (by omega), Int.toNat_natCast, Y9 (by omega)]
   by_cases c : (l.getD i default).Name = n
   ·rw [if_pos c]
    exact .inl ⟨i, rfl, Nat.le_refl _, hi, hs, c⟩
   ·rw [if_neg c]
    have hs' : Qcj l (i + 1) n = false := by rw [Qhw l i hi, hs, decide_eq_false (fun h => c h.symm)]; rfl
    rcases ih g (i + 1) (by omega) (by omega) hs' with ⟨j, e1, e2, e3, e4, e5⟩ | e
    ·exact .inl ⟨j, e1, by omega, e3, e4, e5⟩
    ·exact .inr e
theorem Qlu (k : Nat) (hk : 100 < k) (l : List Qd) (hl : l.length <= 15) (n : ByteArray) : (∃ j : Nat, Xf k l n = some (j : Int) /\ j < l.length /\ Qcj l j n = false /\ (l.getD j default).Name = n) \/ (Xf k l n = some (-1) /\ Qcj l l.length n = false) := by
 unfold Xf
 rcases Q08 k l hl n l.length k 0 (by omega) (by omega) (by simp [Qcj]) with ⟨j, e1, e2, e3, e4, e5⟩ | ⟨e1, e2⟩
 ·exact .inl ⟨j, by rw [show Zi k l n k 0 = _ from e1]; rfl, e3, e4, e5⟩
 ·exact .inr ⟨by rw [show Zi k l n k 0 = _ from e1]; rfl, e2⟩
theorem Qgk (l : List Qd) (n : ByteArray) {i j : Nat} (h : i <= j) (hs : Qcj l i n = true) : Qcj l j n = true := by
 unfold Qcj at hs ⊢
 rw [List.any_eq_true] at hs ⊢
 obtain ⟨x, hx, he⟩ := hs
 exact ⟨x, (List.take_sublist_take_left h).subset hx, he⟩
theorem Qkn (l : List Qd) (n : ByteArray) {i : Nat} (hi : i < l.length) (h : (l.getD i default).Name = n) : Qcj l (i + 1) n = true := by
 rw [Qhw l i hi, decide_eq_true h.symm]; rfl
theorem Q09 (k : Nat) (hk : 100 < k) (l : List Qd) (hl : l.length <= 15) (i : Nat) (hi : i < l.length) : ∃ j : Int, Xf k l (l.getD i default).Name = some j /\ (j < (i : Int) ↔ Qcj l i (l.getD i default).Name = true) := by
 rcases Qlu k hk l hl (l.getD i default).Name with ⟨j, e1, e3, e4, e5⟩ | ⟨e1, e2⟩
 ·refine ⟨(j : Int), e1, ?_⟩
  constructor
  ·intro h
   exact Qgk l _ (show j + 1 <= i by omega) (Qkn l _ e3 e5)
  ·intro h
   rcases Nat.lt_or_ge j i with c | c
   ·omega
   ·rw [Qgk l _ c h] at e4; cases e4
 ·have := Qgk l _ (show i + 1 <= l.length by omega) (Qkn l (l.getD i default).Name hi rfl)
  rw [this] at e2; cases e2
theorem Q27 (k : Nat) (l : List Qd) (j : Nat) (hj : j < l.length) (ws : List Int) (hws : (l.getD j default).Wear = ws) (hw : ws.length <= 43) : ∀ (d fuel i : Nat), ws.length = i + d -> d < fuel -> Zk k l (j : Int) fuel (i : Int) = some (sumB ((ws.drop i).all (inR 0 100))) := by
 intro d
 induction d with
 | zero =>
   intro fuel i h hf
   obtain ⟨g, rfl⟩ : ∃ g, fuel = g + 1 := ⟨fuel - 1, by omega⟩
   rw [Zk.eq_2, Int.toNat_natCast, hws, if_pos (by omega), if_neg (by omega), List.drop_eq_nil_of_le (by omega)]; rfl
 | succ d ih =>
   intro fuel i h hf
   obtain ⟨g, rfl⟩ : ∃ g, fuel = g + 1 := ⟨fuel - 1, by omega⟩
   rw [Zk.eq_2, Int.toNat_natCast, hws, Int.toNat_natCast, if_pos (by omega), if_pos (by omega), if_pos (by omega), wib, Option.bind_some, Y9 (by omega), ih g (i + 1) (by omega) (by omega), Qi6 (y := ws) (i := i) (by omega) 0, List.all_cons]
   cases inR 0 100 (ws.getD i 0) with
   | true => rw [if_pos rfl, Bool.true_and]
   | false => rw [if_neg (by simp), Bool.false_and]; rfl
def errU (e : Int) : Sum Int Unit := match decide (e = 0) with | true => .inr () | false => .inl e
theorem Qws (k : Nat) (hk : 100 < k) (l : List Qd) (hl : l.length <= 15) (hw : ∀ i, i < l.length -> (l.getD i default).Wear.length <= 43) : ∀ (d fuel i : Nat), l.length = i + d -> d < fuel ->
 Zl k l fuel (i : Int) = some (errU (chkS l d i)) := by
 intro d
 induction d with
 | zero =>
   intro fuel i h hf
   obtain ⟨g, rfl⟩ : ∃ g, fuel = g + 1 := ⟨fuel - 1, by omega⟩
   rw [Zl.eq_2, if_neg (by omega)]; rfl
 | succ d ih =>
   intro fuel i h hf
   obtain ⟨g, rfl⟩ : ∃ g, fuel = g + 1 := ⟨fuel - 1, by omega⟩
   have hi : i < l.length := by omega
   obtain ⟨j, hj, hji⟩ := Q09 k hk l hl i hi
   have hwr := Q27 k l i hi _ rfl (hw i hi) (l.getD i default).Wear.length k 0 (by omega) (by have := hw i hi; omega)
   rw [List.drop_zero] at hwr
   rw [Zl.eq_2, if_pos (by omega), if_pos (by omega), Int.toNat_natCast, Qnn k hk, Option.bind_some, hj, Option.bind_some, wib, Option.bind_some, show Zk k l (i : Int) k 0 = _ from hwr, Option.bind_some, Y9 (by omega), ih g (i + 1) (by omega) (by omega), show ((0 : Int)).toNat = 0 from rfl]
   simp only [chkS]
   cases nameB (l.getD i default).Name with
   | false => rfl
   | true =>
     rw [if_pos rfl]
     cases hs : Qcj l i (l.getD i default).Name with
     | true => rw [if_pos (hji.2 hs)]; rfl
     | false =>
       rw [if_neg (fun h => by rw [hji.1 h] at hs; cases hs), if_pos (by omega)]
       unfold Qp1
       by_cases c : (l.getD i default).Wear.length = (l.getD 0 default).Wear.length
       ·rw [if_pos (by omega), decide_eq_true c, Bool.true_and]
        cases inR 1 40 ((l.getD i default).Wear.length : Int) with
        | false => rfl
        | true =>
          rw [if_pos rfl]
          cases (l.getD i default).Wear.all (inR 0 100) with
          | false => rfl
          | true => rfl
       ·rw [if_neg (by omega), decide_eq_false c, Bool.false_and]; rfl
theorem Qmf (k : Nat) (hk : 100 < k) (l : List Qd) (hl : l.length <= 15) (hw : ∀ i, i < l.length -> (l.getD i default).Wear.length <= 43) : Yc k l = some (strR l) := by
 unfold Yc strR strE
 by_cases c0 : 0 < l.length
 ·rw [if_neg (by omega), decide_eq_true c0]
  by_cases c : l.length <= 12
  ·rw [if_neg (by omega), decide_eq_true c, show Zl k l k 0 = _ from Qws k hk l hl hw l.length k 0 (by omega) (by omega), Option.bind_some, if_pos (by omega)]
   unfold errU
   cases h1 : decide (chkS l l.length 0 = 0) with
   | true => rfl
   | false => rfl
  ·rw [if_pos (by omega), decide_eq_false c]; rfl
 ·rw [if_pos (by omega), decide_eq_false c0]; rfl
structure GoodS (l : List Qd) (s : Qd) : Prop where
 len : s.Wear.length = (l.getD 0 default).Wear.length
 z1 : 1 <= s.Wear.length
 z2 : s.Wear.length <= 40
 wear : ∀ x ∈ s.Wear, 0 <= x /\ x <= 100
theorem Qp2 (l : List Qd) : ∀ (d i : Nat), l.length = i + d -> chkS l d i = 0 -> ∀ j, i <= j -> j < l.length -> GoodS l (l.getD j default) /\ Qcj l j (l.getD j default).Name = false
 | 0, i, h, _, j, h1, h2 => by omega
 | d + 1, i, h, h0, j, h1, h2 => by
   simp only [chkS] at h0
   cases hn : nameB (l.getD i default).Name with
   | false => rw [hn] at h0; simp at h0
   | true =>
     rw [hn] at h0
     cases hs : Qcj l i (l.getD i default).Name with
     | true => rw [hs] at h0; simp at h0
     | false =>
       rw [hs] at h0
       cases hg : Qp1 l (l.getD i default) with
       | false => rw [hg] at h0; simp at h0
       | true =>
         rw [hg] at h0
         cases hw : (l.getD i default).Wear.all (inR 0 100) with
         | false => rw [hw] at h0; simp at h0
         | true =>
           rw [hw] at h0
           by_cases e : i = j
           ·subst e
            unfold Qp1 at hg
            rw [Bool.and_eq_true] at hg
            have g2 := Qtv.1 hg.2
            exact ⟨⟨of_decide_eq_true hg.1, by omega, by omega, fun x hx => Qtv.1 (List.all_eq_true.1 hw x hx)⟩, hs⟩
           ·exact Qp2 l d (i + 1) (by omega) h0 j (by omega) h2
theorem Qfg {l : List Qd} (h : strE l = 0) : 0 < l.length /\ l.length <= 12 /\ ∀ j, j < l.length -> GoodS l (l.getD j default) /\ Qcj l j (l.getD j default).Name = false := by
 unfold strE at h
 cases h0 : decide (0 < l.length) with
 | false => rw [h0] at h; simp at h
 | true =>
   rw [h0] at h
   cases hd : decide (l.length <= 12) with
   | false => rw [hd] at h; simp at h
   | true =>
     rw [hd] at h
     exact ⟨of_decide_eq_true h0, of_decide_eq_true hd, fun j hj => Qp2 l l.length 0 (by omega) h j (by omega) hj⟩
theorem Qlf (k : Nat) (l : List Int) (hl : l.length <= 1000000000) : J3 k l = some l := by
 unfold J3; rw [if_pos (by simp; omega)]; rfl
theorem Qyi {α : Type} {l : List α} {i : Nat} (h : i < l.length) (d : α) : l.take i ++ [l.getD i d] = l.take (i + 1) := by
 rw [List.take_add_one, List.getElem?_eq_getElem h, List.getD_eq_getElem?_getD, List.getElem?_eq_getElem h]; rfl
theorem Q28 (k : Nat) (l : List Qd) (hl : l.length <= 15) (hw : ∀ i, i < l.length -> (l.getD i default).Wear.length <= 43) : ∀ (d fuel i : Nat), l.length = i + d -> d < fuel -> Xi k l fuel (l.take i) (i : Int) = some l := by
 intro d
 induction d with
 | zero =>
   intro fuel i h hf
   obtain ⟨g, rfl⟩ : ∃ g, fuel = g + 1 := ⟨fuel - 1, by omega⟩
   rw [Xi.eq_2, if_neg (by omega), List.take_of_length_le (by omega)]
 | succ d ih =>
   intro fuel i h hf
   obtain ⟨g, rfl⟩ : ∃ g, fuel = g + 1 := ⟨fuel - 1, by omega⟩
   have hi : i < l.length := by omega
   have hwi := hw i hi
   rw [Xi.eq_2, if_pos (by omega), if_pos (by omega), Int.toNat_natCast, Qlf k _ (by omega), Option.bind_some, if_pos (by simp; omega), Y9 (by omega)]
   have := ih g (i + 1) (by omega) (by omega)
   rw [<- Qyi hi default] at this
   exact this
theorem Qxs (k : Nat) (hk : 100 < k) (l : List Qd) (hl : l.length <= 15) (hw : ∀ i, i < l.length -> (l.getD i default).Wear.length <= 43) : Qbd k l = some l := by
 unfold Qbd
 rw [show Xi k l k [] 0 = _ from Q28 k l hl hw l.length k 0 (by omega) (by omega)]; rfl
def Qh5 (s : Qd) : Bool := decide (s.Name.size <= 30) && (decide (s.Wear.length <= 10) || (decide (40 < s.Wear.length) && decide (s.Wear.length <= 43)))
theorem Qwt (k : Nat) (l : List Qd) (hl : l.length <= 15) : ∀ (d fuel i : Nat), l.length = i + d -> d < fuel -> Z4 k l fuel (i : Int) = some (sumB ((l.drop i).all Qh5)) /\ Z5 k l fuel (i : Int) = some (sumB ((l.drop i).all Qh5)) := by
 intro d
 induction d with
 | zero =>
   intro fuel i h hf
   obtain ⟨g, rfl⟩ : ∃ g, fuel = g + 1 := ⟨fuel - 1, by omega⟩
   rw [List.drop_eq_nil_of_le (by omega)]
   exact ⟨by rw [Z4.eq_2, if_neg (by omega)]; rfl, by rw [Z5.eq_2, if_neg (by omega)]; rfl⟩
 | succ d ih =>
   intro fuel i h hf
   obtain ⟨g, rfl⟩ : ∃ g, fuel = g + 1 := ⟨fuel - 1, by omega⟩
   obtain ⟨i1, i2⟩ := ih g (i + 1) (by omega) (by omega)
   rw [Qi6 (y := l) (i := i) (by omega) default, List.all_cons]
   have key : ∀ nx : Option (Sum Unit Unit), nx = some (sumB ((l.drop (i + 1)).all Qh5)) -> (if 30 < (((l.getD i default).Name).size : Int) then (some (.inl ())) else (if 10 < (((l.getD i default).Wear).length : Int) then (if (((l.getD i default).Wear).length : Int) <= 40 then (some (.inl ())) else (if 43 < (((l.getD i default).Wear).length : Int) then (some (.inl ())) else nx)) else (if 43 < (((l.getD i default).Wear).length : Int) then (some (.inl ())) else nx))) = some (sumB (Qh5 (l.getD i default) && (l.drop (i + 1)).all Qh5)) := by
    intro nx hnx
    have e : Qh5 (l.getD i default) = (decide ((l.getD i default).Name.size <= 30) && (decide ((l.getD i default).Wear.length <= 10) || (decide (40 < (l.getD i default).Wear.length) && decide ((l.getD i default).Wear.length <= 43)))) := rfl
    rw [e]
    by_cases c1 : (l.getD i default).Name.size <= 30
    ·rw [if_neg (by omega), decide_eq_true c1, Bool.true_and]
     by_cases c2 : (l.getD i default).Wear.length <= 10
     ·rw [if_neg (by omega), if_neg (by omega), decide_eq_true c2, hnx]; rfl
     ·rw [if_pos (by omega), decide_eq_false c2, Bool.false_or]
      by_cases c3 : 40 < (l.getD i default).Wear.length
      ·rw [if_neg (by omega), decide_eq_true c3, Bool.true_and]
       by_cases c4 : (l.getD i default).Wear.length <= 43
       ·rw [if_neg (by omega), decide_eq_true c4, Bool.true_and, hnx]
       ·rw [if_pos (by omega), decide_eq_false c4]; rfl
      ·rw [if_pos (by omega), decide_eq_false c3]; rfl
    ·rw [if_pos (by omega), decide_eq_false c1]; rfl
   constructor
   ·rw [Z4.eq_2, if_pos (by omega), if_pos (by omega), Int.toNat_natCast, Y9 (by omega)]; exact key _ i1
   ·rw [Z5.eq_2, if_pos (by omega), if_pos (by omega), Int.toNat_natCast, Y9 (by omega)]; exact key _ i2
theorem Quv (k : Nat) (hk : 100 < k) (l : List Qd) : ∃ b, Qax k l = some b /\ (b = true -> l.length <= 15 /\ ∀ i, i < l.length -> (l.getD i default).Wear.length <= 43) := by
 have fact : l.length <= 15 -> l.all Qh5 = true -> ∀ i, i < l.length -> (l.getD i default).Wear.length <= 43 := by
  intro _ h i hi
  have hm : l.getD i default ∈ l := by rw [List.getD_eq_getElem?_getD, List.getElem?_eq_getElem hi]; exact List.getElem_mem hi
  have := List.all_eq_true.1 h _ hm
  unfold Qh5 at this
  simp only [Bool.and_eq_true, Bool.or_eq_true, decide_eq_true_eq] at this
  omega
 unfold Qax
 by_cases c1 : (4 : Int) < (l.length : Int)
 ·rw [if_pos c1]
  by_cases c2 : (l.length : Int) <= 12
  ·rw [if_pos c2]; exact ⟨false, rfl, fun h => by cases h⟩
  ·rw [if_neg c2]
   by_cases c3 : (15 : Int) < (l.length : Int)
   ·rw [if_pos c3]; exact ⟨false, rfl, fun h => by cases h⟩
   ·have h := (Qwt k l (by omega) l.length k 0 (by omega) (by omega)).1
    rw [List.drop_zero] at h
    rw [if_neg c3, show Z4 k l k 0 = _ from h, Option.bind_some]
    cases ha : l.all Qh5 with
    | false => exact ⟨false, rfl, fun h => by cases h⟩
    | true => exact ⟨true, rfl, fun _ => ⟨by omega, fact (by omega) ha⟩⟩
 ·rw [if_neg c1, if_neg (by omega)]
  have h := (Qwt k l (by omega) l.length k 0 (by omega) (by omega)).2
  rw [List.drop_zero] at h
  rw [show Z5 k l k 0 = _ from h, Option.bind_some]
  cases ha : l.all Qh5 with
  | false => exact ⟨false, rfl, fun h => by cases h⟩
  | true => exact ⟨true, rfl, fun _ => ⟨by omega, fact (by omega) ha⟩⟩
end Go.Proofs.Ytiekbdbedonnoaa.Vg
