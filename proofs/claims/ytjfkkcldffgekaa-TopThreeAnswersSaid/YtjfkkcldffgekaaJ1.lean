import Derived.Test.YtjfkkcldffgekaaJ0
set_option linter.unusedVariables false
set_option linter.unusedSimpArgs false
namespace Go.Proofs.Ytjfkkcldffgekaa.Vg
open Go Go.Proofs.Ytjfkkcldffgekaa.Ev Go.Proofs.Ytjfkkcldffgekaa.Vv
theorem Y7 {n : Int} (h1 : -9223372036854775808 <= n) (h2 : n <= 9223372036854775807) : w64 n = n := by
 unfold w64 IntKind.wrap
 simp [IntKind.signed, IntKind.bits]
 omega
theorem J8 {i : Nat} (h : i < 1000000000000) : w64 ((i : Int) + 1) = ((i + 1 : Nat) : Int) := by
 rw [Y7 (by omega) (by omega)]; omega
theorem Qin {α : Type} {y : List α} {i : Nat} (h : i < y.length) (d : α) : y.drop i = y.getD i d :: y.drop (i + 1) := by
 rw [List.drop_eq_getElem_cons h, List.getD_eq_getElem?_getD, List.getElem?_eq_getElem h]; rfl
theorem Qgz {α : Type} {y : List α} {i : Nat} (h : i < y.length) (d : α) : y.getD i d ∈ y := by
 rw [List.getD_eq_getElem?_getD, List.getElem?_eq_getElem h]; exact List.getElem_mem h
theorem Qgu {α : Type} {y : List α} {i : Nat} (h : i < y.length) (v d : α) (j : Nat) : (y.set i v).getD j d = if j = i then v else y.getD j d := by
 rw [List.getD_eq_getElem?_getD, List.getD_eq_getElem?_getD, List.getElem?_set]
 by_cases e : j = i
 ·subst e; rw [if_pos rfl, if_pos rfl, if_pos h]; rfl
 ·rw [if_neg e, if_neg (fun x => e x.symm)]
def sumB (b : Bool) : Sum Unit Unit := match b with | true => .inr () | false => .inl ()
def sumE (e : Int) : Sum Int Unit := if e = 0 then .inr () else .inl e
theorem Qyw {e : Int} (h : e ≠ 0) : sumE e = .inl e := if_neg h
def inR (a b n : Int) : Bool := decide (a <= n /\ n <= b)
theorem Qco {a b n : Int} : inR a b n = true ↔ a <= n /\ n <= b := by unfold inR; exact decide_eq_true_iff
theorem Yd (k : Nat) (a b c : Int) : Qq k a b c = some (inR b c a) := by
 unfold Qq inR
 by_cases h : b <= a <;> simp [h]
theorem Qg0 (k : Nat) (a b c : Int) : Ji k a b c = some (inR b c a) := by
 unfold Ji inR
 by_cases h : b <= a <;> simp [h]
def Qif {α : Type} (f : α -> Int) : List α -> Int
 | [] => 0
 | x :: xs => if f x = 0 then Qif f xs else f x
theorem Qld {α : Type} {f : α -> Int} : ∀ {l : List α}, Qif f l = 0 -> ∀ x ∈ l, f x = 0
 | [], _, x, hx => by cases hx
 | y :: l, h, x, hx => by
   unfold Qif at h
   by_cases hy : f y = 0
   ·rw [if_pos hy] at h
    rcases List.mem_cons.1 hx with rfl | hx
    ·exact hy
    ·exact Qld h x hx
   ·rw [if_neg hy] at h; exact absurd h hy
theorem Qtd (k : Nat) {z : Int} (hz : 1 <= z /\ z <= 40) (a b : Int) : Qaq k z a b = some (inR 0 (z - 1) a && inR 0 (z - 1) b) := by
 unfold Qaq
 rw [Qg0, Option.bind_some, Y7 (n := z - 1) (by omega) (by omega), Qg0]
 cases inR 0 (z - 1) a <;> rfl
theorem Q0t (k : Nat) {a : Int} (ha : 0 <= a /\ a <= 1000000000000) (l : List Int) (hl : l.length <= 1000) : ∀ (d fuel i : Nat), l.length = i + d -> d < fuel -> Xb k a l fuel (i : Int) = some (sumB ((l.drop i).all (inR (0 - a) a))) := by
 intro d
 induction d with
 | zero =>
   intro fuel i he hf
   obtain ⟨f, rfl⟩ : ∃ f, fuel = f + 1 := ⟨fuel - 1, by omega⟩
   rw [Xb.eq_2, if_neg (by omega), List.drop_of_length_le (by omega)]; rfl
 | succ d ih =>
   intro fuel i he hf
   obtain ⟨f, rfl⟩ : ∃ f, fuel = f + 1 := ⟨fuel - 1, by omega⟩
   rw [Xb.eq_2, if_pos (by omega), if_pos (by omega), Qg0, Option.bind_some, Qin (show i < l.length by omega) 0, Int.toNat_natCast, Y7 (n := 0 - a) (by omega) (by omega), List.all_cons]
   cases inR (0 - a) a (l.getD i 0) with
   | false => rfl
   | true =>
     rw [if_pos rfl, J8 (by omega), Bool.true_and]
     exact ih f (i + 1) (by omega) (by omega)
theorem Qte {k : Nat} (hk : 2000 < k) {a : Int} (ha : 0 <= a /\ a <= 1000000000000) (l : List Int) (hl : l.length <= 1000) : Qar k a l = some (l.all (inR (0 - a) a)) := by
 unfold Qar
 rw [show Xb k a l k 0 = _ from Q0t k ha l hl l.length k 0 (by omega) (by omega), Option.bind_some, List.drop_zero]
 cases l.all (inR (0 - a) a) <;> rfl
def rdE (z : Int) (r : Qd) : Int :=
 if (inR 0 (z - 1) r.From && inR 0 (z - 1) r.To) = true then
  (if r.From = r.To then 3 else if (inR (-1000000) 1000000 r.Diff.Lo && inR (-1000000) 1000000 r.Diff.Hi) = true then (if r.Diff.Hi < r.Diff.Lo then 9 else 0) else 2)
 else 6
def chkE (z : Int) (l : List Qd) : Int := if inR 1 40 z = true then (if 100 < l.length then 8 else Qif (rdE z) l) else 2
theorem Qwe {k : Nat} (hk : 2000 < k) {z : Int} (hz : 1 <= z /\ z <= 40) (r : Qd) : Jj k z r = some (rdE z r) := by
 unfold Jj rdE
 rw [Qtd k hz, Option.bind_some]
 by_cases c : (inR 0 (z - 1) r.From && inR 0 (z - 1) r.To) = true
 ·rw [if_pos c, if_pos c]
  by_cases c2 : r.From = r.To
  ·rw [if_pos c2, if_pos c2]
  ·rw [if_neg c2, if_neg c2, Qte hk (by omega) _ (by simp), Option.bind_some]
   have e : ([r.Diff.Lo, r.Diff.Hi] : List Int).all (inR (0 - 1000000) 1000000) = (inR (-1000000) 1000000 r.Diff.Lo && inR (-1000000) 1000000 r.Diff.Hi) := by
    simp only [List.all_cons, List.all_nil, Bool.and_true]; rfl
   rw [e]
   by_cases c3 : (inR (-1000000) 1000000 r.Diff.Lo && inR (-1000000) 1000000 r.Diff.Hi) = true
   ·rw [if_pos c3, if_pos c3]
    split <;> rfl
   ·rw [if_neg c3, if_neg c3]
 ·rw [if_neg c, if_neg c]
theorem Qxy {k : Nat} (hk : 2000 < k) {z : Int} (hz : 1 <= z /\ z <= 40) (l : List Qd) (hl : l.length <= 200) : ∀ (d fuel i : Nat), l.length = i + d -> d < fuel -> Zo k z l fuel (i : Int) = some (sumE (Qif (rdE z) (l.drop i))) := by
 intro d
 induction d with
 | zero =>
   intro fuel i he hf
   obtain ⟨f, rfl⟩ : ∃ f, fuel = f + 1 := ⟨fuel - 1, by omega⟩
   rw [Zo.eq_2, if_neg (by omega), List.drop_of_length_le (by omega)]; rfl
 | succ d ih =>
   intro fuel i he hf
   obtain ⟨f, rfl⟩ : ∃ f, fuel = f + 1 := ⟨fuel - 1, by omega⟩
   rw [Zo.eq_2, if_pos (by omega), if_pos (by omega), Qin (show i < l.length by omega) default, Int.toNat_natCast]
   show ((Jj k z (l.getD i default)).bind _) = _
   rw [Qwe hk hz, Option.bind_some]
   unfold Qif
   by_cases c : rdE z (l.getD i default) = 0
   ·rw [if_pos c, if_pos c, J8 (by omega)]
    exact ih f (i + 1) (by omega) (by omega)
   ·rw [if_neg c, if_neg c, Qyw c]
theorem Qzo {k : Nat} (hk : 2000 < k) (z : Int) (l : List Qd) (hl : l.length <= 200) : Yc k z l = some (chkE z l) := by
 unfold Yc chkE
 rw [Qg0, Option.bind_some]
 cases e : inR 1 40 z with
 | false => rfl
 | true =>
   have hz := Qco.1 e
   rw [if_pos rfl, if_pos rfl]
   by_cases c : 100 < l.length
   ·rw [if_pos (by omega), if_pos c]
   ·rw [if_neg (by omega), if_neg c, show Zo k z l k 0 = _ from Qxy hk hz l hl l.length k 0 (by omega) (by omega), Option.bind_some, List.drop_zero]
    by_cases c2 : Qif (rdE z) l = 0
    ·rw [c2]; rfl
    ·rw [Qyw c2]
structure RV (z : Int) (r : Qd) : Prop where
 f : 0 <= r.From /\ r.From < z
 t : 0 <= r.To /\ r.To < z
 ne : r.From ≠ r.To
 lo : -1000000 <= r.Diff.Lo /\ r.Diff.Lo <= 1000000
 hi : -1000000 <= r.Diff.Hi /\ r.Diff.Hi <= 1000000
 le : r.Diff.Lo <= r.Diff.Hi
theorem Q2q {z : Int} {r : Qd} (h : rdE z r = 0) : RV z r := by
 unfold rdE at h
 by_cases c : (inR 0 (z - 1) r.From && inR 0 (z - 1) r.To) = true
 ·rw [if_pos c] at h
  rw [Bool.and_eq_true, Qco, Qco] at c
  by_cases c2 : r.From = r.To
  ·rw [if_pos c2] at h; omega
  ·rw [if_neg c2] at h
   by_cases c3 : (inR (-1000000) 1000000 r.Diff.Lo && inR (-1000000) 1000000 r.Diff.Hi) = true
   ·rw [if_pos c3] at h
    rw [Bool.and_eq_true, Qco, Qco] at c3
    by_cases c4 : r.Diff.Hi < r.Diff.Lo
    ·rw [if_pos c4] at h; omega
    ·exact ⟨by omega, by omega, c2, by omega, by omega, by omega⟩
   ·rw [if_neg c3] at h; omega
 ·rw [if_neg c] at h; omega
structure OKR (z : Int) (l : List Qd) : Prop where
 zz : 1 <= z /\ z <= 40
 n : l.length <= 100
 r : ∀ r ∈ l, RV z r
theorem Q09 {z : Int} {l : List Qd} (h : chkE z l = 0) : OKR z l := by
 unfold chkE at h
 cases e : inR 1 40 z with
 | false => rw [e] at h; simp at h
 | true =>
   rw [e, if_pos rfl] at h
   by_cases c : 100 < l.length
   ·rw [if_pos c] at h; omega
   ·rw [if_neg c] at h
    exact ⟨Qco.1 e, by omega, fun r hr => Q2q (Qld h r hr)⟩
def lgP (i : Nat) (r : Qd) : Sleg := ⟨(i : Int) + 1, r.From, r.To, r.Diff.Hi⟩
def lgN (i : Nat) (r : Qd) : Sleg := ⟨-(i : Int) - 1, r.To, r.From, -r.Diff.Lo⟩
def legs : List Qd -> Nat -> List Sleg
 | [], _ => []
 | r :: l, i => lgP i r :: lgN i r :: legs l (i + 1)
theorem Qse : ∀ (l : List Qd) (i : Nat), (legs l i).length = 2 * l.length
 | [], _ => rfl
 | r :: l, i => by simp [legs, Qse l]; omega
theorem Qh5 : ∀ {l : List Qd} {i : Nat} {g : Sleg}, g ∈ legs l i -> ∃ j, j < l.length /\ (g = lgP (i + j) (l.getD j default) \/ g = lgN (i + j) (l.getD j default))
 | [], _, g, h => by cases h
 | r :: l, i, g, h => by
   rcases List.mem_cons.1 h with h | h
   ·exact ⟨0, by simp, .inl (by rw [h]; rfl)⟩
   ·rcases List.mem_cons.1 h with h | h
    ·exact ⟨0, by simp, .inr (by rw [h]; rfl)⟩
    ·obtain ⟨j, h1, h2⟩ := Qh5 h
     refine ⟨j + 1, by simp; omega, ?_⟩
     rw [show i + (j + 1) = i + 1 + j by omega]
     exact h2
theorem Qq9 : ∀ {l : List Qd} {i j : Nat}, j < l.length -> lgP (i + j) (l.getD j default) ∈ legs l i /\ lgN (i + j) (l.getD j default) ∈ legs l i
 | [], i, j, h => absurd h (by simp)
 | r :: l, i, 0, h => ⟨by simp [legs], by simp [legs]⟩
 | r :: l, i, j + 1, h => by
   have := Qq9 (l := l) (i := i + 1) (j := j) (by simpa using h)
   rw [show i + (j + 1) = i + 1 + j by omega]
   exact ⟨by simp only [legs]; exact List.mem_cons_of_mem _ (List.mem_cons_of_mem _ this.1), by simp only [legs]; exact List.mem_cons_of_mem _ (List.mem_cons_of_mem _ this.2)⟩
theorem OKR.web {z : Int} {l : List Qd} (h : OKR z l) : Web z.toNat (legs l 0) := by
 have hz := h.zz
 have key : ∀ g, g ∈ legs l 0 -> ∃ r, RV z r /\ (g.from_ = r.From /\ g.to = r.To /\ g.length = r.Diff.Hi \/ g.from_ = r.To /\ g.to = r.From /\ g.length = -r.Diff.Lo) := fun g hg => by
  obtain ⟨j, h1, h2⟩ := Qh5 hg
  refine ⟨l.getD j default, h.r _ (Qgz h1 _), ?_⟩
  rcases h2 with h2 | h2
  ·rw [h2]; exact .inl ⟨rfl, rfl, rfl⟩
  ·rw [h2]; exact .inr ⟨rfl, rfl, rfl⟩
 refine ⟨by omega, by omega, fun g hg => ?_, fun g hg => ?_, fun g hg => ?_, by rw [Qse]; have := h.n; omega, fun g hg => ?_⟩ <;>
  (obtain ⟨r, hr, e⟩ := key g hg; have h1 := hr.f; have h2 := hr.t; have h3 := hr.ne; have h4 := hr.lo; have h5 := hr.hi; try unfold ln) <;> first
  | (unfold fr to; rcases e with ⟨e1, e2, e3⟩ | ⟨e1, e2, e3⟩ <;> rw [e1, e2] <;> omega)
  | (rcases e with ⟨e1, e2, e3⟩ | ⟨e1, e2, e3⟩ <;> rw [e3] <;> omega)
def LegI (z : Int) (L : List Sleg) : Prop := ∀ g, g ∈ L -> (0 <= g.from_ /\ g.from_ < z) /\ (0 <= g.to /\ g.to < z)
theorem OKR.legI {z : Int} {l : List Qd} (h : OKR z l) : LegI z (legs l 0) := fun g hg => by
 obtain ⟨j, h1, h2⟩ := Qh5 hg
 have hr := h.r _ (Qgz h1 default)
 have f1 := hr.f
 have f2 := hr.t
 rcases h2 with h2 | h2 <;> rw [h2]
 ·exact ⟨f1, f2⟩
 ·exact ⟨f2, f1⟩
theorem Q0u (k : Nat) {z : Int} {l : List Qd} (h : OKR z l) {i : Nat} (hi : i < l.length) : Qak k l ((i : Int) + 1) = some (lgP i (l.getD i default)) /\ Qak k l (-(i : Int) - 1) = some (lgN i (l.getD i default)) := by
 have hn := h.n
 have hr := (h.r _ (Qgz hi default)).lo
 unfold Qak
 constructor
 ·rw [if_neg (by omega), Y7 (n := (i : Int) + 1 - 1) (by omega) (by omega), if_pos (by omega), show ((i : Int) + 1 - 1).toNat = i by omega]; rfl
 ·rw [if_pos (by omega), Y7 (n := 0 - (-(i : Int) - 1)) (by omega) (by omega), Y7 (n := 0 - (-(i : Int) - 1) - 1) (by omega) (by omega), if_pos (by omega), show (0 - (-(i : Int) - 1) - 1).toNat = i by omega, Y7 (n := 0 - (l.getD i default).Diff.Lo) (by omega) (by omega), show 0 - (l.getD i default).Diff.Lo = -(l.getD i default).Diff.Lo by omega]; rfl
theorem Q29 (k : Nat) {z : Int} {l : List Qd} (h : OKR z l) (z' : Int) : ∀ (d fuel i : Nat) (y : List Sleg), l.length = i + d -> d < fuel -> y.length + 2 * d <= 1000 -> Xi k z' l fuel y (i : Int) = some (y ++ legs (l.drop i) i) := by
 intro d
 induction d with
 | zero =>
   intro fuel i y he hf hy
   obtain ⟨f, rfl⟩ : ∃ f, fuel = f + 1 := ⟨fuel - 1, by omega⟩
   rw [Xi.eq_2, if_neg (by omega), List.drop_of_length_le (by omega)]
   simp [legs]
 | succ d ih =>
   intro fuel i y he hf hy
   obtain ⟨f, rfl⟩ : ∃ f, fuel = f + 1 := ⟨fuel - 1, by omega⟩
   have hn := h.n
   obtain ⟨e1, e2⟩ := Q0u k h (i := i) (by omega)
   rw [Xi.eq_2, if_pos (by omega), Y7 (n := (i : Int) + 1) (by omega) (by omega), e1, Option.bind_some, Y7 (n := 0 - (i : Int)) (by omega) (by omega), Y7 (n := 0 - (i : Int) - 1) (by omega) (by omega), show 0 - (i : Int) - 1 = -(i : Int) - 1 by omega, e2, Option.bind_some, if_pos (by simp; omega), Qin (show i < l.length by omega) default, show ((i : Int) + 1) = ((i + 1 : Nat) : Int) by omega, ih f (i + 1) _ (by omega) (by omega) (by simp; omega), List.append_assoc]
   rfl
theorem Qw6 {k : Nat} (hk : 2000 < k) {z : Int} {l : List Qd} (h : OKR z l) (z' : Int) : Qas k z' l = some ⟨z', legs l 0⟩ := by
 have hn := h.n
 unfold Qas
 rw [show Xi k z' l k [] 0 = _ from Q29 k h z' l.length k 0 [] (by omega) (by omega) (by simp; omega)]
 rfl
def lw : List Sleg -> List Int -> List Sleg -> Int -> Bool -> Int × Bool × List Int × List Sleg
 | [], s, q, z, ok => (z, ok, s, q)
 | g :: l, s, q, z, ok => if gx s (fr g) = far then lw l s q z ok else if gx s (fr g) + ln g < gx s (to g) then lw l (s.set (to g) (gx s (fr g) + ln g)) (q.set (to g) g) g.to true else lw l s q z ok
theorem lw_s : ∀ (l : List Sleg) (s : List Int) (q : List Sleg) (z : Int) (ok : Bool), (lw l s q z ok).2.2.1 = rnd s l
 | [], s, q, z, ok => rfl
 | g :: l, s, q, z, ok => by
   unfold lw
   show _ = rnd (rlx s g) l
   unfold rlx
   by_cases c : gx s (fr g) = far
   ·rw [if_pos c, if_pos c]; exact lw_s l s q z ok
   ·rw [if_neg c, if_neg c]
    by_cases c2 : gx s (fr g) + ln g < gx s (to g)
    ·rw [if_pos c2, if_pos c2]; exact lw_s l _ _ _ _
    ·rw [if_neg c2, if_neg c2]; exact lw_s l s q z ok
theorem lw_q : ∀ (l : List Sleg) (s : List Int) (q : List Sleg) (z : Int) (ok : Bool), (lw l s q z ok).2.2.2.length = q.length
 | [], s, q, z, ok => rfl
 | g :: l, s, q, z, ok => by
   unfold lw
   split
   ·exact lw_q l s q z ok
   ·split
    ·rw [lw_q l _ _ _ _, List.length_set]
    ·exact lw_q l s q z ok
theorem Qsr {n : Nat} : ∀ (l : List Sleg), OKL n l -> ∀ (s : List Int) (q : List Sleg) (z : Int) (ok : Bool), s.length = n -> ((lw l s q z ok).2.1 = false -> ok = false /\ rnd s l = s) /\ ((lw l s q z ok).2.1 = true -> ok = true \/ ∃ j, j < n /\ gx (rnd s l) j < gx s j)
 | [], _, s, q, z, ok, hs => ⟨fun h => ⟨h, rfl⟩, fun h => .inl h⟩
 | g :: l, hl, s, q, z, ok, hs => by
   have hl' : OKL n l := fun x hx => hl x (by simp [hx])
   unfold lw
   show (_ -> _ /\ rnd (rlx s g) l = s) /\ (_ -> _ \/ ∃ j, j < n /\ gx (rnd (rlx s g) l) j < gx s j)
   unfold rlx
   by_cases c : gx s (fr g) = far
   ·rw [if_pos c, if_pos c]; exact Qsr l hl' s q z ok hs
   ·rw [if_neg c, if_neg c]
    by_cases c2 : gx s (fr g) + ln g < gx s (to g)
    ·rw [if_pos c2, if_pos c2]
     have ih := Qsr l hl' (s.set (to g) (gx s (fr g) + ln g)) (q.set (to g) g) g.to true (by simp [hs])
     refine ⟨fun h => ?_, fun _ => .inr ⟨to g, (hl g (by simp)).2, ?_⟩⟩
     ·have := (ih.1 h).1; cases this
     ·have h1 := Qqu hl' (s := s.set (to g) (gx s (fr g) + ln g)) (by simp [hs]) (to g)
      rw [Qer (by rw [hs]; exact (hl g (by simp)).2), if_pos rfl] at h1
      omega
    ·rw [if_neg c2, if_neg c2]; exact Qsr l hl' s q z ok hs
structure Sm (n : Nat) (s : List Int) (B : Int) : Prop where
 len : s.length = n
 far : ∀ j, gx s j <= far
 up : Up n 1000000 0 s
 lo : ∀ j, j < n -> B <= gx s j
theorem Sm.rlx {n : Nat} {L : List Sleg} (W : Web n L) {s : List Int} {B : Int} (h : Sm n s B) {g : Sleg} (hg : g ∈ L) : Sm n (rlx s g) (B - 1000000) := by
 have hn := W.ok g hg
 refine ⟨by rw [Qcm, h.len], fun j => Qto (by rw [h.len]; exact hn.2) h.far j, Qx2 (by omega) (Qjo W) h.len h.far hn (W.up g hg) h.up, fun j hj => ?_⟩
 exact Qx5 (by omega) (by rw [h.len]; exact hn.2) (W.lo g hg) (fun j hj => h.lo j (by rw [<- h.len]; exact hj)) (by rw [h.len]; exact hn.1) j (by rw [Qcm, h.len]; exact hj)
theorem Sm.weak {n : Nat} {s : List Int} {B C : Int} (h : Sm n s B) (hc : C <= B) : Sm n s C := ⟨h.len, h.far, h.up, fun j hj => Int.le_trans hc (h.lo j hj)⟩
theorem Sm.rnd {n : Nat} {L : List Sleg} (W : Web n L) : ∀ {l : List Sleg}, (∀ g, g ∈ l -> g ∈ L) -> ∀ {s : List Int} {B : Int}, Sm n s B -> Sm n (rnd s l) (B - (l.length : Int) * 1000000)
 | [], _, s, B, h => h.weak (by simp)
 | g :: l, hl, s, B, h => by
   have := Sm.rnd W (l := l) (fun x hx => hl x (by simp [hx])) (h.rlx W (hl g (by simp)))
   exact this.weak (by rw [List.length_cons]; omega)
theorem Sm.hi {n : Nat} {L : List Sleg} (W : Web n L) {s : List Int} {B : Int} (h : Sm n s B) {j : Nat} (hj : j < n) (hf : gx s j ≠ Vg.far) : gx s j <= 40000000 := by
 have := Up.max (by omega) h.up j hj hf
 have := W.n1
 omega
theorem Q23 {n : Nat} : Sm n (zs n) 0 := ⟨Qi4, fun j => by rw [Qnz]; unfold Vg.far; omega, Q01, fun j _ => by rw [Qnz]; omega⟩
theorem Q25 {n z : Nat} (hz : z < n) : Sm n (fs n z) 0 := ⟨Qf0 z, Qqw z, Qy1 hz, fun j hj => by rw [Qsh hz hj]; split <;> (try unfold Vg.far) <;> omega⟩
section
variable {n : Nat} {z : Int} {L : List Sleg}
theorem lower_c (k : Nat) (W : Web n L) (hI : LegI z L) (hz : z = (n : Int)) (y1 : List Int) (y2 : List Sleg) (x17 x4 : Int) : ∀ (d fuel i : Nat) (s : List Int) (q : List Sleg) (x : Int) (ok : Bool), L.length = i + d -> d < fuel -> Sm n s (-9000000000000 + (d : Int) * 1000000) -> q.length = n ->
 Qx k ⟨z, L⟩ y1 y2 x17 x4 fuel s q (i : Int) x ok = some ((lw (L.drop i) s q x ok).1, (lw (L.drop i) s q x ok).2.1, (lw (L.drop i) s q x ok).2.2.1, (lw (L.drop i) s q x ok).2.2.2) := by
 intro d
 induction d with
 | zero =>
   intro fuel i s q x ok he hf hS hq
   obtain ⟨f, rfl⟩ : ∃ f, fuel = f + 1 := ⟨fuel - 1, by omega⟩
   rw [Qx.eq_2, List.drop_of_length_le (by omega)]
   dsimp only
   rw [if_neg (by omega)]; rfl
 | succ d ih =>
   intro fuel i s q x ok he hf hS hq
   obtain ⟨f, rfl⟩ : ∃ f, fuel = f + 1 := ⟨fuel - 1, by omega⟩
   have hfew := W.few
   have hmem : L.getD i default ∈ L := Qgz (by omega) default
   have hSn := hS.rlx W hmem
   rw [Qx.eq_2, Qin (show i < L.length by omega) default]
   dsimp only
   rw [if_pos (by omega), if_pos (by omega), Int.toNat_natCast]
   generalize L.getD i default = g at hmem hSn ⊢
   obtain ⟨g1, g2⟩ := hI g hmem
   have hsl := hS.len
   have w1 := W.up g hmem
   have w2 := W.lo g hmem
   have h1 : (s.getD g.from_.toNat 0) = gx s (fr g) := rfl
   have h2 : (s.getD g.to.toNat 0) = gx s (to g) := rfl
   unfold ln at w1 w2
   rw [if_pos (by omega)]
   unfold lw
   unfold Vg.rlx at hSn
   by_cases c : gx s (fr g) = far
   ·rw [if_pos c, if_pos (show s.getD g.from_.toNat 0 = 9223372036854775807 from c), J8 (by omega)]
    exact ih f (i + 1) s q x ok (by omega) (by omega) (hS.weak (by omega)) hq
   ·have b1 := hS.hi W (W.ok g hmem).1 c
    have b2 := hS.lo _ (W.ok g hmem).1
    rw [if_neg c] at hSn
    rw [if_neg c, if_neg (show ¬ s.getD g.from_.toNat 0 = 9223372036854775807 from c), if_pos (by omega), h1, h2, Y7 (n := gx s (fr g) + g.length) (by omega) (by omega)]
    by_cases c2 : gx s (fr g) + ln g < gx s (to g)
    ·rw [if_pos c2] at hSn
     rw [if_pos c2, if_pos (show gx s (fr g) + g.length < gx s (to g) from c2), if_pos (by omega), J8 (by omega)]
     exact ih f (i + 1) _ _ _ _ (by omega) (by omega) (hSn.weak (by omega)) (by simp [hq])
    ·rw [if_neg c2, if_neg (show ¬ gx s (fr g) + g.length < gx s (to g) from c2), J8 (by omega)]
     exact ih f (i + 1) s q x ok (by omega) (by omega) (hS.weak (by omega)) hq
theorem Qzn (k : Nat) (W : Web n L) (hI : LegI z L) (hz : z = (n : Int)) (y1 : List Int) (y2 : List Sleg) (x22 : Int) : ∀ (d fuel i : Nat) (s : List Int) (q : List Sleg) (x : Int) (ok : Bool), L.length = i + d -> d < fuel -> Sm n s (-9000000000000 + (d : Int) * 1000000) -> q.length = n ->
 Za k ⟨z, L⟩ y1 y2 x22 fuel s q (i : Int) x ok = some ((lw (L.drop i) s q x ok).1, (lw (L.drop i) s q x ok).2.1, (lw (L.drop i) s q x ok).2.2.1, (lw (L.drop i) s q x ok).2.2.2) := by
 intro d
 induction d with
 | zero =>
   intro fuel i s q x ok he hf hS hq
   obtain ⟨f, rfl⟩ : ∃ f, fuel = f + 1 := ⟨fuel - 1, by omega⟩
   rw [Za.eq_2, List.drop_of_length_le (by omega)]
   dsimp only
   rw [if_neg (by omega)]; rfl
 | succ d ih =>
   intro fuel i s q x ok he hf hS hq
   obtain ⟨f, rfl⟩ : ∃ f, fuel = f + 1 := ⟨fuel - 1, by omega⟩
   have hfew := W.few
   have hmem : L.getD i default ∈ L := Qgz (by omega) default
   have hSn := hS.rlx W hmem
   rw [Za.eq_2, Qin (show i < L.length by omega) default]
   dsimp only
   rw [if_pos (by omega), if_pos (by omega), Int.toNat_natCast]
   generalize L.getD i default = g at hmem hSn ⊢
   obtain ⟨g1, g2⟩ := hI g hmem
   have hsl := hS.len
   have w1 := W.up g hmem
   have w2 := W.lo g hmem
   have h1 : (s.getD g.from_.toNat 0) = gx s (fr g) := rfl
   have h2 : (s.getD g.to.toNat 0) = gx s (to g) := rfl
   unfold ln at w1 w2
   rw [if_pos (by omega)]
   unfold lw
   unfold Vg.rlx at hSn
   by_cases c : gx s (fr g) = far
   ·rw [if_pos c, if_pos (show s.getD g.from_.toNat 0 = 9223372036854775807 from c), J8 (by omega)]
    exact ih f (i + 1) s q x ok (by omega) (by omega) (hS.weak (by omega)) hq
   ·have b1 := hS.hi W (W.ok g hmem).1 c
    have b2 := hS.lo _ (W.ok g hmem).1
    rw [if_neg c] at hSn
    rw [if_neg c, if_neg (show ¬ s.getD g.from_.toNat 0 = 9223372036854775807 from c), if_pos (by omega), h1, h2, Y7 (n := gx s (fr g) + g.length) (by omega) (by omega)]
    by_cases c2 : gx s (fr g) + ln g < gx s (to g)
    ·rw [if_pos c2] at hSn
     rw [if_pos c2, if_pos (show gx s (fr g) + g.length < gx s (to g) from c2), if_pos (by omega), J8 (by omega)]
     exact ih f (i + 1) _ _ _ _ (by omega) (by omega) (hSn.weak (by omega)) (by simp [hq])
    ·rw [if_neg c2, if_neg (show ¬ gx s (fr g) + g.length < gx s (to g) from c2), J8 (by omega)]
     exact ih f (i + 1) s q x ok (by omega) (by omega) (hS.weak (by omega)) hq
end
end Go.Proofs.Ytjfkkcldffgekaa.Vg
