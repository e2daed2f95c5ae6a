import Derived.Test.YtjomicmhnbmhoaaPB
import Derived.Test.YtjomicmhnbmhoaaB4
set_option linter.unusedVariables false
set_option linter.unusedSimpArgs false
namespace Go.Proofs.Ytjomicmhnbmhoaa.Vg
open Go Go.Proofs.Ytjomicmhnbmhoaa.Ev Go.Proofs.Ytjomicmhnbmhoaa.Vv
abbrev At2 := A26
def Qp1 (t o : Qa) : Bool := decide (o.Name = t.Name)
def tgE (m : Qc) (d : Int) (b : List Qa) (t : Qa) : Int := if tgtE t = 0 then (if b.any (Qp1 t) = true then 5 else stpE m t d) else tgtE t
def errs (m : Qc) (d : Int) (l : List Qa) : Nat -> Nat -> Option (Int × Int)
 | 0, _ => none
 | n + 1, i => if tgE m d (l.take i) (l.getD i default) = 0 then errs m d l n (i + 1) else some ((i : Int), tgE m d (l.take i) (l.getD i default))
def trE (m : Qc) (l : List Qa) (p : At2) : Int × Int :=
 if mntE m = 0 then (if inR 0 100000 p.e0 = true then (if inR m.Least m.Most p.e1 = true then (if 20 < l.length then (0, 8) else (errs m p.e0 l l.length 0).getD (0, 0)) else (0, 2)) else (0, 2)) else (0, mntE m)
def stp (m : Qc) (d : Int) (t : Qa) : Jj := ⟨t, trn m (apA m t d), posL m t d⟩
theorem Q60 (k : Nat) (l : List Qa) (t : Qa) (hl : l.length < 1000000000) : ∀ (d fuel i : Nat), l.length = i + d -> d < fuel ->
 ∃ j : Nat, Qe k l (t.Name, t.Azimuth, t.Height, t.From, t.To, t.Dwell) fuel (i : Int) = some (match (l.drop i).any (Qp1 t) with | true => .inl (j : Int) | false => .inr ()) := by
 intro d
 induction d with
 | zero =>
   intro fuel i h hf
   obtain ⟨g, rfl⟩ : ∃ g, fuel = g + 1 := ⟨fuel - 1, by omega⟩
   rw [Qe.eq_2, if_neg (by omega), List.drop_eq_nil_of_le (by omega)]
   exact ⟨0, rfl⟩
 | succ d ih =>
   intro fuel i h hf
   obtain ⟨g, rfl⟩ : ∃ g, fuel = g + 1 := ⟨fuel - 1, by omega⟩
   obtain ⟨j, hj⟩ := ih g (i + 1) (by omega) (by omega)
   rw [Qe.eq_2, if_pos (by omega), if_pos (by omega), Js (by omega), hj, Xt (y := l) (i := i) (by omega) default]
   simp only [Int.toNat_natCast, List.any_cons]
   show ∃ j : Nat, ((some (Qp1 t (l.getD i default))).bind _) = _
   rw [Option.bind_some]
   cases Qp1 t (l.getD i default) with
   | true => exact ⟨i, by rw [if_pos rfl]; rfl⟩
   | false => exact ⟨j, by rw [if_neg (by decide)]; rfl⟩
theorem Qxh (k : Nat) (hk : 100 < k) (hk2 : k <= 100000000000000000000) (b : List Qa) (hb : b.length < k) (hb2 : b.length <= 1000) (t : Qa) : Qdn k b t = some (if tgtE t = 0 then (if b.any (Qp1 t) = true then 5 else 0) else tgtE t) := by
 unfold Qdn
 rw [Qr5 k hk hk2, Option.bind_some]
 by_cases h : tgtE t = 0
 ·rw [if_pos h, if_pos h]
  unfold Qy Q5
  obtain ⟨j, hj⟩ := Q60 k b t (by omega) b.length k 0 (by omega) hb
  rw [show Qe k b (t.Name, t.Azimuth, t.Height, t.From, t.To, t.Dwell) k 0 = _ from hj, List.drop_zero]
  cases b.any (Qp1 t) with
  | true =>
    simp only [Option.bind_some]
    rw [decide_eq_true (show (0 : Int) <= (j : Int) by omega)]; rfl
  | false => rfl
 ·rw [if_neg h, if_neg h]
theorem Q4b {α : Type} (l : List α) (i : Nat) : sl l 0 i = l.take i := by unfold sl; rfl
theorem Q61 (k : Nat) (hk : 100 < k) (hk2 : k <= 100000000000000000000) {m : Qc} (hm : Mnt m) (l : List Qa) (p : At2) (hp : 0 <= p.e0 /\ p.e0 <= 100000) (hl : l.length <= 20) : ∀ (d fuel i : Nat) (y : List Jj), l.length = i + d -> d < fuel -> y.length = i ->
 Yk k m l p fuel y (i : Int) = some (match errs m p.e0 l d i with | some e => .inl e | none => .inr (y ++ (l.drop i).map (stp m p.e0))) := by
 intro d
 induction d with
 | zero =>
   intro fuel i y h hf hy
   obtain ⟨g, rfl⟩ : ∃ g, fuel = g + 1 := ⟨fuel - 1, by omega⟩
   rw [Yk.eq_2, if_neg (by omega), List.drop_eq_nil_of_le (by omega)]
   simp [errs]
 | succ d ih =>
   intro fuel i y h hf hy
   obtain ⟨g, rfl⟩ : ∃ g, fuel = g + 1 := ⟨fuel - 1, by omega⟩
   rw [Yk.eq_2, if_pos (by omega), if_pos (by omega), if_pos (by omega), Q4b, Qxh k hk hk2 _ (by rw [List.length_take]; omega) (by rw [List.length_take]; omega), Option.bind_some, Js (by omega), Xt (y := l) (i := i) (by omega) default]
   simp only [Int.toNat_natCast, errs]
   by_cases h1 : tgtE (l.getD i default) = 0
   ·rw [if_pos h1]
    by_cases h2 : (l.take i).any (Qp1 (l.getD i default)) = true
    ·have e : tgE m p.e0 (l.take i) (l.getD i default) = 5 := by unfold tgE; rw [if_pos h1, if_pos h2]
     rw [if_pos h2, e]; rfl
    ·have e : tgE m p.e0 (l.take i) (l.getD i default) = stpE m (l.getD i default) p.e0 := by unfold tgE; rw [if_pos h1, if_neg h2]
     rw [if_neg h2, if_pos rfl, Qwv k hk hk2 hm (Tgt.of h1) hp, Option.bind_some, e]
     by_cases h3 : stpE m (l.getD i default) p.e0 = 0
     ·rw [if_pos h3, if_pos h3, if_pos rfl, if_pos (by simp; omega), ih g (i + 1) _ (by omega) (by omega) (by simp; omega)]
      congr 1
      cases errs m p.e0 l d (i + 1) with
      | some e => rfl
      | none => simp [stp]
     ·rw [if_neg h3, if_neg h3, if_neg h3]
   ·have e : tgE m p.e0 (l.take i) (l.getD i default) = tgtE (l.getD i default) := by unfold tgE; rw [if_neg h1]
    rw [if_neg h1, if_neg h1, e, if_neg h1]
theorem Qud (m : Qc) (d : Int) (l : List Qa) : ∀ (n i : Nat) (e : Int × Int), errs m d l n i = some e -> e.2 ≠ 0
 | 0, i, e, h => by cases h
 | n + 1, i, e, h => by
   simp only [errs] at h
   split at h
   ·exact Qud m d l n (i + 1) e h
   ·injection h with h; subst h; assumption
theorem Qsz (m : Qc) (d : Int) (l : List Qa) : ∀ (n i : Nat), errs m d l n i = none -> ∀ j, i <= j -> j < i + n -> tgE m d (l.take j) (l.getD j default) = 0
 | 0, i, h, j, h1, h2 => by omega
 | n + 1, i, h, j, h1, h2 => by
   simp only [errs] at h
   split at h
   ·by_cases e : j = i
    ·subst e; assumption
    ·exact Qsz m d l n (i + 1) h j (by omega) (by omega)
   ·cases h
theorem Qnj (k : Nat) (hk : 100 < k) (hk2 : k <= 100000000000000000000) (m : Qc) (h1 : m.Refraction.length < k) (h2 : m.Drift.length < k) (l : List Qa) (p : At2) :
 Qeq k m l p = some ((if (trE m l p).2 = 0 then ⟨p.e1, l.map (stp m p.e0)⟩ else ⟨0, []⟩), trE m l p) := by
 unfold Qeq trE Qgl
 rw [Qtl k hk hk2 m h1 h2, Option.bind_some, Qen k _ _ _ hk hk2, Qen k _ _ _ hk hk2]
 simp only [Option.bind_some]
 by_cases c1 : mntE m = 0
 ·simp only [if_pos c1]
  by_cases c2 : inR 0 100000 p.e0 = true
  ·simp only [if_pos c2, Option.bind_some, if_true]
   by_cases c3 : inR m.Least m.Most p.e1 = true
   ·simp only [if_pos c3]
    by_cases c4 : 20 < l.length
    ·rw [if_pos (by omega)]
     simp only [if_pos c4]
     rfl
    ·rw [if_neg (by omega), show Yk k m l p k [] 0 = _ from Q61 k hk hk2 (Mnt.of c1) l p (Qkn.1 c2) (by omega) l.length k 0 [] (by omega) (by omega) rfl, Option.bind_some]
     simp only [if_neg c4]
     cases he : errs m p.e0 l l.length 0 with
     | some e =>
       have := Qud m p.e0 l _ _ e he
       show some (_, _, _) = some ((if e.2 = 0 then _ else _), e)
       rw [if_neg this]
     | none =>
       show some (_, _, _) = some ((if (0 : Int) = 0 then _ else _), (0, 0))
       rw [if_pos rfl]; rfl
   ·simp only [if_neg c3]
    rfl
  ·simp only [if_neg c2, Option.bind_some]
   rfl
 ·simp only [if_neg c1]
theorem Q14 (k : Nat) (m : Qc) (l : List Qa) (p : At2) (i : Nat) (hi : i < l.length) (hl : l.length <= 20) : ∀ (d fuel j : Nat), i = j + d -> d < fuel ->
 Zw k m l p (i : Int) fuel (j : Int) = some (match ((l.take i).drop j).any (Qp1 (l.getD i default)) with | true => .inl () | false => .inr ()) := by
 intro d
 induction d with
 | zero =>
   intro fuel j h hf
   obtain ⟨g, rfl⟩ : ∃ g, fuel = g + 1 := ⟨fuel - 1, by omega⟩
   rw [Zw.eq_2, if_neg (by omega), List.drop_eq_nil_of_le (by rw [List.length_take]; omega)]; rfl
 | succ d ih =>
   intro fuel j h hf
   obtain ⟨g, rfl⟩ : ∃ g, fuel = g + 1 := ⟨fuel - 1, by omega⟩
   have e : (l.take i).getD j default = l.getD j default := by
    rw [List.getD_eq_getElem?_getD, List.getD_eq_getElem?_getD, List.getElem?_take, if_pos (by omega)]
   rw [Zw.eq_2, if_pos (by omega), if_pos (by omega), if_pos (by omega), Js (by omega), ih g (j + 1) (by omega) (by omega), Xt (y := l.take i) (i := j) (by rw [List.length_take]; omega) default, e]
   simp only [Int.toNat_natCast, List.any_cons]
   rw [show Qp1 (l.getD i default) (l.getD j default) = decide ((l.getD j default).Name = (l.getD i default).Name) from rfl]
   by_cases c : (l.getD j default).Name = (l.getD i default).Name
   ·rw [if_pos c, decide_eq_true c]; rfl
   ·rw [if_neg c, decide_eq_false c]; rfl
theorem Q4c (k : Nat) (hk : 100 < k) (hk2 : k <= 100000000000000000000) {m : Qc} (hm : Mnt m) (l : List Qa) (p : At2) (hp : 0 <= p.e0 /\ p.e0 <= 100000) (hl : l.length <= 20) : ∀ (d fuel i : Nat), l.length = i + d -> d < fuel ->
 Zx k m l p fuel (i : Int) = some (match errs m p.e0 l d i with | some e => .inl e | none => .inr ()) := by
 intro d
 induction d with
 | zero =>
   intro fuel i h hf
   obtain ⟨g, rfl⟩ : ∃ g, fuel = g + 1 := ⟨fuel - 1, by omega⟩
   rw [Zx.eq_2, if_neg (by omega)]; rfl
 | succ d ih =>
   intro fuel i h hf
   obtain ⟨g, rfl⟩ : ∃ g, fuel = g + 1 := ⟨fuel - 1, by omega⟩
   rw [Zx.eq_2, if_pos (by omega), if_pos (by omega), Qwu k hk, Option.bind_some, show Zw k m l p (i : Int) k 0 = _ from Q14 k m l p i (by omega) hl i k 0 (by omega) (by omega), List.drop_zero, Js (by omega), ih g (i + 1) (by omega) (by omega)]
   simp only [Int.toNat_natCast, errs, Option.bind_some]
   by_cases h1 : tgtE (l.getD i default) = 0
   ·rw [if_pos h1]
    cases h2 : (l.take i).any (Qp1 (l.getD i default)) with
    | true =>
      have e : tgE m p.e0 (l.take i) (l.getD i default) = 5 := by unfold tgE; rw [if_pos h1, if_pos h2]
      rw [e]; rfl
    | false =>
      have e : tgE m p.e0 (l.take i) (l.getD i default) = stpE m (l.getD i default) p.e0 := by unfold tgE; rw [if_pos h1, if_neg (by rw [h2]; decide)]
      dsimp only
      rw [Qko k hk hm (Tgt.of h1) hp, Option.bind_some, e]
      by_cases h3 : stpE m (l.getD i default) p.e0 = 0
      ·rw [if_pos h3, if_pos h3, if_pos rfl]
      ·rw [if_neg h3, if_neg h3, if_neg h3]
   ·have e : tgE m p.e0 (l.take i) (l.getD i default) = tgtE (l.getD i default) := by unfold tgE; rw [if_neg h1]
    rw [if_neg h1, e, if_neg h1]
theorem Qvj (k : Nat) (hk : 100 < k) (hk2 : k <= 100000000000000000000) (m : Qc) (h1 : m.Refraction.length < k) (h2 : m.Drift.length < k) (l : List Qa) (p : At2) :
 Qah k m l p = some (trE m l p) := by
 unfold Qah trE
 rw [Qxu k hk hk2 m h1 h2, Option.bind_some, Q3h, Qb9]
 simp only [Option.bind_some]
 by_cases c1 : mntE m = 0
 ·simp only [if_pos c1]
  by_cases c2 : inR 0 100000 p.e0 = true
  ·simp only [if_pos c2]
   by_cases c3 : inR m.Least m.Most p.e1 = true
   ·simp only [if_pos c3]
    by_cases c4 : 20 < l.length
    ·rw [if_pos (by omega), if_pos c4]
    ·rw [if_neg (by omega), if_neg c4, show Zx k m l p k 0 = _ from Q4c k hk hk2 (Mnt.of c1) l p (Qkn.1 c2) (by omega) l.length k 0 (by omega) (by omega), Option.bind_some]
     cases errs m p.e0 l l.length 0 <;> rfl
   ·simp only [if_neg c3]
  ·simp only [if_neg c2]
 ·simp only [if_neg c1]
structure Tr (m : Qc) (l : List Qa) (p : At2) : Prop where
 mnt : Mnt m
 day : 0 <= p.e0 /\ p.e0 <= 100000
 beg : m.Least <= p.e1 /\ p.e1 <= m.Most
 len : l.length <= 20
 tgt : ∀ i, i < l.length -> Tgt (l.getD i default) /\ stpE m (l.getD i default) p.e0 = 0
theorem Tr.of {m : Qc} {l : List Qa} {p : At2} (h : (trE m l p).2 = 0) : Tr m l p := by
 unfold trE at h
 split at h
 ·rename_i c1
  split at h
  ·rename_i c2
   split at h
   ·rename_i c3
    split at h
    ·cases h
    ·rename_i c4
     cases he : errs m p.e0 l l.length 0 with
     | some e => rw [he] at h; exact absurd h (Qud m p.e0 l _ _ e he)
     | none =>
       refine ⟨Mnt.of c1, Qkn.1 c2, Qkn.1 c3, by omega, fun i hi => ?_⟩
       have := Qsz m p.e0 l _ _ he i (by omega) (by omega)
       unfold tgE at this
       split at this
       ·rename_i g1
        split at this
        ·cases this
        ·exact ⟨Tgt.of g1, this⟩
       ·contradiction
   ·cases h
  ·cases h
 ·contradiction
def Qsp (x : Qjq) : Bool := x.Targets.all (fun t => decide (t.Name.size <= 30)) && (Qp6 x.Mount && decide (x.Targets.length <= 5 \/ 20 < x.Targets.length /\ x.Targets.length <= 23))
theorem Qzv {i : Nat} (h : i < 9223372036854775807) : w64 ((i : Int) + 1) = ((i + 1 : Nat) : Int) := by
 rw [Ji (by omega) (by omega)]; omega
theorem Q4d (k : Nat) (x : Qjq) (hl : x.Targets.length <= 9223372036854775807) : ∀ (d fuel i : Nat), x.Targets.length = i + d -> d < fuel ->
 Xq k x fuel (i : Int) = some (sumB ((x.Targets.drop i).all (fun t => decide (t.Name.size <= 30)))) := by
 intro d
 induction d with
 | zero =>
   intro fuel i h hf
   obtain ⟨g, rfl⟩ : ∃ g, fuel = g + 1 := ⟨fuel - 1, by omega⟩
   rw [Xq.eq_2, if_neg (by omega), List.drop_eq_nil_of_le (by omega)]; rfl
 | succ d ih =>
   intro fuel i h hf
   obtain ⟨g, rfl⟩ : ∃ g, fuel = g + 1 := ⟨fuel - 1, by omega⟩
   rw [Xq.eq_2, if_pos (by omega), if_pos (by omega), Qzv (by omega), ih g (i + 1) (by omega) (by omega), Xt (y := x.Targets) (i := i) (by omega) default]
   simp only [Int.toNat_natCast, List.all_cons]
   by_cases c : 30 < ((x.Targets.getD i default).Name.size : Int)
   ·rw [if_pos c, decide_eq_false (by omega)]; rfl
   ·rw [if_neg c, decide_eq_true (show (x.Targets.getD i default).Name.size <= 30 by omega)]; rfl
theorem short_any (k : Nat) (x : Qjq) (hl : x.Targets.length < k) (hk : x.Targets.length <= 9223372036854775807) : Qcj k x = some (Qsp x) := by
 unfold Qcj Qsp
 rw [show Xq k x k 0 = _ from Q4d k x (by omega) x.Targets.length k 0 (by omega) hl, List.drop_zero, Option.bind_some, Qxx]
 cases x.Targets.all (fun t => decide (t.Name.size <= 30)) with
 | false => rfl
 | true =>
   simp only [sumB, Option.bind_some]
   cases Qp6 x.Mount with
   | false => rfl
   | true =>
     rw [if_pos rfl]
     by_cases c1 : (x.Targets.length : Int) <= 5
     ·rw [if_pos c1, decide_eq_true (show x.Targets.length <= 5 \/ 20 < x.Targets.length /\ x.Targets.length <= 23 by omega)]; rfl
     ·rw [if_neg c1]
      by_cases c2 : 20 < (x.Targets.length : Int)
      ·rw [if_pos c2]
       congr 1
       show decide _ = decide _
       rw [decide_eq_decide]; omega
      ·rw [if_neg c2, decide_eq_false (show ¬(x.Targets.length <= 5 \/ 20 < x.Targets.length /\ x.Targets.length <= 23) by omega)]; rfl
theorem Qt8 {x : Qjq} (h : Qsp x = true) : x.Mount.Refraction.length <= 43 /\ x.Mount.Drift.length <= 43 /\ x.Targets.length <= 23 := by
 unfold Qsp at h
 rw [Bool.and_eq_true, Bool.and_eq_true] at h
 obtain ⟨a, b⟩ := Qxy h.2.1
 have := of_decide_eq_true h.2.2
 omega
theorem Qsq (k : Nat) (l : List Qa) (hl : l.length <= 1000000000) : Qbf k l = some l := by
 unfold Qbf
 rw [if_pos (by simpa using hl)]; rfl
end Go.Proofs.Ytjomicmhnbmhoaa.Vg
