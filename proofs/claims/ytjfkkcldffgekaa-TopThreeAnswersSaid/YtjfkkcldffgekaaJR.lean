import Derived.Test.YtjfkkcldffgekaaJ2
set_option linter.unusedVariables false
set_option linter.unusedSimpArgs false
namespace Go.Proofs.Ytjfkkcldffgekaa.Vg
open Go Go.Proofs.Ytjfkkcldffgekaa.Ev Go.Proofs.Ytjfkkcldffgekaa.Vv
theorem Qws (k : Nat) {c : List Int} (h : c.length <= 1000) : X6 k c = some c := by
 unfold X6
 rw [if_pos (by simp; omega)]; rfl
def keep (h : List Int) (r : Qd) : Bool := inR r.Diff.Lo r.Diff.Hi (gx h r.To.toNat - gx h r.From.toNat)
section
variable {k : Nat} {z : Int} {l : List Qd}
theorem Qwo {h : List Int} (hO : OKR z l) (hk : ∀ r ∈ l, keep h r = true) : Pot (legs l 0) (fun j => gx h j) := by
 intro g hg
 obtain ⟨j, h1, h2⟩ := Qh5 hg
 have := Qco.1 (hk _ (Qgz h1 default))
 rcases h2 with h2 | h2
 ·have e1 : to g = (l.getD j default).To.toNat := by rw [h2]; rfl
  have e2 : fr g = (l.getD j default).From.toNat := by rw [h2]; rfl
  have e3 : ln g = (l.getD j default).Diff.Hi := by rw [h2]; rfl
  rw [e1, e2, e3]; dsimp only; omega
 ·have e1 : to g = (l.getD j default).From.toNat := by rw [h2]; rfl
  have e2 : fr g = (l.getD j default).To.toNat := by rw [h2]; rfl
  have e3 : ln g = -(l.getD j default).Diff.Lo := by rw [h2]; rfl
  rw [e1, e2, e3]; dsimp only; omega
theorem Qwr (hO : OKR z l) {p : Nat -> Int} (H : Pot (legs l 0) p) (hw : Whole z.toNat (legs l 0)) {j : Nat} (hj : j < z.toNat) : -Dz z.toNat (legs l 0) j 0 <= p j - p 0 /\ p j - p 0 <= Dz z.toNat (legs l 0) 0 j /\ Dz z.toNat (legs l 0) j 0 ≠ far := by
 have W := hO.web
 have w1 := Qwl W W.n0 hj (hw j hj)
 obtain ⟨t, ht⟩ := Qzq w1
 have hb := (Q2t W H hj ht).1
 have w2 := Qwl W hj W.n0 hb
 have h1 := H.wk w1
 have h2 := H.wk w2
 exact ⟨by omega, by omega, hb⟩
end
end Go.Proofs.Ytjfkkcldffgekaa.Vg
namespace Go.Proofs.Ytjfkkcldffgekaa.Vg
open Go Go.Proofs.Ytjfkkcldffgekaa.Ev Go.Proofs.Ytjfkkcldffgekaa.Vv
def pr (m : Ze) (i : Nat) : A39 := m.Pairs.getD i default
def er (m : Ze) (i : Nat) : A39 := m.Errors.getD i default
def df (m : Ze) (i : Nat) : Int := gx m.Heights (pr m i).e1.toNat - gx m.Heights (pr m i).e0.toNat
def rdg (m : Ze) (part : Int) (i : Nat) : Qd := ⟨(pr m i).e0, (pr m i).e1, ⟨df m i - (er m i).e0.tdiv part, df m i + (er m i).e1.tdiv part⟩⟩
def rds (m : Ze) (part : Int) (n : Nat) : List Qd := (List.range n).map (rdg m part)
theorem Qvm (m : Ze) (part : Int) (n : Nat) : (rds m part n).length = n := by simp [rds]
def okP (m : Ze) (i : Nat) : Prop := (0 <= (pr m i).e0 /\ (pr m i).e0 < (m.Heights.length : Int)) /\ (0 <= (pr m i).e1 /\ (pr m i).e1 < (m.Heights.length : Int)) /\ (pr m i).e0 ≠ (pr m i).e1 /\ (0 <= (er m i).e0 /\ (er m i).e0 <= 100000) /\ 0 <= (er m i).e1 /\ (er m i).e1 <= 100000
structure V (m : Ze) : Prop where
 n : 1 <= m.Heights.length /\ m.Heights.length <= 8
 np : m.Pairs.length <= 12
 ne : m.Errors.length = m.Pairs.length
 h : ∀ j, j < m.Heights.length -> -100000 <= gx m.Heights j /\ gx m.Heights j <= 100000
 p : ∀ i, i < m.Pairs.length -> okP m i
section
variable {k : Nat} {m : Ze} {part : Int}
theorem Qvn (m : Ze) (part : Int) (hn : m.Heights.length <= 8) : ∀ (d fuel i : Nat), m.Heights.length = i + d -> d < fuel -> ∃ r, Qs k m part fuel (i : Int) = some r /\ (r = .inl () \/ r = .inr () /\ ∀ j, i <= j -> j < m.Heights.length -> -100000 <= gx m.Heights j /\ gx m.Heights j <= 100000) := by
 intro d
 induction d with
 | zero =>
   intro fuel i he hf
   obtain ⟨f, rfl⟩ : ∃ f, fuel = f + 1 := ⟨fuel - 1, by omega⟩
   exact ⟨_, by rw [Qs.eq_2, if_neg (by omega)], .inr ⟨rfl, fun j h1 h2 => by omega⟩⟩
 | succ d ih =>
   intro fuel i he hf
   obtain ⟨f, rfl⟩ : ∃ f, fuel = f + 1 := ⟨fuel - 1, by omega⟩
   rw [Qs.eq_2, if_pos (by omega), if_pos (by omega), Yd, Option.bind_some, Int.toNat_natCast]
   by_cases c : inR (-100000) 100000 (m.Heights.getD i 0) = true
   ·rw [if_pos c, J8 (by omega)]
    obtain ⟨r, e1, e2⟩ := ih f (i + 1) (by omega) (by omega)
    refine ⟨r, e1, ?_⟩
    rcases e2 with e2 | ⟨e2, e3⟩
    ·exact .inl e2
    ·refine .inr ⟨e2, fun j h1 h2 => ?_⟩
     by_cases e : j = i
     ·rw [e]; exact Qco.1 c
     ·exact e3 j (by omega) h2
   ·rw [if_neg c]; exact ⟨_, rfl, .inl rfl⟩
theorem Qix {e : Int} (he : 0 <= e /\ e <= 100000) (hp : part = 1 \/ part = 2) : 0 <= e.tdiv part /\ e.tdiv part <= e := by
 have h1 : 0 <= e.tdiv part := Int.tdiv_nonneg he.1 (by omega)
 have h2 : (e.tdiv part).natAbs <= e.natAbs := by rw [Int.natAbs_tdiv]; exact Nat.div_le_self _ _
 omega
theorem Qz6 (hp : part = 1 \/ part = 2) (hn : m.Heights.length <= 8) (hne : m.Errors.length = m.Pairs.length) (hnp : m.Pairs.length <= 12) (hh : ∀ j, j < m.Heights.length -> -100000 <= gx m.Heights j /\ gx m.Heights j <= 100000) :
 ∀ (d fuel i : Nat), m.Pairs.length = i + d -> d < fuel -> ∃ r, Qu k m part fuel (rds m part i) (i : Int) = some r /\ (r = .inl () \/ r = .inr (rds m part m.Pairs.length) /\ ∀ j, i <= j -> j < m.Pairs.length -> okP m j) := by
 intro d
 induction d with
 | zero =>
   intro fuel i he hf
   obtain ⟨f, rfl⟩ : ∃ f, fuel = f + 1 := ⟨fuel - 1, by omega⟩
   exact ⟨_, by rw [Qu.eq_2, if_neg (by omega)], .inr ⟨by rw [show m.Pairs.length = i by omega], fun j h1 h2 => by omega⟩⟩
 | succ d ih =>
   intro fuel i he hf
   obtain ⟨f, rfl⟩ : ∃ f, fuel = f + 1 := ⟨fuel - 1, by omega⟩
   rw [Qu.eq_2, if_pos (by omega), if_pos (by omega), if_pos (show 0 <= (i : Int) /\ (i : Int) < (m.Errors.length : Int) by omega), Yd, Yd, Yd, Yd, Int.toNat_natCast, Option.bind_some, Option.bind_some, Option.bind_some, Option.bind_some]
   rw [show m.Pairs.getD i default = pr m i from rfl, show m.Errors.getD i default = er m i from rfl]
   by_cases c1 : inR 0 (w64 ((m.Heights.length : Int) - 1)) (pr m i).e0 = true
   case neg => rw [if_neg c1]; exact ⟨_, rfl, .inl rfl⟩
   rw [if_pos c1]
   by_cases c2 : inR 0 (w64 ((m.Heights.length : Int) - 1)) (pr m i).e1 = true
   case neg => rw [if_neg c2]; exact ⟨_, rfl, .inl rfl⟩
   rw [if_pos c2]
   by_cases c3 : (pr m i).e0 = (pr m i).e1
   ·rw [if_pos c3]; exact ⟨_, rfl, .inl rfl⟩
   rw [if_neg c3]
   by_cases c4 : inR 0 100000 (er m i).e0 = true
   case neg => rw [if_neg c4]; exact ⟨_, rfl, .inl rfl⟩
   rw [if_pos c4]
   by_cases c5 : inR 0 100000 (er m i).e1 = true
   case neg => rw [if_neg c5]; exact ⟨_, rfl, .inl rfl⟩
   rw [if_pos c5]
   rw [Y7 (n := (m.Heights.length : Int) - 1) (by omega) (by omega), Qco] at c1 c2
   rw [Qco] at c4 c5
   have g1 := hh (pr m i).e1.toNat (by omega)
   have g0 := hh (pr m i).e0.toNat (by omega)
   have t0 := Qix c4 hp
   have t1 := Qix c5 hp
   rw [if_pos (show 0 <= (pr m i).e1 /\ (pr m i).e1 < (m.Heights.length : Int) by omega), if_pos (show 0 <= (pr m i).e0 /\ (pr m i).e0 < (m.Heights.length : Int) by omega), if_pos (show part ≠ 0 by omega), if_pos (by rw [Qvm]; simp; omega)]
   rw [show m.Heights.getD (pr m i).e1.toNat 0 = gx m.Heights (pr m i).e1.toNat from rfl, show m.Heights.getD (pr m i).e0.toNat 0 = gx m.Heights (pr m i).e0.toNat from rfl]
   rw [Y7 (n := gx m.Heights (pr m i).e1.toNat - gx m.Heights (pr m i).e0.toNat) (by omega) (by omega), Y7 (n := (er m i).e0.tdiv part) (by omega) (by omega), Y7 (n := (er m i).e1.tdiv part) (by omega) (by omega), Y7 (n := gx m.Heights (pr m i).e1.toNat - gx m.Heights (pr m i).e0.toNat - (er m i).e0.tdiv part) (by omega) (by omega), Y7 (n := gx m.Heights (pr m i).e1.toNat - gx m.Heights (pr m i).e0.toNat + (er m i).e1.tdiv part) (by omega) (by omega), J8 (by omega)]
   have ea : rds m part i ++ [rdg m part i] = rds m part (i + 1) := by simp [rds, List.range_succ]
   obtain ⟨r, e1, e2⟩ := ih f (i + 1) (by omega) (by omega)
   rw [<- ea] at e1
   refine ⟨r, e1, ?_⟩
   rcases e2 with e2 | ⟨e2, e3⟩
   ·exact .inl e2
   ·refine .inr ⟨e2, fun j h1 h2 => ?_⟩
    by_cases e : j = i
    ·rw [e]; exact ⟨by omega, by omega, c3, c4, c5⟩
    ·exact e3 j (by omega) h2
theorem Qsm (hk : 2000 < k) (m : Ze) (hp : part = 1 \/ part = 2) : ∃ r, Xj k m part = some r /\ (r.2 = false \/ r = (rds m part m.Pairs.length, true) /\ V m) := by
 unfold Xj
 rw [Yd, Option.bind_some]
 by_cases c1 : inR 1 8 (m.Heights.length : Int) = true
 case neg => rw [if_neg c1]; exact ⟨_, rfl, .inl rfl⟩
 rw [if_pos c1]
 rw [Qco] at c1
 by_cases c2 : 12 < (m.Pairs.length : Int)
 ·rw [if_pos c2]; exact ⟨_, rfl, .inl rfl⟩
 rw [if_neg c2]
 by_cases c3 : (m.Errors.length : Int) = (m.Pairs.length : Int)
 case neg => rw [if_neg c3]; exact ⟨_, rfl, .inl rfl⟩
 rw [if_pos c3]
 obtain ⟨r, e1, e2⟩ := Qvn (k := k) m part (by omega) m.Heights.length k 0 (by omega) (by omega)
 rw [show Qs k m part k 0 = _ from e1, Option.bind_some]
 rcases e2 with rfl | ⟨rfl, hh⟩
 ·exact ⟨_, rfl, .inl rfl⟩
 obtain ⟨r, e3, e4⟩ := Qz6 (k := k) (m := m) hp (by omega) (by omega) (by omega) (fun j hj => hh j (by omega) hj) m.Pairs.length k 0 (by omega) (by omega)
 have e3' : Qu k m part k ([] : List Qd) 0 = some r := e3
 dsimp only
 rw [e3', Option.bind_some]
 rcases e4 with rfl | ⟨rfl, hp⟩
 ·exact ⟨_, rfl, .inl rfl⟩
 ·exact ⟨_, rfl, .inr ⟨rfl, ⟨by omega, by omega, by omega, fun j hj => hh j (by omega) hj, fun i hi => hp i (by omega) hi⟩⟩⟩
theorem Qma {α : Type} {f : α -> Int} : ∀ {l : List α}, (∀ x, x ∈ l -> f x = 0) -> Qif f l = 0
 | [], _ => rfl
 | x :: l, h => by rw [Qif, if_pos (h x (by simp))]; exact Qma (fun y hy => h y (by simp [hy]))
theorem Qvo {r : Qd} {n : Nat} (h : r ∈ rds m part n) : ∃ i, i < n /\ r = rdg m part i := by
 obtain ⟨i, h1, h2⟩ := List.mem_map.1 h
 exact ⟨i, List.mem_range.1 h1, h2.symm⟩
theorem Qza (v : V m) (hp : part = 1 \/ part = 2) : chkE (m.Heights.length : Int) (rds m part m.Pairs.length) = 0 := by
 have hn := v.n
 have hnp := v.np
 unfold chkE
 rw [if_pos (Qco.2 (by omega)), if_neg (by rw [Qvm]; omega)]
 refine Qma fun r hr => ?_
 obtain ⟨i, hi, rfl⟩ := Qvo hr
 obtain ⟨p1, p2, p3, p4, p5⟩ := v.p i hi
 have g1 := v.h (pr m i).e1.toNat (by omega)
 have g0 := v.h (pr m i).e0.toNat (by omega)
 have t0 := Qix p4 hp
 have t1 := Qix p5 hp
 unfold rdE
 rw [if_pos (by rw [Bool.and_eq_true, Qco, Qco]; show (0 <= (pr m i).e0 /\ (pr m i).e0 <= _) /\ 0 <= (pr m i).e1 /\ (pr m i).e1 <= _; omega), if_neg (show ¬ (rdg m part i).From = (rdg m part i).To from p3), if_pos (by
  rw [Bool.and_eq_true, Qco, Qco]
  show (_ <= df m i - (er m i).e0.tdiv part /\ df m i - (er m i).e0.tdiv part <= _) /\ _ <= df m i + (er m i).e1.tdiv part /\ df m i + (er m i).e1.tdiv part <= _
  unfold df; omega), if_neg (show ¬ (rdg m part i).Diff.Hi < (rdg m part i).Diff.Lo from (show ¬ df m i + (er m i).e1.tdiv part < df m i - (er m i).e0.tdiv part by omega))]
theorem Qwp (v : V m) (hp : part = 1 \/ part = 2) : ∀ r ∈ rds m part m.Pairs.length, keep m.Heights r = true := by
 intro r hr
 obtain ⟨i, hi, rfl⟩ := Qvo hr
 obtain ⟨p1, p2, p3, p4, p5⟩ := v.p i hi
 have t0 := Qix p4 hp
 have t1 := Qix p5 hp
 refine Qco.2 ?_
 show df m i - (er m i).e0.tdiv part <= df m i /\ df m i <= df m i + (er m i).e1.tdiv part
 omega
end
end Go.Proofs.Ytjfkkcldffgekaa.Vg
