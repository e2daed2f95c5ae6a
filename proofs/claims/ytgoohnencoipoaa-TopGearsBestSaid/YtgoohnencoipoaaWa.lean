import Derived.Test.YtgoohnencoipoaaVv19
set_option linter.unusedVariables false
set_option linter.unusedSimpArgs false
namespace Go.Proofs.Ytgoohnencoipoaa.Vv
open Go Go.Proofs.Ytgoohnencoipoaa.Ev
end Go.Proofs.Ytgoohnencoipoaa.Vv
namespace Go.Proofs.Ytgoohnencoipoaa.Vv
open Go Go.Proofs.Ytgoohnencoipoaa.Ev
def vs (s : ByteArray) : VV := .c (.string s)
theorem tt : True := trivial
theorem dt {p : Prop} [i : Decidable p] (h : p) : decide p = true := decide_eq_true h
theorem df {p : Prop} [i : Decidable p] (h : ¬ p) : decide p = false := decide_eq_false h
theorem Qgz (xs : List Bool) : (xs.map vb).map unfr = xs.map vb := by rw [List.map_map]; rfl
theorem Qg0 (xs : List ByteArray) : (xs.map vs).map unfr = xs.map vs := by rw [List.map_map]; rfl
theorem un_i (n : Int) : unfr (vi n) = vi n := rfl
theorem un_k (k : IntKind) (n : Int) : unfr (.c (.int k n)) = .c (.int k n) := rfl
theorem un_b (b : Bool) : unfr (vb b) = vb b := rfl
theorem un_s (s : ByteArray) : unfr (vs s) = vs s := rfl
theorem Qhp (cs : List VV) (n : Nat) : unfr (.tr cs n) = .tr cs n := rfl
theorem Qqf (cs : List VV) (n : Nat) : unfr (.fr cs n) = .tr cs n := rfl
theorem Wv.part {cells cells' : List VV} {n n' : Nat} (h : cells' = cells.take cells'.length) (hn : n = n') : Wv (.tr cells n) (.tr cells' n') := fun o fb m x hr => by
 subst hn
 cases hr with
 | t h0 =>
   cases h0 with
   | e =>
     refine .t ?_
     exact .e
   | tr hb hn hs hh =>
     have hle : cells'.length <= cells.length := by
      have := congrArg List.length h
      rw [List.length_take] at this; omega
     refine .t (.tr hb hn (by omega) (fun j v v' a b => hh j v v' ?_ b))
     rw [h, List.getElem?_take] at a
     split at a
     ·exact a
     ·cases a
end Go.Proofs.Ytgoohnencoipoaa.Vv
namespace Go.Proofs.Ytgoohnencoipoaa.Vv
open Go Go.Proofs.Ytgoohnencoipoaa.Ev
theorem bs {α β : Type} {o : Option α} {f : α -> Option β} {r : β} (h : o.bind f = some r) : ∃ a, o = some a /\ f a = some r := Option.bind_eq_some_iff.1 h
theorem ifs {α : Type} {c : Prop} [Decidable c] {a b x : α} (h : (if c then a else b) = x) : (c /\ a = x) \/ (¬c /\ b = x) := by
 by_cases hc : c
 ·rw [if_pos hc] at h; exact .inl ⟨hc, h⟩
 ·rw [if_neg hc] at h; exact .inr ⟨hc, h⟩
theorem ifn {α : Type} {c : Prop} [Decidable c] {a : Option α} {x : α} (h : (if c then a else none) = some x) : c /\ a = some x := by
 by_cases hc : c
 ·rw [if_pos hc] at h; exact ⟨hc, h⟩
 ·rw [if_neg hc] at h; cases h
def nN : Nat -> List Ans -> List Ans
 | 0, l => l
 | n + 1, l => .n :: nN n l
def nS : Nat -> List Ans -> List Ans
 | 0, l => l
 | n + 1, l => .skip :: nS n l
theorem ti {p : Prop} (h : p) : True /\ p := ⟨trivial, h⟩
theorem an {p q : Prop} (h : p) (h2 : q) : p /\ q := ⟨h, h2⟩
theorem rt : true = true := rfl
theorem rf : false = false := rfl
theorem pkR {rd : Option Nat} {P : Program} {fn : Func} {k : Nat} {s s1 : VS} {ans : List An} {c : Cut} {e : Exit} {q : Prop} (hq : q) (h : Qj6 rd P fn k s ans c = some (e, s1, q)) : ∃ q : Prop, Qj6 rd P fn k s ans c = some (e, s1, q) /\ q := ⟨q, h, hq⟩
end Go.Proofs.Ytgoohnencoipoaa.Vv
namespace Go.Proofs.Ytgoohnencoipoaa.Vv
open Go Go.Proofs.Ytgoohnencoipoaa.Ev
end Go.Proofs.Ytgoohnencoipoaa.Vv
namespace Go.Proofs.Ytgoohnencoipoaa.Vv
open Go Go.Proofs.Ytgoohnencoipoaa.Ev
end Go.Proofs.Ytgoohnencoipoaa.Vv
