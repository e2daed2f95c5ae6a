import Derived.Test.YtenebnfhhhcfaaaVv19
set_option linter.unusedVariables false
set_option linter.unusedSimpArgs false
namespace Go.Proofs.Ytenebnfhhhcfaaa.Vv
open Go Go.Proofs.Ytenebnfhhhcfaaa.Ev
end Go.Proofs.Ytenebnfhhhcfaaa.Vv
namespace Go.Proofs.Ytenebnfhhhcfaaa.Vv
open Go Go.Proofs.Ytenebnfhhhcfaaa.Ev
def vs (s : ByteArray) : VV := .c (.string s)
theorem t2 {p : Prop} (h : p) : True /\ True /\ p := ⟨trivial, trivial, h⟩
theorem t3 {p : Prop} (h : p) : True /\ True /\ True /\ p := ⟨trivial, trivial, trivial, h⟩
theorem t4 {p : Prop} (h : p) : True /\ True /\ True /\ True /\ p := ⟨trivial, trivial, trivial, trivial, h⟩
theorem t5 {p : Prop} (h : p) : True /\ True /\ True /\ True /\ True /\ p := ⟨trivial, trivial, trivial, trivial, trivial, h⟩
theorem t6 {p : Prop} (h : p) : True /\ True /\ True /\ True /\ True /\ True /\ p := ⟨trivial, trivial, trivial, trivial, trivial, trivial, h⟩
theorem t7 {p : Prop} (h : p) : True /\ True /\ True /\ True /\ True /\ True /\ True /\ p := ⟨trivial, trivial, trivial, trivial, trivial, trivial, trivial, h⟩
theorem t8 {p : Prop} (h : p) : True /\ True /\ True /\ True /\ True /\ True /\ True /\ True /\ p := ⟨trivial, trivial, trivial, trivial, trivial, trivial, trivial, trivial, h⟩
theorem t9 {p : Prop} (h : p) : True /\ True /\ True /\ True /\ True /\ True /\ True /\ True /\ True /\ p := ⟨trivial, trivial, trivial, trivial, trivial, trivial, trivial, trivial, trivial, h⟩
theorem u2 {p q : Prop} (h : p) (k : q) : p /\ p /\ q := ⟨h, h, k⟩
theorem u3 {p q : Prop} (h : p) (k : q) : p /\ p /\ p /\ q := ⟨h, h, h, k⟩
theorem u4 {p q : Prop} (h : p) (k : q) : p /\ p /\ p /\ p /\ q := ⟨h, h, h, h, k⟩
theorem u5 {p q : Prop} (h : p) (k : q) : p /\ p /\ p /\ p /\ p /\ q := ⟨h, h, h, h, h, k⟩
theorem u6 {p q : Prop} (h : p) (k : q) : p /\ p /\ p /\ p /\ p /\ p /\ q := ⟨h, h, h, h, h, h, k⟩
theorem u7 {p q : Prop} (h : p) (k : q) : p /\ p /\ p /\ p /\ p /\ p /\ p /\ q := ⟨h, h, h, h, h, h, h, k⟩
theorem u8 {p q : Prop} (h : p) (k : q) : p /\ p /\ p /\ p /\ p /\ p /\ p /\ p /\ q := ⟨h, h, h, h, h, h, h, h, k⟩
theorem u9 {p q : Prop} (h : p) (k : q) : p /\ p /\ p /\ p /\ p /\ p /\ p /\ p /\ p /\ q := ⟨h, h, h, h, h, h, h, h, h, k⟩
theorem ta {p : Prop} [i : Decidable p] (h : p) : (!decide p) = false /\ True := ⟨by rw [decide_eq_true h]; rfl, trivial⟩
theorem tb {p : Prop} [i : Decidable p] (h : ¬ p) : (!decide p) = true /\ True := ⟨by rw [decide_eq_false h]; rfl, trivial⟩
theorem tc {p : Prop} [i : Decidable p] (h : p) : (!decide p) = false := by rw [decide_eq_true h]; rfl
theorem td {p : Prop} [i : Decidable p] (h : ¬ p) : (!decide p) = true := by rw [decide_eq_false h]; rfl
theorem te {p : Prop} [i : Decidable p] (h : p) : decide p = true /\ True := ⟨decide_eq_true h, trivial⟩
theorem tf {p : Prop} [i : Decidable p] (h : ¬ p) : decide p = false /\ True := ⟨decide_eq_false h, trivial⟩
theorem tt : True := trivial
theorem dt {p : Prop} [i : Decidable p] (h : p) : decide p = true := decide_eq_true h
theorem df {p : Prop} [i : Decidable p] (h : ¬ p) : decide p = false := decide_eq_false h
theorem Qcw (xs : List Bool) : (xs.map vb).map unfr = xs.map vb := by rw [List.map_map]; rfl
theorem Qcx (xs : List ByteArray) : (xs.map vs).map unfr = xs.map vs := by rw [List.map_map]; rfl
theorem un_i (n : Int) : unfr (vi n) = vi n := rfl
theorem un_k (k : IntKind) (n : Int) : unfr (.c (.int k n)) = .c (.int k n) := rfl
theorem un_b (b : Bool) : unfr (vb b) = vb b := rfl
theorem un_s (s : ByteArray) : unfr (vs s) = vs s := rfl
theorem Qck (cs : List VV) (n : Nat) : unfr (.tr cs n) = .tr cs n := rfl
theorem Qgk (cs : List VV) (n : Nat) : unfr (.fr cs n) = .tr cs n := rfl
theorem Qo9 {P : Program} {t : TypeId} (hag : Y2 P t = some false) {off : Nat} {cells : List VV} {v : VV} (h : getL off cells = some v) : Jz P t off cells = some v := by
 unfold Jz; rw [hag]; exact h
theorem Quu {P : Program} {t : TypeId} (hag : Y2 P t = some true) {n off : Nat} (hs : szOf P t = some n) {cells l : List VV} (h : Yi n (Yw off cells) = some l) : Jz P t off cells = some (.ag l) := by
 unfold Jz; rw [hag]; dsimp only; rw [hs]; dsimp only; rw [h]
theorem Wv.part {cells cells' : List VV} {n n' : Nat} (h : cells' = cells.take cells'.length) (hn : n = n') : Wv (.tr cells n) (.tr cells' n') := fun o fb m x hr => by
 subst hn
 cases hr with
 | t h0 =>
   cases h0 with
   | e =>
     refine .t ?_
     exact .e
   | tr hb hn hs hh =>
     have hle : cells'.length <= cells.length := by
      have := congrArg List.length h
      rw [List.length_take] at this; omega
     refine .t (.tr hb hn (by omega) (fun j v v' a b => hh j v v' ?_ b))
     rw [h, List.getElem?_take] at a
     split at a
     ·exact a
     ·cases a
end Go.Proofs.Ytenebnfhhhcfaaa.Vv
namespace Go.Proofs.Ytenebnfhhhcfaaa.Vv
open Go Go.Proofs.Ytenebnfhhhcfaaa.Ev
theorem Qbm {α : Type} {c d : α -> List VV} (h : ∀ x, (c x).map unfr = d x) : ∀ xs : List α, (xs.flatMap c).map unfr = xs.flatMap d
 | [] => rfl
 | x :: xs => by rw [List.flatMap_cons, List.flatMap_cons, List.map_append, h, Qbm h xs]
theorem bs {α β : Type} {o : Option α} {f : α -> Option β} {r : β} (h : o.bind f = some r) : ∃ a, o = some a /\ f a = some r := Option.bind_eq_some_iff.1 h
theorem ifs {α : Type} {c : Prop} [Decidable c] {a b x : α} (h : (if c then a else b) = x) : (c /\ a = x) \/ (¬c /\ b = x) := by
 by_cases hc : c
 ·rw [if_pos hc] at h; exact .inl ⟨hc, h⟩
 ·rw [if_neg hc] at h; exact .inr ⟨hc, h⟩
theorem ifn {α : Type} {c : Prop} [Decidable c] {a : Option α} {x : α} (h : (if c then a else none) = some x) : c /\ a = some x := by
 by_cases hc : c
 ·rw [if_pos hc] at h; exact ⟨hc, h⟩
 ·rw [if_neg hc] at h; cases h
def nN : Nat -> List Ans -> List Ans
 | 0, l => l
 | n + 1, l => .n :: nN n l
def nS : Nat -> List Ans -> List Ans
 | 0, l => l
 | n + 1, l => .skip :: nS n l
theorem ti {p : Prop} (h : p) : True /\ p := ⟨trivial, h⟩
theorem an {p q : Prop} (h : p) (h2 : q) : p /\ q := ⟨h, h2⟩
theorem rt : true = true := rfl
theorem rf : false = false := rfl
theorem pkR {rd : Option Nat} {P : Program} {fn : Func} {k : Nat} {s s1 : VS} {ans : List An} {c : Cut} {e : Exit} {q : Prop} (hq : q) (h : Qht rd P fn k s ans c = some (e, s1, q)) : ∃ q : Prop, Qht rd P fn k s ans c = some (e, s1, q) /\ q := ⟨q, h, hq⟩
end Go.Proofs.Ytenebnfhhhcfaaa.Vv
namespace Go.Proofs.Ytenebnfhhhcfaaa.Vv
open Go Go.Proofs.Ytenebnfhhhcfaaa.Ev
end Go.Proofs.Ytenebnfhhhcfaaa.Vv
namespace Go.Proofs.Ytenebnfhhhcfaaa.Vv
open Go Go.Proofs.Ytenebnfhhhcfaaa.Ev
end Go.Proofs.Ytenebnfhhhcfaaa.Vv
