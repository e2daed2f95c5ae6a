import Derived.Test.YtjomicmhnbmhoaaVv19
set_option linter.unusedVariables false
set_option linter.unusedSimpArgs false
namespace Go.Proofs.Ytjomicmhnbmhoaa.Vv
open Go Go.Proofs.Ytjomicmhnbmhoaa.Ev
end Go.Proofs.Ytjomicmhnbmhoaa.Vv
namespace Go.Proofs.Ytjomicmhnbmhoaa.Vv
open Go Go.Proofs.Ytjomicmhnbmhoaa.Ev
def vs (s : ByteArray) : VV := .c (.string s)
def sl {A : Type} (xs : List A) (l h : Nat) : List A := (xs.drop l).take (h - l)
theorem t2 {p : Prop} (h : p) : True /\ True /\ p := ⟨trivial, trivial, h⟩
theorem t3 {p : Prop} (h : p) : True /\ True /\ True /\ p := ⟨trivial, trivial, trivial, h⟩
theorem t4 {p : Prop} (h : p) : True /\ True /\ True /\ True /\ p := ⟨trivial, trivial, trivial, trivial, h⟩
theorem t5 {p : Prop} (h : p) : True /\ True /\ True /\ True /\ True /\ p := ⟨trivial, trivial, trivial, trivial, trivial, h⟩
theorem t6 {p : Prop} (h : p) : True /\ True /\ True /\ True /\ True /\ True /\ p := ⟨trivial, trivial, trivial, trivial, trivial, trivial, h⟩
theorem t7 {p : Prop} (h : p) : True /\ True /\ True /\ True /\ True /\ True /\ True /\ p := ⟨trivial, trivial, trivial, trivial, trivial, trivial, trivial, h⟩
theorem t8 {p : Prop} (h : p) : True /\ True /\ True /\ True /\ True /\ True /\ True /\ True /\ p := ⟨trivial, trivial, trivial, trivial, trivial, trivial, trivial, trivial, h⟩
theorem t9 {p : Prop} (h : p) : True /\ True /\ True /\ True /\ True /\ True /\ True /\ True /\ True /\ p := ⟨trivial, trivial, trivial, trivial, trivial, trivial, trivial, trivial, trivial, h⟩
theorem w2 {p q : Prop} (h : p) (k : q) : p /\ p /\ q := ⟨h, h, k⟩
theorem w3 {p q : Prop} (h : p) (k : q) : p /\ p /\ p /\ q := ⟨h, h, h, k⟩
theorem w4 {p q : Prop} (h : p) (k : q) : p /\ p /\ p /\ p /\ q := ⟨h, h, h, h, k⟩
theorem w5 {p q : Prop} (h : p) (k : q) : p /\ p /\ p /\ p /\ p /\ q := ⟨h, h, h, h, h, k⟩
theorem w6 {p q : Prop} (h : p) (k : q) : p /\ p /\ p /\ p /\ p /\ p /\ q := ⟨h, h, h, h, h, h, k⟩
theorem w7 {p q : Prop} (h : p) (k : q) : p /\ p /\ p /\ p /\ p /\ p /\ p /\ q := ⟨h, h, h, h, h, h, h, k⟩
theorem w8 {p q : Prop} (h : p) (k : q) : p /\ p /\ p /\ p /\ p /\ p /\ p /\ p /\ q := ⟨h, h, h, h, h, h, h, h, k⟩
theorem w9 {p q : Prop} (h : p) (k : q) : p /\ p /\ p /\ p /\ p /\ p /\ p /\ p /\ p /\ q := ⟨h, h, h, h, h, h, h, h, h, k⟩
theorem ta {p : Prop} [i : Decidable p] (h : p) : (!decide p) = false /\ True := ⟨by rw [decide_eq_true h]; rfl, trivial⟩
theorem tb {p : Prop} [i : Decidable p] (h : ¬ p) : (!decide p) = true /\ True := ⟨by rw [decide_eq_false h]; rfl, trivial⟩
theorem tc {p : Prop} [i : Decidable p] (h : p) : (!decide p) = false := by rw [decide_eq_true h]; rfl
theorem td {p : Prop} [i : Decidable p] (h : ¬ p) : (!decide p) = true := by rw [decide_eq_false h]; rfl
theorem te {p : Prop} [i : Decidable p] (h : p) : decide p = true /\ True := ⟨decide_eq_true h, trivial⟩
theorem tf {p : Prop} [i : Decidable p] (h : ¬ p) : decide p = false /\ True := ⟨decide_eq_false h, trivial⟩
theorem si {α : Type} {a b : α} (h : some a = some b) : a = b := Option.some.inj h
def tn (l : List Nat) : List (Nat × Option VV) := l.map fun x => (x, none)
theorem tt : True := trivial
theorem dt {p : Prop} [i : Decidable p] (h : p) : decide p = true := decide_eq_true h
theorem df {p : Prop} [i : Decidable p] (h : ¬ p) : decide p = false := decide_eq_false h
theorem Q5x {A : Type} (xs : List A) (l h : Nat) : (sl xs l h).length = min (h - l) (xs.length - l) := by
 unfold sl; rw [List.length_take, List.length_drop]
theorem Q3t {A : Type} {c : A -> List VV} {s : Nat} (hc : ∀ x, (c x).length = s) (xs : List A) (l h : Nat) (h1 : l <= h) (h2 : h <= xs.length) : VV.tr (List.take ((h - l) * s) (List.drop (l * s) (xs.flatMap c))) (h - l) = VV.tr ((sl xs l h).flatMap c) (sl xs l h).length := by
 rw [Q5x, Nat.min_eq_left (by omega), Qkw hc]
 unfold sl
 congr 1
 have hd : ∀ (n : Nat) (ys : List A), n <= ys.length -> (ys.flatMap c).take (n * s) = (ys.take n).flatMap c := by
  intro n
  induction n with
  | zero => intro ys _; simp
  | succ n ih =>
    intro ys hy
    cases ys with
    | nil => simp at hy
    | cons y ys =>
      rw [List.flatMap_cons, List.take_succ_cons, List.flatMap_cons, show (n + 1) * s = s + n * s by rw [Nat.add_mul]; omega, List.take_append, hc, List.take_of_length_le (by rw [hc]; omega), Nat.add_sub_cancel_left, ih ys (by simpa using hy)]
 exact hd _ _ (by rw [List.length_drop]; omega)
theorem Qfn (xs : List Bool) : (xs.map vb).map unfr = xs.map vb := by rw [List.map_map]; rfl
theorem Qcb (xs : List ByteArray) : (xs.map vs).map unfr = xs.map vs := by rw [List.map_map]; rfl
theorem un_i (n : Int) : unfr (vi n) = vi n := rfl
theorem un_k (k : IntKind) (n : Int) : unfr (.c (.int k n)) = .c (.int k n) := rfl
theorem un_b (b : Bool) : unfr (vb b) = vb b := rfl
theorem un_s (s : ByteArray) : unfr (vs s) = vs s := rfl
theorem Jg (cs : List VV) (n : Nat) : unfr (.tr cs n) = .tr cs n := rfl
theorem Qf0 (cs : List VV) (n : Nat) : unfr (.fr cs n) = .tr cs n := rfl
theorem Qjh {P : Program} {t : TypeId} (hag : Qgw P t = some false) {off : Nat} {cells : List VV} {v : VV} (h : getL off cells = some v) : Zg P t off cells = some v := by
 unfold Zg; rw [hag]; exact h
theorem Q5y {P : Program} {t : TypeId} (hag : Qgw P t = some true) {n off : Nat} (hs : szOf P t = some n) {cells l : List VV} (h : Qf9 n (Qgg off cells) = some l) : Zg P t off cells = some (.ag l) := by
 unfold Zg; rw [hag]; dsimp only; rw [hs]; dsimp only; rw [h]
theorem Wv.part {cells cells' : List VV} {n n' : Nat} (h : cells' = cells.take cells'.length) (hn : n = n') : Wv (.tr cells n) (.tr cells' n') := fun o fb m x hr => by
 subst hn
 cases hr with
 | t h0 =>
   cases h0 with
   | e =>
     refine .t ?_
     exact .e
   | tr hb hn hs hh =>
     have hle : cells'.length <= cells.length := by
      have := congrArg List.length h
      rw [List.length_take] at this; omega
     refine .t (.tr hb hn (by omega) (fun j v v' a b => hh j v v' ?_ b))
     rw [h, List.getElem?_take] at a
     split at a
     ·exact a
     ·cases a
end Go.Proofs.Ytjomicmhnbmhoaa.Vv
namespace Go.Proofs.Ytjomicmhnbmhoaa.Vv
open Go Go.Proofs.Ytjomicmhnbmhoaa.Ev
theorem Qbg {α : Type} {c d : α -> List VV} (h : ∀ x, (c x).map unfr = d x) : ∀ xs : List α, (xs.flatMap c).map unfr = xs.flatMap d
 | [] => rfl
 | x :: xs => by rw [List.flatMap_cons, List.flatMap_cons, List.map_append, h, Qbg h xs]
theorem bs {α β : Type} {o : Option α} {f : α -> Option β} {r : β} (h : o.bind f = some r) : ∃ a, o = some a /\ f a = some r := Option.bind_eq_some_iff.1 h
theorem ifs {α : Type} {c : Prop} [Decidable c] {a b x : α} (h : (if c then a else b) = x) : (c /\ a = x) \/ (¬c /\ b = x) := by
 by_cases hc : c
 ·rw [if_pos hc] at h; exact .inl ⟨hc, h⟩
 ·rw [if_neg hc] at h; exact .inr ⟨hc, h⟩
theorem ifn {α : Type} {c : Prop} [Decidable c] {a : Option α} {x : α} (h : (if c then a else none) = some x) : c /\ a = some x := by
 by_cases hc : c
 ·rw [if_pos hc] at h; exact ⟨hc, h⟩
 ·rw [if_neg hc] at h; cases h
def nN : Nat -> List Ans -> List Ans
 | 0, l => l
 | n + 1, l => .n :: nN n l
def nS : Nat -> List Ans -> List Ans
 | 0, l => l
 | n + 1, l => .skip :: nS n l
theorem ti {p : Prop} (h : p) : True /\ p := ⟨trivial, h⟩
theorem an {p q : Prop} (h : p) (h2 : q) : p /\ q := ⟨h, h2⟩
theorem rt : true = true := rfl
theorem rf : false = false := rfl
theorem pkR {rd : Option Nat} {P : Program} {fn : Func} {k : Nat} {s s1 : VS} {ans : List An} {c : Cut} {e : Exit} {q : Prop} (hq : q) (h : Qqe rd P fn k s ans c = some (e, s1, q)) : ∃ q : Prop, Qqe rd P fn k s ans c = some (e, s1, q) /\ q := ⟨q, h, hq⟩
theorem pK (rd : Option Nat) (P : Program) (fn : Func) (k : Nat) (s : VS) (ans : List An) (c : Cut) (e : Exit) (s1 : VS) {q : Prop} (hq : q) (h : Qqe rd P fn k s ans c = some (e, s1, q)) : ∃ q : Prop, Qqe rd P fn k s ans c = some (e, s1, q) /\ q := ⟨q, h, hq⟩
end Go.Proofs.Ytjomicmhnbmhoaa.Vv
namespace Go.Proofs.Ytjomicmhnbmhoaa.Vv
open Go Go.Proofs.Ytjomicmhnbmhoaa.Ev
end Go.Proofs.Ytjomicmhnbmhoaa.Vv
namespace Go.Proofs.Ytjomicmhnbmhoaa.Vv
open Go Go.Proofs.Ytjomicmhnbmhoaa.Ev
end Go.Proofs.Ytjomicmhnbmhoaa.Vv
