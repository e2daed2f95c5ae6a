import Derived.Test.YtfeedchjdnedjaaVv19
set_option linter.unusedVariables false
set_option linter.unusedSimpArgs false
namespace Go.Proofs.Ytfeedchjdnedjaa.Vv
open Go Go.Proofs.Ytfeedchjdnedjaa.Ev
end Go.Proofs.Ytfeedchjdnedjaa.Vv
namespace Go.Proofs.Ytfeedchjdnedjaa.Vv
open Go Go.Proofs.Ytfeedchjdnedjaa.Ev
def vs (s : ByteArray) : VV := .c (.string s)
def sl {A : Type} (xs : List A) (l h : Nat) : List A := (xs.drop l).take (h - l)
theorem tt : True := trivial
theorem dt {p : Prop} [i : Decidable p] (h : p) : decide p = true := decide_eq_true h
theorem df {p : Prop} [i : Decidable p] (h : ¬ p) : decide p = false := decide_eq_false h
theorem Qzx {A : Type} (xs : List A) (l h : Nat) : (sl xs l h).length = min (h - l) (xs.length - l) := by
 unfold sl; rw [List.length_take, List.length_drop]
theorem Qwp {A : Type} {c : A -> List VV} {s : Nat} (hc : ∀ x, (c x).length = s) (xs : List A) (l h : Nat) (h1 : l <= h) (h2 : h <= xs.length) : VV.tr (List.take ((h - l) * s) (List.drop (l * s) (xs.flatMap c))) (h - l) = VV.tr ((sl xs l h).flatMap c) (sl xs l h).length := by
 rw [Qzx, Nat.min_eq_left (by omega), Qe4 hc]
 unfold sl
 congr 1
 have hd : ∀ (n : Nat) (ys : List A), n <= ys.length -> (ys.flatMap c).take (n * s) = (ys.take n).flatMap c := by
  intro n
  induction n with
  | zero => intro ys _; simp
  | succ n ih =>
    intro ys hy
    cases ys with
    | nil => simp at hy
    | cons y ys =>
      rw [List.flatMap_cons, List.take_succ_cons, List.flatMap_cons, show (n + 1) * s = s + n * s by rw [Nat.add_mul]; omega, List.take_append, hc, List.take_of_length_le (by rw [hc]; omega), Nat.add_sub_cancel_left, ih ys (by simpa using hy)]
 exact hd _ _ (by rw [List.length_drop]; omega)
theorem Wi (xs : List Bool) : (xs.map vb).map unfr = xs.map vb := by rw [List.map_map]; rfl
theorem X6 (xs : List ByteArray) : (xs.map vs).map unfr = xs.map vs := by rw [List.map_map]; rfl
theorem Qqa (xs : List ByteArray) : (xs.map vs).all VV.still = true := all_map (fun _ => rfl) xs
theorem Qx3 (xs : List ByteArray) : (xs.map vs).all new0 = true := all_map (fun _ => rfl) xs
theorem un_i (n : Int) : unfr (vi n) = vi n := rfl
theorem un_k (k : IntKind) (n : Int) : unfr (.c (.int k n)) = .c (.int k n) := rfl
theorem un_b (b : Bool) : unfr (vb b) = vb b := rfl
theorem un_s (s : ByteArray) : unfr (vs s) = vs s := rfl
theorem Qcd (cs : List VV) (n : Nat) : unfr (.tr cs n) = .tr cs n := rfl
theorem Qff (cs : List VV) (n : Nat) : unfr (.fr cs n) = .tr cs n := rfl
theorem Qee {P : Program} {t : TypeId} (hag : Qaq P t = some false) {off : Nat} {cells : List VV} {v : VV} (h : getL off cells = some v) : Jw P t off cells = some v := by
 unfold Jw; rw [hag]; exact h
theorem Wv.part {cells cells' : List VV} {n n' : Nat} (h : cells' = cells.take cells'.length) (hn : n = n') : Wv (.tr cells n) (.tr cells' n') := fun o fb m x hr => by
 subst hn
 cases hr with
 | t h0 =>
   cases h0 with
   | e =>
     refine .t ?_
     exact .e
   | tr hb hn hs hh =>
     have hle : cells'.length <= cells.length := by
      have := congrArg List.length h
      rw [List.length_take] at this; omega
     refine .t (.tr hb hn (by omega) (fun j v v' a b => hh j v v' ?_ b))
     rw [h, List.getElem?_take] at a
     split at a
     ·exact a
     ·cases a
end Go.Proofs.Ytfeedchjdnedjaa.Vv
namespace Go.Proofs.Ytfeedchjdnedjaa.Vv
open Go Go.Proofs.Ytfeedchjdnedjaa.Ev
theorem bs {α β : Type} {o : Option α} {f : α -> Option β} {r : β} (h : o.bind f = some r) : ∃ a, o = some a /\ f a = some r := Option.bind_eq_some_iff.1 h
theorem ifs {α : Type} {c : Prop} [Decidable c] {a b x : α} (h : (if c then a else b) = x) : (c /\ a = x) \/ (¬c /\ b = x) := by
 by_cases hc : c
 ·rw [if_pos hc] at h; exact .inl ⟨hc, h⟩
 ·rw [if_neg hc] at h; exact .inr ⟨hc, h⟩
theorem ifn {α : Type} {c : Prop} [Decidable c] {a : Option α} {x : α} (h : (if c then a else none) = some x) : c /\ a = some x := by
 by_cases hc : c
 ·rw [if_pos hc] at h; exact ⟨hc, h⟩
 ·rw [if_neg hc] at h; cases h
def nN : Nat -> List Ans -> List Ans
 | 0, l => l
 | n + 1, l => .n :: nN n l
def nS : Nat -> List Ans -> List Ans
 | 0, l => l
 | n + 1, l => .skip :: nS n l
theorem ti {p : Prop} (h : p) : True /\ p := ⟨trivial, h⟩
theorem an {p q : Prop} (h : p) (h2 : q) : p /\ q := ⟨h, h2⟩
theorem rt : true = true := rfl
theorem rf : false = false := rfl
theorem pkR {rd : Option Nat} {P : Program} {fn : Func} {k : Nat} {s s1 : VS} {ans : List An} {c : Cut} {e : Exit} {q : Prop} (hq : q) (h : Qkd rd P fn k s ans c = some (e, s1, q)) : ∃ q : Prop, Qkd rd P fn k s ans c = some (e, s1, q) /\ q := ⟨q, h, hq⟩
end Go.Proofs.Ytfeedchjdnedjaa.Vv
namespace Go.Proofs.Ytfeedchjdnedjaa.Vv
open Go Go.Proofs.Ytfeedchjdnedjaa.Ev
def mpE {V : Type} (fv : V -> VV) (e : ByteArray × V) : List VV := [vs e.1, fv e.2]
def mhas {V : Type} : List (ByteArray × V) -> ByteArray -> Bool
 | [], _ => false
 | e :: l, k => decide (k = e.1) || mhas l k
def mget {V : Type} [Inhabited V] : List (ByteArray × V) -> ByteArray -> V
 | [], _ => default
 | e :: l, k => match decide (k = e.1) with
   | true => e.2
   | false => mget l k
def mset {V : Type} : List (ByteArray × V) -> ByteArray -> V -> List (ByteArray × V)
 | [], k, v => [(k, v)]
 | e :: l, k, v => match decide (k = e.1) with
   | true => (e.1, v) :: l
   | false => e :: mset l k v
theorem Yg {V : Type} (fv : V -> VV) (k : ByteArray) : ∀ l : List (ByteArray × V), Qbo (kdV (.string k)) (l.flatMap (mpE fv)) = true
 | [] => rfl
 | e :: l => by
   show ((decide (KK.s = KK.s)) && Qbo (kdV (.string k)) (l.flatMap (mpE fv))) = true
   rw [Yg fv k l]; rfl
theorem Qh4 {V : Type} [Inhabited V] (fv : V -> VV) (k : ByteArray) : ∀ l : List (ByteArray × V), mhas l k = true -> lkM (.string k) (l.flatMap (mpE fv)) = some (fv (mget l k))
 | [], h => by cases h
 | e :: l, h => by
   show (bif decide (k = e.1) then some (fv e.2) else lkM (.string k) (l.flatMap (mpE fv))) = _
   simp only [mhas] at h
   simp only [mget]
   cases hd : decide (k = e.1) with
   | true => rfl
   | false => rw [hd] at h; exact Qh4 fv k l h
theorem Ql3 {V : Type} (fv : V -> VV) (k : ByteArray) : ∀ l : List (ByteArray × V), mhas l k = false -> lkM (.string k) (l.flatMap (mpE fv)) = none
 | [], _ => rfl
 | e :: l, h => by
   show (bif decide (k = e.1) then some (fv e.2) else lkM (.string k) (l.flatMap (mpE fv))) = _
   simp only [mhas] at h
   cases hd : decide (k = e.1) with
   | true => rw [hd] at h; cases h
   | false => rw [hd] at h; exact Ql3 fv k l h
theorem Qda {V : Type} (fv : V -> VV) (k : ByteArray) (v : V) : ∀ l : List (ByteArray × V), upM (.string k) (fv v) (l.flatMap (mpE fv)) = (mset l k v).flatMap (mpE fv)
 | [] => rfl
 | e :: l => by
   show (bif decide (k = e.1) then vs e.1 :: fv v :: l.flatMap (mpE fv) else vs e.1 :: fv e.2 :: upM (.string k) (fv v) (l.flatMap (mpE fv))) = _
   simp only [mset]
   cases hd : decide (k = e.1) with
   | true => rfl
   | false => rw [Qda fv k v l]; rfl
end Go.Proofs.Ytfeedchjdnedjaa.Vv
namespace Go.Proofs.Ytfeedchjdnedjaa.Vv
open Go Go.Proofs.Ytfeedchjdnedjaa.Ev
end Go.Proofs.Ytfeedchjdnedjaa.Vv
