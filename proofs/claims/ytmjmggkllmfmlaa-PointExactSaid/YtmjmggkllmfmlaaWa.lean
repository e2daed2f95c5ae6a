import Derived.Test.YtmjmggkllmfmlaaVv19
set_option linter.unusedVariables false
set_option linter.unusedSimpArgs false
namespace Go.Proofs.Ytmjmggkllmfmlaa.Vv
open Go Go.Proofs.Ytmjmggkllmfmlaa.Ev
theorem flat_len {A : Type} {c : A -> List VV} {m : Nat} (hc : ∀ x, (c x).length = m) : ∀ xs : List A, (xs.flatMap c).length = xs.length * m
 | [] => by simp
 | x :: xs => by rw [List.flatMap_cons, List.length_append, hc, flat_len hc xs, List.length_cons, Nat.add_mul]; omega
theorem putT_part {A : Type} {c : A -> List VV} {m fo : Nat} (hc : ∀ x, (c x).length = m) (xs : List A) {i : Int} (h : 0 <= i /\ i < (xs.length : Int)) (d x : A) (vs : List VV) {off : Nat} (ho : off = i.toNat * m + fo) (hfo : fo + vs.length <= m)
 (hv : c x = (c (xs.getD i.toNat d)).take fo ++ (vs ++ (c (xs.getD i.toNat d)).drop (fo + vs.length))) : putT off (xs.flatMap c) vs = (xs.set i.toNat x).flatMap c := by
 subst ho
 have hlt : i.toNat < xs.length := by omega
 have hg : xs.getD i.toNat d = xs[i.toNat] := by rw [List.getD_eq_getElem?_getD, List.getElem?_eq_getElem hlt]; rfl
 rw [hg] at hv
 have hx : xs = xs.take i.toNat ++ xs[i.toNat] :: xs.drop (i.toNat + 1) := by
  rw [<- List.drop_eq_getElem_cons hlt, List.take_append_drop]
 have hs : xs.set i.toNat x = xs.take i.toNat ++ x :: xs.drop (i.toNat + 1) := by
  rw [List.set_eq_take_append_cons_drop, if_pos hlt]
 have hl : ((xs.take i.toNat).flatMap c).length = i.toNat * m := by rw [flat_len hc, List.length_take, Nat.min_eq_left (by omega)]
 rw [hs]
 generalize xs[i.toNat] = y at hx hv
 generalize xs.take i.toNat = P at hx hl
 generalize xs.drop (i.toNat + 1) = Q at hx
 rw [hx, List.flatMap_append, List.flatMap_append, List.flatMap_cons, List.flatMap_cons, hv]
 unfold putT
 have hy := hc y
 rw [List.take_append, List.drop_append, hl, List.take_of_length_le (by omega), List.drop_of_length_le (by omega), show i.toNat * m + fo - i.toNat * m = fo by omega, show i.toNat * m + fo + vs.length - i.toNat * m = fo + vs.length by omega,
  List.take_append_of_le_length (by omega), List.drop_append_of_le_length (by omega)]
 simp only [List.nil_append, List.append_assoc]
end Go.Proofs.Ytmjmggkllmfmlaa.Vv
namespace Go.Proofs.Ytmjmggkllmfmlaa.Vv
open Go Go.Proofs.Ytmjmggkllmfmlaa.Ev
def vs (s : ByteArray) : VV := .c (.string s)
theorem unfr_vb (xs : List Bool) : (xs.map vb).map unfr = xs.map vb := by rw [List.map_map]; rfl
theorem unfr_vs (xs : List ByteArray) : (xs.map vs).map unfr = xs.map vs := by rw [List.map_map]; rfl
theorem un_i (n : Int) : unfr (vi n) = vi n := rfl
theorem un_k (k : IntKind) (n : Int) : unfr (.c (.int k n)) = .c (.int k n) := rfl
theorem un_b (b : Bool) : unfr (vb b) = vb b := rfl
theorem un_s (s : ByteArray) : unfr (vs s) = vs s := rfl
theorem un_tr (cs : List VV) (n : Nat) : unfr (.tr cs n) = .tr cs n := rfl
theorem un_fr (cs : List VV) (n : Nat) : unfr (.fr cs n) = .tr cs n := rfl
theorem Wv.part {cells cells' : List VV} {n n' : Nat} (h : cells' = cells.take cells'.length) (hn : n = n') : Wv (.tr cells n) (.tr cells' n') := fun o fb m x hr => by
 subst hn
 cases hr with
 | t h0 =>
   cases h0 with
   | e =>
     refine .t ?_
     exact .e
   | tr hb hn hs hh =>
     have hle : cells'.length <= cells.length := by
      have := congrArg List.length h
      rw [List.length_take] at this; omega
     refine .t (.tr hb hn (by omega) (fun j v v' a b => hh j v v' ?_ b))
     rw [h, List.getElem?_take] at a
     split at a
     ·exact a
     ·cases a
end Go.Proofs.Ytmjmggkllmfmlaa.Vv
namespace Go.Proofs.Ytmjmggkllmfmlaa.Vv
open Go Go.Proofs.Ytmjmggkllmfmlaa.Ev
theorem unfr_flat2 {α : Type} {c d : α -> List VV} (h : ∀ x, (c x).map unfr = d x) : ∀ xs : List α, (xs.flatMap c).map unfr = xs.flatMap d
 | [] => rfl
 | x :: xs => by rw [List.flatMap_cons, List.flatMap_cons, List.map_append, h, unfr_flat2 h xs]
theorem bs {α β : Type} {o : Option α} {f : α -> Option β} {r : β} (h : o.bind f = some r) : ∃ a, o = some a /\ f a = some r := Option.bind_eq_some_iff.1 h
theorem ifs {α : Type} {c : Prop} [Decidable c] {a b x : α} (h : (if c then a else b) = x) : (c /\ a = x) \/ (¬c /\ b = x) := by
 by_cases hc : c
 ·rw [if_pos hc] at h; exact .inl ⟨hc, h⟩
 ·rw [if_neg hc] at h; exact .inr ⟨hc, h⟩
theorem ifn {α : Type} {c : Prop} [Decidable c] {a : Option α} {x : α} (h : (if c then a else none) = some x) : c /\ a = some x := by
 by_cases hc : c
 ·rw [if_pos hc] at h; exact ⟨hc, h⟩
 ·rw [if_neg hc] at h; cases h
def nN : Nat -> List Ans -> List Ans
 | 0, l => l
 | n + 1, l => .n :: nN n l
def nS : Nat -> List Ans -> List Ans
 | 0, l => l
 | n + 1, l => .skip :: nS n l
theorem ti {p : Prop} (h : p) : True /\ p := ⟨trivial, h⟩
theorem an {p q : Prop} (h : p) (h2 : q) : p /\ q := ⟨h, h2⟩
theorem rt : true = true := rfl
theorem rf : false = false := rfl
theorem pkR {rd : Option Nat} {P : Program} {fn : Func} {k : Nat} {s s1 : VS} {ans : List An} {c : Cut} {e : Exit} {q : Prop} (hq : q) (h : vRound rd P fn k s ans c = some (e, s1, q)) : ∃ q : Prop, vRound rd P fn k s ans c = some (e, s1, q) /\ q := ⟨q, h, hq⟩
end Go.Proofs.Ytmjmggkllmfmlaa.Vv
namespace Go.Proofs.Ytmjmggkllmfmlaa.Vv
open Go Go.Proofs.Ytmjmggkllmfmlaa.Ev
end Go.Proofs.Ytmjmggkllmfmlaa.Vv
namespace Go.Proofs.Ytmjmggkllmfmlaa.Vv
open Go Go.Proofs.Ytmjmggkllmfmlaa.Ev
end Go.Proofs.Ytmjmggkllmfmlaa.Vv
