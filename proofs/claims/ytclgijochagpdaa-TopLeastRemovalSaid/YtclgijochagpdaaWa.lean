import Derived.Test.YtclgijochagpdaaVv19
set_option linter.unusedVariables false
set_option linter.unusedSimpArgs false
namespace Go.Proofs.Ytclgijochagpdaa.Vv
open Go Go.Proofs.Ytclgijochagpdaa.Ev
theorem zero_flat {A : Type} (c : A -> List VV) (z : Value) (x : A) (m : Nat) (hm : 0 < m) (hc : c x = (List.range m).map fun j => VV.c (z.cells[j % z.cells.size]!)) (hz : z.cells.size = m) : ∀ n : Nat, zeroCells z (n * m) = (List.replicate n x).flatMap c
 | 0 => by simp [zeroCells]
 | n + 1 => by
   have ih := zero_flat c z x m hm hc hz n
   unfold zeroCells at ih ⊢
   rw [Nat.add_mul, Nat.one_mul, List.range_add, List.map_append, ih, List.replicate_succ', List.flatMap_append, List.map_map, List.flatMap_singleton, hc]
   congr 1
   apply List.map_congr_left
   intro j hj
   show VV.c (z.cells[(n * m + j) % z.cells.size]!) = VV.c (z.cells[j % z.cells.size]!)
   rw [hz, Nat.mul_add_mod_self_right]
theorem flat_len {A : Type} {c : A -> List VV} {m : Nat} (hc : ∀ x, (c x).length = m) : ∀ xs : List A, (xs.flatMap c).length = xs.length * m
 | [] => by simp
 | x :: xs => by rw [List.flatMap_cons, List.length_append, hc, flat_len hc xs, List.length_cons, Nat.add_mul]; omega
theorem putT_flat {A : Type} {c : A -> List VV} {m : Nat} (hc : ∀ x, (c x).length = m) (xs : List A) {i : Int} (h : 0 <= i /\ i < (xs.length : Int)) (v : A) {off : Nat} (ho : off = i.toNat * m) : putT off (xs.flatMap c) (c v) = (xs.set i.toNat v).flatMap c := by
 subst ho
 have hlt : i.toNat < xs.length := by omega
 have hx : xs = xs.take i.toNat ++ xs[i.toNat] :: xs.drop (i.toNat + 1) := by
  rw [<- List.drop_eq_getElem_cons hlt, List.take_append_drop]
 have hs : xs.set i.toNat v = xs.take i.toNat ++ v :: xs.drop (i.toNat + 1) := by
  rw [List.set_eq_take_append_cons_drop, if_pos hlt]
 have hl : ((xs.take i.toNat).flatMap c).length = i.toNat * m := by rw [flat_len hc, List.length_take, Nat.min_eq_left (by omega)]
 rw [hs]
 generalize xs.take i.toNat = P at hx hl
 generalize xs.drop (i.toNat + 1) = Q at hx
 rw [hx, List.flatMap_append, List.flatMap_append, List.flatMap_cons, List.flatMap_cons]
 unfold putT
 rw [List.take_left' hl, <- List.append_assoc, List.drop_left' (by rw [List.length_append, hl, hc, hc]), List.append_assoc]
end Go.Proofs.Ytclgijochagpdaa.Vv
namespace Go.Proofs.Ytclgijochagpdaa.Vv
open Go Go.Proofs.Ytclgijochagpdaa.Ev
def vs (s : ByteArray) : VV := .c (.string s)
def cpy {A : Type} (a : List A) (o : Nat) (b : List A) (k : Nat) : List A := a.mapIdx fun i v => if i < o then v else if i < o + k then b.getD (i - o) v else v
theorem cpy_len {A : Type} (a : List A) (o : Nat) (b : List A) (k : Nat) : (cpy a o b k).length = a.length := by unfold cpy; rw [List.length_mapIdx]
theorem putT_cpy {A : Type} (f : A -> VV) (a b : List A) {o o' : Nat} (d n m : Nat) (h : 0 < m /\ 0 < n /\ o + m <= a.length /\ d + n <= b.length) (ho : o' = o := by omega) {d' : Nat} (hd : d' = d := by omega) :
 putT o' (a.map f) (List.take (Nat.min n m * 1) (List.take (n * 1) (List.drop d' (b.map f)))) = (cpy a o (b.drop d) (Nat.min n m)).map f := by
 subst ho; subst hd
 have hk1 : Nat.min n m <= n := Nat.min_le_left _ _
 have hk2 : Nat.min n m <= m := Nat.min_le_right _ _
 generalize Nat.min n m = k at hk1 hk2
 have e1 : List.take (k * 1) (List.take (n * 1) (List.drop d' (b.map f))) = ((b.drop d').take k).map f := by
  rw [Nat.mul_one, Nat.mul_one, List.take_take, Nat.min_eq_left hk1, List.map_take, List.map_drop]
 rw [e1]
 apply List.ext_getElem?
 intro i
 have hlk : ((b.drop d').take k).length = k := by rw [List.length_take, List.length_drop]; omega
 unfold putT cpy
 rw [List.getElem?_map, List.getElem?_mapIdx, List.append_assoc]
 by_cases c1 : i < o'
 ·rw [List.getElem?_append_left (by rw [List.length_take, List.length_map]; omega), List.getElem?_take, if_pos c1, List.getElem?_map]
  cases a[i]? with
  | none => rfl
  | some v => simp only [Option.map_some, if_pos c1]
 ·have hl : (List.take o' (a.map f)).length = o' := by rw [List.length_take, List.length_map]; omega
  rw [List.getElem?_append_right (by omega), hl]
  by_cases c2 : i < o' + k
  ·rw [List.getElem?_append_left (by rw [List.length_map, hlk]; omega), List.getElem?_map, List.getElem?_take, if_pos (by omega)]
   have hi : i < a.length := by omega
   rw [List.getElem?_eq_getElem hi]
   simp only [Option.map_some, if_neg c1, if_pos c2]
   have hj : i - o' < (b.drop d').length := by rw [List.length_drop]; omega
   rw [List.getElem?_eq_getElem hj, List.getD_eq_getElem?_getD, List.getElem?_eq_getElem hj]
   rfl
  ·rw [List.getElem?_append_right (by rw [List.length_map, hlk]; omega), List.length_map, hlk, List.getElem?_drop, List.getElem?_map]
   rw [show o' + k + (i - o' - k) = i by omega]
   cases a[i]? with
   | none => rfl
   | some v => simp only [Option.map_some, if_neg c1, if_neg c2]
theorem all_td {α : Type} {p : α -> Bool} {xs : List α} (h : xs.all p = true) (n d : Nat) : ((xs.drop d).take n).all p = true := by
 rw [List.all_eq_true] at h ⊢
 exact fun y hy => h y (List.mem_of_mem_drop (List.mem_of_mem_take hy))
theorem unfr_vb (xs : List Bool) : (xs.map vb).map unfr = xs.map vb := by rw [List.map_map]; rfl
theorem unfr_vs (xs : List ByteArray) : (xs.map vs).map unfr = xs.map vs := by rw [List.map_map]; rfl
theorem un_i (n : Int) : unfr (vi n) = vi n := rfl
theorem un_k (k : IntKind) (n : Int) : unfr (.c (.int k n)) = .c (.int k n) := rfl
theorem un_b (b : Bool) : unfr (vb b) = vb b := rfl
theorem un_s (s : ByteArray) : unfr (vs s) = vs s := rfl
theorem un_tr (cs : List VV) (n : Nat) : unfr (.tr cs n) = .tr cs n := rfl
theorem un_fr (cs : List VV) (n : Nat) : unfr (.fr cs n) = .tr cs n := rfl
theorem Wv.part {cells cells' : List VV} {n n' : Nat} (h : cells' = cells.take cells'.length) (hn : n = n') : Wv (.tr cells n) (.tr cells' n') := fun o fb m x hr => by
 subst hn
 cases hr with
 | t h0 =>
   cases h0 with
   | e =>
     refine .t ?_
     exact .e
   | tr hb hn hs hh =>
     have hle : cells'.length <= cells.length := by
      have := congrArg List.length h
      rw [List.length_take] at this; omega
     refine .t (.tr hb hn (by omega) (fun j v v' a b => hh j v v' ?_ b))
     rw [h, List.getElem?_take] at a
     split at a
     ·exact a
     ·cases a
end Go.Proofs.Ytclgijochagpdaa.Vv
namespace Go.Proofs.Ytclgijochagpdaa.Vv
open Go Go.Proofs.Ytclgijochagpdaa.Ev
theorem unfr_flat2 {α : Type} {c d : α -> List VV} (h : ∀ x, (c x).map unfr = d x) : ∀ xs : List α, (xs.flatMap c).map unfr = xs.flatMap d
 | [] => rfl
 | x :: xs => by rw [List.flatMap_cons, List.flatMap_cons, List.map_append, h, unfr_flat2 h xs]
theorem bs {α β : Type} {o : Option α} {f : α -> Option β} {r : β} (h : o.bind f = some r) : ∃ a, o = some a /\ f a = some r := Option.bind_eq_some_iff.1 h
theorem ifs {α : Type} {c : Prop} [Decidable c] {a b x : α} (h : (if c then a else b) = x) : (c /\ a = x) \/ (¬c /\ b = x) := by
 by_cases hc : c
 ·rw [if_pos hc] at h; exact .inl ⟨hc, h⟩
 ·rw [if_neg hc] at h; exact .inr ⟨hc, h⟩
theorem ifn {α : Type} {c : Prop} [Decidable c] {a : Option α} {x : α} (h : (if c then a else none) = some x) : c /\ a = some x := by
 by_cases hc : c
 ·rw [if_pos hc] at h; exact ⟨hc, h⟩
 ·rw [if_neg hc] at h; cases h
def nN : Nat -> List Ans -> List Ans
 | 0, l => l
 | n + 1, l => .n :: nN n l
def nS : Nat -> List Ans -> List Ans
 | 0, l => l
 | n + 1, l => .skip :: nS n l
theorem ti {p : Prop} (h : p) : True /\ p := ⟨trivial, h⟩
theorem an {p q : Prop} (h : p) (h2 : q) : p /\ q := ⟨h, h2⟩
theorem rt : true = true := rfl
theorem rf : false = false := rfl
theorem pkR {rd : Option Nat} {P : Program} {fn : Func} {k : Nat} {s s1 : VS} {ans : List An} {c : Cut} {e : Exit} {q : Prop} (hq : q) (h : vRound rd P fn k s ans c = some (e, s1, q)) : ∃ q : Prop, vRound rd P fn k s ans c = some (e, s1, q) /\ q := ⟨q, h, hq⟩
end Go.Proofs.Ytclgijochagpdaa.Vv
namespace Go.Proofs.Ytclgijochagpdaa.Vv
open Go Go.Proofs.Ytclgijochagpdaa.Ev
end Go.Proofs.Ytclgijochagpdaa.Vv
namespace Go.Proofs.Ytclgijochagpdaa.Vv
open Go Go.Proofs.Ytclgijochagpdaa.Ev
end Go.Proofs.Ytclgijochagpdaa.Vv
