/- Joined texts: Vx, Vy, Vw. -/
import Derived.Test.YtggggonmlmondaaVv19
set_option linter.unusedVariables false
set_option linter.unusedSimpArgs false
namespace Go.Proofs.Ytggggonmlmondaa.Vv
open Go Go.Proofs.Ytggggonmlmondaa.Ev
theorem zero_flat {A : Type} (c : A → List VV) (z : Value) (x : A) (m : Nat) (hm : 0 < m) (hc : c x = (List.range m).map fun j => VV.c (z.cells[j % z.cells.size]!)) (hz : z.cells.size = m) : ∀ n : Nat, zeroCells z (n * m) = (List.replicate n x).flatMap c
  | 0 => by simp [zeroCells]
  | n + 1 => by
    have ih := zero_flat c z x m hm hc hz n
    unfold zeroCells at ih ⊢
    rw [Nat.add_mul, Nat.one_mul, List.range_add, List.map_append, ih, List.replicate_succ', List.flatMap_append, List.map_map, List.flatMap_singleton, hc]
    congr 1
    apply List.map_congr_left
    intro j hj
    show VV.c (z.cells[(n * m + j) % z.cells.size]!) = VV.c (z.cells[j % z.cells.size]!)
    rw [hz, Nat.mul_add_mod_self_right]
theorem flat_len {A : Type} {c : A → List VV} {m : Nat} (hc : ∀ x, (c x).length = m) : ∀ xs : List A, (xs.flatMap c).length = xs.length * m
  | [] => by simp
  | x :: xs => by rw [List.flatMap_cons, List.length_append, hc, flat_len hc xs, List.length_cons, Nat.add_mul]; omega
theorem putT_flat {A : Type} {c : A → List VV} {m : Nat} (hc : ∀ x, (c x).length = m) (xs : List A) {i : Int} (h : 0 ≤ i ∧ i < (xs.length : Int)) (v : A) {off : Nat} (ho : off = i.toNat * m) : putT off (xs.flatMap c) (c v) = (xs.set i.toNat v).flatMap c := by
  subst ho
  have hlt : i.toNat < xs.length := by omega
  have hx : xs = xs.take i.toNat ++ xs[i.toNat] :: xs.drop (i.toNat + 1) := by
    rw [← List.drop_eq_getElem_cons hlt, List.take_append_drop]
  have hs : xs.set i.toNat v = xs.take i.toNat ++ v :: xs.drop (i.toNat + 1) := by
    rw [List.set_eq_take_append_cons_drop, if_pos hlt]
  have hl : ((xs.take i.toNat).flatMap c).length = i.toNat * m := by rw [flat_len hc, List.length_take, Nat.min_eq_left (by omega)]
  rw [hs]
  generalize xs.take i.toNat = P at hx hl
  generalize xs.drop (i.toNat + 1) = Q at hx
  rw [hx, List.flatMap_append, List.flatMap_append, List.flatMap_cons, List.flatMap_cons]
  unfold putT
  rw [List.take_left' hl, ← List.append_assoc, List.drop_left' (by rw [List.length_append, hl, hc, hc]), List.append_assoc]
theorem putT_part {A : Type} {c : A → List VV} {m fo : Nat} (hc : ∀ x, (c x).length = m) (xs : List A) {i : Int} (h : 0 ≤ i ∧ i < (xs.length : Int)) (d x : A) (vs : List VV) {off : Nat} (ho : off = i.toNat * m + fo) (hfo : fo + vs.length ≤ m)
    (hv : c x = (c (xs.getD i.toNat d)).take fo ++ (vs ++ (c (xs.getD i.toNat d)).drop (fo + vs.length))) : putT off (xs.flatMap c) vs = (xs.set i.toNat x).flatMap c := by
  subst ho
  have hlt : i.toNat < xs.length := by omega
  have hg : xs.getD i.toNat d = xs[i.toNat] := by rw [List.getD_eq_getElem?_getD, List.getElem?_eq_getElem hlt]; rfl
  rw [hg] at hv
  have hx : xs = xs.take i.toNat ++ xs[i.toNat] :: xs.drop (i.toNat + 1) := by
    rw [← List.drop_eq_getElem_cons hlt, List.take_append_drop]
  have hs : xs.set i.toNat x = xs.take i.toNat ++ x :: xs.drop (i.toNat + 1) := by
    rw [List.set_eq_take_append_cons_drop, if_pos hlt]
  have hl : ((xs.take i.toNat).flatMap c).length = i.toNat * m := by rw [flat_len hc, List.length_take, Nat.min_eq_left (by omega)]
  rw [hs]
  generalize xs[i.toNat] = y at hx hv
  generalize xs.take i.toNat = P at hx hl
  generalize xs.drop (i.toNat + 1) = Q at hx
  rw [hx, List.flatMap_append, List.flatMap_append, List.flatMap_cons, List.flatMap_cons, hv]
  unfold putT
  have hy := hc y
  rw [List.take_append, List.drop_append, hl, List.take_of_length_le (by omega), List.drop_of_length_le (by omega), show i.toNat * m + fo - i.toNat * m = fo by omega, show i.toNat * m + fo + vs.length - i.toNat * m = fo + vs.length by omega,
    List.take_append_of_le_length (by omega), List.drop_append_of_le_length (by omega)]
  simp only [List.nil_append, List.append_assoc]
end Go.Proofs.Ytggggonmlmondaa.Vv
namespace Go.Proofs.Ytggggonmlmondaa.Vv
open Go Go.Proofs.Ytggggonmlmondaa.Ev
/-- A text. -/
def vs (s : ByteArray) : VV := .c (.string s)
/-- A part of a list. -/
def sl {A : Type} (xs : List A) (l h : Nat) : List A := (xs.drop l).take (h - l)
theorem sl_len {A : Type} (xs : List A) (l h : Nat) : (sl xs l h).length = min (h - l) (xs.length - l) := by
  unfold sl; rw [List.length_take, List.length_drop]
theorem sl_map {A : Type} (f : A → VV) (xs : List A) (l h : Nat) (h1 : l ≤ h) (h2 : h ≤ xs.length) : VV.tr (List.take ((h - l) * 1) (List.drop (l * 1) (xs.map f))) (h - l) = VV.tr ((sl xs l h).map f) (sl xs l h).length := by
  rw [sl_len, Nat.min_eq_left (by omega), Nat.mul_one, Nat.mul_one]
  unfold sl
  rw [List.map_take, List.map_drop]
theorem sl_flat {A : Type} {c : A → List VV} {s : Nat} (hc : ∀ x, (c x).length = s) (xs : List A) (l h : Nat) (h1 : l ≤ h) (h2 : h ≤ xs.length) : VV.tr (List.take ((h - l) * s) (List.drop (l * s) (xs.flatMap c))) (h - l) = VV.tr ((sl xs l h).flatMap c) (sl xs l h).length := by
  rw [sl_len, Nat.min_eq_left (by omega), flatMap_drop hc]
  unfold sl
  congr 1
  have hd : ∀ (n : Nat) (ys : List A), n ≤ ys.length → (ys.flatMap c).take (n * s) = (ys.take n).flatMap c := by
    intro n
    induction n with
    | zero => intro ys _; simp
    | succ n ih =>
      intro ys hy
      cases ys with
      | nil => simp at hy
      | cons y ys =>
        rw [List.flatMap_cons, List.take_succ_cons, List.flatMap_cons, show (n + 1) * s = s + n * s by rw [Nat.add_mul]; omega, List.take_append, hc, List.take_of_length_le (by rw [hc]; omega), Nat.add_sub_cancel_left, ih ys (by simpa using hy)]
  exact hd _ _ (by rw [List.length_drop]; omega)
/-- a part of b in the place of a part of a. -/
def cpy {A : Type} (a : List A) (o : Nat) (b : List A) (k : Nat) : List A := a.mapIdx fun i v => if i < o then v else if i < o + k then b.getD (i - o) v else v
theorem cpy_len {A : Type} (a : List A) (o : Nat) (b : List A) (k : Nat) : (cpy a o b k).length = a.length := by unfold cpy; rw [List.length_mapIdx]
theorem putT_cpy {A : Type} (f : A → VV) (a b : List A) {o o' : Nat} (d n m : Nat) (h : 0 < m ∧ 0 < n ∧ o + m ≤ a.length ∧ d + n ≤ b.length) (ho : o' = o := by omega) {d' : Nat} (hd : d' = d := by omega) :
    putT o' (a.map f) (List.take (Nat.min n m * 1) (List.take (n * 1) (List.drop d' (b.map f)))) = (cpy a o (b.drop d) (Nat.min n m)).map f := by
  subst ho; subst hd
  have hk1 : Nat.min n m ≤ n := Nat.min_le_left _ _
  have hk2 : Nat.min n m ≤ m := Nat.min_le_right _ _
  generalize Nat.min n m = k at hk1 hk2
  have e1 : List.take (k * 1) (List.take (n * 1) (List.drop d' (b.map f))) = ((b.drop d').take k).map f := by
    rw [Nat.mul_one, Nat.mul_one, List.take_take, Nat.min_eq_left hk1, List.map_take, List.map_drop]
  rw [e1]
  apply List.ext_getElem?
  intro i
  have hlk : ((b.drop d').take k).length = k := by rw [List.length_take, List.length_drop]; omega
  unfold putT cpy
  rw [List.getElem?_map, List.getElem?_mapIdx, List.append_assoc]
  by_cases c1 : i < o'
  · rw [List.getElem?_append_left (by rw [List.length_take, List.length_map]; omega), List.getElem?_take, if_pos c1, List.getElem?_map]
    cases a[i]? with
    | none => rfl
    | some v => simp only [Option.map_some, if_pos c1]
  · have hl : (List.take o' (a.map f)).length = o' := by rw [List.length_take, List.length_map]; omega
    rw [List.getElem?_append_right (by omega), hl]
    by_cases c2 : i < o' + k
    · rw [List.getElem?_append_left (by rw [List.length_map, hlk]; omega), List.getElem?_map, List.getElem?_take, if_pos (by omega)]
      have hi : i < a.length := by omega
      rw [List.getElem?_eq_getElem hi]
      simp only [Option.map_some, if_neg c1, if_pos c2]
      have hj : i - o' < (b.drop d').length := by rw [List.length_drop]; omega
      rw [List.getElem?_eq_getElem hj, List.getD_eq_getElem?_getD, List.getElem?_eq_getElem hj]
      rfl
    · rw [List.getElem?_append_right (by rw [List.length_map, hlk]; omega), List.length_map, hlk, List.getElem?_drop, List.getElem?_map]
      rw [show o' + k + (i - o' - k) = i by omega]
      cases a[i]? with
      | none => rfl
      | some v => simp only [Option.map_some, if_neg c1, if_neg c2]
theorem all_td {α : Type} {p : α → Bool} {xs : List α} (h : xs.all p = true) (n d : Nat) : ((xs.drop d).take n).all p = true := by
  rw [List.all_eq_true] at h ⊢
  exact fun y hy => h y (List.mem_of_mem_drop (List.mem_of_mem_take hy))
theorem unfr_vb (xs : List Bool) : (xs.map vb).map unfr = xs.map vb := by rw [List.map_map]; rfl
theorem still_vb (xs : List Bool) : (xs.map vb).all VV.still = true := all_map (fun _ => rfl) xs
theorem isC_vb (xs : List Bool) : (xs.map vb).all VV.isC = true := all_map (fun _ => rfl) xs
theorem new0_vb (xs : List Bool) : (xs.map vb).all new0 = true := all_map (fun _ => rfl) xs
theorem unfr_vs (xs : List ByteArray) : (xs.map vs).map unfr = xs.map vs := by rw [List.map_map]; rfl
theorem still_vs (xs : List ByteArray) : (xs.map vs).all VV.still = true := all_map (fun _ => rfl) xs
theorem isC_vs (xs : List ByteArray) : (xs.map vs).all VV.isC = true := all_map (fun _ => rfl) xs
theorem new0_vs (xs : List ByteArray) : (xs.map vs).all new0 = true := all_map (fun _ => rfl) xs
theorem un_i (n : Int) : unfr (vi n) = vi n := rfl
theorem un_k (k : IntKind) (n : Int) : unfr (.c (.int k n)) = .c (.int k n) := rfl
theorem un_b (b : Bool) : unfr (vb b) = vb b := rfl
theorem un_s (s : ByteArray) : unfr (vs s) = vs s := rfl
theorem un_tr (cs : List VV) (n : Nat) : unfr (.tr cs n) = .tr cs n := rfl
theorem un_fr (cs : List VV) (n : Nat) : unfr (.fr cs n) = .tr cs n := rfl
/-- a cell of a box that is only read. -/
theorem ld_one {P : Program} {t : TypeId} (hag : isAggT P t = some false) {off : Nat} {cells : List VV} {v : VV} (h : getL off cells = some v) : loadL P t off cells = some v := by
  unfold loadL; rw [hag]; exact h
theorem ld_all {P : Program} {t : TypeId} (hag : isAggT P t = some true) {n off : Nat} (hs : szOf P t = some n) {cells l : List VV} (h : takeL n (dropL off cells) = some l) : loadL P t off cells = some (.ag l) := by
  unfold loadL; rw [hag]; dsimp only; rw [hs]; dsimp only; rw [h]
/-- a part of an element. -/
theorem ld_part {P : Program} {α : Type} {t : TypeId} (hag : isAggT P t = some true) (c : α → List VV) (s j n : Nat) (hs : szOf P t = some n) (hc : ∀ x, (c x).length = s) (hj : j + n ≤ s) (xs : List α) (d : α) {i : Int} (h : 0 ≤ i ∧ i < (xs.length : Int)) {off : Nat} (ho : off = i.toNat * s + j) :
    loadL P t off (xs.flatMap c) = some (.ag (((c (xs.getD i.toNat d)).drop j).take n)) := by
  subst ho
  have hlt : i.toNat < xs.length := by omega
  refine ld_all hag hs ?_
  rw [dropL_eq, ← List.drop_drop, flatMap_at hc xs d hlt, List.drop_append_of_le_length (by rw [hc]; omega), takeL_some (by rw [List.length_append, List.length_drop, hc]; omega), List.take_append_of_le_length (by rw [List.length_drop, hc]; omega)]
/-- an array in an element, as a slice. -/
theorem tr_part {α : Type} (c : α → List VV) (s j n : Nat) (hc : ∀ x, (c x).length = s) (hj : j + n ≤ s) (xs : List α) (d : α) {i : Int} (h : 0 ≤ i ∧ i < (xs.length : Int)) {off : Nat} (ho : off = i.toNat * s + j) (m : Nat) :
    VV.tr (List.take n (List.drop off (xs.flatMap c))) m = VV.tr (((c (xs.getD i.toNat d)).drop j).take n) m := by
  subst ho
  have hlt : i.toNat < xs.length := by omega
  rw [← List.drop_drop, flatMap_at hc xs d hlt, List.drop_append_of_le_length (by rw [hc]; omega), List.take_append_of_le_length (by rw [List.length_drop, hc]; omega)]
/-- less of a slice is seen. -/
theorem Wv.part {cells cells' : List VV} {n n' : Nat} (h : cells' = cells.take cells'.length) (hn : n = n') : Wv (.tr cells n) (.tr cells' n') := fun o fb m x hr => by
  subst hn
  cases hr with
  | t h0 =>
    cases h0 with
    | e =>
      refine .t ?_
      exact .e
    | tr hb hn hs hh =>
      have hle : cells'.length ≤ cells.length := by
        have := congrArg List.length h
        rw [List.length_take] at this; omega
      refine .t (.tr hb hn (by omega) (fun j v v' a b => hh j v v' ?_ b))
      rw [h, List.getElem?_take] at a
      split at a
      · exact a
      · cases a
end Go.Proofs.Ytggggonmlmondaa.Vv
namespace Go.Proofs.Ytggggonmlmondaa.Vv
open Go Go.Proofs.Ytggggonmlmondaa.Ev
theorem unfr_flat2 {α : Type} {c d : α → List VV} (h : ∀ x, (c x).map unfr = d x) : ∀ xs : List α, (xs.flatMap c).map unfr = xs.flatMap d
  | [] => rfl
  | x :: xs => by rw [List.flatMap_cons, List.flatMap_cons, List.map_append, h, unfr_flat2 h xs]
theorem bs {α β : Type} {o : Option α} {f : α → Option β} {r : β} (h : o.bind f = some r) : ∃ a, o = some a ∧ f a = some r := Option.bind_eq_some_iff.1 h
theorem ifs {α : Type} {c : Prop} [Decidable c] {a b x : α} (h : (if c then a else b) = x) : (c ∧ a = x) ∨ (¬c ∧ b = x) := by
  by_cases hc : c
  · rw [if_pos hc] at h; exact .inl ⟨hc, h⟩
  · rw [if_neg hc] at h; exact .inr ⟨hc, h⟩
theorem ifn {α : Type} {c : Prop} [Decidable c] {a : Option α} {x : α} (h : (if c then a else none) = some x) : c ∧ a = some x := by
  by_cases hc : c
  · rw [if_pos hc] at h; exact ⟨hc, h⟩
  · rw [if_neg hc] at h; cases h
/-- operations of which nothing is told; that are struck out. -/
def nN : Nat → List Ans → List Ans
  | 0, l => l
  | n + 1, l => .n :: nN n l
def nS : Nat → List Ans → List Ans
  | 0, l => l
  | n + 1, l => .skip :: nS n l
theorem ti {p : Prop} (h : p) : True ∧ p := ⟨trivial, h⟩
theorem an {p q : Prop} (h : p) (h2 : q) : p ∧ q := ⟨h, h2⟩
theorem rt : true = true := rfl
theorem rf : false = false := rfl
theorem pkR {rd : Option Nat} {P : Program} {fn : Func} {k : Nat} {s s1 : VS} {ans : List An} {c : Cut} {e : Exit} {q : Prop} (hq : q) (h : vRound rd P fn k s ans c = some (e, s1, q)) : ∃ q : Prop, vRound rd P fn k s ans c = some (e, s1, q) ∧ q := ⟨q, h, hq⟩
end Go.Proofs.Ytggggonmlmondaa.Vv
namespace Go.Proofs.Ytggggonmlmondaa.Vv
open Go Go.Proofs.Ytggggonmlmondaa.Ev
/- maps with texts as keys. -/
def mpE {V : Type} (fv : V → VV) (e : ByteArray × V) : List VV := [vs e.1, fv e.2]
def agF {A : Type} (c : A → List VV) (x : A) : VV := .ag (c x)
def mhas {V : Type} : List (ByteArray × V) → ByteArray → Bool
  | [], _ => false
  | e :: l, k => decide (k = e.1) || mhas l k
def mget {V : Type} [Inhabited V] : List (ByteArray × V) → ByteArray → V
  | [], _ => default
  | e :: l, k => match decide (k = e.1) with
    | true => e.2
    | false => mget l k
def mset {V : Type} : List (ByteArray × V) → ByteArray → V → List (ByteArray × V)
  | [], k, v => [(k, v)]
  | e :: l, k, v => match decide (k = e.1) with
    | true => (e.1, v) :: l
    | false => e :: mset l k v
theorem keysM_mp {V : Type} (fv : V → VV) (k : ByteArray) : ∀ l : List (ByteArray × V), keysM (kdV (.string k)) (l.flatMap (mpE fv)) = true
  | [] => rfl
  | e :: l => by
    show ((decide (KK.s = KK.s)) && keysM (kdV (.string k)) (l.flatMap (mpE fv))) = true
    rw [keysM_mp fv k l]; rfl
theorem lkM_has {V : Type} [Inhabited V] (fv : V → VV) (k : ByteArray) : ∀ l : List (ByteArray × V), mhas l k = true → lkM (.string k) (l.flatMap (mpE fv)) = some (fv (mget l k))
  | [], h => by cases h
  | e :: l, h => by
    show (bif decide (k = e.1) then some (fv e.2) else lkM (.string k) (l.flatMap (mpE fv))) = _
    simp only [mhas] at h
    simp only [mget]
    cases hd : decide (k = e.1) with
    | true => rfl
    | false => rw [hd] at h; exact lkM_has fv k l h
theorem lkM_no {V : Type} (fv : V → VV) (k : ByteArray) : ∀ l : List (ByteArray × V), mhas l k = false → lkM (.string k) (l.flatMap (mpE fv)) = none
  | [], _ => rfl
  | e :: l, h => by
    show (bif decide (k = e.1) then some (fv e.2) else lkM (.string k) (l.flatMap (mpE fv))) = _
    simp only [mhas] at h
    cases hd : decide (k = e.1) with
    | true => rw [hd] at h; cases h
    | false => rw [hd] at h; exact lkM_no fv k l h
theorem upM_mp {V : Type} (fv : V → VV) (k : ByteArray) (v : V) : ∀ l : List (ByteArray × V), upM (.string k) (fv v) (l.flatMap (mpE fv)) = (mset l k v).flatMap (mpE fv)
  | [] => rfl
  | e :: l => by
    show (bif decide (k = e.1) then vs e.1 :: fv v :: l.flatMap (mpE fv) else vs e.1 :: fv e.2 :: upM (.string k) (fv v) (l.flatMap (mpE fv))) = _
    simp only [mset]
    cases hd : decide (k = e.1) with
    | true => rfl
    | false => rw [upM_mp fv k v l]; rfl
theorem len_mp {V : Type} (fv : V → VV) : ∀ l : List (ByteArray × V), ((l.flatMap (mpE fv)).length : Int) = 2 * (l.length : Int)
  | [] => rfl
  | e :: l => by
    have := len_mp fv l
    rw [List.flatMap_cons, List.length_append, List.length_cons]
    show ((2 + _ : Nat) : Int) = _
    omega
end Go.Proofs.Ytggggonmlmondaa.Vv
namespace Go.Proofs.Ytggggonmlmondaa.Vv
open Go Go.Proofs.Ytggggonmlmondaa.Ev
theorem unfr1_mp {V : Type} {fv : V → VV} (h : ∀ v, unfr1 (fv v) = fv v) : ∀ l : List (ByteArray × V), (l.flatMap (mpE fv)).map unfr1 = l.flatMap (mpE fv)
  | [] => rfl
  | e :: l => by
    rw [List.flatMap_cons, List.map_append, unfr1_mp h l]
    congr 1
    show [unfr1 (vs e.1), unfr1 (fv e.2)] = _
    rw [h]; rfl
end Go.Proofs.Ytggggonmlmondaa.Vv
