import Derived.Test.YtfeedchjdnedjaaEv13
import Derived.RangeFuncLeaves
set_option linter.unusedVariables false
set_option linter.unusedSimpArgs false
namespace Go.Proofs.Ytfeedchjdnedjaa.Ev
open Go
inductive Tr (α : Type) where
 | nil
 | node (v : Option α) (l r : Tr α)
def Tr.get {α : Type} : Tr α -> Nat -> Option α
 | .nil, _ => none
 | .node v _ _, 0 => v
 | .node _ l r, n + 1 => bif Nat.beq (n % 2) 0 then l.get (n / 2) else r.get (n / 2)
def Tr.val {α : Type} : Tr α -> Option α
 | .nil => none
 | .node v _ _ => v
def Tr.left {α : Type} : Tr α -> Tr α
 | .nil => .nil
 | .node _ l _ => l
def Tr.right {α : Type} : Tr α -> Tr α
 | .nil => .nil
 | .node _ _ r => r
def Tr.setF {α : Type} (a : α) : Nat -> Tr α -> Nat -> Tr α
 | _, t, 0 => .node (some a) t.left t.right
 | 0, t, _ + 1 => t
 | k + 1, t, n + 1 => bif Nat.beq (n % 2) 0 then .node t.val (Tr.setF a k t.left (n / 2)) t.right else .node t.val t.left (Tr.setF a k t.right (n / 2))
def Tr.set {α : Type} (t : Tr α) (n : Nat) (a : α) : Tr α := Tr.setF a 40 t n
theorem Tr.Ql5 {α : Type} (t : Tr α) (n : Nat) : t.get n = match n with
 | 0 => t.val
 | m + 1 => bif Nat.beq (m % 2) 0 then t.left.get (m / 2) else t.right.get (m / 2) := by
 cases t with
 | nil => cases n <;> simp [Tr.get, Tr.val, Tr.left, Tr.right]
 | node v l r => cases n <;> rfl
theorem Tr.Qhx {α : Type} (a : α) : ∀ (k : Nat) (t : Tr α) (n m : Nat), n < 2 ^ k -> (Tr.setF a k t n).get m = if m = n then some a else t.get m
 | k, t, 0, m, _ => by
   rw [Tr.Ql5 t m]
   cases k <;> (cases m with
    | zero => simp [Tr.setF, Tr.get]
    | succ m => simp [Tr.setF, Tr.get])
 | 0, t, n + 1, m, h => by simp at h
 | k + 1, t, n + 1, m, h => by
   rw [Tr.Ql5 t m]
   have hk : n / 2 < 2 ^ k := by rw [Nat.pow_succ] at h; omega
   simp only [Tr.setF]
   cases hb : Nat.beq (n % 2) 0 with
   | true =>
     have hn : n % 2 = 0 := Nat.eq_of_beq_eq_true hb
     cases m with
     | zero => simp [Tr.get]
     | succ m =>
       simp only [cond_true, Tr.get]
       cases hm : Nat.beq (m % 2) 0 with
       | true =>
         have hm' : m % 2 = 0 := Nat.eq_of_beq_eq_true hm
         simp only [cond_true]
         rw [Tr.Qhx a k _ _ _ hk]
         by_cases e : m = n
         ·subst e; simp
         ·rw [if_neg (by omega), if_neg (by omega)]
       | false =>
         have hm' : m % 2 ≠ 0 := Nat.ne_of_beq_eq_false hm
         simp only [cond_false]
         rw [if_neg (by omega)]
   | false =>
     have hn : n % 2 ≠ 0 := Nat.ne_of_beq_eq_false hb
     cases m with
     | zero => simp [Tr.get]
     | succ m =>
       simp only [cond_false, Tr.get]
       cases hm : Nat.beq (m % 2) 0 with
       | true =>
         have hm' : m % 2 = 0 := Nat.eq_of_beq_eq_true hm
         simp only [cond_true]
         rw [if_neg (by omega)]
       | false =>
         have hm' : m % 2 ≠ 0 := Nat.ne_of_beq_eq_false hm
         simp only [cond_false]
         rw [Tr.Qhx a k _ _ _ hk]
         by_cases e : m = n
         ·subst e; simp
         ·rw [if_neg (by omega), if_neg (by omega)]
theorem Tr.Qns {α : Type} (t : Tr α) (n m : Nat) (a : α) (h : n < 2 ^ 40) : (t.set n a).get m = if m = n then some a else t.get m := Tr.Qhx a 40 t n m h
def Qb2 : Option Obj -> Obj
 | some o => o
 | none => .pending #[] 0
def Qat (H : Tr Obj) (N : Nat) : Mem := fun b => bif Nat.blt b N then some (Qb2 (H.get b)) else none
structure Rep (H : Tr Obj) (N : Nat) (wA : World) : Prop where
 size : wA.heap.size = N
 small : N < 1099511627776
 at_ : ∀ b, wA.heap[b]? = Qat H N b
theorem Rep.mem {H : Tr Obj} {N : Nat} {wA : World} (h : Rep H N wA) : Qat H N = fun b => wA.heap[b]? := funext fun b => (h.at_ b).symm
theorem Xt {H : Tr Obj} {N b : Nat} : Qat H N b = if b < N then some (Qb2 (H.get b)) else none := by
 unfold Qat
 cases h : Nat.blt b N with
 | true => rw [if_pos (Z4 h)]; rfl
 | false => rw [if_neg (Qg0 h)]; rfl
def Qce (H : Tr Obj) (N : Nat) : World := { heap := Array.ofFn fun i : Fin N => Qb2 (H.get i), tape := fun _ _ => 0, drawn := 0, os := default, output := #[] }
theorem Rep.Qh9 (H : Tr Obj) {N : Nat} (h : N < 1099511627776) : Rep H N (Qce H N) := by
 refine ⟨by simp [Qce], h, fun b => ?_⟩
 rw [Xt]
 show (Array.ofFn fun i : Fin N => Qb2 (H.get i))[b]? = _
 rw [Array.getElem?_ofFn]
 split <;> simp_all
def updT (H : Tr Obj) (N : Nat) : Upd -> Tr Obj × Nat
 | .same => (H, N)
 | .put b o => (H.set b o, N)
 | .new o => (H.set N o, N + 1)
 | .killNew b o => ((H.set b (.pending #[] 0)).set N o, N + 1)
def Qia (fl N : Nat) : Upd -> Bool
 | .same => true
 | .put b _ => Nat.blt b N && Nat.ble fl b
 | .new _ => Nat.blt N 1000000000
 | .killNew b _ => Nat.blt b N && Nat.blt N 1000000000 && Nat.ble fl b
theorem Qdg (H : Tr Obj) (n m : Nat) (o : Obj) (h : n < 1099511627776) : (H.set n o).get m = if m = n then some o else H.get m := Tr.Qns H n m o (by omega)
theorem Rep.upd {fl : Nat} {H : Tr Obj} {N : Nat} {wA : World} (h : Rep H N wA) {u : Upd} (hu : Qia fl N u = true) : Rep (updT H N u).1 (updT H N u).2 (World.upd wA u) := by
 cases u with
 | same => exact h
 | put b o =>
   simp only [Qia, Bool.and_eq_true] at hu
   have hb : b < N := Z4 hu.1
   refine ⟨by show (wA.heap.setIfInBounds b o).size = N; rw [Array.size_setIfInBounds, h.size], h.small, fun k => ?_⟩
   show (wA.heap.setIfInBounds b o)[k]? = Qat (H.set b o) N k
   rw [Xt, Qdg _ _ _ _ (Nat.lt_trans hb h.small), Array.getElem?_setIfInBounds]
   have hk := h.at_ k
   rw [Xt] at hk
   by_cases e : b = k
   ·subst e; rw [if_pos rfl, if_pos (by rw [h.size]; exact hb), if_pos hb, if_pos rfl]; rfl
   ·rw [if_neg e, hk]
    split
    ·rw [if_neg (fun x => e x.symm)]
    ·rfl
 | new o =>
   have hN : N < 1000000000 := Z4 hu
   refine ⟨by show (wA.heap.push o).size = N + 1; rw [Array.size_push, h.size], by show N + 1 < 1099511627776; omega, fun k => ?_⟩
   show (wA.heap.push o)[k]? = Qat (H.set N o) (N + 1) k
   rw [Xt, Qdg _ _ _ _ h.small, Array.getElem?_push, h.size]
   have hk := h.at_ k
   rw [Xt] at hk
   by_cases e : k = N
   ·subst e; rw [if_pos rfl, if_pos (by omega), if_pos rfl]; rfl
   ·rw [if_neg e, hk]
    by_cases hlt : k < N
    ·rw [if_pos hlt, if_pos (by omega), if_neg e]
    ·rw [if_neg hlt, if_neg (by omega)]
 | killNew b o =>
   simp only [Qia, Bool.and_eq_true] at hu
   have hb : b < N := Z4 hu.1.1
   have hN : N < 1000000000 := Z4 hu.1.2
   refine ⟨by show ((wA.heap.setIfInBounds b (.pending #[] 0)).push o).size = N + 1; rw [Array.size_push, Array.size_setIfInBounds, h.size], by show N + 1 < 1099511627776; omega, fun k => ?_⟩
   show ((wA.heap.setIfInBounds b (.pending #[] 0)).push o)[k]? = Qat ((H.set b (.pending #[] 0)).set N o) (N + 1) k
   rw [Xt, Qdg _ _ _ _ h.small, Qdg _ _ _ _ (Nat.lt_trans hb h.small), Array.getElem?_push, Array.size_setIfInBounds, h.size, Array.getElem?_setIfInBounds, h.size]
   have hk := h.at_ k
   rw [Xt] at hk
   by_cases e : k = N
   ·rw [if_pos e, if_pos (by omega), if_pos e]; rfl
   ·rw [if_neg e]
    by_cases eb : b = k
    ·subst eb; rw [if_pos rfl, if_pos hb, if_pos (by omega), if_neg e, if_pos rfl]; rfl
    ·rw [if_neg eb, hk]
     by_cases hlt : k < N
     ·rw [if_pos hlt, if_pos (by omega), if_neg e, if_neg (fun x => eb x.symm)]
     ·rw [if_neg hlt, if_neg (by omega)]
section
variable {P : Program} {base fl : Nat}
def Qox : World := { heap := #[], tape := fun _ _ => 0, drawn := 0, os := default, output := #[] }
def valO (v : Option Value) : Option (Next × Upd) := match v with
 | some v => some (.value v, .same)
 | none => none
def Qdm (P : Program) (N : Nat) (t : TypeId) (l c : Int) : Option (Value × Obj) :=
 match P.underlying t, l, c with
 | some (.slice e), .ofNat l, .ofNat c => match P.info? e with
   | some i => bif Nat.ble l c && Nat.ble (i.bytes * c) 281474976710656 && Nat.blt c 1099511627776 then
    (Qcf P e (c * i.size)).map fun zl => (.slice (some ⟨N, 0, none⟩) l c, .cells ⟨zl⟩ e)
     else none
   | none => none
 | _, _, _ => none
theorem wrap_small {n : Nat} (h : n < 1099511627776) : IntKind.i64.wrap (n : Int) = n := by
 exact IntWalk.i64_in _ ⟨by omega, by omega⟩
def fCopy (P : Program) (fl : Nat) (mem : Mem) (t : TypeId) (d x : Value) : Option (Value × Upd) :=
 match P.underlying t, d, x with
 | some (.slice e), .slice a dl _, .slice a2 n2 _ =>
   match szOf P e with
   | some s =>
     match Qcg mem (Nat.min n2 dl * s) a2 with
     | some cells => match a with
       | none => some (goInt (Nat.min n2 dl), .same)
       | some ⟨b, o, none⟩ => bif Nat.ble fl b && cells.all (·.oneCell') then match cells with
         | [] => some (goInt (Nat.min n2 dl), .same)
         | y :: ys => match mem b with
           | some (.cells c ct (0, 0)) => match setL o c.toList (y :: ys) with
             | some l => some (goInt (Nat.min n2 dl), .put b (.cells ⟨l⟩ ct (0, 0)))
             | none => none
           | _ => none
         else none
       | _ => none
     | none => none
   | none => none
 | _, _, _ => none
theorem Ql6 {wA : World} {t u ty : TypeId} {d x v : Value} {up : Upd} (h : fCopy P fl (fun b => wA.heap[b]?) t d x = some (v, up)) :
 (Builtin.copy_ #[t, u] ty #[d, x]).run P wA = .ok v (World.upd wA up) /\ (∃ a l c, x = .slice a l c) /\ ((∃ l c, d = .slice none l c) \/ (∃ a l c, d = .slice (some a) l c /\ fl <= a.block)) := by
 unfold fCopy at h
 split at h
 case h_2 => cases h
 rename_i e a dl c1 a2 n2 c2 hu
 split at h
 case h_2 => cases h
 rename_i s hs
 split at h
 case h_2 => cases h
 rename_i cells hc
 have hfirst := (Qau (P := P) (l := n2) (c := c2) hc).1
 split at h
 ·injection h with h; injection h with h1 h2; subst h1; subst h2
  refine ⟨?_, ⟨_, _, _, rfl⟩, .inl ⟨_, _, rfl⟩⟩
  unfold Builtin.copy_
  simp only [List.getElem?_toArray, List.getElem?_cons_zero, List.getElem?_cons_succ]
  rw [Sem.run_bind, Qh hu]
  simp only [Result.andThen_ok, Builtin.lenOf, pure_bind]
  rw [Sem.run_bind, Xn hs]
  simp only [Result.andThen_ok]
  rw [Sem.run_bind, hfirst]; rfl
 ·rename_i b o
  have hb0 := Qe h; clear h; obtain ⟨hc2, h⟩ := hb0
  simp only [Bool.and_eq_true] at hc2
  split at h
  ·injection h with h; injection h with h1 h2; subst h1; subst h2
   refine ⟨?_, ⟨_, _, _, rfl⟩, .inr ⟨_, _, _, rfl, Nat.le_of_ble_eq_true hc2.1⟩⟩
   unfold Builtin.copy_
   simp only [List.getElem?_toArray, List.getElem?_cons_zero, List.getElem?_cons_succ]
   rw [Sem.run_bind, Qh hu]
   simp only [Result.andThen_ok, Builtin.lenOf, pure_bind]
   rw [Sem.run_bind, Xn hs]
   simp only [Result.andThen_ok]
   rw [Sem.run_bind, hfirst]; rfl
  ·rename_i y ys
   split at h
   case h_2 => cases h
   rename_i c ct hb
   split at h
   case h_2 => cases h
   rename_i l hl
   injection h with h; injection h with h1 h2; subst h1; subst h2
   refine ⟨?_, ⟨_, _, _, rfl⟩, .inr ⟨_, _, _, rfl, Nat.le_of_ble_eq_true hc2.1⟩⟩
   obtain ⟨g1, g2⟩ := Qd2 _ _ _ _ hl
   have hst := run_storeCells_at P b o ct (y :: ys) 0 c wA hb (by simpa using g2) (fun v hv => (List.all_eq_true.1 hc2.2) v hv)
   simp only [Nat.add_zero] at hst
   unfold Builtin.copy_
   simp only [List.getElem?_toArray, List.getElem?_cons_zero, List.getElem?_cons_succ]
   rw [Sem.run_bind, Qh hu]
   simp only [Result.andThen_ok, Builtin.lenOf, pure_bind]
   rw [Sem.run_bind, Xn hs]
   simp only [Result.andThen_ok]
   rw [Sem.run_bind, hfirst]
   simp only [Result.andThen_ok]
   rw [Sem.run_bind, hst, Qcw hb, g1]; rfl
 ·cases h
def Qwu (P : Program) (e : TypeId) : Nat := match P.info? e with
 | some i => match i.zero with
   | some z => z.cells.size
   | none => 0
 | none => 0
def Qr3 (P : Program) (fl : Nat) (mem : Mem) (t : TypeId) (x : Value) : Option Upd :=
 match P.underlying t, x with
 | some (.slice _), .slice none _ _ => some .same
 | some (.slice e), .slice (some ⟨b, o, none⟩) n _ => bif Nat.ble fl b then match n with
   | 0 => some .same
   | n + 1 => match Qcf P e ((n + 1) * Qwu P e) with
     | some l => bif l.all (·.oneCell') then match l with
       | [] => some .same
       | y :: ys => match mem b with
         | some (.cells c ct (0, 0)) => match setL o c.toList (y :: ys) with
           | some l => some (.put b (.cells ⟨l⟩ ct (0, 0)))
           | none => none
         | _ => none
       else none
     | none => none
   else none
 | _, _ => none
theorem Qqq {wA : World} {t ty : TypeId} {x : Value} {up : Upd} (hz : Qag P t = true) (h : Qr3 P fl (fun b => wA.heap[b]?) t x = some up) :
 (Builtin.clear_ #[t] ty #[x]).run P wA = .ok (.tuple #[]) (World.upd wA up) /\ ((∃ l c, x = .slice none l c) \/ (∃ a l c, x = .slice (some a) l c /\ fl <= a.block)) := by
 unfold Qr3 at h
 split at h
 ·rename_i e l c hu
  injection h with h; subst h
  refine ⟨?_, .inl ⟨_, _, rfl⟩⟩
  unfold Builtin.clear_
  simp only [List.getElem?_toArray, List.getElem?_cons_zero]
  rw [Sem.run_bind, Qh hu]
  first | done | rfl
 ·rename_i e b o n c hu
  have hb0 := Qe h; clear h; obtain ⟨hc2, h⟩ := hb0
  have hfl := Nat.le_of_ble_eq_true hc2
  split at h
  ·injection h with h; subst h
   refine ⟨?_, .inr ⟨_, _, _, rfl, hfl⟩⟩
   unfold Builtin.clear_
   simp only [List.getElem?_toArray, List.getElem?_cons_zero]
   rw [Sem.run_bind, Qh hu]
   first | done | rfl
  ·rename_i n
   split at h
   case h_2 => cases h
   rename_i zl hzl
   have hb1 := Qe h; clear h; obtain ⟨hc3, h⟩ := hb1
   obtain ⟨z, hz1, hz2, hz3⟩ := Qeo hzl
   have hzs : Qwu P e = z.cells.size := by
    obtain ⟨i, g1, g2⟩ := Qib hz1
    unfold Qwu; rw [g1]; simp only [g2]
   rw [hzs] at hz3
   refine ⟨?_, .inr ⟨_, _, _, rfl, hfl⟩⟩
   have go : ∀ w', (Go.storeCells ⟨b, o, none⟩ zl).run P wA = .ok () w' -> (Builtin.clear_ #[t] ty #[.slice (some ⟨b, o, none⟩) (n + 1) c]).run P wA = .ok (.tuple #[]) w' := by
    intro w' hst
    unfold Builtin.clear_
    simp only [List.getElem?_toArray, List.getElem?_cons_zero]
    rw [Sem.run_bind, Qh hu]
    simp only [Result.andThen_ok, bind_assoc]
    rw [Sem.run_bind, hz1 wA]
    simp only [Result.andThen_ok]
    unfold Builtin.zeroCells
    rw [hz3, Sem.run_bind, hst]; rfl
   split at h
   ·injection h with h; subst h
    exact go _ rfl
   ·rename_i y ys
    split at h
    case h_2 => cases h
    rename_i c ct hb
    split at h
    case h_2 => cases h
    rename_i l hl
    injection h with h; subst h
    obtain ⟨g1, g2⟩ := Qd2 _ _ _ _ hl
    have hst := run_storeCells_at P b o ct (y :: ys) 0 c wA hb (by simpa using g2) (fun v hv => (List.all_eq_true.1 hc3) v hv)
    simp only [Nat.add_zero] at hst
    exact go _ (by rw [hst, Qcw hb, g1])
 ·cases h
def Qdn (P : Program) (fl : Nat) (o : Oper) (ev : Operand -> Value) (mem : Mem) (N : Nat) : Option (Next × Upd) :=
 match o.op with
 | .move x | .assign x => some (.value (ev x), .same)
 | .pick c a b => match ev c with
   | .bool t => some (.value (bif t then ev a else ev b), .same)
   | _ => none
 | .alloc t => match Qfo P t with
   | some z => some (.value (.pointer (some ⟨N, 0, none⟩)), .new (.cells z.cells t))
   | none => none
 | .box t x => bif (P.info? t).isSome then some (.value (.pointer (some ⟨N, 0, none⟩)), .new (.cells (ev x).cells t)) else none
 | .build t ps => valO (Ql7 P t (ps.toList.map fun p => (p.1, ev p.2)))
 | .buildSlice t n ps => match Qa6 P N t n (ps.toList.map fun p => (p.1, ev p.2)) with
   | some (v, ob) => some (.value v, .new ob)
   | none => none
 | .load t a => valO (Qh6 P mem t (ev a))
 | .store t a x => match Qic P fl mem t (ev a) (ev x) with
   | some u => some (.skip, u)
   | none => none
 | .nilCheck x => match ev x with
   | .pointer (some a) => some (.value (.pointer (some a)), .same)
   | .func (.func f) a c => some (.value (.func (.func f) a c), .same)
   | _ => none
 | .binOp op t x y _ => match fBin P op t x y (ev x) (ev y) with
   | some n => some (n, .same)
   | none => none
 | .unOp op _ x => match op, ev x with
   | .not, .bool b => some (.value (.bool !b), .same)
   | op, v => bif Zn v then match gRun P (Op.unary op v) Qox with
     | some (n, _) => some (n, .same)
     | none => none else none
 | .convert s d x => match Qcy P s d (ev x) Qox with
   | some (n, _) => some (n, .same)
   | none => none
 | .makeFunc fn first captured => bif Fn.calm fn then some (.value (.func fn ⟨first.toList.map ev⟩ ⟨captured.toList.map ev⟩), .same) else none
 | .makeMap t r => match P.underlying t with
   | some (.map _ _) => match r with
     | none => some (.value (.map (some N)), .new (.map #[] 0))
     | some x => match ev x with
       | .int _ _ => some (.value (.map (some N)), .new (.map #[] 0))
       | _ => none
   | _ => none
 | .makeSlice t l c => match ev l, ev c with
   | .int _ l, .int _ c => match Qdm P N t l c with
     | some (v, ob) => some (.value v, .new ob)
     | none => none
   | _, _ => none
 | .slice t x lo hi mx => bif (lo.all fun x => Zn (ev x)) && (hi.all fun x => Zn (ev x)) && (mx.all fun x => Zn (ev x)) then
  valO (Qid P mem t (ev x) (lo.map ev) (hi.map ev) (mx.map ev))
   else none
 | .fieldAddr s x f => valO (Qdo P s (ev x) f)
 | .field t x f => valO (Qoy P t (ev x) f)
 | .indexAddr t x i => match ev i with
   | .int _ i => valO (Qbp P t (ev x) i)
   | _ => none
 | .index t x i => match ev i with
   | .int _ i => valO (Qoz P t (ev x) i)
   | _ => none
 | .lookup t m k ok => bif Zn (ev k) then valO (Qfz P mem t (ev m) (ev k) ok) else none
 | .mapUpdate t m k v | .insert t m k v => bif Zn (ev k) then match Qbw P fl mem t (ev m) (ev k) (ev v) with
  | some (r, ob) => some (.skip, .put r ob)
  | none => none else none
 | .range t x => match P.underlying t, ev x with
   | some .string, .string s => some (.value (.pointer (some ⟨N, 0, none⟩)), .new (.stringIter s 0))
   | _, _ => none
 | .next it true => match Ql8 fl mem (ev it) with
   | some (v, none) => some (.value v, .same)
   | some (v, some (r, ob)) => some (.value v, .put r ob)
   | none => none
 | .extract t i => valO (Qkp (ev t) i)
 | .call { callee := .builtin .len, args, argTypes } => match argTypes.toList, args.toList with
   | [t], [x] => valO (Qr4 P mem t (ev x))
   | _, _ => none
 | .call { callee := .builtin .append, args, argTypes } => match argTypes.toList, args.toList with
   | [t, u], [s, x] => bif Nat.beq t u then match Qnt P fl mem N t (ev s) (ev x) with
     | some (v, up) => some (.value v, up)
     | none => none else none
   | _, _ => none
 | .call { callee := .builtin .copy, args, argTypes } => match argTypes.toList, args.toList with
   | [t, _], [d, x] => match fCopy P fl mem t (ev d) (ev x) with
     | some (v, up) => some (.value v, up)
     | none => none
   | _, _ => none
 | .call { callee := .builtin .clear, args, argTypes } => match argTypes.toList, args.toList with
   | [t], [x] => bif Qag P t then match Qr3 P fl mem t (ev x) with
     | some up => some (.value (.tuple #[]), up)
     | none => none else none
   | _, _ => none
 | .call { callee := .builtin .min, args, argTypes } => bif args.toList.all fun x => Zn (ev x) then match gRun P (Builtin.min_ argTypes o.type ⟨args.toList.map ev⟩) Qox with
  | some (n, _) => some (n, .same)
  | none => none else none
 | .call { callee := .builtin .max, args, argTypes } => bif args.toList.all fun x => Zn (ev x) then match gRun P (Builtin.max_ argTypes o.type ⟨args.toList.map ev⟩) Qox with
  | some (n, _) => some (n, .same)
  | none => none else none
 | _ => none
theorem Qar {s : Sem Value} {wA wB : World} {v : Value} (h : s.run P wA = .ok v wB) : Qcj P (do Pure.pure (Next.value (<- s))) wA = some (.value v, wB) := by
 unfold Qcj; rw [Sem.run_bind, h]; rfl
theorem Qwv {s : Sem Unit} {wA wB : World} {v : Unit} (h : s.run P wA = .ok v wB) : Qcj P (do s; Pure.pure Next.skip) wA = some (.skip, wB) := by
 unfold Qcj; rw [Sem.run_bind, h]; rfl
theorem Qaz {v : Option Value} {n : Next} {u : Upd} (h : valO v = some (n, u)) : ∃ x, v = some x /\ n = .value x /\ u = .same := by
 unfold valO at h
 split at h
 ·injection h with h; injection h with h1 h2; exact ⟨_, rfl, h1.symm, h2.symm⟩
 ·cases h
theorem Qkq {s d : TypeId} {x : Value} {w w1 w2 : World} {n : Next} (h : Qcy P s d x w1 = some (n, w2)) : Qcy P s d x w = some (n, w) := by
 unfold Qcy at h ⊢
 split at h
 ·injection h with h; injection h with h1 _; subst h1; rfl
 ·injection h with h; injection h with h1 _; subst h1; rfl
 ·injection h with h; injection h with h1 _; subst h1; rfl
 ·cases h
theorem Qfj {w : World} {t : TypeId} {l c : Int} {v : Value} {o : Obj} (h : Qdm P w.heap.size t l c = some (v, o)) (k k' : IntKind) :
 (Instr.makeSlice t (.int k l) (.int k' c)).run P w = .ok v (w.alloc o) /\ Qag P t = true /\ (IntKind.i64.wrap c).toNat < big := by
 unfold Qdm at h
 split at h
 case h_2 => cases h
 rename_i e l c hu
 split at h
 case h_2 => cases h
 rename_i i hi
 have hb0 := Qe h; clear h; obtain ⟨hc, h⟩ := hb0
 simp only [Bool.and_eq_true] at hc
 have h1 := Nat.le_of_ble_eq_true hc.1.1
 have h2 := Nat.le_of_ble_eq_true hc.1.2
 have h3 : c < 1099511627776 := Z4 hc.2
 cases hz : Qcf P e (c * i.size) with
 | none => rw [hz] at h; cases h
 | some zl =>
   rw [hz] at h
   simp only [Option.map_some, Option.some.injEq, Prod.mk.injEq] at h
   obtain ⟨e1, e2⟩ := h
   subst e1; subst e2
   obtain ⟨z, hz1, hz2, hz3⟩ := Qeo hz
   have wl : IntKind.i64.wrap (Int.ofNat l) = Int.ofNat l := wrap_small (by omega)
   have wc : IntKind.i64.wrap (Int.ofNat c) = Int.ofNat c := wrap_small h3
   have hs : szOf P e = some i.size := by unfold szOf; rw [hi]; rfl
   have hti : (Go.typeInfo e).run P w = .ok i w := by unfold Go.typeInfo; simp [hi]
   refine ⟨?_, by unfold Qag; rw [hu]; exact hz2, by rw [wc]; show c < big; unfold big; omega⟩
   unfold Instr.makeSlice
   rw [Sem.run_bind, Qh hu]
   simp only [Result.andThen_ok, asInt, asIntOf, pure_bind]
   rw [Sem.run_bind, hti]
   simp only [Result.andThen_ok]
   rw [wl, wc]
   have e48 : ¬ ((i.bytes : Int) * (Int.ofNat c) > 2 ^ 48) := by
    have this : ((i.bytes * c : Nat) : Int) <= ((281474976710656 : Nat) : Int) := Int.ofNat_le.2 h2
    rw [Int.natCast_mul] at this
    show ¬ ((i.bytes : Int) * (c : Int) > 2 ^ 48)
    omega
   have c1 : decide ((Int.ofNat c) < 0) = false := by simp
   have c2 : decide ((Int.ofNat l) < 0) = false := by simp
   have c3 : decide ((Int.ofNat l) > (Int.ofNat c)) = false := decide_eq_false (by show ¬ ((l : Int) > (c : Int)); omega)
   have c4 : decide ((i.bytes : Int) * (Int.ofNat c) > 2 ^ 48) = false := decide_eq_false e48
   rw [c1, c2, c3, c4]
   simp only [Bool.or_self, Bool.false_eq_true, if_false]
   rw [Sem.run_bind, run_askRoom]
   simp only [Result.andThen_ok]
   rw [Sem.run_bind, Xn hs]
   simp only [Result.andThen_ok]
   show Sem.run P (if c * i.size = 0 then _ else _) w = _
   by_cases h0 : c * i.size = 0
   ·rw [if_pos h0]
    have e0 : zl = [] := by
     rw [h0] at hz3
     have := congrArg Array.toList hz3
     simpa using this.symm
    subst e0
    have e1 : (Array.range ((Int.ofNat c).toNat * i.size)).map (fun x => (#[] : Array Value)[x % (#[] : Array Value).size]!) = ⟨[]⟩ := by
     show (Array.range (c * i.size)).map _ = _
     rw [h0]; apply Array.ext'; simp
    rw [e1]; rfl
   ·rw [if_neg h0, Sem.run_bind, hz1]
    simp only [Result.andThen_ok, pure_bind]
    have e1 : (Array.range ((Int.ofNat c).toNat * i.size)).map (fun x => z.cells[x % z.cells.size]!) = ⟨zl⟩ := hz3
    rw [e1]; rfl
theorem Qf0 {ev : Operand -> Value} (ps : Array (Nat × Operand)) : (ps.map fun (i, x) => (i, ev x)).toList = ps.toList.map fun p => (p.1, ev p.2) := by simp
end
end Go.Proofs.Ytfeedchjdnedjaa.Ev
