import Derived.Test.YtfeedchjdnedjaaEv29
import Derived.Below
set_option linter.unusedVariables false
set_option linter.unusedSimpArgs false
namespace Go.Proofs.Ytfeedchjdnedjaa.Vv
open Go Go.Proofs.Ytfeedchjdnedjaa.Ev
open Go.RowKit (Below)
inductive VV where
 | c (v : Value)
 | tr (cells : List VV) (n : Nat)
 | fr (cells : List VV) (n : Nat)
 | rf (k off n : Nat)
 | pt (k off : Nat)
 | tp (cells : List VV) (off : Nat)
 | ag (cells : List VV)
 | tu (vs : List VV)
 | fn (g : FuncId) (caps : List VV)
 | it (k : Nat)
 | mp (k : Nat)
 | mt (cells : List VV)
 | fw (s : Nat) (cells : List VV) (n : Nat)
 | e0
 | en
 | any
 deriving Inhabited
abbrev MM := Nat -> Option Obj
def MM.Le (m m' : MM) : Prop := ∀ b o, m b = some o -> m' b = some o
theorem MM.Le.refl (m : MM) : m.Le m := fun _ _ h => h
theorem MM.Le.trans {a b c : MM} (h : a.Le b) (k : b.Le c) : a.Le c := fun x y e => k _ _ (h _ _ e)
def Qob : Obj -> Bool
 | .cells _ _ (0, 0) => true
 | _ => false
def MM.fr (m : MM) (fb : Nat) : MM := fun b => if fb <= b then (m b).filter Qob else none
theorem MM.Qch {m : MM} {fb b : Nat} {ob : Obj} : m.fr fb b = some ob ↔ fb <= b /\ m b = some ob /\ Qob ob = true := by
 unfold MM.fr
 by_cases h : fb <= b
 ·rw [if_pos h, Option.filter_eq_some_iff]; simp [h]
 ·rw [if_neg h]; simp [h]
theorem MM.Qjk (m : MM) (fb : Nat) : (m.fr fb).Le m := fun b o h => (Qch.1 h).2.1
theorem MM.Qd3 {m m' : MM} (h : m.Le m') {fb fb' : Nat} (hf : fb' <= fb) : (m.fr fb).Le (m'.fr fb') := fun b o e => by
 obtain ⟨h1, h2, h3⟩ := Qch.1 e
 exact Qch.2 ⟨by omega, h _ _ h2, h3⟩
def Qrr : Value -> Bool
 | .func (.yield _) fs cs => fs.isEmpty && cs.isEmpty
 | v => Zn v
theorem Qu8 {v : Value} (h : Zn v = true) : Qrr v = true := by cases v <;> first | exact h | cases h
inductive T (m : MM) : VV -> Value -> Prop
 | c {v : Value} (h : Qrr v = true) : T m (.c v) v
 | any {v : Value} : T m .any v
 | e {cells : List VV} {a : Option Addr} : T m (.tr cells 0) (.slice a 0 0)
 | z {a : Option Addr} : T m .e0 (.slice a 0 0)
 | en {a : Addr} {k : Nat} : T m .en (.slice (some a) 0 k)
 | tr {cells : List VV} {n b off cap : Nat} {cs : Array Value} {t : TypeId} {fz : Nat × Nat} (hb : m b = some (.cells cs t fz)) (hn : n <= cap) (hs : off + cells.length <= cs.size)
  (h : ∀ (j : Nat) (v v' : _), cells[j]? = some v -> cs[off + j]? = some v' -> T m v v') : T m (.tr cells n) (.slice (some ⟨b, off, none⟩) n cap)
 | tp {cells : List VV} {b off o : Nat} {cs : Array Value} {t : TypeId} {fz : Nat × Nat} (hb : m b = some (.cells cs t fz)) (hs : off + cells.length <= cs.size)
  (h : ∀ (j : Nat) (v v' : _), cells[j]? = some v -> cs[off + j]? = some v' -> T m v v') : T m (.tp cells o) (.pointer (some ⟨b, off + o, none⟩))
 | ag {cells : List VV} {cs : Array Value} (hs : cells.length = cs.size) (h : ∀ (j : Nat) (v v' : _), cells[j]? = some v -> cs[j]? = some v' -> T m v v') : T m (.ag cells) (.agg cs)
 | tu {cells : List VV} {cs : Array Value} (hs : cells.length = cs.size) (h : ∀ (j : Nat) (v v' : _), cells[j]? = some v -> cs[j]? = some v' -> T m v v') : T m (.tu cells) (.tuple cs)
 | fn {g : FuncId} {cells : List VV} {cs : Array Value} (hs : cells.length = cs.size) (h : ∀ (j : Nat) (v v' : _), cells[j]? = some v -> cs[j]? = some v' -> T m v v') : T m (.fn g cells) (.func (.func g) #[] cs)
 | mt {cells : List VV} {b clock : Nat} {es : Array MapEntry} (hb : m b = some (.map es clock)) (hs : cells.length = 2 * es.size) (hk : ∀ (j : Nat) (e : MapEntry), es[j]? = some e -> cells[2 * j]? = some (.c e.key))
  (h : ∀ (j : Nat) (v : VV) (e : MapEntry), cells[2 * j + 1]? = some v -> es[j]? = some e -> T m v e.val) : T m (.mt cells) (.map (some b))
theorem T.mono {m m' : MM} (hm : m.Le m') {v : VV} {v' : Value} (h : T m v v') : T m' v v' := by
 induction h with
 | c h => exact .c h
 | any => exact .any
 | e => exact .e
 | z => exact .z
 | en => exact .en
 | tr hb hn hs _ ih => exact .tr (hm _ _ hb) hn hs ih
 | tp hb hs _ ih => exact .tp (hm _ _ hb) hs ih
 | ag hs _ ih => exact .ag hs ih
 | tu hs _ ih => exact .tu hs ih
 | fn hs _ ih => exact .fn hs ih
 | mt hb hs hk _ ih => exact .mt (hm _ _ hb) hs hk ih
def Qr7 : Obj -> Bool
 | .cells .. | .map .. => true
 | _ => false
def MM.LeC (m m' : MM) : Prop := ∀ b ob, Qr7 ob = true -> m b = some ob -> m' b = some ob
theorem MM.LeC.fr {m m' : MM} (h : m.LeC m') (fb : Nat) : (m.fr fb).LeC (m'.fr fb) := fun b ob hd e => by
 obtain ⟨h1, h2, h3⟩ := Qch.1 e
 exact Qch.2 ⟨h1, h _ _ hd h2, h3⟩
theorem T.Qf2 {m m' : MM} (hm : m.LeC m') {v : VV} {v' : Value} (h : T m v v') : T m' v v' := by
 induction h with
 | c h => exact .c h
 | any => exact .any
 | e => exact .e
 | z => exact .z
 | en => exact .en
 | tr hb hn hs _ ih => exact .tr (hm _ _ rfl hb) hn hs ih
 | tp hb hs _ ih => exact .tp (hm _ _ rfl hb) hs ih
 | mt hb hs hk _ ih => exact .mt (hm _ _ rfl hb) hs hk ih
 | ag hs _ ih => exact .ag hs ih
 | tu hs _ ih => exact .tu hs ih
 | fn hs _ ih => exact .fn hs ih
structure OI where
 b : Nat
 off : Nat
 tot : Nat
 sz : Nat
abbrev OM := Nat -> Option OI
def OM.Le (o o' : OM) : Prop := ∀ k i, o k = some i -> o' k = some i
def OM.no : OM := fun _ => none
inductive R (o : OM) (fb : Nat) (m : MM) : VV -> Value -> Prop
 | t {v : VV} {v' : Value} (h : T m v v') : R o fb m v v'
 | fr {cells : List VV} {n : Nat} {v' : Value} (h : T (m.fr fb) (.tr cells n) v') : R o fb m (.fr cells n) v'
 | rf {k off n cap : Nat} {oi : OI} (ho : o k = some oi) (hn : n <= cap) (hr : oi.off + off + cap * oi.sz <= oi.tot) : R o fb m (.rf k off n) (.slice (some ⟨oi.b, oi.off + off, none⟩) n cap)
 | rf0 {k off : Nat} {a : Option Addr} : R o fb m (.rf k off 0) (.slice a 0 0)
 | pt {k off : Nat} {oi : OI} (ho : o k = some oi) : R o fb m (.pt k off) (.pointer (some ⟨oi.b, oi.off + off, none⟩))
 | ag {cells : List VV} {cs : Array Value} (hs : cells.length = cs.size) (h : ∀ (j : Nat) (v v' : _), cells[j]? = some v -> cs[j]? = some v' -> R o fb m v v') : R o fb m (.ag cells) (.agg cs)
 | tu {cells : List VV} {cs : Array Value} (hs : cells.length = cs.size) (h : ∀ (j : Nat) (v v' : _), cells[j]? = some v -> cs[j]? = some v' -> R o fb m v v') : R o fb m (.tu cells) (.tuple cs)
 | fn {g : FuncId} {cells : List VV} {cs : Array Value} (hs : cells.length = cs.size) (h : ∀ (j : Nat) (v v' : _), cells[j]? = some v -> cs[j]? = some v' -> R o fb m v v') : R o fb m (.fn g cells) (.func (.func g) #[] cs)
 | it {k : Nat} {oi : OI} (ho : o k = some oi) : R o fb m (.it k) (.pointer (some ⟨oi.b, 0, none⟩))
 | mp {k : Nat} {oi : OI} (ho : o k = some oi) : R o fb m (.mp k) (.map (some oi.b))
 | fw {s : Nat} {cells : List VV} {n : Nat} {v' : Value} (h : T (m.fr fb) (.tr cells n) v') (hc : ∀ b off c, v' = .slice (some ⟨b, off, none⟩) n c -> 0 < c -> (s = 0 -> c = n) /\ ∃ cs t, m b = some (.cells cs t (0, 0)) /\ off + c * s <= cs.size) : R o fb m (.fw s cells n) v'
theorem R.mono {o o' : OM} (ho : o.Le o') {m m' : MM} (hm : m.Le m') {fb fb' : Nat} (hf : fb' <= fb) {v : VV} {v' : Value} (h : R o fb m v v') : R o' fb' m' v v' := by
 induction h with
 | t h => exact .t (h.mono hm)
 | fr h => exact .fr (h.mono (MM.Qd3 hm hf))
 | rf h hn hr => exact .rf (ho _ _ h) hn hr
 | rf0 => exact .rf0
 | pt h => exact .pt (ho _ _ h)
 | it h => exact .it (ho _ _ h)
 | mp h => exact .mp (ho _ _ h)
 | fw h hc => exact .fw (h.mono (MM.Qd3 hm hf)) (fun b off c e hp => let ⟨z, cs, ty, x, y⟩ := hc b off c e hp; ⟨z, cs, ty, hm _ _ x, y⟩)
 | ag hs _ ih => exact .ag hs ih
 | tu hs _ ih => exact .tu hs ih
 | fn hs _ ih => exact .fn hs ih
theorem R.Qf2 {o : OM} {m m' : MM} (hm : m.LeC m') {fb : Nat} {v : VV} {v' : Value} (h : R o fb m v v') : R o fb m' v v' := by
 induction h with
 | t h => exact .t (h.Qf2 hm)
 | fr h => exact .fr (h.Qf2 (hm.fr _))
 | rf h hn hr => exact .rf h hn hr
 | rf0 => exact .rf0
 | pt h => exact .pt h
 | it h => exact .it h
 | mp h => exact .mp h
 | fw h hc => exact .fw (h.Qf2 (hm.fr _)) (fun b off c e hp => let ⟨z, cs, ty, x, y⟩ := hc b off c e hp; ⟨z, cs, ty, hm _ _ rfl x, y⟩)
 | ag hs _ ih => exact .ag hs ih
 | tu hs _ ih => exact .tu hs ih
 | fn hs _ ih => exact .fn hs ih
theorem OM.Le.refl (o : OM) : o.Le o := fun _ _ h => h
theorem OM.Qhq (o : OM) : OM.no.Le o := fun _ _ h => by cases h
theorem R.undef {o : OM} {fb : Nat} {m : MM} {v' : Value} : R o fb m .any v' := .t .any
def RL (o : OM) (fb : Nat) (m : MM) (l : List VV) (l' : List Value) : Prop := l.length = l'.length /\ ∀ (j : Nat) (v : VV) (v' : Value), l[j]? = some v -> l'[j]? = some v' -> R o fb m v v'
theorem RL.nil {o : OM} {fb : Nat} {m : MM} : RL o fb m [] [] := ⟨rfl, fun j v v' h => by simp at h⟩
theorem RL.cons {o : OM} {fb : Nat} {m : MM} {v : VV} {v' : Value} {l : List VV} {l' : List Value} (h : R o fb m v v') (k : RL o fb m l l') : RL o fb m (v :: l) (v' :: l') :=
 ⟨by simp [k.1], fun j u u' a b => by
  cases j with
  | zero => simp at a b; subst a; subst b; exact h
  | succ j => simp at a b; exact k.2 j u u' a b⟩
theorem RL.tail {o : OM} {fb : Nat} {m : MM} {v : VV} {v' : Value} {l : List VV} {l' : List Value} (h : RL o fb m (v :: l) (v' :: l')) : R o fb m v v' /\ RL o fb m l l' :=
 ⟨h.2 0 v v' rfl rfl, by simpa using h.1, fun j u u' a b => h.2 (j + 1) u u' (by simpa using a) (by simpa using b)⟩
theorem RL.get {o : OM} {fb : Nat} {m : MM} {l : List VV} {l' : List Value} (h : RL o fb m l l') {j : Nat} {v : VV} (e : l[j]? = some v) : ∃ v', l'[j]? = some v' /\ R o fb m v v' := by
 have hlt : j < l.length := (List.getElem?_eq_some_iff.1 e).1
 have : j < l'.length := by rw [<- h.1]; exact hlt
 exact ⟨l'[j], List.getElem?_eq_getElem this, h.2 j v _ e (List.getElem?_eq_getElem this)⟩
theorem RL.take {o : OM} {fb : Nat} {m : MM} {l : List VV} {l' : List Value} (h : RL o fb m l l') (n : Nat) : RL o fb m (l.take n) (l'.take n) :=
 ⟨by simp [h.1], fun j v v' a b => by
  rw [List.getElem?_take] at a b
  split at a
  ·rw [if_pos ‹_›] at b; exact h.2 j v v' a b
  ·cases a⟩
theorem RL.drop {o : OM} {fb : Nat} {m : MM} {l : List VV} {l' : List Value} (h : RL o fb m l l') (n : Nat) : RL o fb m (l.drop n) (l'.drop n) :=
 ⟨by simp [h.1], fun j v v' a b => by
  rw [List.getElem?_drop] at a b
  exact h.2 _ v v' a b⟩
theorem RL.app {o : OM} {fb : Nat} {m : MM} {l r : List VV} {l' r' : List Value} (h : RL o fb m l l') (k : RL o fb m r r') : RL o fb m (l ++ r) (l' ++ r') :=
 ⟨by simp [h.1, k.1], fun j v v' a b => by
  by_cases c : j < l.length
  ·rw [List.getElem?_append_left c] at a
   rw [List.getElem?_append_left (by rw [<- h.1]; exact c)] at b
   exact h.2 j v v' a b
  ·rw [List.getElem?_append_right (by omega)] at a
   rw [List.getElem?_append_right (by rw [<- h.1]; omega), <- h.1] at b
   exact k.2 _ v v' a b⟩
theorem RL.mono {o o' : OM} (ho : o.Le o') {m m' : MM} (hm : m.Le m') {fb fb' : Nat} (hf : fb' <= fb) {l : List VV} {l' : List Value} (h : RL o fb m l l') : RL o' fb' m' l l' :=
 ⟨h.1, fun j v v' a b => (h.2 j v v' a b).mono ho hm hf⟩
def VV.cells : VV -> List VV
 | .ag cs => cs
 | v => [v]
theorem R.Qd4 {o : OM} {fb : Nat} {m : MM} {l : List VV} {cs : Array Value} (h : RL o fb m l cs.toList) : R o fb m (.ag l) (.agg cs) :=
 .ag (by simpa using h.1) (fun j v v' a b => h.2 j v v' a (by simpa using b))
def VV.known : VV -> Bool
 | .any => false
 | .tu _ => false
 | _ => true
theorem R.cells {o : OM} {fb : Nat} {m : MM} {v : VV} {v' : Value} (h : R o fb m v v') (hk : v.known = true) : RL o fb m v.cells v'.cells.toList /\ ((∀ l, v ≠ .ag l) -> v'.oneCell' = true) := by
 have one : ∀ {v : VV} {v' : Value}, R o fb m v v' -> RL o fb m [v] [v'] := fun h => .cons h .nil
 cases h with
 | t h =>
   cases h with
   | c hg =>
     refine ⟨?_, fun _ => ?_⟩
     ·cases v' <;> first | (simp [Qrr, Zn] at hg; done) | exact one (.t (.c hg))
     ·cases v' <;> first | (simp [Qrr, Zn] at hg; done) | rfl
   | any => cases hk
   | e => exact ⟨one (.t .e), fun _ => rfl⟩
   | z => exact ⟨one (.t .z), fun _ => rfl⟩
   | en => exact ⟨one (.t .en), fun _ => rfl⟩
   | tr a b c d => exact ⟨one (.t (.tr a b c d)), fun _ => rfl⟩
   | tp a b c => exact ⟨one (.t (.tp a b c)), fun _ => rfl⟩
   | ag hs h => exact ⟨⟨by simpa [VV.cells, Value.cells] using hs, fun j v v' a b => .t (h j v v' a (by simpa [Value.cells] using b))⟩, fun h => absurd rfl (h _)⟩
   | tu => cases hk
   | fn hs h => exact ⟨one (.t (.fn hs h)), fun _ => rfl⟩
   | mt a b c d => exact ⟨one (.t (.mt a b c d)), fun _ => rfl⟩
 | fr h =>
   refine ⟨?_, fun _ => ?_⟩
   ·cases h <;> exact one (.fr (by first | exact .e | (constructor <;> assumption)))
   ·cases h <;> rfl
 | rf a b c => exact ⟨one (.rf a b c), fun _ => rfl⟩
 | rf0 => exact ⟨one .rf0, fun _ => rfl⟩
 | pt a => exact ⟨one (.pt a), fun _ => rfl⟩
 | ag hs h => exact ⟨⟨by simpa [VV.cells, Value.cells] using hs, fun j v v' a b => h j v v' a (by simpa [Value.cells] using b)⟩, fun h => absurd rfl (h _)⟩
 | tu => cases hk
 | fn hs h => exact ⟨one (.fn hs h), fun _ => rfl⟩
 | it a => exact ⟨one (.it a), fun _ => rfl⟩
 | mp a => exact ⟨one (.mp a), fun _ => rfl⟩
 | fw h hc => exact ⟨by cases h <;> exact one (.fw (by first | exact .e | (constructor <;> assumption)) hc), fun _ => by cases h <;> rfl⟩
theorem R.J9 {o : OM} {fb : Nat} {m : MM} {v v' : Value} (h : R o fb m (.c v) v') : v' = v /\ Qrr v = true := by
 cases h with
 | t h => cases h with
   | c h => exact ⟨rfl, h⟩
def At (o : OM) (fb : Nat) (m : MM) (cells : List VV) (c : Array Value) (d : Nat) : Prop := d + cells.length <= c.size /\ ∀ (j : Nat) (v : VV) (v' : Value), cells[j]? = some v -> c[d + j]? = some v' -> R o fb m v v'
theorem At.get {o : OM} {fb : Nat} {m : MM} {cells : List VV} {c : Array Value} {d off : Nat} {v : VV} (h : At o fb m cells c d) (e : getL off cells = some v) : ∃ v', getL (d + off) c.toList = some v' /\ R o fb m v v' := by
 rw [Jj] at e
 have hlt : off < cells.length := (List.getElem?_eq_some_iff.1 e).1
 have h2 : d + off < c.size := by have := h.1; omega
 refine ⟨c[d + off], by rw [Jj]; simp [h2], h.2 off v _ e (by simp [h2])⟩
theorem Qbd {α : Type} {n : Nat} {l : List α} (h : n <= l.length) : Qbe n l = some (l.take n) := by
 induction n generalizing l with
 | zero => rfl
 | succ n ih =>
   cases l with
   | nil => simp at h
   | cons x l => simp only [Qbe]; rw [ih (by simpa using h)]; rfl
theorem At.take {o : OM} {fb : Nat} {m : MM} {cells : List VV} {c : Array Value} {d off n : Nat} {l : List VV} (h : At o fb m cells c d) (e : Qbe n (Qbm off cells) = some l) :
 ∃ l', Qbe n (Qbm (d + off) c.toList) = some l' /\ RL o fb m l l' := by
 obtain ⟨h1, h2⟩ := Qfc _ _ _ e
 rw [Qa5] at h1
 have hlen : n <= cells.length - off := by rw [h1] at h2; simp at h2; omega
 have hd := h.1
 by_cases c0 : n = 0
 ·subst c0
  refine ⟨[], rfl, ?_⟩
  simp at h1; subst h1; exact .nil
 ·refine ⟨(Qbm (d + off) c.toList).take n, Qbd (by rw [Qa5]; simp; omega), ?_, ?_⟩
  ·rw [h1, Qa5]; simp; omega
  ·intro j v v' a b
   rw [h1, List.getElem?_take] at a
   rw [Qa5, List.getElem?_take] at b
   split at a
   ·rw [if_pos ‹_›, List.getElem?_drop] at b
    rw [List.getElem?_drop] at a
    exact h.2 _ v v' a (by rw [<- Nat.add_assoc]; simpa using b)
   ·cases a
structure Blk where
 bx : Bool
 sz : Nat
 cells : List VV
def bigH : Nat := 549755813888
def bigX : Nat := 1099511627776
def Blk.x (b : Blk) : Bool := Nat.ble bigX b.sz
def Blk.h (b : Blk) : Bool := Nat.beq b.sz bigH || Nat.beq b.sz (bigX + 2)
def VV.tl : VV -> Bool
 | .c _ | .tr _ _ | .tp _ _ | .mt _ | .e0 => true
 | _ => false
def VV.still : VV -> Bool
 | .c _ | .tr _ _ | .fr _ _ | .mt _ | .tp _ _ | .e0 => true
 | .fn _ cs => cs.all VV.tl
 | _ => false
def VV.isC : VV -> Bool
 | .c _ => true
 | _ => false
def VV.mval : VV -> Bool
 | .ag cs => cs.all VV.still
 | v => v.still
def gb (L : List (Option Blk)) (k : Nat) : Option Blk := match getL k L with
 | some b => b
 | none => none
def gc (L : List (Option Blk)) (k : Nat) : Option Blk := match gb L k with
 | some b => bif b.x then none else some b
 | none => none
def ga (L : List (Option Blk)) (k : Nat) : Option Blk := match gb L k with
 | some b => bif b.x || b.h then none else some b
 | none => none
def gx (L : List (Option Blk)) (k : Nat) (sz : Nat) : Option Blk := match gb L k with
 | some b => bif Nat.beq b.sz sz then some b else none
 | none => none
theorem Qc6 {L : List (Option Blk)} {k : Nat} {b : Blk} (h : gc L k = some b) : gb L k = some b /\ b.x = false := by
 unfold gc at h
 split at h
 case h_2 => cases h
 rename_i b' e
 cases hx : b'.x with
 | true => rw [hx] at h; cases h
 | false => rw [hx] at h; injection h with h; subst h; exact ⟨e, hx⟩
theorem Yb {L : List (Option Blk)} {k : Nat} {b : Blk} (h : ga L k = some b) : gb L k = some b /\ b.x = false /\ b.h = false := by
 unfold ga at h
 split at h
 case h_2 => cases h
 rename_i b' e
 cases hx : b'.x with
 | true => rw [hx] at h; cases h
 | false =>
   cases hh : b'.h with
   | true => rw [hx, hh] at h; cases h
   | false => rw [hx, hh] at h; injection h with h; subst h; exact ⟨e, hx, hh⟩
theorem Qqs {L : List (Option Blk)} {k : Nat} {b : Blk} (h : ga L k = some b) : gc L k = some b := by
 obtain ⟨h1, h2, h3⟩ := Yb h
 unfold gc; rw [h1]; dsimp only; rw [h2]; rfl
theorem Qx1 {L : List (Option Blk)} {k sz : Nat} {b : Blk} (h : gx L k sz = some b) : gb L k = some b /\ b.sz = sz := by
 unfold gx at h
 split at h
 case h_2 => cases h
 rename_i b' e
 cases hx : Nat.beq b'.sz sz with
 | false => rw [hx] at h; cases h
 | true => rw [hx] at h; injection h with h; subst h; exact ⟨e, Nat.eq_of_beq_eq_true hx⟩
abbrev OM.of (o : OM) (bx : Bool) : OM := if bx = true then o else .no
theorem OM.Qyj {o o' : OM} (h : o.Le o') (b : Bool) : (o.of b).Le (o'.of b) := by
 unfold OM.of
 cases b
 ·exact OM.Qhq _
 ·exact h
theorem At.mono {o o' : OM} (ho : o.Le o') {fb fb' : Nat} {m m' : MM} (hm : m.Le m') (hf : fb' <= fb) {cells : List VV} {c : Array Value} {d : Nat} (h : At o fb m cells c d) : At o' fb' m' cells c d :=
 ⟨h.1, fun j v v' a b => (h.2 j v v' a b).mono ho hm hf⟩
theorem At.Qf2 {o : OM} {fb : Nat} {m m' : MM} (hm : m.LeC m') {cells : List VV} {c : Array Value} {d : Nat} (h : At o fb m cells c d) : At o fb m' cells c d :=
 ⟨h.1, fun j v v' a b => (h.2 j v v' a b).Qf2 hm⟩
structure ER (o : OM) (fb : Nat) (m : MM) (cells : List VV) (es : Array MapEntry) : Prop where
 len : cells.length = 2 * es.size
 key : ∀ (j : Nat) (e : MapEntry), es[j]? = some e -> cells[2 * j]? = some (.c e.key)
 val : ∀ (j : Nat) (v : VV) (e : MapEntry), cells[2 * j + 1]? = some v -> es[j]? = some e -> R o fb m v e.val
theorem ER.mono {o o' : OM} (ho : o.Le o') {fb fb' : Nat} {m m' : MM} (hm : m.Le m') (hf : fb' <= fb) {cells : List VV} {es : Array MapEntry} (h : ER o fb m cells es) : ER o' fb' m' cells es :=
 ⟨h.len, h.key, fun j v e a b => (h.val j v e a b).mono ho hm hf⟩
theorem ER.Qf2 {o : OM} {fb : Nat} {m m' : MM} (hm : m.LeC m') {cells : List VV} {es : Array MapEntry} (h : ER o fb m cells es) : ER o fb m' cells es :=
 ⟨h.len, h.key, fun j v e a b => (h.val j v e a b).Qf2 hm⟩
inductive Holds (o : OM) (base : Nat) (m : MM) (ob : Option Obj) (oi : OI) (blk : Blk) : Prop
 | row {c : Array Value} {t : TypeId} (h : ob = some (.cells c t (0, 0))) (hs : c.size = oi.tot) (hz : blk.h = false -> oi.sz = blk.sz) (hx : blk.x = false) (hh : blk.h = false -> base <= oi.b) (ha : At (o.of blk.bx) base m blk.cells c oi.off)
 | it {s : ByteArray} {p : Nat} (h : ob = some (.stringIter s p)) (hb : blk = ⟨true, bigX, [.c (.string s), .c (.int .i64 p)]⟩) (hh : base <= oi.b)
 | mp {es : Array MapEntry} {clock : Nat} (h : ob = some (.map es clock)) (hb : blk.bx = true) (hz : blk.sz = bigX + 1 \/ blk.sz = bigX + 2) (hh : blk.h = false -> base <= oi.b) (hm : blk.cells.all VV.mval = true) (ha : ER .no base m blk.cells es)
theorem Holds.mono {o o' : OM} {base : Nat} {m m' : MM} {ob : Option Obj} {oi : OI} {blk : Blk} (h : Holds o base m ob oi blk) (ho : o.Le o') (hm : m.Le m') : Holds o' base m' ob oi blk := by
 cases h with
 | row h hs hz hx hh ha => exact .row h hs hz hx hh (ha.mono (OM.Qyj ho _) hm (Nat.le_refl _))
 | it h hb hh => exact .it h hb hh
 | mp h hb hz hh hv ha => exact .mp h hb hz hh hv (ha.mono (.refl _) hm (Nat.le_refl _))
theorem Holds.Qf2 {o : OM} {base : Nat} {m m' : MM} {ob : Option Obj} {oi : OI} {blk : Blk} (h : Holds o base m ob oi blk) (hm : m.LeC m') : Holds o base m' ob oi blk := by
 cases h with
 | row h hs hz hx hh ha => exact .row h hs hz hx hh (ha.Qf2 hm)
 | it h hb hh => exact .it h hb hh
 | mp h hb hz hh hv ha => exact .mp h hb hz hh hv (ha.Qf2 hm)
theorem Holds.data {o : OM} {base : Nat} {m : MM} {ob : Option Obj} {oi : OI} {blk : Blk} (h : Holds o base m ob oi blk) : ∃ ob', ob = some ob' := by
 cases h with
 | row h => exact ⟨_, h⟩
 | it h => exact ⟨_, h⟩
 | mp h => exact ⟨_, h⟩
def hE (gv : Nat -> Value) (b : Nat) : Option (Nat × Nat) := match gv (2 * b + 1) with
 | .slice none n c => some (n, c)
 | _ => none
def gvl (gv : Nat -> Value) (t : Nat) : Value := gv (2 * t)
structure Own (gv : Nat -> Value) (base : Nat) (o : OM) (m : MM) (L : List (Option Blk)) (w : World) : Prop where
 at_ : ∀ k oi blk, o k = some oi -> gb L k = some blk -> Holds o base m w.heap[oi.b]? oi blk
 dom : ∀ k oi, o k = some oi -> (base <= oi.b \/ hE gv oi.b = some (oi.tot, oi.sz)) /\ oi.b < w.heap.size /\ m oi.b = none
 inj : ∀ k k' oi oi', o k = some oi -> o k' = some oi' -> oi.b = oi'.b -> k = k'
theorem Own.row {gv : Nat -> Value} {base : Nat} {o : OM} {m : MM} {L : List (Option Blk)} {w : World} (h : Own gv base o m L w) {k : Nat} {oi : OI} {blk : Blk} (ho : o k = some oi) (hb : gc L k = some blk) :
 ∃ c t, w.heap[oi.b]? = some (.cells c t (0, 0)) /\ c.size = oi.tot /\ (blk.h = false -> oi.sz = blk.sz) /\ At (if blk.bx = true then o else .no) base m blk.cells c oi.off := by
 obtain ⟨h1, h2⟩ := Qc6 hb
 cases h.at_ k oi blk ho h1 with
 | row h hs hz hx hh ha => exact ⟨_, _, h, hs, hz, ha⟩
 | it h hb hh =>
   rw [show blk.x = true by rw [hb]; exact Nat.ble_eq_true_of_le (Nat.le_refl _)] at h2
   cases h2
 | mp h hb hz hh hv ha =>
   rw [show blk.x = true by unfold Blk.x; exact Nat.ble_eq_true_of_le (by omega)] at h2
   cases h2
structure Qel (gv : Nat -> Value) (base : Nat) (w w' : World) : Prop where
 os : w'.os = w.os
 tape : w'.tape = w.tape
 output : w'.output = w.output
 size : w.heap.size <= w'.heap.size
 block : ∀ k, k < base -> hE gv k = none -> w'.heap[k]? = w.heap[k]?
theorem Qel.refl (gv : Nat -> Value) (base : Nat) (w : World) : Qel gv base w w := ⟨rfl, rfl, rfl, Nat.le_refl _, fun _ _ _ => rfl⟩
theorem Qel.below {gv : Nat -> Value} {base : Nat} {w w' : World} (h : Qel gv base w w') (hn : ∀ k, k < base -> hE gv k = none) : Below base w w' := ⟨h.os, h.tape, h.output, h.size, fun k hk => h.block k hk (hn k hk)⟩
def Yo (m : MM) (w : World) : Prop := ∀ b ob, m b = some ob -> w.heap[b]? = some ob
theorem Yo.lt {m : MM} {w : World} (h : Yo m w) {b : Nat} {ob : Obj} (e : m b = some ob) : b < w.heap.size := (Array.getElem?_eq_some_iff.1 (h b ob e)).1
end Go.Proofs.Ytfeedchjdnedjaa.Vv
