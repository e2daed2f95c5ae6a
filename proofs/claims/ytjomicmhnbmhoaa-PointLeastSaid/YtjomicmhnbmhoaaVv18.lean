import Derived.Test.YtjomicmhnbmhoaaVv16
import Derived.TacticsIn
set_option linter.unusedVariables false
set_option linter.unusedSimpArgs false
namespace Go.Proofs.Ytjomicmhnbmhoaa.Vv
open Go Go.Proofs.Ytjomicmhnbmhoaa.Ev
open Go.RowKit (Below)
def Yields (P : Program) (l : Nat) (x : List Value) (w : World) (K : Bool -> World -> Prop) : Prop :=
 ∃ r : Loop, w.heap[l]? = some (.loop r) /\ x.length = r.params.size /\
   RoundIn (fen none) 0 P l r.fn ((r.params.zip x.toArray).foldl (fun tmps (t, a) => tmps.setIfInBounds t a) r.tmps) r.assign r.body w fun e w' => ∃ b, e = .returned (.bool b) /\ K b w'
def TL (M : MM) (y : List VV) (x : List Value) : Prop := y.length = x.length /\ ∀ (j : Nat) (v : VV) (v' : Value), y[j]? = some v -> x[j]? = some v' -> T M v v'
def ItOK (P : Program) (g : FuncId) (caps : List VV) (ys : List (List VV)) : Prop :=
 (∃ fn c, P.funcs[g]? = some fn /\ fn.body = some c) /\ ∀ (M : MM) (w : World) (caps' : List Value) (l : Nat) (J : Nat -> World -> Prop) (R : World -> Prop),
  TL M caps caps' -> (∀ i w, J i w -> Qbl M w) -> (∀ w, R w -> Qbl M w) -> (∀ i w w', J i w -> Below w.heap.size w w' -> J i w') -> (∀ w w', R w -> Below w.heap.size w w' -> R w') -> J 0 w ->
  (∀ i y x w, ys[i]? = some y -> TL M y x -> J i w -> Yields P l x w fun b w' => match b with | true => J (i + 1) w' | false => R w') -> (∀ w, J ys.length w -> R w) ->
  CallsIn (fen none) 0 P g (.func (.yield l) #[] #[] :: caps').toArray w fun e w' => (∃ v, e = .returned v) /\ R w'
theorem Qso : ∀ {l u : List VV}, Qrj [] l = some u -> l.all noPt = true
 | [], u, _ => rfl
 | v :: l, u, h => by
   simp only [Qrj] at h
   split at h
   case h_2 => cases h
   rename_i v1 l1 h1 h2
   simp only [List.all_cons, Bool.and_eq_true]
   refine ⟨?_, Qso h2⟩
   cases v <;> first | rfl | (simp [capX, ga, gb, getL] at h1)
def VS.enter (s : VS) (ps : List Tmp) (x : List VV) : VS := (ps.zip x).foldl (fun s (p : Tmp × VV) => s.put (some p.1) p.2) ⟨s.A, s.L, s.A⟩
def VS.leave (s : VS) : VS := ⟨s.G, s.L, .nil⟩
inductive Qke (P : Program) (sz : Nat) (f : Operand) (ps : List Tmp) (assign body : Code) : List (List VV) -> VS -> Exit -> VS -> Prop
 | nil {s : VS} : Qke P sz f ps assign body [] s .normal s
 | next {x : List VV} {xs : List (List VV)} {s sa s1 s2 : VS} {e : Exit} (hl : x.length = ps.length) (ha : ∀ l, VRun (some l) P sz assign (s.enter ps x) .normal sa) (h : ∀ l, VRun (some l) P sz body sa .normal s1) (hf : ev s1.leave.A f = ev s.A f)
  (k : Qke P sz f ps assign body xs s1.leave e s2) : Qke P sz f ps assign body (x :: xs) s e s2
 | ret {x : List VV} {xs : List (List VV)} {s sa s1 : VS} (hl : x.length = ps.length) (ha : ∀ l, VRun (some l) P sz assign (s.enter ps x) .normal sa) (h : ∀ l, VRun (some l) P sz body sa .ret s1) : Qke P sz f ps assign body (x :: xs) s .ret s1.leave
 | exit {x : List VV} {xs : List (List VV)} {s sa s1 : VS} {id : Nat} (hl : x.length = ps.length) (ha : ∀ l, VRun (some l) P sz assign (s.enter ps x) .normal sa) (h : ∀ l, VRun (some l) P sz body sa (.exit id) s1) : Qke P sz f ps assign body (x :: xs) s (.exit id) s1.leave
def Qhs : Exit -> Option Code
 | .ret => some .ret
 | .exit id => some (.exit id)
 | _ => none
theorem Qke.ends {P : Program} {sz : Nat} {f : Operand} {ps : List Tmp} {assign body : Code} {xs : List (List VV)} {s s' : VS} {e : Exit} (h : Qke P sz f ps assign body xs s e s') : e = .normal \/ Qhs e ≠ none := by
 induction h with
 | nil => exact .inl rfl
 | next _ _ _ _ _ ih => exact ih
 | ret => exact .inr (by simp [Qhs])
 | exit => exact .inr (by simp [Qhs])
section
variable {P : Program} {sz : Nat}
theorem Rel.fresh {gv : Nat -> Value} {base : Nat} {w0 : World} {m0 : MM} {s : VS} {o : OM} {m : MM} {a : Act} {w w' : World} (h : Rel gv base w0 m0 sz s o m a w) (hw : Below w.heap.size w w') : Rel gv base w0 m0 sz s o m a w' := by
 have hk : ∀ b, b < w.heap.size -> w'.heap[b]? = w.heap[b]? := hw.block
 refine ⟨h.asz, h.adf, h.tm, ⟨fun k oi blk e1 e2 => ?_, fun k oi e => ?_, h.own.inj⟩, h.olt, h.still, fun b ob e => ?_, h.mfr, ⟨hw.os.trans h.below.os, hw.tape.trans h.below.tape, hw.output.trans h.below.output, Nat.le_trans h.below.size hw.size, fun k hk' he => ?_⟩, h.hb, h.gh, h.mlo, h.ex⟩
 ·rw [hk _ (h.own.dom k oi e1).2.1]; exact h.own.at_ k oi blk e1 e2
 ·obtain ⟨d1, d2, d3⟩ := h.own.dom k oi e
  exact ⟨d1, Nat.lt_of_lt_of_le d2 hw.size, d3⟩
 ·rw [hk b (h.mem.lt e)]; exact h.mem b ob e
 ·have := h.Qk1
  rw [hk k (by omega)]; exact h.below.block k hk' he
def MM.also (m : MM) (b0 : Nat) (ob : Obj) : MM := fun b => if b = b0 then some ob else m b
theorem MM.Qk7 {m : MM} {b0 : Nat} {ob : Obj} (h : m b0 = none) : m.Le (m.also b0 ob) := fun b ob' e => by
 unfold MM.also
 rw [if_neg (fun e' => by subst e'; rw [h] at e; cases e)]; exact e
theorem Rel.know {gv : Nat -> Value} {base : Nat} {w0 : World} {m0 : MM} {s : VS} {o : OM} {m : MM} {a : Act} {w : World} (h : Rel gv base w0 m0 sz s o m a w) {b : Nat} {ob : Obj} (hb : base <= b) (hm : m b = none) (ho : ∀ k oi, o k = some oi -> oi.b ≠ b) (hw : w.heap[b]? = some ob) :
 Rel gv base w0 m0 sz s o (m.also b ob) a w := by
 have hle := MM.Qk7 (ob := ob) hm
 refine ⟨h.asz, h.adf.mono hle, fun t => (h.tm t).mono (.refl o) hle (Nat.le_refl _), ⟨fun k oi blk e1 e2 => ?_, fun k oi e => ?_, h.own.inj⟩, h.olt, h.still, fun x ox e => ?_, fun x ox e => ?_, h.below, h.hb, fun t => (h.gh t).mono (.refl o) hle (Nat.le_refl _), h.mlo.trans hle, h.ex⟩
 ·exact (h.own.at_ k oi blk e1 e2).mono (.refl _) hle
 ·obtain ⟨d1, d2, d3⟩ := h.own.dom k oi e
  refine ⟨d1, d2, ?_⟩
  unfold MM.also
  rw [if_neg (ho k oi e)]; exact d3
 ·unfold MM.also at e
  split at e
  ·rename_i c; subst c; injection e with e; subst e; exact hw
  ·exact h.mem x ox e
 ·unfold MM.also at e
  split at e
  ·rename_i c; subst c; exact .inr hb
  ·exact h.mfr x ox e
theorem Rel.turn {gv : Nat -> Value} {base : Nat} {w0 : World} {m0 : MM} {s : VS} {o : OM} {m : MM} {a : Act} {w : World} (h : Rel gv base w0 m0 sz s o m a w) {b : Nat} {ob ob' : Obj} (hb : base <= b) (hm : m b = none) (ho : ∀ k oi, o k = some oi -> oi.b ≠ b) (hw : w.heap[b]? = some ob) :
 Rel gv base w0 m0 sz s o m a { w with heap := w.heap.setIfInBounds b ob' } := by
 have hs := heap_set ob' hw
 refine ⟨h.asz, h.adf, h.tm, ⟨fun k oi blk e1 e2 => ?_, fun k oi e => ?_, h.own.inj⟩, h.olt, h.still, fun x ox e => ?_, h.mfr, ⟨h.below.os, h.below.tape, h.below.output, by show _ <= (w.heap.setIfInBounds b ob').size; rw [Array.size_setIfInBounds]; exact h.below.size, fun k hk he => ?_⟩, h.hb, h.gh, h.mlo, h.ex⟩
 ·rw [hs, if_neg (ho k oi e1)]; exact h.own.at_ k oi blk e1 e2
 ·obtain ⟨d1, d2, d3⟩ := h.own.dom k oi e
  exact ⟨d1, by show _ < (w.heap.setIfInBounds b ob').size; rw [Array.size_setIfInBounds]; exact d2, d3⟩
 ·rw [hs, if_neg (fun e' => by subst e'; rw [hm] at e; cases e)]; exact h.mem x ox e
 ·rw [hs, if_neg (by omega)]; exact h.below.block k hk he
theorem Rel.mark {gv : Nat -> Value} {base : Nat} {w0 : World} {m0 : MM} {s : VS} {o : OM} {m : MM} {a : Act} {w : World} (h : Rel gv base w0 m0 sz s o m a w) {b : Nat} (hb : base <= b) (hm : m b = none) (ho : ∀ k oi, o k = some oi -> oi.b ≠ b) (hw : w.heap[b]? = some (.deferred (some []))) :
 Rel gv base w0 m0 sz s o (m.also b (.deferred (some []))) { a with defers := { target := .collected b, args := #[] } :: a.defers } w := by
 have hk := h.know hb hm ho hw
 refine ⟨hk.asz, ?_, hk.tm, hk.own, hk.olt, hk.still, hk.mem, hk.mfr, hk.below, hk.hb, hk.gh, hk.mlo, hk.ex⟩
 obtain ⟨rs, h1, h2, h3⟩ := h.adf
 refine ⟨b :: rs, by rw [h1]; rfl, List.nodup_cons.2 ⟨fun hin => (by have := (h3 b hin).2; rw [hm] at this; cases this), h2⟩, fun r hr => ?_⟩
 rcases List.mem_cons.1 hr with rfl | hr
 ·refine ⟨⟨hb, ?_⟩, if_pos rfl⟩
  cases e : m0 r with
  | none => rfl
  | some ob => have := h.mlo _ _ e; rw [hm] at this; cases this
 ·exact ⟨(h3 r hr).1, MM.Qk7 hm _ _ (h3 r hr).2⟩
def inG (gv : Nat -> Value) (a : Act) (t : Nat) : Value := if t % 2 = 0 then a.tmps.getD (t / 2) undef else gv t
theorem Qvi (gv : Nat -> Value) (a : Act) (b : Nat) : hE (inG gv a) b = hE gv b := by
 unfold hE inG
 rw [if_neg (by omega)]
theorem Q6h {gv : Nat -> Value} {a : Act} (t : Nat) : gvl (inG gv a) t = a.tmps.getD t undef := by
 unfold gvl inG
 rw [if_pos (by omega), show 2 * t / 2 = t by omega]
theorem Qir.inG {gv : Nat -> Value} {a : Act} {base : Nat} {w w' : World} : Qir (inG gv a) base w w' ↔ Qir gv base w w' :=
 ⟨fun h => ⟨h.os, h.tape, h.output, h.size, fun k hk he => h.block k hk (by rw [Qvi]; exact he)⟩, fun h => ⟨h.os, h.tape, h.output, h.size, fun k hk he => h.block k hk (by rw [<- Qvi gv a]; exact he)⟩⟩
theorem Own.inG {gv : Nat -> Value} {a : Act} {base : Nat} {o : OM} {m : MM} {L : List (Option Blk)} {w : World} : Own (inG gv a) base o m L w ↔ Own gv base o m L w :=
 ⟨fun h => ⟨h.at_, fun k oi e => by have := h.dom k oi e; rw [Qvi] at this; exact this, h.inj⟩, fun h => ⟨h.at_, fun k oi e => by rw [Qvi]; exact h.dom k oi e, h.inj⟩⟩
theorem Rel.inRound {gv : Nat -> Value} {base : Nat} {w0 : World} {m0 : MM} {s : VS} {o : OM} {m : MM} {a : Act} {w : World} (h : Rel gv base w0 m0 sz s o m a w) (hsz : sz < 1000000) {l : Nat} {r : Loop} (hb : base <= l) (hm : m l = none) (ho : ∀ k oi, o k = some oi -> oi.b ≠ l) (hw : w.heap[l]? = some (.loop r)) :
 Rel (inG gv a) base w0 (m.also l (.loop r)) sz ⟨s.A, s.L, s.A⟩ o (m.also l (.loop r)) { tmps := a.tmps, defers := [] } w := by
 have h2 := h.know (ob := .loop r) hb hm ho hw
 exact ⟨h2.asz, .nil, h2.tm, Own.inG.2 h2.own, h2.olt, h2.still, h2.mem, fun b ob e => .inl e, Qir.inG.2 h2.below, h2.hb, fun t => by rw [Q6h]; exact h2.tm t, .refl _, h2.ex⟩
theorem Rel.swap {gv : Nat -> Value} {base : Nat} {w0 : World} {s : VS} {o : OM} {m m1 : MM} {a : Act} {w : World} {l : Nat} {r r2 : Loop} (hb : base <= l) (hm : m l = none) (k : Rel gv base w0 (m.also l (.loop r)) sz s o m1 a w) :
 w.heap[l]? = some (.loop r) /\ Rel gv base w0 (m.also l (.loop r2)) sz s o ((m1.but l).also l (.loop r2)) a { w with heap := w.heap.setIfInBounds l (.loop r2) } := by
 have hl : m1 l = some (.loop r) := k.mlo _ _ (if_pos rfl)
 have hle := MM.Qt5 (r := l) hl rfl
 have hle2 : m1.LeC ((m1.but l).also l (.loop r2)) := fun b ob hd e => MM.Qk7 (if_pos rfl) _ _ (hle b ob hd e)
 have hw := k.mem _ _ hl
 have hs := heap_set (.loop r2) hw
 have hne : ∀ k oi, o k = some oi -> oi.b ≠ l := fun j oi e e' => by have := (k.own.dom j oi e).2.2; rw [e', hl] at this; cases this
 have hother : ∀ b ob, b ≠ l -> m1 b = some ob -> ((m1.but l).also l (.loop r2)) b = some ob := fun b ob hb e => by
  unfold MM.also MM.but
  rw [if_neg hb, if_neg hb]; exact e
 refine ⟨hw, ⟨k.asz, ?_, fun t => (k.tm t).Qj4 hle2, ⟨fun j oi blk e1 e2 => ?_, fun j oi e => ?_, k.own.inj⟩, k.olt, k.still, fun b ob e => ?_, fun b ob e => ?_, ⟨k.below.os, k.below.tape, k.below.output, by show _ <= (w.heap.setIfInBounds l (.loop r2)).size; rw [Array.size_setIfInBounds]; exact k.below.size, fun j hj he => ?_⟩, k.hb, fun t => (k.gh t).Qj4 hle2, fun b ob e => ?_, k.ex⟩⟩
 ·obtain ⟨rs, h1, h2, h3⟩ := k.adf
  refine ⟨rs, h1, h2, fun x hx => ⟨⟨(h3 x hx).1.1, by
   have := (h3 x hx).1.2
   unfold MM.also at this ⊢
   split at this
   ·cases this
   ·rename_i c; rw [if_neg c]; exact this⟩, hother _ _ (fun e => ?_) (h3 x hx).2⟩⟩
  have := (h3 x hx).2
  rw [e, hl] at this; cases this
 ·rw [hs, if_neg (hne j oi e1)]
  exact (k.own.at_ j oi blk e1 e2).Qj4 hle2
 ·obtain ⟨d1, d2, d3⟩ := k.own.dom j oi e
  refine ⟨d1, by show _ < (w.heap.setIfInBounds l (.loop r2)).size; rw [Array.size_setIfInBounds]; exact d2, ?_⟩
  unfold MM.also MM.but
  rw [if_neg (hne j oi e), if_neg (hne j oi e)]; exact d3
 ·unfold MM.also at e
  split at e
  ·rename_i hx; subst hx; injection e with e; subst e; rw [hs, if_pos rfl]
  ·rename_i hx
   unfold MM.but at e
   rw [if_neg hx] at e
   rw [hs, if_neg hx]; exact k.mem b ob e
 ·unfold MM.also at e
  split at e
  ·rename_i hx; subst hx; exact .inr hb
  ·rename_i hx
   unfold MM.but at e
   rw [if_neg hx] at e
   rcases k.mfr b ob e with e1 | e1
   ·left
    unfold MM.also at e1 ⊢
    rw [if_neg hx] at e1 ⊢; exact e1
   ·exact .inr e1
 ·rw [hs, if_neg (by omega)]; exact k.below.block j hj he
 ·unfold MM.also at e
  split at e
  ·rename_i hx; subst hx; unfold MM.also; rw [if_pos rfl]; exact e
  ·rename_i hx
   refine hother _ _ hx (k.mlo _ _ ?_)
   unfold MM.also; rw [if_neg hx]; exact e
theorem Rel.Q1w {gv : Nat -> Value} {base : Nat} {w0 : World} {m0 : MM} {s s1 : VS} {o o' : OM} {m m' : MM} {a a' : Act} {w w' : World} (h : Rel gv base w0 m0 sz s o m a w) (hsz : sz < 1000000) {l : Nat} {r' r2 : Loop} (hb : base <= l) (hm : m l = none) (h0 : m0 l = none)
 (k : Rel (inG gv a) base w0 (m.also l (.loop r')) sz s1 o' m' a' w') :
 w'.heap[l]? = some (.loop r') /\ Rel gv base w0 m0 sz s1.leave o' (m'.but l) a { w' with heap := w'.heap.setIfInBounds l (.loop r2) } /\ (m'.but l) l = none /\ ∀ k oi, o' k = some oi -> oi.b ≠ l := by
 have hl : m' l = some (.loop r') := k.mlo _ _ (if_pos rfl)
 have hle := MM.Qt5 (r := l) hl rfl
 have hw := k.mem _ _ hl
 have hs := heap_set (.loop r2) hw
 have hown := Own.inG.1 k.own
 have hbel := Qir.inG.1 k.below
 have hne : ∀ k oi, o' k = some oi -> oi.b ≠ l := fun j oi e e' => by have := (k.own.dom j oi e).2.2; rw [e', hl] at this; cases this
 refine ⟨hw, ⟨h.asz, ?_, fun t => ?_, ⟨fun j oi blk e1 e2 => ?_, fun j oi e => ?_, k.own.inj⟩, k.olt, k.still, fun b ob e => ?_, fun b ob e => ?_, ⟨k.below.os, k.below.tape, k.below.output, by show _ <= (w'.heap.setIfInBounds l (.loop r2)).size; rw [Array.size_setIfInBounds]; exact k.below.size, fun j hj he => ?_⟩, k.hb, fun t => .undef, fun b ob e => ?_, k.ex⟩, if_pos rfl, hne⟩
 ·obtain ⟨rs, h1, h2, h3⟩ := h.adf
  refine ⟨rs, h1, h2, fun r hr => ⟨(h3 r hr).1, ?_⟩⟩
  have hr2 := (h3 r hr).2
  have hrl : r ≠ l := fun e => by rw [e, hm] at hr2; cases hr2
  unfold MM.but
  rw [if_neg hrl]
  exact k.mlo _ _ (MM.Qk7 hm _ _ hr2)
 ·have := (k.gh t).Qj4 hle
  rw [Q6h] at this
  exact this
 ·rw [hs, if_neg (hne j oi e1)]
  exact (k.own.at_ j oi blk e1 e2).Qj4 hle
 ·obtain ⟨d1, d2, d3⟩ := hown.dom j oi e
  refine ⟨d1, by show _ < (w'.heap.setIfInBounds l (.loop r2)).size; rw [Array.size_setIfInBounds]; exact d2, ?_⟩
  unfold MM.but; split
  ·rfl
  ·exact d3
 ·unfold MM.but at e
  split at e
  ·cases e
  ·rename_i hx; rw [hs, if_neg hx]; exact k.mem b ob e
 ·unfold MM.but at e
  split at e
  ·cases e
  ·rename_i hx
   rcases k.mfr b ob e with e1 | e1
   ·unfold MM.also at e1
    rw [if_neg hx] at e1
    exact h.mfr b ob e1
   ·exact .inr e1
 ·rw [hs, if_neg (by omega)]; exact hbel.block j hj he
 ·have hx : b ≠ l := fun e' => by rw [e', h0] at e; cases e
  unfold MM.but
  rw [if_neg hx]
  exact k.mlo _ _ (MM.Qk7 hm _ _ (h.mlo _ _ e))
theorem Rel.puts {gv : Nat -> Value} {base : Nat} {w0 : World} {m0 : MM} {o : OM} {m : MM} {w : World} (hsz : sz < 1000000) : ∀ (ps : List Tmp) (y : List VV) (x : List Value) (s : VS) (ts : Array Value), (∀ p ∈ ps, (p : Nat) < sz) -> TL m y x -> Rel gv base w0 m0 sz s o m { tmps := ts, defers := [] } w ->
 Rel gv base w0 m0 sz ((ps.zip y).foldl (fun s (p : Tmp × VV) => s.put (some p.1) p.2) s) o m { tmps := (ps.zip x).foldl (fun tmps (p : Tmp × Value) => tmps.setIfInBounds p.1 p.2) ts, defers := [] } w
 | [], y, x, s, ts, hp, hx, h => by simpa using h
 | p :: ps, [], x, s, ts, hp, hx, h => by
   have : x = [] := List.eq_nil_of_length_eq_zero (by have := hx.1; simpa using this.symm)
   subst this; simpa using h
 | p :: ps, u :: y, [], s, ts, hp, hx, h => by have := hx.1; simp at this
 | p :: ps, u :: y, v :: x, s, ts, hp, hx, h => by
   have h1 := h.put (dst := some p) (fun d e => by injection e with e; subst e; exact hp p (by simp)) hsz (v := u) (v' := v) (.t (hx.2 0 u v rfl rfl))
   exact Rel.puts hsz ps y x _ _ (fun q hq => hp q (by simp [hq])) ⟨by have := hx.1; simpa using this, fun j v v' a b => hx.2 (j + 1) v v' (by simpa using a) (by simpa using b)⟩ h1
theorem Qk8 {gv : Nat -> Value} {base : Nat} {w0 : World} {m0 : MM} {s s1 : VS} {o : OM} {m : MM} {a : Act} {w : World} (hR : Rel gv base w0 m0 sz s o m a w) (hsz : sz < 1000000) {ps : List Tmp} (hps : ∀ p ∈ ps, (p : Nat) < sz) {assign body : Code} {sa : VS} {y : List VV} {x : List Value} {e : Exit} {l : Nat} {r : Loop}
 (hx : TL m y x) (hly : y.length = ps.length) (hass : VRun (some l) P sz assign (s.enter ps y) .normal sa) (h : VRun (some l) P sz body sa e s1) (hb : base <= l) (hm : m l = none) (h0 : m0 l = none) (ho : ∀ k oi, o k = some oi -> oi.b ≠ l) (hw : w.heap[l]? = some (.loop r))
 (e1 : r.state = .ready) (e2 : r.params.toList = ps) (e3 : r.assign = assign) (e4 : r.body = body) (e5 : r.tmps = a.tmps) {K : Bool -> World -> Prop}
 (he : e = .normal \/ Qhs e ≠ none)
 (hK : ∀ o' m' w' r', Rel gv base w0 m0 sz s1.leave o' m' a w' -> m.Le m' -> m' l = none -> (∀ k oi, o' k = some oi -> oi.b ≠ l) -> w'.heap[l]? = some (.loop r') -> r' = { r with state := if (Qhs e).isNone then .ready else .done, pending := Qhs e } -> K (Qhs e).isNone w') : Yields P l x w K := by
 have hlen : x.length = ps.length := by rw [<- hx.1]; exact hly
 refine ⟨r, hw, by rw [hlen, <- e2]; simp, ?_⟩
 have etm : ((r.params.zip x.toArray).foldl (fun tmps (t, a) => tmps.setIfInBounds t a) r.tmps) = (ps.zip x).foldl (fun tmps (p : Tmp × Value) => tmps.setIfInBounds p.1 p.2) a.tmps := by
  rw [e5, <- Array.foldl_toList, Array.toList_zip, e2]
 rw [etm, e3, e4]
 refine roundIn_of_wpIn (F := fen none) trivial ?_
 show assign.wpIn (fen (some l)) 0 P _ _ w
 have hin := hR.inRound hsz hb hm ho hw
 have hlM : m.Le (m.also l (.loop r)) := MM.Qk7 hm
 have hin2 := Rel.puts hsz ps y x _ _ hps ⟨hx.1, fun j v v' a b => (hx.2 j v v' a b).mono hlM⟩ hin
 refine hass _ _ _ _ _ _ _ _ hin2 _ (fun o1 m1 a1 w1 hR1 => ?_)
 obtain ⟨hw1, hR2⟩ := Rel.swap (r2 := { r with state := .busy }) hb hm hR1
 refine ⟨_, Qp0 hw1 e1, ?_⟩
 show body.wpIn (fen (some l)) 0 P _ _ _
 refine h _ _ _ _ _ _ _ _ hR2 _ (fun o' m' a' w' hR' => ?_)
 have fin : ∀ (j : Option Code), j = Qhs e -> ∃ v w2, (Instr.endRound l j).run P w' = .ok v w2 /\ ∃ b, Ending.returned v = .returned (.bool b) /\ K b w2 := by
  rintro j rfl
  obtain ⟨g1, g2, g3, g4⟩ := Rel.Q1w (r2 := { r with state := if (Qhs e).isNone then .ready else .done, pending := Qhs e }) hR hsz hb hm h0 hR'
  have hend := Qsi (P := P) (j := Qhs e) g1
  refine ⟨_, _, hend, _, rfl, ?_⟩
  have hle : m.Le (m'.but l) := fun b ob e => by
   have hbl : b ≠ l := fun e' => by rw [e', hm] at e; cases e
   unfold MM.but
   rw [if_neg hbl]
   exact hR'.mlo _ _ (MM.Qk7 hm _ _ e)
  refine hK o' _ _ _ g2 hle g3 g4 ?_ rfl
  show (w'.heap.setIfInBounds l _)[l]? = _
  rw [heap_set _ g1, if_pos rfl]
 rcases he with rfl | he
 ·exact fin none rfl
 ·cases e with
  | ret => exact fin _ rfl
  | exit id => exact fin _ rfl
  | normal => exact fin none rfl
  | goto => exact absurd rfl he
  | panic => exact absurd rfl he
  | outgrown => exact absurd rfl he
theorem VRun.range (hn : Named P) {s s' : VS} {t : Tmp} {params : Array Tmp} {assign body : Code} {e : Exit} {g : FuncId} {caps : List VV} {xs : List (List VV)} (hG : s.G = .nil) (hf : ev s.A (.tmp t) = .fn g caps) (hit : ItOK P g caps xs) (hcx : Qrj [] caps = some caps) (hsz : sz < 1000000) (hps : ∀ p ∈ params.toList, (p : Nat) < sz)
 (h : Qke P sz (.tmp t) params.toList assign body xs s e s') : VRun none P sz (.rangeFunc (.tmp t) params assign body) s e s' := fun gv base w0 m0 o m a w hR Q hQ => by
 obtain ⟨⟨gn, gc, hgn, hgc⟩, hit⟩ := hit
 have hfv := hR.ev (.tmp t)
 rw [hf] at hfv
 generalize hav : a.eval (.tmp t) = fv at hfv
 have hfn : ∃ cs, fv = .func (.func g) #[] cs := by
  cases hfv with
  | t h => cases h with
    | fn => exact ⟨_, rfl⟩
  | fn => exact ⟨_, rfl⟩
 obtain ⟨cs, rfl⟩ := hfn
 clear hfv
 have hB1 : Below w.heap.size w (w.alloc (.deferred (some []))) := (Below.refl _ _).alloc (Nat.le_refl _) _
 have hbl := hR.Qk1
 have hnone : ∀ b, w.heap.size <= b -> m b = none := fun b hb => by
  cases e : m b with
  | none => rfl
  | some ob => have := hR.mem.lt e; omega
 have hown : ∀ b, w.heap.size <= b -> ∀ k oi, o k = some oi -> oi.b ≠ b := fun b hb k oi e => by have := (hR.own.dom k oi e).2.1; omega
 have hg1 : (w.alloc (.deferred (some []))).heap[w.heap.size]? = some (.deferred (some [])) := by
  show (w.heap.push _)[w.heap.size]? = _
  rw [Array.getElem?_push, if_pos rfl]
 have hs1 : (w.alloc (.deferred (some []))).heap.size = w.heap.size + 1 := by show (w.heap.push _).size = _; simp
 have hR1 := (hR.fresh hB1).mark hbl (hnone _ (Nat.le_refl _)) (hown _ (Nat.le_refl _)) hg1
 generalize hW1 : w.alloc (.deferred (some [])) = W1 at hR1 hg1 hs1
 refine wpIn_rangeFunc (fun fn _ => ?_)
 have hB2 : ∀ ob, Below W1.heap.size W1 (W1.alloc ob) := fun ob => (Below.refl _ _).alloc (Nat.le_refl _) _
 let r0 : Loop := { state := .ready, pending := none, fn, tmps := a.tmps, params, assign, body, defers := w.heap.size }
 have hR2 := hR1.fresh (hB2 (.loop r0))
 have hg2 : (W1.alloc (.loop r0)).heap[W1.heap.size]? = some (.loop r0) := by
  show (W1.heap.push _)[W1.heap.size]? = _
  rw [Array.getElem?_push, if_pos rfl]
 have hs2 : (W1.alloc (.loop r0)).heap.size = W1.heap.size + 1 := by show (W1.heap.push _).size = _; simp
 generalize hW2 : W1.alloc (.loop r0) = W2 at hR2 hg2 hs2
 generalize hmm : m.also w.heap.size (.deferred (some [])) = mm at hR1 hR2
 have hmml : mm W1.heap.size = none := by
  rw [<- hmm]; unfold MM.also
  rw [if_neg (by omega)]; exact hnone _ (by omega)
 have h0l : m0 W1.heap.size = none := by
  cases e : m0 W1.heap.size with
  | none => rfl
  | some ob => have := hR.mlo _ _ e; rw [hnone _ (by omega)] at this; cases this
 refine ⟨W1.heap.size, [{ target := .collected w.heap.size, args := #[] }], W2, { target := .fn (.func g) cs, args := #[] ++ #[Value.func (.yield W1.heap.size) #[] #[]] }, W2, g, (Value.func (.yield W1.heap.size) #[] #[] :: cs.toList).toArray, W2, ?_, ?_, fun _ _ => trivial, ?_, fun h => by simp [fen, Fence.wide] at h, ?_⟩
 ·show (Instr.enterLoop fn a.tmps params assign body none).run P w = _
  unfold Instr.enterLoop
  simp only [Sem.run_bind]
  rw [run_newObj_alloc, hW1]
  simp only [Result.andThen_ok, Sem.run_pure]
  rw [run_newObj_alloc]
  show Result.ok _ (W1.alloc (.loop r0)) = _
  rw [hW2]
 ·unfold resolve
  dsimp only
  rw [hav]
  have e : Array.map a.eval #[Operand.const (Value.func (.yield W1.heap.size) #[] #[])] = #[Value.func (.yield W1.heap.size) #[] #[]] := by
   simp only [List.map_toArray, List.map_cons, List.map_nil]
   rfl
  rw [e]
  rfl
 ·show (callFunc g ((#[] ++ #[Value.func (.yield W1.heap.size) #[] #[]]) ++ cs)).run P _ = _
  rw [Qjy hn hgn hgc]
  congr 2
  apply Array.ext'; simp
 ·show CallsIn (fen none) 0 P g _ _ _
  have hlb : base <= W1.heap.size := by omega
  let aM : Act := { a with defers := { target := .collected w.heap.size, args := #[] } :: a.defers }
  have hRM : Rel gv base w0 m0 sz s o mm aM W2 := hR2
  have hevM : ∀ x, aM.eval x = a.eval x := fun x => rfl
  let J : Nat -> World -> Prop := fun i w => ∃ si oi mi r, Qke P sz (.tmp t) params.toList assign body (xs.drop i) si e s' /\ (m.Le mi /\ Rel gv base w0 m0 sz si oi mi aM w) /\ ev si.A (.tmp t) = .fn g caps /\ mi W1.heap.size = none /\ (∀ k x, oi k = some x -> x.b ≠ W1.heap.size) /\
   w.heap[W1.heap.size]? = some (.loop r) /\ r.state = .ready /\ r.pending = none /\ r.params = params /\ r.assign = assign /\ r.body = body /\ r.tmps = a.tmps
  let RR : World -> Prop := fun w => ∃ oi mi r, (m.Le mi /\ Rel gv base w0 m0 sz s' oi mi aM w) /\ mi W1.heap.size = none /\ (∀ k x, oi k = some x -> x.b ≠ W1.heap.size) /\ w.heap[W1.heap.size]? = some (.loop r) /\ r.state ≠ .busy /\ r.pending = Qhs e
  have low : ∀ {w1 w2 : World} {r : Loop}, w1.heap[W1.heap.size]? = some (.loop r) -> Below w1.heap.size w1 w2 -> w2.heap[W1.heap.size]? = some (.loop r) := fun h1 h2 => by
   rw [h2.block _ (Array.getElem?_eq_some_iff.1 h1).1]; exact h1
  have hmmle : m.Le mm := by rw [<- hmm]; exact MM.Qk7 (hnone _ (Nat.le_refl _))
  have hcT : TL m caps cs.toList := by
   have := hR.ev (.tmp t)
   rw [hf, hav] at this
   have hrl : RL o base m caps cs.toList := by
    cases this with
    | t h => cases h with
      | fn h1 h2 => exact ⟨by simpa using h1, fun j v v' a b => .t (h2 j v v' a (by simpa using b))⟩
    | fn h1 h2 => exact ⟨by simpa using h1, fun j v v' a b => h2 j v v' a (by simpa using b)⟩
   obtain ⟨k1, _, k3⟩ := Qoh (gv := gv) (L := []) (w := w) (M := allM w) hcx hrl ⟨fun k oi blk e1 e2 => (by simp [gb, getL] at e2), hR.own.dom, hR.own.inj⟩ hR.mem (fun b ob _ e => e)
   exact ⟨k1, k3 (Qso hcx)⟩
  refine (hit m W2 cs.toList W1.heap.size J RR hcT ?_ ?_ ?_ ?_ ?_ ?_ ?_).mono ?_
  ·rintro i w1 ⟨si, oi, mi, r, _, ⟨hle, hRi⟩, _⟩
   exact fun b ob e => hRi.mem b ob (hle _ _ e)
  ·rintro w1 ⟨oi, mi, r, ⟨hle, hRi⟩, _⟩
   exact fun b ob e => hRi.mem b ob (hle _ _ e)
  ·rintro i w1 w2 ⟨si, oi, mi, r, h1, ⟨hle, hRi⟩, h2, h3, h4, h5, h6⟩ hb
   exact ⟨si, oi, mi, r, h1, ⟨hle, hRi.fresh hb⟩, h2, h3, h4, low h5 hb, h6⟩
  ·rintro w1 w2 ⟨oi, mi, r, ⟨hle, hRi⟩, h3, h4, h5, h6⟩ hb
   exact ⟨oi, mi, r, ⟨hle, hRi.fresh hb⟩, h3, h4, low h5 hb, h6⟩
  ·exact ⟨s, o, mm, r0, by simpa using h, ⟨hmmle, hRM⟩, hf, hmml, hown _ (by omega), hg2, rfl, rfl, rfl, rfl, rfl, rfl⟩
  ·rintro i y x w1 hxi hyx ⟨si, oi, mi, r, h1, ⟨hle, hRi⟩, h2, h3, h4, h5, h6, h7, h8, h9, h10, h11⟩
   have hyx := (⟨hyx.1, fun j v v' a b => (hyx.2 j v v' a b).mono hle⟩ : TL mi y x)
   have hd : xs.drop i = y :: xs.drop (i + 1) := by
    obtain ⟨hlt, hxe⟩ := List.getElem?_eq_some_iff.1 hxi
    rw [List.drop_eq_getElem_cons hlt, hxe]
   rw [hd] at h1
   cases h1 with
   | @next _ _ _ _ s1 _ _ hl ha hb hf1 hk =>
     refine Qk8 hRi hsz hps hyx hl (ha _) (hb _) hlb h3 h0l h4 h5 h6 (by rw [h8]) h9 h10 h11 (.inl rfl) (fun o' m' w' r' g1 g0 g2 g3 g4 g5 => ?_)
     subst g5
     exact ⟨s1.leave, o', m', _, hk, ⟨hle.trans g0, g1⟩, by rw [hf1, h2], g2, g3, g4, rfl, rfl, h8, h9, h10, h11⟩
   | ret hl ha hb =>
     refine Qk8 hRi hsz hps hyx hl (ha _) (hb _) hlb h3 h0l h4 h5 h6 (by rw [h8]) h9 h10 h11 (.inr (by simp [Qhs])) (fun o' m' w' r' g1 g0 g2 g3 g4 g5 => ?_)
     subst g5
     exact ⟨o', m', _, ⟨hle.trans g0, g1⟩, g2, g3, g4, by simp [Qhs], rfl⟩
   | exit hl ha hb =>
     refine Qk8 hRi hsz hps hyx hl (ha _) (hb _) hlb h3 h0l h4 h5 h6 (by rw [h8]) h9 h10 h11 (.inr (by simp [Qhs])) (fun o' m' w' r' g1 g0 g2 g3 g4 g5 => ?_)
     subst g5
     exact ⟨o', m', _, ⟨hle.trans g0, g1⟩, g2, g3, g4, by simp [Qhs], rfl⟩
  ·rintro w1 ⟨si, oi, mi, r, h1, ⟨hle, hRi⟩, h2, h3, h4, h5, h6, h7, h8⟩
   rw [List.drop_length] at h1
   cases h1
   exact ⟨oi, mi, r, ⟨hle, hRi⟩, h3, h4, h5, by rw [h6]; simp, h7⟩
  ·rintro en w1 ⟨⟨v, rfl⟩, oi, mi, r, ⟨hle, hRi⟩, h3, h4, h5, h6, h7⟩
   have hend := Qt6 (P := P) h5 h6
   refine ⟨_, _, hend, ?_⟩
   have hRf := hRi.turn (ob' := .loop { r with state := .exhausted }) hlb h3 h4 h5
   rw [h7] at hRf ⊢
   cases e with
   | normal => exact hQ oi mi aM _ hRf
   | ret => exact wpIn_ret (hQ oi mi aM _ hRf)
   | exit id => exact wpIn_exit (hQ oi mi aM _ hRf)
   | goto l => rcases h.ends with e | e <;> first | cases e | exact absurd rfl e
   | panic c => rcases h.ends with e | e <;> first | cases e | exact absurd rfl e
   | outgrown => rcases h.ends with e | e <;> first | cases e | exact absurd rfl e
end
end Go.Proofs.Ytjomicmhnbmhoaa.Vv
