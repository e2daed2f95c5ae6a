import Derived.Test.YtjomicmhnbmhoaaVv12
import Derived.RangeFuncLeaves
set_option linter.unusedVariables false
set_option linter.unusedSimpArgs false
namespace Go.Proofs.Ytjomicmhnbmhoaa.Vv
open Go Go.Proofs.Ytjomicmhnbmhoaa.Ev
open Go.RowKit (Below)
def exV (L : List (Option Blk)) (f : Bool) : VV -> Option (VV × Prop)
 | .c v => some (.c v, True)
 | .tr cs n => some (.tr cs n, True)
 | .fr cs n => some (.fr cs n, True)
 | .mt cs => some (.mt cs, True)
 | .fw s cs n => some (.fw s cs n, True)
 | .mp k => match gb L k with
   | some blk => bif Nat.beq blk.sz (bigX + 1) then some (.mt (blk.cells.map Qkk), True) else none
   | none => none
 | .rf k off n => match ga L k with
   | some blk => bif blk.bx then none else bif f && Nat.blt 0 blk.sz then some (.fw blk.sz ((blk.cells.map unfr).drop off) n, blk.cells.all new0 = true) else some (.tr ((blk.cells.map unfr).drop off) n, True)
   | none => none
 | .any => some (.any, True)
 | .e0 => some (.e0, True)
 | .fn g cs => match Qrj L cs with
   | some l => some (.fn g l, True)
   | none => none
 | _ => none
def exVs (L : List (Option Blk)) (f : Bool) : List VV -> Option (List VV × Prop)
 | [] => some ([], True)
 | v :: l => match exV L f v, exVs L f l with
   | some (v, p), some (l, q) => some (v :: l, p /\ q)
   | _, _ => none
def ex1 (L : List (Option Blk)) (f : Bool) : VV -> Option (VV × Prop)
 | .ag cs => match exVs L f cs with
   | some (l, p) => some (.ag l, p)
   | none => none
 | v => exV L f v
def resV (P : Program) (s : VS) (f : Bool) : ResultVar -> Option (VV × Prop)
 | .tmp t => ex1 s.L f (ev s.A (.tmp t))
 | .cell c t => match Qq1 P s.L .n t (ev s.A (.tmp c)) with
   | some (v, p) => match ex1 s.L f v with
     | some (v, q) => some (v, p /\ q)
     | none => none
   | none => none
def Que (P : Program) (s : VS) (f : Bool) : List ResultVar -> Option (List VV × Prop)
 | [] => some ([], True)
 | r :: rs => match resV P s f r, Que P s f rs with
   | some (v, p), some (l, q) => some (v :: l, p /\ q)
   | _, _ => none
def Quf : List VV -> VV
 | [v] => v
 | l => .tu l
section
variable {P : Program} {gv : Nat -> Value} {base : Nat} {w0 : World} {m0 : MM} {sz : Nat} {s : VS} {o : OM} {m : MM} {a : Act} {w : World}
theorem Rel.end_ (h : Rel gv base w0 m0 sz s o m a w) (hM0 : Qbl m0 w0) (hE0 : ∀ b ob, m0 b = some ob -> hE gv b = none) : m0.Le (mEx m0 w0 w) /\ Qbl (mEx m0 w0 w) w /\ m.Le (mEx m0 w0 w) /\ ∀ b ob, base <= b -> w.heap[b]? = some ob -> mEx m0 w0 w b = some ob := by
 have hk : ∀ b ob, m0 b = some ob -> w.heap[b]? = some ob := fun b ob e => by
  rw [h.below.block b (by rw [h.hb]; exact hM0.lt e) (hE0 b ob e)]; exact hM0 b ob e
 have hnew : ∀ b ob, base <= b -> w.heap[b]? = some ob -> mEx m0 w0 w b = some ob := fun b ob hb e => by
  unfold mEx
  split
  ·rename_i e'; have := hM0.lt e'; have := h.hb; omega
  ·rw [if_pos (by rw [<- h.hb]; exact hb)]; exact e
 refine ⟨Qpa _ _ _, fun b ob e => ?_, fun b ob e => ?_, hnew⟩
 ·unfold mEx at e
  split at e
  ·rename_i ob' e'
   injection e with e; subst e
   exact hk b _ e'
  ·split at e
   ·exact e
   ·cases e
 ·rcases h.mfr b ob e with e1 | e1
  ·exact Qpa _ _ _ b ob e1
  ·exact hnew b ob e1 (h.mem b ob e)
theorem Q3e (hR : Rel gv base w0 m0 sz s o m a w) (hM0 : Qbl m0 w0) (hE0 : ∀ b ob, m0 b = some ob -> hE gv b = none) {f : Bool} {v u : VV} {q : Prop} {v' : Value} (h : exV s.L f v = some (u, q)) (hq : q) (hv : R o base m v v') : R .no base (mEx m0 w0 w) u v' := by
 obtain ⟨_, _, hle, hnew⟩ := hR.end_ hM0 hE0
 have fnok : ∀ {g : FuncId} {cells : List VV} {cs : Array Value}, exV s.L f (.fn g cells) = some (u, q) -> RL o base m cells cs.toList -> R .no base (mEx m0 w0 w) u (.func (.func g) #[] cs) := by
  intro g cells cs h hc
  simp only [exV] at h
  split at h
  case h_2 => cases h
  rename_i l hl
  simp only [Option.some.injEq, Prod.mk.injEq] at h
  obtain ⟨rfl, _⟩ := h
  obtain ⟨g1, g2, _⟩ := Qoh hl hc hR.own hle (fun b ob hb e => hnew b ob hb e)
  exact .t (.fn (by simpa using g1) (fun j x x' a b => g2 j x x' a (by simpa using b)))
 cases hv with
 | fn hs hh => exact fnok h ⟨by simpa using hs, fun j x x' a b => hh j x x' a (by simpa using b)⟩
 | t hv =>
   cases v with
   | fn g cells =>
     cases hv with
     | fn hs hh => exact fnok h ⟨by simpa using hs, fun j x x' a b => .t (hh j x x' a (by simpa using b))⟩
   | _ =>
     have : R .no base (mEx m0 w0 w) _ v' := .t (hv.mono hle)
     simp only [exV, Option.some.injEq, Prod.mk.injEq] at h <;> first
      | (obtain ⟨rfl, _⟩ := h; exact this)
      | (cases hv; done)
      | (cases h; done)
 | fr hv =>
   simp only [exV, Option.some.injEq, Prod.mk.injEq] at h
   obtain ⟨rfl, _⟩ := h
   exact .fr (hv.mono (MM.Qj3 hle (Nat.le_refl _)))
 | @rf k off n cap oi ho hn hrm =>
   simp only [exV] at h
   split at h
   case h_2 => cases h
   rename_i blk hblk
   cases hbx : blk.bx with
   | true => rw [hbx] at h; cases h
   | false =>
     rw [hbx] at h
     simp only [cond_false] at h
     obtain ⟨c, t, hc, htot, hz, hat⟩ := hR.own.row ho (Qw1 hblk)
     rw [if_neg (by rw [hbx]; simp)] at hat
     have hst := hR.still k blk (Qbr hblk).1 hbx
     have d1 : base <= oi.b := by
      cases hR.own.at_ k oi blk ho (Qbr hblk).1 with
      | row _ _ _ _ hh _ => exact hh (Qbr hblk).2.2
      | it _ _ hh => exact hh
      | mp _ _ _ hh _ _ => exact hh (Qbr hblk).2.2
     have tree : ∀ (M : MM), M oi.b = some (.cells c t (0, 0)) -> (∀ (j : Nat) (x : VV) (u' : Value), blk.cells[j]? = some x -> R .no base m x u' -> T M (unfr x) u') -> T M (.tr ((blk.cells.map unfr).drop off) n) (.slice (some ⟨oi.b, oi.off + off, none⟩) n cap) := by
      intro M hMb hel
      by_cases hoff : off <= blk.cells.length
      ·refine .tr (hb := hMb) hn ?_ (fun j u u' a b => ?_)
       ·have := hat.1; simp only [List.length_drop, List.length_map]; omega
       ·rw [List.getElem?_drop, List.getElem?_map] at a
        cases hcj : blk.cells[off + j]? with
        | none => rw [hcj] at a; cases a
        | some x =>
          rw [hcj] at a
          simp only [Option.map_some, Option.some.injEq] at a
          subst a
          exact hel _ x u' hcj (hat.2 (off + j) x u' hcj (by rw [<- b]; congr 1; omega))
      ·have hd : (blk.cells.map unfr).drop off = [] := by rw [List.drop_eq_nil_iff]; simp; omega
       rw [hd]
       refine .tr (hb := hMb) hn ?_ (fun j u u' a b => by simp at a)
       simp only [List.length_nil, Nat.add_zero]
       rw [htot]; omega
     cases hfz : (f && Nat.blt 0 blk.sz) with
     | false =>
       rw [hfz] at h
       simp only [cond_false, Option.some.injEq, Prod.mk.injEq] at h
       obtain ⟨rfl, _⟩ := h
       exact .t (tree _ (hnew _ _ d1 hc) (fun j x u' hx hxr => (T.unfr hxr (List.all_eq_true.1 hst x (List.mem_of_getElem? hx))).mono hle))
     | true =>
       rw [hfz] at h
       rw [Bool.and_eq_true] at hfz
       have hpos : 0 < blk.sz := Qec hfz.2
       simp only [cond_true, Option.some.injEq, Prod.mk.injEq] at h
       obtain ⟨rfl, rfl⟩ := h
       refine .fw (tree _ (MM.Qhq.2 ⟨d1, hnew _ _ d1 hc, rfl⟩) (fun j x u' hx hxr => ?_)) (fun b off' c' e hp => by
        injection e with e1 e2 e3
        injection e1 with e1; injection e1 with e1 e4
        subst e1; subst e3; subst e4
        exact ⟨fun hz0 => absurd hz0 (by omega), c, t, hnew _ _ d1 hc, by rw [<- hz (Qbr hblk).2.2, htot]; exact hrm⟩)
       have hn0 := List.all_eq_true.1 hq x (List.mem_of_getElem? hx)
       cases hxr with
       | t hxr => cases x <;> first | (cases hn0; done) | (cases hxr <;> first | exact .c ‹_› | exact .z | (cases hn0; done))
       | fr hxr => exact hxr.mono (MM.Qj3 hle (Nat.le_refl _))
       | rf hxr => cases hxr
       | rf0 => cases hn0
       | pt hxr => cases hxr
       | ag => cases hn0
       | tu => cases hn0
       | fn => cases hn0
       | it => cases hn0
       | mp => cases hn0
       | fw => have := List.all_eq_true.1 hst _ (List.mem_of_getElem? hx); cases this
 | @rf0 k off ad =>
   simp only [exV] at h
   split at h
   case h_2 => cases h
   rename_i blk hblk
   cases hbx : blk.bx with
   | true => rw [hbx] at h; cases h
   | false =>
     rw [hbx] at h
     simp only [cond_false] at h
     cases hfz : (f && Nat.blt 0 blk.sz) with
     | false => rw [hfz] at h; simp only [cond_false, Option.some.injEq, Prod.mk.injEq] at h; obtain ⟨rfl, _⟩ := h; exact .t .e
     | true => rw [hfz] at h; simp only [cond_true, Option.some.injEq, Prod.mk.injEq] at h; obtain ⟨rfl, _⟩ := h; exact .fw .e (fun b off c e hp => by injection e with _ _ e; omega)
 | pt => simp [exV] at h
 | it => simp [exV] at h
 | fw ht hcc =>
   simp only [exV, Option.some.injEq, Prod.mk.injEq] at h
   obtain ⟨rfl, _⟩ := h
   exact .fw (ht.mono (MM.Qj3 hle (Nat.le_refl _))) (fun b off c e hp => let ⟨z, cs, ty, x, y⟩ := hcc b off c e hp; ⟨z, cs, ty, hle _ _ x, y⟩)
 | @mp k oi ho =>
   simp only [exV] at h
   split at h
   case h_2 => cases h
   rename_i blk hblk
   obtain ⟨hz, h⟩ := Qm h
   have hz := Nat.eq_of_beq_eq_true hz
   injection h with h; injection h with h1 h2; subst h1
   obtain ⟨es, clock, g1, g2, _, g4, g5⟩ := (hR.own.at_ k oi blk ho hblk).mapOf (.inl hz)
   have hh : blk.h = false := by
    unfold Blk.h
    rw [hz]
    cases e : (Nat.beq (bigX + 1) bigH || Nat.beq (bigX + 1) (bigX + 2)) with
    | false => rfl
    | true =>
      rw [Bool.or_eq_true] at e
      rcases e with e | e
      ·have := Nat.eq_of_beq_eq_true e; unfold bigX bigH at this; omega
      ·have := Nat.eq_of_beq_eq_true e; omega
   exact .t (Qro g2 g5 hle (hnew _ _ (g4 hh) g1))
 | ag => simp [exV] at h
 | tu => simp [exV] at h
theorem Q0p (hR : Rel gv base w0 m0 sz s o m a w) (hM0 : Qbl m0 w0) (hE0 : ∀ b ob, m0 b = some ob -> hE gv b = none) {f : Bool} : ∀ {l u : List VV} {q : Prop} {l' : List Value}, exVs s.L f l = some (u, q) -> q -> RL o base m l l' -> RL .no base (mEx m0 w0 w) u l'
 | [], u, q, l', h, hq, hl => by
   simp only [exVs, Option.some.injEq, Prod.mk.injEq] at h
   obtain ⟨rfl, _⟩ := h
   obtain rfl : l' = [] := by have := hl.1; simpa using this.symm
   exact .nil
 | v :: l, u, q, l', h, hq, hl => by
   cases l' with
   | nil => have := hl.1; simp at this
   | cons v' l' =>
     obtain ⟨h1, h2⟩ := hl.tail
     simp only [exVs] at h
     split at h
     case h_2 => cases h
     rename_i u1 p1 us q1 e1 e2
     simp only [Option.some.injEq, Prod.mk.injEq] at h
     obtain ⟨rfl, rfl⟩ := h
     exact .cons (Q3e hR hM0 hE0 e1 hq.1 h1) (Q0p hR hM0 hE0 e2 hq.2 h2)
theorem Q3f (hR : Rel gv base w0 m0 sz s o m a w) (hM0 : Qbl m0 w0) (hE0 : ∀ b ob, m0 b = some ob -> hE gv b = none) {f : Bool} {v u : VV} {q : Prop} {v' : Value} (h : ex1 s.L f v = some (u, q)) (hq : q) (hv : R o base m v v') : R .no base (mEx m0 w0 w) u v' := by
 unfold ex1 at h
 split at h
 ·split at h
  case h_2 => cases h
  rename_i cs l p hl
  simp only [Option.some.injEq, Prod.mk.injEq] at h
  obtain ⟨rfl, rfl⟩ := h
  obtain ⟨c, rfl, hc⟩ := Ql7 hv
  exact R.Qiw (Q0p hR hM0 hE0 hl hq hc)
 ·exact Q3e hR hM0 hE0 h hq hv
theorem Q4v (hR : Rel gv base w0 m0 sz s o m a w) (hM0 : Qbl m0 w0) (hE0 : ∀ b ob, m0 b = some ob -> hE gv b = none) {f : Bool} {r : ResultVar} {u : VV} {q : Prop} (h : resV P s f r = some (u, q)) (hq : q) : ∃ v', (Qrm a.tmps r).run P w = .ok v' w /\ R .no base (mEx m0 w0 w) u v' := by
 cases r with
 | tmp t => exact ⟨_, rfl, Q3f hR hM0 hE0 h hq (hR.tm t)⟩
 | cell c t =>
   simp only [resV] at h
   split at h
   case h_2 => cases h
   rename_i v p hv
   split at h
   case h_2 => cases h
   rename_i u1 q1 hu
   simp only [Option.some.injEq, Prod.mk.injEq] at h
   obtain ⟨rfl, rfl⟩ := h
   obtain ⟨v', h1, h2⟩ := Qrr hv hq.1 hR.own hR.mem (hR.tm c)
   refine ⟨v', ?_, Q3f hR hM0 hE0 hu hq.2 h2⟩
   have h3 := Qo4 h1
   show (Go.asAddr (a.tmps.getD c undef) >>= fun ad => Go.loadVar t ad).run P w = _
   generalize a.tmps.getD c undef = y at h1 h3
   unfold Qw9 at h1
   split at h1
   case h_2 => cases h1
   exact h3
theorem Qwi (hR : Rel gv base w0 m0 sz s o m a w) (hM0 : Qbl m0 w0) (hE0 : ∀ b ob, m0 b = some ob -> hE gv b = none) {f : Bool} : ∀ {rs : List ResultVar} {l : List VV} {q : Prop}, Que P s f rs = some (l, q) -> q -> ∃ vs', (rs.mapM (Qrm a.tmps)).run P w = .ok vs' w /\ RL .no base (mEx m0 w0 w) l vs'
 | [], l, q, h, hq => by
   simp only [Que, Option.some.injEq, Prod.mk.injEq] at h
   obtain ⟨rfl, _⟩ := h
   exact ⟨[], rfl, .nil⟩
 | r :: rs, l, q, h, hq => by
   simp only [Que] at h
   split at h
   case h_2 => cases h
   rename_i v p l1 q1 hv hl
   simp only [Option.some.injEq, Prod.mk.injEq] at h
   obtain ⟨rfl, rfl⟩ := h
   obtain ⟨v', h1, h2⟩ := Q4v hR hM0 hE0 hv hq.1
   obtain ⟨vs', k1, k2⟩ := Qwi hR hM0 hE0 hl hq.2
   refine ⟨v' :: vs', ?_, .cons h2 k2⟩
   rw [List.mapM_cons, Sem.run_bind, h1]
   simp only [Result.andThen_ok]
   rw [Sem.run_bind, k1]; rfl
theorem Q2b {fb : Nat} {M : MM} {l : List VV} {vs : List Value} (h : RL .no fb M l vs) : R .no fb M (Quf l) (if h : vs.length = 1 then vs[0] else .tuple vs.toArray) := by
 by_cases e : vs.length = 1
 ·rw [dif_pos e]
  cases l with
  | nil => have := h.1; simp at this; omega
  | cons v l =>
    cases l with
    | nil => exact h.2 0 v vs[0] rfl (List.getElem?_eq_getElem (by omega))
    | cons v2 l => have := h.1; simp at this; omega
 ·rw [dif_neg e]
  have hl : l.length ≠ 1 := by rw [h.1]; exact e
  have : Quf l = .tu l := by
   unfold Quf
   split
   ·simp at hl
   ·rfl
  rw [this]
  exact .tu (by simpa using h.1) (fun j v v' a b => h.2 j v v' a (by simpa using b))
end
theorem MM.Qt5 {m : MM} {r : Nat} {ob : Obj} (h : m r = some ob) (hc : Qy8 ob = false) : m.LeC (m.but r) := fun b ob' hd e => by
 unfold MM.but
 rw [if_neg (fun e' => by subst e'; rw [h] at e; injection e with e; subst e; rw [hc] at hd; cases hd)]; exact e
theorem Rel.set {P : Program} {gv : Nat -> Value} {base : Nat} {w0 : World} {m0 : MM} {sz : Nat} {s : VS} {o : OM} {m : MM} {a : Act} {w : World} (h : Rel gv base w0 m0 sz s o m a w) {r : Nat} {ob ob' : Obj} {ds : List Deferred} (hm : m r = some ob) (hc : Qy8 ob = false) (hb : base <= r) (h0 : m0 r = none)
 (hd : Marks base m0 (m.but r) ds) : Rel gv base w0 m0 sz s o (m.but r) { a with defers := ds } { w with heap := w.heap.setIfInBounds r ob' } := by
 have hle := MM.Qt5 hm hc
 have hw := heap_set ob' (h.mem r ob hm)
 refine ⟨h.asz, hd, fun t => (h.tm t).Qj4 hle, ⟨fun k oi blk e1 e2 => ?_, fun k oi e => ?_, h.own.inj⟩, h.olt, h.still, fun b ob1 e => ?_, fun b ob1 e => ?_, ⟨h.below.os, h.below.tape, h.below.output, by show _ <= (w.heap.setIfInBounds r ob').size; rw [Array.size_setIfInBounds]; exact h.below.size, fun k hk he => ?_⟩, h.hb, fun t => (h.gh t).Qj4 hle, fun b ob1 e => by unfold MM.but; rw [if_neg (fun e' => by subst e'; rw [h0] at e; cases e)]; exact h.mlo b ob1 e, h.ex⟩
 ·have hne : oi.b ≠ r := fun e => by have := (h.own.dom k oi e1).2.2; rw [e, hm] at this; cases this
  rw [hw, if_neg hne]
  exact (h.own.at_ k oi blk e1 e2).Qj4 hle
 ·obtain ⟨d1, d2, d3⟩ := h.own.dom k oi e
  refine ⟨d1, by show _ < (w.heap.setIfInBounds r ob').size; rw [Array.size_setIfInBounds]; exact d2, ?_⟩
  unfold MM.but; split
  ·rfl
  ·exact d3
 ·unfold MM.but at e
  split at e
  ·cases e
  ·rename_i hne; rw [hw, if_neg hne]; exact h.mem b ob1 e
 ·unfold MM.but at e
  split at e
  ·cases e
  ·exact h.mfr b ob1 e
 ·rw [hw, if_neg (by omega)]; exact h.below.block k hk he
theorem Rel.leave {P : Program} {gv : Nat -> Value} {base : Nat} {w0 : World} {m0 : MM} {sz : Nat} {s : VS} {fn : Func} {tmps : Array Value} {R : Ending -> World -> Prop} : ∀ (rs : List Nat) (o : OM) (m : MM) (a : Act) (w : World), Rel gv base w0 m0 sz s o m a w -> a.tmps = tmps ->
 a.defers = rs.map (fun r => { target := .collected r, args := #[] }) -> rs.Nodup -> (∀ r ∈ rs, (base <= r /\ m0 r = none) /\ m r = some (.deferred (some []))) ->
 (∀ m' a' w', Rel gv base w0 m0 sz s o m' a' w' -> a'.tmps = tmps -> LeavesIn (fen none) 0 P fn tmps R [] .returning w') -> LeavesInM (fen none) 0 P fn tmps R a.defers .returning w
 | [], o, m, a, w, hR, ht, hd, _, _, k => by
   rw [hd]
   exact k m a w hR ht
 | r :: rs, o, m, a, w, hR, ht, hd, hn, hm, k => by
   rw [hd]
   obtain ⟨⟨hb, h0⟩, hr⟩ := hm r (by simp)
   have hw := hR.mem r _ hr
   have hn' := List.nodup_cons.1 hn
   have hrest : ∀ x ∈ rs, (base <= x /\ m0 x = none) /\ (m.but r) x = some (.deferred (some [])) := fun x hx => by
    refine ⟨(hm x (by simp [hx])).1, ?_⟩
    unfold MM.but
    rw [if_neg (fun e => by subst e; exact hn'.1 hx)]
    exact (hm x (by simp [hx])).2
   have hR' := Rel.set (P := P) hR (ob' := .deferred none) (ds := rs.map (fun r => { target := .collected r, args := #[] })) hr rfl hb h0 ⟨rs, rfl, hn'.2, hrest⟩
   refine ⟨by simp, .inl ⟨r, _, rfl, Qoa hw, ?_⟩⟩
   exact Rel.leave rs o _ _ _ hR' ht rfl hn'.2 hrest k
def Qs0 : List VV -> Nat -> Tr VV -> Tr VV
 | [], _, A => A
 | v :: vs, i, A => Qs0 vs (i + 1) (A.set i v)
theorem Qr0 : ∀ (vs : List VV) (i : Nat) (A : Tr VV) (t : Nat), i + vs.length < 1099511627776 -> ev (Qs0 vs i A) (.tmp t) = if i <= t /\ t < i + vs.length then vs.getD (t - i) .any else ev A (.tmp t)
 | [], i, A, t, _ => by rw [if_neg (by simp only [List.length_nil]; omega)]; rfl
 | v :: vs, i, A, t, h => by
   simp only [Qs0]
   simp only [List.length_cons] at h
   rw [Qr0 vs (i + 1) _ t (by omega), Qms (by omega)]
   simp only [List.length_cons]
   by_cases c : t = i
   ·subst c
    rw [if_neg (by omega), if_pos rfl, if_pos (by omega), Nat.sub_self]; rfl
   ·by_cases c2 : i + 1 <= t /\ t < i + 1 + vs.length
    ·rw [if_pos c2, if_pos (by omega), show t - i = (t - (i + 1)) + 1 by omega]; rfl
    ·rw [if_neg c2, if_neg c, if_neg (by omega)]
theorem Q7n {args : List VV} {args' : List Value} {o : OM} {fb : Nat} {m : MM} {n : Nat} (hargs : RL o fb m args args') (hlen : args.length < 1000000) (t : Nat) : R o fb m (ev (Qs0 args 0 .nil) (.tmp t)) ((args'.toArray ++ Array.replicate n undef).getD t undef) := by
 have hl := hargs.1
 rw [Qr0 _ _ _ _ (by omega)]
 simp only [Nat.zero_add, Nat.zero_le, true_and, Nat.sub_zero]
 by_cases ht : t < args.length
 ·rw [if_pos ht]
  have e1 : args[t]? = some args[t] := List.getElem?_eq_getElem ht
  have ht' : t < args'.length := by omega
  have e2 : args'[t]? = some args'[t] := List.getElem?_eq_getElem ht'
  have := hargs.2 t _ _ e1 e2
  rw [List.getD_eq_getElem?_getD, e1, Array.getD_eq_getD_getElem?, Array.getElem?_append_left (by simpa using ht')]
  simpa [ht'] using this
 ·rw [if_neg ht]; exact .undef
theorem VC.intro {P : Program} {f : FuncId} {fn : Func} {c : Code} {args : List VV} {s : VS} {e : Exit} {fr : Bool} {l : List VV} {q : Prop} {sz : Nat} (hf : P.funcs[f]? = some fn) (hb : fn.body = some c)
 (hsz : args.length + (fn.ntmps - args.length) = sz) (hlen : sz < 1000000) (hrun : VRun none P sz c ⟨Qs0 args 0 .nil, [], .nil⟩ e s) (he : e = .normal \/ e = .ret) (hres : Que P s fr fn.results.toList = some (l, q)) (hq : q) : VC P f args (Quf l) := by
 refine ⟨⟨fn, c, hf, hb⟩, fun w m args' hM hargs => ?_⟩
 refine (callsIn_wide (n := 0)).1 ?_
 show CallsIn (fen none) 0 P f args'.toArray w _
 refine callsIn_of_wp_marks (F := fen none) hf hb trivial ?_ rfl
 have hl := hargs.1
 have hstart : Rel (fun _ => undef) w.heap.size w m sz ⟨Qs0 args 0 .nil, [], .nil⟩ .no m { tmps := args'.toArray ++ Array.replicate (fn.ntmps - args'.toArray.size) undef, defers := [] } w := by
  refine ⟨?_, .nil, fun t => ?_, ⟨fun k oi blk e => (nomatch e), fun k oi e => (nomatch e), fun k k' oi oi' e => (nomatch e)⟩, fun k oi e => (nomatch e), fun k blk e => (by simp [gb, getL] at e), hM, fun b ob e => .inl e, .refl _ _ _, rfl, fun t => .undef, .refl _, fun k blk e => (by simp [gb, getL] at e)⟩
  ·simp; omega
  ·exact Q7n hargs (by omega) t
 refine hrun _ w.heap.size w m .no m _ w hstart _ (fun o' m' a' w' hR => ?_)
 have hfin : LeavesInM (fen none) 0 P fn a'.tmps (fun e w' => ∃ v' m', e = .returned v' /\ Below w.heap.size w w' /\ m.Le m' /\ Qbl m' w' /\ (∀ b ob, m' b = some ob -> m b = some ob \/ w.heap.size <= b) /\ R .no w.heap.size m' (Quf l) v') a'.defers .returning w' := by
  obtain ⟨rs, h1, h2, h3⟩ := hR.adf
  refine Rel.leave rs o' m' a' w' hR rfl h1 h2 h3 (fun m2 a2 w2 hR2 ht => ?_)
  obtain ⟨vs', k1, k2⟩ := Qwi hR2 hM (fun _ _ _ => rfl) hres hq
  obtain ⟨g1, g2, _, _⟩ := hR2.end_ hM (fun _ _ _ => rfl)
  rw [ht] at k1
  exact ⟨_, Qo9 k1, _, mEx m w w2, rfl, hR2.below.below (fun _ _ => rfl), g1, g2, fun b ob hh => Qpb hh, Q2b k2⟩
 rcases he with rfl | rfl
 ·exact hfin
 ·exact hfin
mutual
def vlt (n : Nat) : VV -> Bool
 | .rf k _ _ => Nat.blt k n
 | .pt k _ => Nat.blt k n
 | .ag cs => vltL n cs
 | .tu cs => vltL n cs
 | .fn _ cs => vltL n cs
 | .it k => Nat.blt k n
 | .mp k => Nat.blt k n
 | _ => true
def vltL (n : Nat) : List VV -> Bool
 | [] => true
 | v :: l => vlt n v && vltL n l
end
theorem Qng {n : Nat} : ∀ {l : List VV} {j : Nat} {v : VV}, vltL n l = true -> l[j]? = some v -> vlt n v = true
 | [], j, v, h, e => by simp at e
 | u :: l, 0, v, h, e => by simp only [vltL, Bool.and_eq_true] at h; simp at e; subst e; exact h.1
 | u :: l, j + 1, v, h, e => by simp only [vltL, Bool.and_eq_true] at h; exact Qng h.2 (by simpa using e)
def OM.cut (o : OM) (n : Nat) : OM := fun k => if k < n then o k else none
theorem R.cut {o : OM} {fb n : Nat} {m : MM} {v : VV} {v' : Value} (h : R o fb m v v') : vlt n v = true -> R (o.cut n) fb m v v' := by
 induction h with
 | t h => exact fun _ => .t h
 | fr h => exact fun _ => .fr h
 | rf ho a b => intro e; simp only [vlt] at e; exact .rf (by unfold OM.cut; rw [if_pos (Qec e)]; exact ho) a b
 | rf0 => exact fun _ => .rf0
 | pt ho => intro e; simp only [vlt] at e; exact .pt (by unfold OM.cut; rw [if_pos (Qec e)]; exact ho)
 | ag hs _ ih => intro e; simp only [vlt] at e; exact .ag hs (fun j v v' a b => ih j v v' a b (Qng e a))
 | tu hs _ ih => intro e; simp only [vlt] at e; exact .tu hs (fun j v v' a b => ih j v v' a b (Qng e a))
 | fw h hc => exact fun _ => .fw h hc
 | it ho => intro e; simp only [vlt] at e; exact .it (by unfold OM.cut; rw [if_pos (Qec e)]; exact ho)
 | mp ho => intro e; simp only [vlt] at e; exact .mp (by unfold OM.cut; rw [if_pos (Qec e)]; exact ho)
 | fn hs _ ih => intro e; simp only [vlt] at e; exact .fn hs (fun j v v' a b => ih j v v' a b (Qng e a))
theorem OM.Q7o (o : OM) (n : Nat) : (o.cut n).Le o := fun k i e => by
 unfold OM.cut at e
 split at e
 ·exact e
 ·cases e
end Go.Proofs.Ytjomicmhnbmhoaa.Vv
