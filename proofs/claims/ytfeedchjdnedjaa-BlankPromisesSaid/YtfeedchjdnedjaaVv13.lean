import Derived.Test.YtfeedchjdnedjaaVv12
import Derived.RangeFuncLeaves
set_option linter.unusedVariables false
set_option linter.unusedSimpArgs false
namespace Go.Proofs.Ytfeedchjdnedjaa.Vv
open Go Go.Proofs.Ytfeedchjdnedjaa.Ev
open Go.RowKit (Below)
def exV (L : List (Option Blk)) (f : Bool) : VV -> Option (VV × Prop)
 | .c v => some (.c v, True)
 | .tr cs n => some (.tr cs n, True)
 | .fr cs n => some (.fr cs n, True)
 | .mt cs => some (.mt cs, True)
 | .fw s cs n => some (.fw s cs n, True)
 | .mp k => match gb L k with
   | some blk => bif Nat.beq blk.sz (bigX + 1) then some (.mt (blk.cells.map Qek), True) else none
   | none => none
 | .rf k off n => match ga L k with
   | some blk => bif blk.bx then none else bif f && Nat.blt 0 blk.sz then some (.fw blk.sz ((blk.cells.map unfr).drop off) n, blk.cells.all new0 = true) else some (.tr ((blk.cells.map unfr).drop off) n, True)
   | none => none
 | .any => some (.any, True)
 | .e0 => some (.e0, True)
 | .fn g cs => match Qqr L cs with
   | some l => some (.fn g l, True)
   | none => none
 | _ => none
def exVs (L : List (Option Blk)) (f : Bool) : List VV -> Option (List VV × Prop)
 | [] => some ([], True)
 | v :: l => match exV L f v, exVs L f l with
   | some (v, p), some (l, q) => some (v :: l, p /\ q)
   | _, _ => none
def ex1 (L : List (Option Blk)) (f : Bool) : VV -> Option (VV × Prop)
 | .ag cs => match exVs L f cs with
   | some (l, p) => some (.ag l, p)
   | none => none
 | v => exV L f v
def resV (P : Program) (s : VS) (f : Bool) : ResultVar -> Option (VV × Prop)
 | .tmp t => ex1 s.L f (ev s.A (.tmp t))
 | .cell c t => match Qh5 P s.L .n t (ev s.A (.tmp c)) with
   | some (v, p) => match ex1 s.L f v with
     | some (v, q) => some (v, p /\ q)
     | none => none
   | none => none
def Ql9 (P : Program) (s : VS) (f : Bool) : List ResultVar -> Option (List VV × Prop)
 | [] => some ([], True)
 | r :: rs => match resV P s f r, Ql9 P s f rs with
   | some (v, p), some (l, q) => some (v :: l, p /\ q)
   | _, _ => none
def Qfx : List VV -> VV
 | [v] => v
 | l => .tu l
section
variable {P : Program} {gv : Nat -> Value} {base : Nat} {w0 : World} {m0 : MM} {sz : Nat} {s : VS} {o : OM} {m : MM} {a : Act} {w : World}
theorem Rel.end_ (h : Rel gv base w0 m0 sz s o m a w) (hM0 : Yo m0 w0) (hE0 : ∀ b ob, m0 b = some ob -> hE gv b = none) : m0.Le (mEx m0 w0 w) /\ Yo (mEx m0 w0 w) w /\ m.Le (mEx m0 w0 w) /\ ∀ b ob, base <= b -> w.heap[b]? = some ob -> mEx m0 w0 w b = some ob := by
 have hk : ∀ b ob, m0 b = some ob -> w.heap[b]? = some ob := fun b ob e => by
  rw [h.below.block b (by rw [h.hb]; exact hM0.lt e) (hE0 b ob e)]; exact hM0 b ob e
 have hnew : ∀ b ob, base <= b -> w.heap[b]? = some ob -> mEx m0 w0 w b = some ob := fun b ob hb e => by
  unfold mEx
  split
  ·rename_i e'; have := hM0.lt e'; have := h.hb; omega
  ·rw [if_pos (by rw [<- h.hb]; exact hb)]; exact e
 refine ⟨Qie _ _ _, fun b ob e => ?_, fun b ob e => ?_, hnew⟩
 ·unfold mEx at e
  split at e
  ·rename_i ob' e'
   injection e with e; subst e
   exact hk b _ e'
  ·split at e
   ·exact e
   ·cases e
 ·rcases h.mfr b ob e with e1 | e1
  ·exact Qie _ _ _ b ob e1
  ·exact hnew b ob e1 (h.mem b ob e)
theorem Qr5 (hR : Rel gv base w0 m0 sz s o m a w) (hM0 : Yo m0 w0) (hE0 : ∀ b ob, m0 b = some ob -> hE gv b = none) {f : Bool} {v u : VV} {q : Prop} {v' : Value} (h : exV s.L f v = some (u, q)) (hq : q) (hv : R o base m v v') : R .no base (mEx m0 w0 w) u v' := by
 obtain ⟨_, _, hle, hnew⟩ := hR.end_ hM0 hE0
 have fnok : ∀ {g : FuncId} {cells : List VV} {cs : Array Value}, exV s.L f (.fn g cells) = some (u, q) -> RL o base m cells cs.toList -> R .no base (mEx m0 w0 w) u (.func (.func g) #[] cs) := by
  intro g cells cs h hc
  simp only [exV] at h
  split at h
  case h_2 => cases h
  rename_i l hl
  simp only [Option.some.injEq, Prod.mk.injEq] at h
  obtain ⟨rfl, _⟩ := h
  obtain ⟨g1, g2, _⟩ := Qkr hl hc hR.own hle (fun b ob hb e => hnew b ob hb e)
  exact .t (.fn (by simpa using g1) (fun j x x' a b => g2 j x x' a (by simpa using b)))
 cases hv with
 | fn hs hh => exact fnok h ⟨by simpa using hs, fun j x x' a b => hh j x x' a (by simpa using b)⟩
 | t hv =>
   cases v with
   | fn g cells =>
     cases hv with
     | fn hs hh => exact fnok h ⟨by simpa using hs, fun j x x' a b => .t (hh j x x' a (by simpa using b))⟩
   | _ =>
     have : R .no base (mEx m0 w0 w) _ v' := .t (hv.mono hle)
     simp only [exV, Option.some.injEq, Prod.mk.injEq] at h <;> first
      | (obtain ⟨rfl, _⟩ := h; exact this)
      | (cases hv; done)
      | (cases h; done)
 | fr hv =>
   simp only [exV, Option.some.injEq, Prod.mk.injEq] at h
   obtain ⟨rfl, _⟩ := h
   exact .fr (hv.mono (MM.Qd3 hle (Nat.le_refl _)))
 | @rf k off n cap oi ho hn hrm =>
   simp only [exV] at h
   split at h
   case h_2 => cases h
   rename_i blk hblk
   cases hbx : blk.bx with
   | true => rw [hbx] at h; cases h
   | false =>
     rw [hbx] at h
     simp only [cond_false] at h
     obtain ⟨c, t, hc, htot, hz, hat⟩ := hR.own.row ho (Qqs hblk)
     rw [if_neg (by rw [hbx]; simp)] at hat
     have hst := hR.still k blk (Yb hblk).1 hbx
     have d1 : base <= oi.b := by
      cases hR.own.at_ k oi blk ho (Yb hblk).1 with
      | row _ _ _ _ hh _ => exact hh (Yb hblk).2.2
      | it _ _ hh => exact hh
      | mp _ _ _ hh _ _ => exact hh (Yb hblk).2.2
     have tree : ∀ (M : MM), M oi.b = some (.cells c t (0, 0)) -> (∀ (j : Nat) (x : VV) (u' : Value), blk.cells[j]? = some x -> R .no base m x u' -> T M (unfr x) u') -> T M (.tr ((blk.cells.map unfr).drop off) n) (.slice (some ⟨oi.b, oi.off + off, none⟩) n cap) := by
      intro M hMb hel
      by_cases hoff : off <= blk.cells.length
      ·refine .tr (hb := hMb) hn ?_ (fun j u u' a b => ?_)
       ·have := hat.1; simp only [List.length_drop, List.length_map]; omega
       ·rw [List.getElem?_drop, List.getElem?_map] at a
        cases hcj : blk.cells[off + j]? with
        | none => rw [hcj] at a; cases a
        | some x =>
          rw [hcj] at a
          simp only [Option.map_some, Option.some.injEq] at a
          subst a
          exact hel _ x u' hcj (hat.2 (off + j) x u' hcj (by rw [<- b]; congr 1; omega))
      ·have hd : (blk.cells.map unfr).drop off = [] := by rw [List.drop_eq_nil_iff]; simp; omega
       rw [hd]
       refine .tr (hb := hMb) hn ?_ (fun j u u' a b => by simp at a)
       simp only [List.length_nil, Nat.add_zero]
       rw [htot]; omega
     cases hfz : (f && Nat.blt 0 blk.sz) with
     | false =>
       rw [hfz] at h
       simp only [cond_false, Option.some.injEq, Prod.mk.injEq] at h
       obtain ⟨rfl, _⟩ := h
       exact .t (tree _ (hnew _ _ d1 hc) (fun j x u' hx hxr => (T.unfr hxr (List.all_eq_true.1 hst x (List.mem_of_getElem? hx))).mono hle))
     | true =>
       rw [hfz] at h
       rw [Bool.and_eq_true] at hfz
       have hpos : 0 < blk.sz := Z4 hfz.2
       simp only [cond_true, Option.some.injEq, Prod.mk.injEq] at h
       obtain ⟨rfl, rfl⟩ := h
       refine .fw (tree _ (MM.Qch.2 ⟨d1, hnew _ _ d1 hc, rfl⟩) (fun j x u' hx hxr => ?_)) (fun b off' c' e hp => by
        injection e with e1 e2 e3
        injection e1 with e1; injection e1 with e1 e4
        subst e1; subst e3; subst e4
        exact ⟨fun hz0 => absurd hz0 (by omega), c, t, hnew _ _ d1 hc, by rw [<- hz (Yb hblk).2.2, htot]; exact hrm⟩)
       have hn0 := List.all_eq_true.1 hq x (List.mem_of_getElem? hx)
       cases hxr with
       | t hxr => cases x <;> first | (cases hn0; done) | (cases hxr <;> first | exact .c ‹_› | exact .z | (cases hn0; done))
       | fr hxr => exact hxr.mono (MM.Qd3 hle (Nat.le_refl _))
       | rf hxr => cases hxr
       | rf0 => cases hn0
       | pt hxr => cases hxr
       | ag => cases hn0
       | tu => cases hn0
       | fn => cases hn0
       | it => cases hn0
       | mp => cases hn0
       | fw => have := List.all_eq_true.1 hst _ (List.mem_of_getElem? hx); cases this
 | @rf0 k off ad =>
   simp only [exV] at h
   split at h
   case h_2 => cases h
   rename_i blk hblk
   cases hbx : blk.bx with
   | true => rw [hbx] at h; cases h
   | false =>
     rw [hbx] at h
     simp only [cond_false] at h
     cases hfz : (f && Nat.blt 0 blk.sz) with
     | false => rw [hfz] at h; simp only [cond_false, Option.some.injEq, Prod.mk.injEq] at h; obtain ⟨rfl, _⟩ := h; exact .t .e
     | true => rw [hfz] at h; simp only [cond_true, Option.some.injEq, Prod.mk.injEq] at h; obtain ⟨rfl, _⟩ := h; exact .fw .e (fun b off c e hp => by injection e with _ _ e; omega)
 | pt => simp [exV] at h
 | it => simp [exV] at h
 | fw ht hcc =>
   simp only [exV, Option.some.injEq, Prod.mk.injEq] at h
   obtain ⟨rfl, _⟩ := h
   exact .fw (ht.mono (MM.Qd3 hle (Nat.le_refl _))) (fun b off c e hp => let ⟨z, cs, ty, x, y⟩ := hcc b off c e hp; ⟨z, cs, ty, hle _ _ x, y⟩)
 | @mp k oi ho =>
   simp only [exV] at h
   split at h
   case h_2 => cases h
   rename_i blk hblk
   obtain ⟨hz, h⟩ := Qe h
   have hz := Nat.eq_of_beq_eq_true hz
   injection h with h; injection h with h1 h2; subst h1
   obtain ⟨es, clock, g1, g2, _, g4, g5⟩ := (hR.own.at_ k oi blk ho hblk).mapOf (.inl hz)
   have hh : blk.h = false := by
    unfold Blk.h
    rw [hz]
    cases e : (Nat.beq (bigX + 1) bigH || Nat.beq (bigX + 1) (bigX + 2)) with
    | false => rfl
    | true =>
      rw [Bool.or_eq_true] at e
      rcases e with e | e
      ·have := Nat.eq_of_beq_eq_true e; unfold bigX bigH at this; omega
      ·have := Nat.eq_of_beq_eq_true e; omega
   exact .t (Qks g2 g5 hle (hnew _ _ (g4 hh) g1))
 | ag => simp [exV] at h
 | tu => simp [exV] at h
theorem Qr6 (hR : Rel gv base w0 m0 sz s o m a w) (hM0 : Yo m0 w0) (hE0 : ∀ b ob, m0 b = some ob -> hE gv b = none) {f : Bool} : ∀ {l u : List VV} {q : Prop} {l' : List Value}, exVs s.L f l = some (u, q) -> q -> RL o base m l l' -> RL .no base (mEx m0 w0 w) u l'
 | [], u, q, l', h, hq, hl => by
   simp only [exVs, Option.some.injEq, Prod.mk.injEq] at h
   obtain ⟨rfl, _⟩ := h
   obtain rfl : l' = [] := by have := hl.1; simpa using this.symm
   exact .nil
 | v :: l, u, q, l', h, hq, hl => by
   cases l' with
   | nil => have := hl.1; simp at this
   | cons v' l' =>
     obtain ⟨h1, h2⟩ := hl.tail
     simp only [exVs] at h
     split at h
     case h_2 => cases h
     rename_i u1 p1 us q1 e1 e2
     simp only [Option.some.injEq, Prod.mk.injEq] at h
     obtain ⟨rfl, rfl⟩ := h
     exact .cons (Qr5 hR hM0 hE0 e1 hq.1 h1) (Qr6 hR hM0 hE0 e2 hq.2 h2)
theorem Qv2 (hR : Rel gv base w0 m0 sz s o m a w) (hM0 : Yo m0 w0) (hE0 : ∀ b ob, m0 b = some ob -> hE gv b = none) {f : Bool} {v u : VV} {q : Prop} {v' : Value} (h : ex1 s.L f v = some (u, q)) (hq : q) (hv : R o base m v v') : R .no base (mEx m0 w0 w) u v' := by
 unfold ex1 at h
 split at h
 ·split at h
  case h_2 => cases h
  rename_i cs l p hl
  simp only [Option.some.injEq, Prod.mk.injEq] at h
  obtain ⟨rfl, rfl⟩ := h
  obtain ⟨c, rfl, hc⟩ := Qf1 hv
  exact R.Qd4 (Qr6 hR hM0 hE0 hl hq hc)
 ·exact Qr5 hR hM0 hE0 h hq hv
theorem Qww (hR : Rel gv base w0 m0 sz s o m a w) (hM0 : Yo m0 w0) (hE0 : ∀ b ob, m0 b = some ob -> hE gv b = none) {f : Bool} {r : ResultVar} {u : VV} {q : Prop} (h : resV P s f r = some (u, q)) (hq : q) : ∃ v', (Qem a.tmps r).run P w = .ok v' w /\ R .no base (mEx m0 w0 w) u v' := by
 cases r with
 | tmp t => exact ⟨_, rfl, Qv2 hR hM0 hE0 h hq (hR.tm t)⟩
 | cell c t =>
   simp only [resV] at h
   split at h
   case h_2 => cases h
   rename_i v p hv
   split at h
   case h_2 => cases h
   rename_i u1 q1 hu
   simp only [Option.some.injEq, Prod.mk.injEq] at h
   obtain ⟨rfl, rfl⟩ := h
   obtain ⟨v', h1, h2⟩ := Qko hv hq.1 hR.own hR.mem (hR.tm c)
   refine ⟨v', ?_, Qv2 hR hM0 hE0 hu hq.2 h2⟩
   have h3 := Qen h1
   show (Go.asAddr (a.tmps.getD c undef) >>= fun ad => Go.loadVar t ad).run P w = _
   generalize a.tmps.getD c undef = y at h1 h3
   unfold Qh6 at h1
   split at h1
   case h_2 => cases h1
   exact h3
theorem Qkt (hR : Rel gv base w0 m0 sz s o m a w) (hM0 : Yo m0 w0) (hE0 : ∀ b ob, m0 b = some ob -> hE gv b = none) {f : Bool} : ∀ {rs : List ResultVar} {l : List VV} {q : Prop}, Ql9 P s f rs = some (l, q) -> q -> ∃ vs', (rs.mapM (Qem a.tmps)).run P w = .ok vs' w /\ RL .no base (mEx m0 w0 w) l vs'
 | [], l, q, h, hq => by
   simp only [Ql9, Option.some.injEq, Prod.mk.injEq] at h
   obtain ⟨rfl, _⟩ := h
   exact ⟨[], rfl, .nil⟩
 | r :: rs, l, q, h, hq => by
   simp only [Ql9] at h
   split at h
   case h_2 => cases h
   rename_i v p l1 q1 hv hl
   simp only [Option.some.injEq, Prod.mk.injEq] at h
   obtain ⟨rfl, rfl⟩ := h
   obtain ⟨v', h1, h2⟩ := Qww hR hM0 hE0 hv hq.1
   obtain ⟨vs', k1, k2⟩ := Qkt hR hM0 hE0 hl hq.2
   refine ⟨v' :: vs', ?_, .cons h2 k2⟩
   rw [List.mapM_cons, Sem.run_bind, h1]
   simp only [Result.andThen_ok]
   rw [Sem.run_bind, k1]; rfl
theorem Qo0 {fb : Nat} {M : MM} {l : List VV} {vs : List Value} (h : RL .no fb M l vs) : R .no fb M (Qfx l) (if h : vs.length = 1 then vs[0] else .tuple vs.toArray) := by
 by_cases e : vs.length = 1
 ·rw [dif_pos e]
  cases l with
  | nil => have := h.1; simp at this; omega
  | cons v l =>
    cases l with
    | nil => exact h.2 0 v vs[0] rfl (List.getElem?_eq_getElem (by omega))
    | cons v2 l => have := h.1; simp at this; omega
 ·rw [dif_neg e]
  have hl : l.length ≠ 1 := by rw [h.1]; exact e
  have : Qfx l = .tu l := by
   unfold Qfx
   split
   ·simp at hl
   ·rfl
  rw [this]
  exact .tu (by simpa using h.1) (fun j v v' a b => h.2 j v v' a (by simpa using b))
end
theorem MM.Qwx {m : MM} {r : Nat} {ob : Obj} (h : m r = some ob) (hc : Qr7 ob = false) : m.LeC (m.but r) := fun b ob' hd e => by
 unfold MM.but
 rw [if_neg (fun e' => by subst e'; rw [h] at e; injection e with e; subst e; rw [hc] at hd; cases hd)]; exact e
theorem Rel.set {P : Program} {gv : Nat -> Value} {base : Nat} {w0 : World} {m0 : MM} {sz : Nat} {s : VS} {o : OM} {m : MM} {a : Act} {w : World} (h : Rel gv base w0 m0 sz s o m a w) {r : Nat} {ob ob' : Obj} {ds : List Deferred} (hm : m r = some ob) (hc : Qr7 ob = false) (hb : base <= r) (h0 : m0 r = none)
 (hd : Marks base m0 (m.but r) ds) : Rel gv base w0 m0 sz s o (m.but r) { a with defers := ds } { w with heap := w.heap.setIfInBounds r ob' } := by
 have hle := MM.Qwx hm hc
 have hw := heap_set ob' (h.mem r ob hm)
 refine ⟨h.asz, hd, fun t => (h.tm t).Qf2 hle, ⟨fun k oi blk e1 e2 => ?_, fun k oi e => ?_, h.own.inj⟩, h.olt, h.still, fun b ob1 e => ?_, fun b ob1 e => ?_, ⟨h.below.os, h.below.tape, h.below.output, by show _ <= (w.heap.setIfInBounds r ob').size; rw [Array.size_setIfInBounds]; exact h.below.size, fun k hk he => ?_⟩, h.hb, fun t => (h.gh t).Qf2 hle, fun b ob1 e => by unfold MM.but; rw [if_neg (fun e' => by subst e'; rw [h0] at e; cases e)]; exact h.mlo b ob1 e, h.ex⟩
 ·have hne : oi.b ≠ r := fun e => by have := (h.own.dom k oi e1).2.2; rw [e, hm] at this; cases this
  rw [hw, if_neg hne]
  exact (h.own.at_ k oi blk e1 e2).Qf2 hle
 ·obtain ⟨d1, d2, d3⟩ := h.own.dom k oi e
  refine ⟨d1, by show _ < (w.heap.setIfInBounds r ob').size; rw [Array.size_setIfInBounds]; exact d2, ?_⟩
  unfold MM.but; split
  ·rfl
  ·exact d3
 ·unfold MM.but at e
  split at e
  ·cases e
  ·rename_i hne; rw [hw, if_neg hne]; exact h.mem b ob1 e
 ·unfold MM.but at e
  split at e
  ·cases e
  ·exact h.mfr b ob1 e
 ·rw [hw, if_neg (by omega)]; exact h.below.block k hk he
theorem Rel.leave {P : Program} {gv : Nat -> Value} {base : Nat} {w0 : World} {m0 : MM} {sz : Nat} {s : VS} {fn : Func} {tmps : Array Value} {R : Ending -> World -> Prop} : ∀ (rs : List Nat) (o : OM) (m : MM) (a : Act) (w : World), Rel gv base w0 m0 sz s o m a w -> a.tmps = tmps ->
 a.defers = rs.map (fun r => { target := .collected r, args := #[] }) -> rs.Nodup -> (∀ r ∈ rs, (base <= r /\ m0 r = none) /\ m r = some (.deferred (some []))) ->
 (∀ m' a' w', Rel gv base w0 m0 sz s o m' a' w' -> a'.tmps = tmps -> LeavesIn (fen none) 0 P fn tmps R [] .returning w') -> LeavesInM (fen none) 0 P fn tmps R a.defers .returning w
 | [], o, m, a, w, hR, ht, hd, _, _, k => by
   rw [hd]
   exact k m a w hR ht
 | r :: rs, o, m, a, w, hR, ht, hd, hn, hm, k => by
   rw [hd]
   obtain ⟨⟨hb, h0⟩, hr⟩ := hm r (by simp)
   have hw := hR.mem r _ hr
   have hn' := List.nodup_cons.1 hn
   have hrest : ∀ x ∈ rs, (base <= x /\ m0 x = none) /\ (m.but r) x = some (.deferred (some [])) := fun x hx => by
    refine ⟨(hm x (by simp [hx])).1, ?_⟩
    unfold MM.but
    rw [if_neg (fun e => by subst e; exact hn'.1 hx)]
    exact (hm x (by simp [hx])).2
   have hR' := Rel.set (P := P) hR (ob' := .deferred none) (ds := rs.map (fun r => { target := .collected r, args := #[] })) hr rfl hb h0 ⟨rs, rfl, hn'.2, hrest⟩
   refine ⟨by simp, .inl ⟨r, _, rfl, Qef hw, ?_⟩⟩
   exact Rel.leave rs o _ _ _ hR' ht rfl hn'.2 hrest k
def Qhp : List VV -> Nat -> Tr VV -> Tr VV
 | [], _, A => A
 | v :: vs, i, A => Qhp vs (i + 1) (A.set i v)
theorem Qo1 : ∀ (vs : List VV) (i : Nat) (A : Tr VV) (t : Nat), i + vs.length < 1099511627776 -> ev (Qhp vs i A) (.tmp t) = if i <= t /\ t < i + vs.length then vs.getD (t - i) .any else ev A (.tmp t)
 | [], i, A, t, _ => by rw [if_neg (by simp only [List.length_nil]; omega)]; rfl
 | v :: vs, i, A, t, h => by
   simp only [Qhp]
   simp only [List.length_cons] at h
   rw [Qo1 vs (i + 1) _ t (by omega), Qhc (by omega)]
   simp only [List.length_cons]
   by_cases c : t = i
   ·subst c
    rw [if_neg (by omega), if_pos rfl, if_pos (by omega), Nat.sub_self]; rfl
   ·by_cases c2 : i + 1 <= t /\ t < i + 1 + vs.length
    ·rw [if_pos c2, if_pos (by omega), show t - i = (t - (i + 1)) + 1 by omega]; rfl
    ·rw [if_neg c2, if_neg c, if_neg (by omega)]
theorem Qr2 {args : List VV} {args' : List Value} {o : OM} {fb : Nat} {m : MM} {n : Nat} (hargs : RL o fb m args args') (hlen : args.length < 1000000) (t : Nat) : R o fb m (ev (Qhp args 0 .nil) (.tmp t)) ((args'.toArray ++ Array.replicate n undef).getD t undef) := by
 have hl := hargs.1
 rw [Qo1 _ _ _ _ (by omega)]
 simp only [Nat.zero_add, Nat.zero_le, true_and, Nat.sub_zero]
 by_cases ht : t < args.length
 ·rw [if_pos ht]
  have e1 : args[t]? = some args[t] := List.getElem?_eq_getElem ht
  have ht' : t < args'.length := by omega
  have e2 : args'[t]? = some args'[t] := List.getElem?_eq_getElem ht'
  have := hargs.2 t _ _ e1 e2
  rw [List.getD_eq_getElem?_getD, e1, Array.getD_eq_getD_getElem?, Array.getElem?_append_left (by simpa using ht')]
  simpa [ht'] using this
 ·rw [if_neg ht]; exact .undef
theorem VC.intro {P : Program} {f : FuncId} {fn : Func} {c : Code} {args : List VV} {s : VS} {e : Exit} {fr : Bool} {l : List VV} {q : Prop} {sz : Nat} (hf : P.funcs[f]? = some fn) (hb : fn.body = some c)
 (hsz : args.length + (fn.ntmps - args.length) = sz) (hlen : sz < 1000000) (hrun : VRun none P sz c ⟨Qhp args 0 .nil, [], .nil⟩ e s) (he : e = .normal \/ e = .ret) (hres : Ql9 P s fr fn.results.toList = some (l, q)) (hq : q) : VC P f args (Qfx l) := by
 refine ⟨⟨fn, c, hf, hb⟩, fun w m args' hM hargs => ?_⟩
 refine (callsIn_wide (n := 0)).1 ?_
 show CallsIn (fen none) 0 P f args'.toArray w _
 refine callsIn_of_wp_marks (F := fen none) hf hb trivial ?_ rfl
 have hl := hargs.1
 have hstart : Rel (fun _ => undef) w.heap.size w m sz ⟨Qhp args 0 .nil, [], .nil⟩ .no m { tmps := args'.toArray ++ Array.replicate (fn.ntmps - args'.toArray.size) undef, defers := [] } w := by
  refine ⟨?_, .nil, fun t => ?_, ⟨fun k oi blk e => (nomatch e), fun k oi e => (nomatch e), fun k k' oi oi' e => (nomatch e)⟩, fun k oi e => (nomatch e), fun k blk e => (by simp [gb, getL] at e), hM, fun b ob e => .inl e, .refl _ _ _, rfl, fun t => .undef, .refl _, fun k blk e => (by simp [gb, getL] at e)⟩
  ·simp; omega
  ·exact Qr2 hargs (by omega) t
 refine hrun _ w.heap.size w m .no m _ w hstart _ (fun o' m' a' w' hR => ?_)
 have hfin : LeavesInM (fen none) 0 P fn a'.tmps (fun e w' => ∃ v' m', e = .returned v' /\ Below w.heap.size w w' /\ m.Le m' /\ Yo m' w' /\ (∀ b ob, m' b = some ob -> m b = some ob \/ w.heap.size <= b) /\ R .no w.heap.size m' (Qfx l) v') a'.defers .returning w' := by
  obtain ⟨rs, h1, h2, h3⟩ := hR.adf
  refine Rel.leave rs o' m' a' w' hR rfl h1 h2 h3 (fun m2 a2 w2 hR2 ht => ?_)
  obtain ⟨vs', k1, k2⟩ := Qkt hR2 hM (fun _ _ _ => rfl) hres hq
  obtain ⟨g1, g2, _, _⟩ := hR2.end_ hM (fun _ _ _ => rfl)
  rw [ht] at k1
  exact ⟨_, Qd1 k1, _, mEx m w w2, rfl, hR2.below.below (fun _ _ => rfl), g1, g2, fun b ob hh => Qg1 hh, Qo0 k2⟩
 rcases he with rfl | rfl
 ·exact hfin
 ·exact hfin
mutual
def vlt (n : Nat) : VV -> Bool
 | .rf k _ _ => Nat.blt k n
 | .pt k _ => Nat.blt k n
 | .ag cs => vltL n cs
 | .tu cs => vltL n cs
 | .fn _ cs => vltL n cs
 | .it k => Nat.blt k n
 | .mp k => Nat.blt k n
 | _ => true
def vltL (n : Nat) : List VV -> Bool
 | [] => true
 | v :: l => vlt n v && vltL n l
end
theorem Qf3 {n : Nat} : ∀ {l : List VV} {j : Nat} {v : VV}, vltL n l = true -> l[j]? = some v -> vlt n v = true
 | [], j, v, h, e => by simp at e
 | u :: l, 0, v, h, e => by simp only [vltL, Bool.and_eq_true] at h; simp at e; subst e; exact h.1
 | u :: l, j + 1, v, h, e => by simp only [vltL, Bool.and_eq_true] at h; exact Qf3 h.2 (by simpa using e)
def OM.cut (o : OM) (n : Nat) : OM := fun k => if k < n then o k else none
theorem R.cut {o : OM} {fb n : Nat} {m : MM} {v : VV} {v' : Value} (h : R o fb m v v') : vlt n v = true -> R (o.cut n) fb m v v' := by
 induction h with
 | t h => exact fun _ => .t h
 | fr h => exact fun _ => .fr h
 | rf ho a b => intro e; simp only [vlt] at e; exact .rf (by unfold OM.cut; rw [if_pos (Z4 e)]; exact ho) a b
 | rf0 => exact fun _ => .rf0
 | pt ho => intro e; simp only [vlt] at e; exact .pt (by unfold OM.cut; rw [if_pos (Z4 e)]; exact ho)
 | ag hs _ ih => intro e; simp only [vlt] at e; exact .ag hs (fun j v v' a b => ih j v v' a b (Qf3 e a))
 | tu hs _ ih => intro e; simp only [vlt] at e; exact .tu hs (fun j v v' a b => ih j v v' a b (Qf3 e a))
 | fw h hc => exact fun _ => .fw h hc
 | it ho => intro e; simp only [vlt] at e; exact .it (by unfold OM.cut; rw [if_pos (Z4 e)]; exact ho)
 | mp ho => intro e; simp only [vlt] at e; exact .mp (by unfold OM.cut; rw [if_pos (Z4 e)]; exact ho)
 | fn hs _ ih => intro e; simp only [vlt] at e; exact .fn hs (fun j v v' a b => ih j v v' a b (Qf3 e a))
theorem OM.Qv3 (o : OM) (n : Nat) : (o.cut n).Le o := fun k i e => by
 unfold OM.cut at e
 split at e
 ·exact e
 ·cases e
def gOf : Nat -> Tr VV
 | 0 => .nil
 | n + 1 => (gOf n).set n (.pt n 0)
theorem Qr8 : ∀ (n t : Nat), n < 1000000 -> ev (gOf n) (.tmp t) = if t < n then .pt t 0 else .any
 | 0, t, _ => by rw [if_neg (by omega)]; rfl
 | n + 1, t, h => by
   simp only [gOf]
   rw [Qhc (by omega), Qr8 n t (by omega)]
   by_cases e : t = n
   ·subst e; rw [if_pos rfl, if_pos (by omega)]
   ·rw [if_neg e]
    by_cases c : t < n
    ·rw [if_pos c, if_pos (by omega)]
    ·rw [if_neg c, if_neg (by omega)]
def outV (L : List (Option Blk)) (n : Nat) (v : VV) : Option (VV × Prop) := bif vlt n v then (match v with
 | .ag _ | .tu _ | .fn _ _ | .it _ => none
 | v => some (v, True)) else exV L false v
def Qr9 (L : List (Option Blk)) (n : Nat) : List VV -> Option (List VV × Prop)
 | [] => some ([], True)
 | v :: l => match outV L n v, Qr9 L n l with
   | some (v, p), some (l, q) => some (v :: l, p /\ q)
   | _, _ => none
def outB (L : List (Option Blk)) (n : Nat) (b : Blk) : Option (Blk × Prop) := bif b.bx && !b.x then (match Qr9 L n b.cells with
    | some (l, q) => some ({ b with cells := l }, q)
    | none => none) else some (b, True)
def Qqt (L : List (Option Blk)) (n : Nat) : List (Option Blk) -> Option (List Blk × Prop)
 | [] => some ([], True)
 | some b :: l => match outB L n b, Qqt L n l with
   | some (b, p), some (r, q) => some (b :: r, p /\ q)
   | _, _ => none
 | none :: _ => none
def Qur (G : Tr VV) : Nat -> Bool
 | 0 => true
 | n + 1 => (match ev G (.tmp n) with
   | .pt k off => Nat.beq k n && Nat.beq off 0
   | _ => false) && Qur G n
theorem Qma {G : Tr VV} : ∀ {n : Nat}, Qur G n = true -> ∀ t, t < n -> ev G (.tmp t) = .pt t 0
 | 0, _, t, h => by omega
 | n + 1, h, t, ht => by
   simp only [Qur, Bool.and_eq_true] at h
   by_cases e : t = n
   ·subst e
    have := h.1
    split at this
    ·rename_i k off hk
     simp only [Bool.and_eq_true] at this
     rw [hk, Nat.eq_of_beq_eq_true this.1, Nat.eq_of_beq_eq_true this.2]
    ·cases this
   ·exact Qma h.2 t (by omega)
theorem Qmb {L : List (Option Blk)} {n : Nat} : ∀ {l : List (Option Blk)} {r : List Blk} {q : Prop}, Qqt L n l = some (r, q) -> q -> r.length = l.length /\ ∀ (k : Nat) (b' : Blk), r[k]? = some b' -> ∃ b p, l[k]? = some (some b) /\ outB L n b = some (b', p) /\ p
 | [], r, q, h, hq => by
   simp only [Qqt, Option.some.injEq, Prod.mk.injEq] at h
   obtain ⟨rfl, _⟩ := h
   exact ⟨rfl, fun k b' h => by simp at h⟩
 | none :: _, r, q, h, hq => by simp [Qqt] at h
 | some b :: l, r, q, h, hq => by
   simp only [Qqt] at h
   split at h
   case h_2 => cases h
   rename_i b1 p1 r1 q1 h1 h2
   simp only [Option.some.injEq, Prod.mk.injEq] at h
   obtain ⟨rfl, rfl⟩ := h
   obtain ⟨g1, g2⟩ := Qmb h2 hq.2
   refine ⟨by simp [g1], fun k b' hk => ?_⟩
   cases k with
   | zero => simp at hk; subst hk; exact ⟨b, p1, rfl, h1, hq.1⟩
   | succ k => simpa using g2 k b' (by simpa using hk)
def Qnu : List Blk -> Prop
 | [] => True
 | b :: l => (b.bx = false -> b.cells.all VV.still = true) /\ Qnu l
theorem Qif : ∀ {L : List Blk}, Qnu L -> ∀ (k : Nat) (b : Blk), L[k]? = some b -> b.bx = false -> b.cells.all VV.still = true
 | [], _, k, b, h => by simp at h
 | b0 :: L, h, k, b, hk => by
   cases k with
   | zero => simp at hk; subst hk; exact h.1
   | succ k => exact Qif h.2 k b (by simpa using hk)
def Qo2 : List Blk -> List Blk -> Bool
 | [], [] => true
 | a :: l, b :: r => (a.bx == b.bx) && Nat.beq a.sz b.sz && Qo2 l r
 | _, _ => false
theorem Qju : ∀ {L L' : List Blk}, Qo2 L L' = true -> L'.length = L.length /\ ∀ (k : Nat) (b b' : Blk), L[k]? = some b -> L'[k]? = some b' -> b'.bx = b.bx /\ b'.sz = b.sz
 | [], [], _ => ⟨rfl, fun k b b' h => by simp at h⟩
 | [], _ :: _, h => by cases h
 | _ :: _, [], h => by cases h
 | a :: l, b :: r, h => by
   simp only [Qo2, Bool.and_eq_true] at h
   obtain ⟨g1, g2⟩ := Qju h.2
   refine ⟨by simp [g1], fun k x y hx hy => ?_⟩
   cases k with
   | zero => simp at hx hy; subst hx; subst hy; exact ⟨(eq_of_beq h.1.1).symm, (Nat.eq_of_beq_eq_true h.1.2).symm⟩
   | succ k => exact g2 k x y (by simpa using hx) (by simpa using hy)
theorem Qfp {L : List Blk} {k : Nat} : gb (L.map some) k = L[k]? := by
 unfold gb
 rw [Jj, List.getElem?_map]
 cases L[k]? <;> rfl
open Classical in
noncomputable def gvOf (o : OM) (t : Nat) : Value := if t % 2 = 0 then (match o (t / 2) with
 | some oi => .pointer (some ⟨oi.b, oi.off, none⟩)
 | none => undef) else if h : ∃ oi, (∃ k, o k = some oi) /\ oi.b = t / 2 then .slice none h.choose.tot h.choose.sz else undef
theorem gvOf_pt {o : OM} {t : Nat} {oi : OI} (h : o t = some oi) : gvOf o (2 * t) = .pointer (some ⟨oi.b, oi.off, none⟩) := by
 unfold gvOf
 rw [if_pos (by omega), show 2 * t / 2 = t by omega, h]
theorem Qsa {o : OM} (hinj : ∀ k k' oi oi', o k = some oi -> o k' = some oi' -> oi.b = oi'.b -> k = k') {k : Nat} {oi : OI} (h : o k = some oi) : hE (gvOf o) oi.b = some (oi.tot, oi.sz) := by
 unfold hE gvOf
 rw [if_neg (by omega)]
 have hex : ∃ oi', (∃ k, o k = some oi') /\ oi'.b = (2 * oi.b + 1) / 2 := ⟨oi, ⟨k, h⟩, by omega⟩
 rw [dif_pos hex]
 obtain ⟨⟨k', h1⟩, h2⟩ := hex.choose_spec
 have e : k = k' := hinj _ _ _ _ h h1 (by omega)
 subst e
 rw [h] at h1; injection h1 with h1
 rw [<- h1]
theorem Qsb {o : OM} {b : Nat} (h : ∀ k oi, o k = some oi -> oi.b ≠ b) : hE (gvOf o) b = none := by
 unfold hE gvOf
 rw [if_neg (by omega), dif_neg (by rintro ⟨oi, ⟨k, hk⟩, e⟩; exact h k oi hk (by omega))]
 rfl
theorem VM.intro {P : Program} {f : FuncId} {fn : Func} {c : Code} {args : List VV} {L L' : List Blk} {s : VS} {e : Exit} {fr : Bool} {l : List VV} {q q2 : Prop} {sz : Nat} (hf : P.funcs[f]? = some fn) (hb : fn.body = some c)
 (hsz : args.length + (fn.ntmps - args.length) = sz) (hlen : sz < 1000000) (hL : L.length < 1000000) (hh : L.all Blk.h = true) (hS : Qnu L) (hrun : VRun none P sz c ⟨Qhp args 0 .nil, L.map some, gOf L.length⟩ e s) (he : e = .normal \/ e = .ret)
 (hres : Ql9 P s fr fn.results.toList = some (l, q)) (hq : q) (hg : Qur s.G L.length = true) (hout : Qqt s.L L.length (s.L.take L.length) = some (L', q2)) (hq2 : q2) (hk : Qo2 L L' = true) : VM P f args L (Qfx l) L' := by
 obtain ⟨hk1, hk2⟩ := Qju hk
 refine ⟨⟨fn, c, hf, hb⟩, hk1, hk2, fun w m o args' hM hdom hinj hat hargs => ?_⟩
 refine (callsIn_wide (n := 0)).1 ?_
 show CallsIn (fen none) 0 P f args'.toArray w _
 refine callsIn_of_wp_marks (F := fen none) hf hb trivial ?_ rfl
 have hl := hargs.1
 have hnoE : ∀ b, (∀ k oi, o k = some oi -> oi.b ≠ b) -> hE (gvOf o) b = none := fun b h => Qsb h
 have hstart : Rel (gvOf o) w.heap.size w m sz ⟨Qhp args 0 .nil, L.map some, gOf L.length⟩ o m { tmps := args'.toArray ++ Array.replicate (fn.ntmps - args'.toArray.size) undef, defers := [] } w := by
  refine ⟨?_, .nil, fun t => ?_, ⟨fun k oi blk e1 e2 => ?_, fun k oi e => ⟨.inr (Qsa hinj e), (hdom k oi e).2⟩, hinj⟩, fun k oi e => by show k < (L.map some).length; rw [List.length_map]; exact (hdom k oi e).1, fun k blk e hx => ?_, hM, fun b ob e => .inl e, .refl _ _ _, rfl, fun t => ?_, .refl _, fun k blk e _ => ?_⟩
  ·simp; omega
  ·exact Qr2 hargs (by omega) t
  ·have e2 : gb (L.map some) k = some blk := e2
   rw [Qfp] at e2
   obtain ⟨oi', h1, h2, _⟩ := hat k blk e2
   rw [e1] at h1; injection h1 with h1; subst h1
   exact h2
  ·have e : gb (L.map some) k = some blk := e
   rw [Qfp] at e
   exact Qif hS k blk e hx
  ·show R o w.heap.size m (ev (gOf L.length) (.tmp t)) _
   rw [Qr8 _ _ hL]
   by_cases ht : t < L.length
   ·rw [if_pos ht]
    obtain ⟨oi, h1, _⟩ := hat t L[t] (List.getElem?_eq_getElem ht)
    unfold gvl
    rw [gvOf_pt h1]
    exact .pt (off := 0) h1
   ·rw [if_neg ht]; exact .undef
  ·have e : gb (L.map some) k = some blk := e
   rw [Qfp] at e
   obtain ⟨oi', h1, _⟩ := hat k blk e
   exact ⟨oi', h1⟩
 have hE0 : ∀ b ob, m b = some ob -> hE (gvOf o) b = none := fun b ob e => hnoE b (fun k oi hk hb => by
  have := (hdom k oi hk).2.2
  rw [hb, e] at this; cases this)
 refine hrun _ w.heap.size w m o m _ w hstart _ (fun o' m' a' w' hR => ?_)
 have hfin : LeavesInM (fen none) 0 P fn a'.tmps (fun e w' => ∃ v' m', e = .returned v' /\ w'.os = w.os /\ w'.tape = w.tape /\ w'.output = w.output /\ w.heap.size <= w'.heap.size /\ (∀ k, k < w.heap.size -> (∀ j oi, o j = some oi -> oi.b ≠ k) -> w'.heap[k]? = w.heap[k]?) /\
  m.Le m' /\ Yo m' w' /\ (∀ b ob, m' b = some ob -> m b = some ob \/ w.heap.size <= b) /\ (∀ k oi blk, o k = some oi -> L'[k]? = some blk -> Holds o w.heap.size m' w'.heap[oi.b]? oi blk) /\ R .no w.heap.size m' (Qfx l) v') a'.defers .returning w' := by
  obtain ⟨rs, h1, h2, h3⟩ := hR.adf
  refine Rel.leave rs o' m' a' w' hR rfl h1 h2 h3 (fun m2 a2 w2 hR2 ht => ?_)
  obtain ⟨vs', k1, k2⟩ := Qkt hR2 hM hE0 hres hq
  obtain ⟨g1, g2, g3, _⟩ := hR2.end_ hM hE0
  rw [ht] at k1
  have hsame : ∀ k oi, o k = some oi -> o' k = some oi := fun k oi hk => by
   obtain ⟨d1, d2, d3⟩ := hdom k oi hk
   have hgh := hR2.gh k
   unfold gvl at hgh
   rw [Qma hg k d1, gvOf_pt hk] at hgh
   generalize hv : Value.pointer (some (⟨oi.b, oi.off, none⟩ : Addr)) = vv at hgh
   cases hgh with
   | t h => cases h
   | @pt _ _ oi' ho' =>
     injection hv with hv; injection hv with hv; injection hv with hv1 hv2
     have hb' : oi'.b = oi.b := hv1.symm
     have := (hR2.own.dom k oi' ho').1
     rw [hb'] at this
     rcases this with h | h
     ·omega
     ·rw [Qsa hinj hk] at h
      injection h with h; injection h with h4 h5
      have : oi' = oi := by
       obtain ⟨b, off, tot, sz⟩ := oi
       obtain ⟨b', off', tot', sz'⟩ := oi'
       simp at hb' hv2 h4 h5
       subst hb'; subst h4; subst h5; subst hv2; rfl
      rw [ho', this]
  have hcut : (o'.cut L.length).Le o := fun k i e => by
   unfold OM.cut at e
   split at e
   ·rename_i hk
    obtain ⟨oi, h1, _⟩ := hat k L[k] (List.getElem?_eq_getElem hk)
    have := hsame k oi h1
    rw [this] at e; injection e with e; subst e; exact h1
   ·cases e
  refine ⟨_, Qd1 k1, _, mEx m w w2, rfl, hR2.below.os, hR2.below.tape, hR2.below.output, hR2.below.size, fun k hk hno => hR2.below.block k hk (hnoE k hno), g1, g2, fun b ob hh => Qg1 hh, fun k oi blk hk hblk => ?_, Qo0 k2⟩
  obtain ⟨b, p, hb1, hb2, hp⟩ := (Qmb hout hq2).2 k blk hblk
  have hgb : gb s.L k = some b := by
   rw [List.getElem?_take] at hb1
   split at hb1
   ·unfold gb; rw [Jj, hb1]
   ·cases hb1
  have hold := hR2.own.at_ k oi b (hsame k oi hk) hgb
  unfold outB at hb2
  cases hbb : (b.bx && !b.x) with
  | false =>
    rw [hbb] at hb2
    simp only [cond_false, Option.some.injEq, Prod.mk.injEq] at hb2
    obtain ⟨rfl, _⟩ := hb2
    cases hold with
    | row h1 h2 h3 h4 h5 h6 =>
      have hbx : b.bx = false := by rw [h4] at hbb; simpa using hbb
      rw [hbx] at h6
      exact .row h1 h2 h3 h4 h5 (by rw [hbx]; exact h6.mono (.refl _) g3 (Nat.le_refl _))
    | it h1 h2 h3 => exact .it h1 h2 h3
    | mp h1 h2 h3 h4 h5 h6 => exact .mp h1 h2 h3 h4 h5 (h6.mono (.refl _) g3 (Nat.le_refl _))
  | true =>
    rw [hbb] at hb2
    simp only [cond_true] at hb2
    simp only [Bool.and_eq_true, Bool.not_eq_true'] at hbb
    split at hb2
    case h_2 => cases hb2
    rename_i cs q3 hcs
    simp only [Option.some.injEq, Prod.mk.injEq] at hb2
    obtain ⟨rfl, rfl⟩ := hb2
    have one : ∀ {v u : VV} {q : Prop} {v' : Value}, outV s.L L.length v = some (u, q) -> q -> R o' w.heap.size m2 v v' -> R o w.heap.size (mEx m w w2) u v' := by
     intro v u q v' hu hq hr
     unfold outV at hu
     cases hv : vlt L.length v with
     | true =>
       rw [hv] at hu
       simp only [cond_true] at hu
       have : u = v := by
        split at hu <;> first
         | (cases hu; done)
         | (simp only [Option.some.injEq, Prod.mk.injEq] at hu; exact hu.1.symm)
       subst this
       exact (hr.cut hv).mono hcut g3 (Nat.le_refl _)
     | false =>
       rw [hv] at hu
       simp only [cond_false] at hu
       exact (Qr5 hR2 hM hE0 hu hq hr).mono (OM.Qhq _) (.refl _) (Nat.le_refl _)
    have many : ∀ (cells u : List VV) (q : Prop), Qr9 s.L L.length cells = some (u, q) -> q -> u.length = cells.length /\ ∀ (j : Nat) (x : VV), u[j]? = some x -> ∃ y q, cells[j]? = some y /\ outV s.L L.length y = some (x, q) /\ q := by
     intro cells
     induction cells with
     | nil =>
       intro u q h hq
       simp only [Qr9, Option.some.injEq, Prod.mk.injEq] at h
       obtain ⟨rfl, _⟩ := h
       exact ⟨rfl, fun j x h => by simp at h⟩
     | cons y cells ih =>
       intro u q h hq
       simp only [Qr9] at h
       split at h
       case h_2 => cases h
       rename_i u1 p1 us q1 e1 e2
       simp only [Option.some.injEq, Prod.mk.injEq] at h
       obtain ⟨rfl, rfl⟩ := h
       obtain ⟨i1, i2⟩ := ih us q1 e2 hq.2
       refine ⟨by simp [i1], fun j x hx => ?_⟩
       cases j with
       | zero => simp at hx; subst hx; exact ⟨y, p1, rfl, e1, hq.1⟩
       | succ j => simpa using i2 j x (by simpa using hx)
    obtain ⟨n1, n2⟩ := many _ _ _ hcs hp
    cases hold with
    | row h1 h2 h3 h4 h5 h6 =>
      rw [hbb.1] at h6
      refine .row h1 h2 h3 h4 h5 ⟨by show oi.off + cs.length <= _; rw [n1]; exact h6.1, fun j x x' ex ex' => ?_⟩
      obtain ⟨y, q, y1, y2, y3⟩ := n2 j x ex
      have := one y2 y3 (h6.2 j y x' y1 ex')
      show R (o.of b.bx) _ _ x x'
      rw [hbb.1]; exact this
    | it h1 h2 h3 =>
      rw [show b.x = true by rw [h2]; exact Nat.ble_eq_true_of_le (Nat.le_refl _)] at hbb
      cases hbb.2
    | mp h1 h2 h3 h4 h5 h6 =>
      rw [show b.x = true by unfold Blk.x; exact Nat.ble_eq_true_of_le (by omega)] at hbb
      cases hbb.2
 rcases he with rfl | rfl
 ·exact hfin
 ·exact hfin
end Go.Proofs.Ytfeedchjdnedjaa.Vv
