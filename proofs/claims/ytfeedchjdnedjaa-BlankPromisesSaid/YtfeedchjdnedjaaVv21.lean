import Derived.Test.YtfeedchjdnedjaaVv15
set_option linter.unusedVariables false
set_option linter.unusedSimpArgs false
namespace Go.Proofs.Ytfeedchjdnedjaa.Vv
open Go Go.Proofs.Ytfeedchjdnedjaa.Ev
open Go.RowKit (Below)
mutual
def fz (k : Nat) (mp : Bool) (cells : List VV) : VV -> VV
 | .rf k' off n => bif Nat.beq k k' then (bif mp then .any else .tr (cells.drop off) n) else .rf k' off n
 | .pt k' off => bif Nat.beq k k' then (bif mp then .any else .tp cells off) else .pt k' off
 | .ag cs => .ag (fzL k mp cells cs)
 | .tu cs => .tu (fzL k mp cells cs)
 | .c v => .c v
 | .tr cs n => .tr cs n
 | .fr cs n => .fr cs n
 | .tp cs n => .tp cs n
 | .fn g cs => .fn g (fzL k mp cells cs)
 | .it k' => bif Nat.beq k k' then .any else .it k'
 | .mp k' => bif Nat.beq k k' then (bif mp then .mt cells else .any) else .mp k'
 | .mt cs => .mt cs
 | .fw s cs n => .fw s cs n
 | .any => .any
 | .e0 => .e0
 | .en => .en
def fzL (k : Nat) (mp : Bool) (cells : List VV) : List VV -> List VV
 | [] => []
 | v :: l => fz k mp cells v :: fzL k mp cells l
end
theorem Qe1 (k : Nat) (mp : Bool) (cells : List VV) : ∀ (l : List VV) (j : Nat), (fzL k mp cells l)[j]? = (l[j]?).map (fz k mp cells)
 | [], j => by simp [fzL]
 | v :: l, 0 => by simp [fzL]
 | v :: l, j + 1 => by simp [fzL, Qe1 k mp cells l j]
theorem Qe2 (k : Nat) (mp : Bool) (cells : List VV) : ∀ (l : List VV), (fzL k mp cells l).length = l.length
 | [] => rfl
 | v :: l => by simp [fzL, Qe2 k mp cells l]
theorem T.fz {m : MM} {v : VV} {v' : Value} (k : Nat) (mp : Bool) (cells : List VV) (h : T m v v') : T m (fz k mp cells v) v' := by
 induction h with
 | c h => exact .c h
 | any => exact .any
 | e => exact .e
 | z => exact .z
 | en => exact .en
 | tr a b c d => exact .tr a b c d
 | tp a b c => exact .tp a b c
 | ag hs _ ih =>
   refine .ag (by rw [Qe2]; exact hs) (fun j u u' a b => ?_)
   rw [Qe1] at a
   cases h : (_ : List VV)[j]? with
   | none => rw [h] at a; cases a
   | some x => rw [h] at a; simp only [Option.map_some, Option.some.injEq] at a; subst a; exact ih j x u' h b
 | tu hs _ ih =>
   refine .tu (by rw [Qe2]; exact hs) (fun j u u' a b => ?_)
   rw [Qe1] at a
   cases h : (_ : List VV)[j]? with
   | none => rw [h] at a; cases a
   | some x => rw [h] at a; simp only [Option.map_some, Option.some.injEq] at a; subst a; exact ih j x u' h b
 | fn hs _ ih =>
   refine .fn (by rw [Qe2]; exact hs) (fun j u u' a b => ?_)
   rw [Qe1] at a
   cases h : (_ : List VV)[j]? with
   | none => rw [h] at a; cases a
   | some x => rw [h] at a; simp only [Option.map_some, Option.some.injEq] at a; subst a; exact ih j x u' h b
 | mt a b c d => exact .mt a b c d
def Shown (o : OM) (m' : MM) (k : Nat) (mp : Bool) (cells : List VV) : Prop := ∀ oi, o k = some oi ->
 (mp = false -> ∃ c t fz, m' oi.b = some (.cells c t fz) /\ oi.off + cells.length <= c.size /\ oi.tot = c.size /\ ∀ (j : Nat) (v : VV) (v' : Value), cells[j]? = some v -> c[oi.off + j]? = some v' -> T m' v v') /\
 (mp = true -> T m' (.mt cells) (.map (some oi.b)))
theorem R.fz {o o' : OM} {fb : Nat} {m m' : MM} {v : VV} {v' : Value} {k : Nat} {mp : Bool} {cells : List VV} (ho : ∀ j, j ≠ k -> o' j = o j) (hm : m.Le m') (hs : Shown o m' k mp cells) (h : R o fb m v v') : R o' fb m' (fz k mp cells v) v' := by
 induction h with
 | t h => exact .t ((h.mono hm).fz k mp cells)
 | fr h => exact .fr (h.mono (MM.Qd3 hm (Nat.le_refl _)))
 | @rf k' off n cap oi h1 h2 h3 =>
   simp only [Vv.fz]
   cases hb : Nat.beq k k' with
   | true =>
     obtain rfl := Nat.eq_of_beq_eq_true hb
     cases mp with
     | true => exact .undef
     | false =>
       obtain ⟨c, t, fz, g1, g2, g3, g4⟩ := (hs oi h1).1 rfl
       refine .t (.tr g1 h2 ?_ (fun j u u' a b => ?_))
       ·rw [List.length_drop]
        have : cap * oi.sz <= cap * oi.sz := Nat.le_refl _
        omega
       ·rw [List.getElem?_drop] at a
        exact g4 (off + j) u u' a (by rw [<- b]; congr 1; omega)
   | false => exact .rf (by rw [ho k' (fun e => Nat.ne_of_beq_eq_false hb e.symm)]; exact h1) h2 h3
 | @rf0 k' off a =>
   simp only [Vv.fz]
   cases hb : Nat.beq k k' with
   | true => cases mp with
     | true => exact .undef
     | false => exact .t .e
   | false => exact .rf0
 | @pt k' off oi h1 =>
   simp only [Vv.fz]
   cases hb : Nat.beq k k' with
   | true =>
     obtain rfl := Nat.eq_of_beq_eq_true hb
     cases mp with
     | true => exact .undef
     | false =>
       obtain ⟨c, t, fz, g1, g2, g3, g4⟩ := (hs oi h1).1 rfl
       exact .t (.tp g1 g2 g4)
   | false => exact .pt (by rw [ho k' (fun e => Nat.ne_of_beq_eq_false hb e.symm)]; exact h1)
 | ag hl _ ih =>
   refine .ag (by rw [Qe2]; exact hl) (fun j u u' a b => ?_)
   rw [Qe1] at a
   cases h : (_ : List VV)[j]? with
   | none => rw [h] at a; cases a
   | some x => rw [h] at a; simp only [Option.map_some, Option.some.injEq] at a; subst a; exact ih j x u' h b
 | tu hl _ ih =>
   refine .tu (by rw [Qe2]; exact hl) (fun j u u' a b => ?_)
   rw [Qe1] at a
   cases h : (_ : List VV)[j]? with
   | none => rw [h] at a; cases a
   | some x => rw [h] at a; simp only [Option.map_some, Option.some.injEq] at a; subst a; exact ih j x u' h b
 | fn hl _ ih =>
   refine .fn (by rw [Qe2]; exact hl) (fun j u u' a b => ?_)
   rw [Qe1] at a
   cases h : (_ : List VV)[j]? with
   | none => rw [h] at a; cases a
   | some x => rw [h] at a; simp only [Option.map_some, Option.some.injEq] at a; subst a; exact ih j x u' h b
 | @it k' oi h1 =>
   simp only [Vv.fz]
   cases hb : Nat.beq k k' with
   | true => exact .undef
   | false => exact .it (by rw [ho k' (fun e => Nat.ne_of_beq_eq_false hb e.symm)]; exact h1)
 | @mp k' oi h1 =>
   simp only [Vv.fz]
   cases hb : Nat.beq k k' with
   | true =>
     obtain rfl := Nat.eq_of_beq_eq_true hb
     cases mp with
     | true => exact .t ((hs oi h1).2 rfl)
     | false => exact .undef
   | false => exact .mp (by rw [ho k' (fun e => Nat.ne_of_beq_eq_false hb e.symm)]; exact h1)
 | fw h hc => exact .fw (h.mono (MM.Qd3 hm (Nat.le_refl _))) (fun b off c e hp => let ⟨z, cs, ty, x, y⟩ := hc b off c e hp; ⟨z, cs, ty, hm _ _ x, y⟩)
def fzB (k : Nat) (mp : Bool) (cells : List VV) : Nat -> List (Option Blk) -> List (Option Blk)
 | _, [] => []
 | i, b :: l => (bif Nat.beq i k then none else match b with
   | some blk => bif blk.bx && !blk.x then some { blk with cells := fzL k mp cells blk.cells } else some blk
   | none => none) :: fzB k mp cells (i + 1) l
theorem Qti (k : Nat) (mp : Bool) (cells : List VV) : ∀ (i : Nat) (L : List (Option Blk)), (fzB k mp cells i L).length = L.length
 | _, [] => rfl
 | i, b :: l => by simp [fzB, Qti k mp cells (i + 1) l]
def fz1 (k : Nat) (mp : Bool) (cells : List VV) (blk : Blk) : Blk := bif blk.bx && !blk.x then { blk with cells := fzL k mp cells blk.cells } else blk
theorem Qpv (k : Nat) (mp : Bool) (cells : List VV) : ∀ (L : List (Option Blk)) (i j : Nat), gb (fzB k mp cells i L) j = if i + j = k then none else (gb L j).map (fz1 k mp cells)
 | [], i, j => by cases j <;> simp [fzB, gb, getL]
 | b :: l, i, 0 => by
   simp only [fzB, gb, getL, Nat.add_zero]
   cases h : Nat.beq i k with
   | true => rw [if_pos (Nat.eq_of_beq_eq_true h)]; rfl
   | false =>
     rw [if_neg (Nat.ne_of_beq_eq_false h)]
     cases b with
     | none => rfl
     | some blk =>
       simp only [cond_false, Option.map_some, fz1]
       cases (blk.bx && !blk.x) <;> rfl
 | b :: l, i, j + 1 => by
   have := Qpv k mp cells l (i + 1) j
   rw [show i + 1 + j = i + (j + 1) by omega] at this
   exact this
def frz1 (k : Nat) (s : VS) : Option VS := match gb s.L k with
 | some blk => bif blk.h then none else bif blk.x then
  (bif Nat.beq blk.sz (bigX + 1) then some ⟨Qc9 (fz k true (blk.cells.map Qek)) s.A, fzB k true (blk.cells.map Qek) 0 s.L, Qc9 (fz k true (blk.cells.map Qek)) s.G⟩ else none)
   else bif blk.cells.all VV.still then some ⟨Qc9 (fz k false (blk.cells.map unfr)) s.A, fzB k false (blk.cells.map unfr) 0 s.L, Qc9 (fz k false (blk.cells.map unfr)) s.G⟩ else none
 | none => none
theorem Qpw (f : VV -> VV) (hf : f .any = .any) (A : Tr VV) (t : Nat) : Vv.ev (Qc9 f A) (.tmp t) = f (Vv.ev A (.tmp t)) := by
 show (match (Qc9 f A).get t with | some v => v | none => VV.any) = f (match A.get t with | some v => v | none => VV.any)
 rw [Qe0]
 cases A.get t with
 | none => exact hf.symm
 | some v => rfl
def MM.plus (m : MM) (b0 : Nat) (ob : Obj) : MM := fun b => if b = b0 then some ob else m b
theorem Qtj {s : VS} {k : Nat} {mp : Bool} {cells : List VV} {blk : Blk} (hg : gb s.L k = some blk) (hh : blk.h = false)
 (hsh : ∀ (gv : Nat -> Value) (base : Nat) (o : OM) (m m' : MM) (w : World) (oi : OI), Own gv base o m s.L w -> Still s.L -> o k = some oi -> m.Le m' -> (∀ ob, w.heap[oi.b]? = some ob -> m' oi.b = some ob) -> base <= oi.b /\
  ((mp = false -> ∃ c t fz, m' oi.b = some (.cells c t fz) /\ oi.off + cells.length <= c.size /\ oi.tot = c.size /\ ∀ (j : Nat) (v : VV) (v' : Value), cells[j]? = some v -> c[oi.off + j]? = some v' -> T m' v v') /\ (mp = true -> T m' (.mt cells) (.map (some oi.b))))) :
 Wk s ⟨Qc9 (fz k mp cells) s.A, fzB k mp cells 0 s.L, Qc9 (fz k mp cells) s.G⟩ := fun gv base w0 m0 sz o m a w hR => by
 have main : ∀ m' : MM, m.Le m' -> Shown o m' k mp cells -> Yo m' w -> (∀ b ob, m' b = some ob -> m b = some ob \/ ∃ oi, o k = some oi /\ b = oi.b) -> (∀ oi, o k = some oi -> base <= oi.b) ->
  Rel gv base w0 m0 sz ⟨Qc9 (fz k mp cells) s.A, fzB k mp cells 0 s.L, Qc9 (fz k mp cells) s.G⟩ (fun j => if j = k then none else o j) m' a w := by
  intro m' hle hS hM hnew hbase
  have ho : ∀ j, j ≠ k -> (fun j => if j = k then none else o j) j = o j := fun j h => if_neg h
  have hR' : ∀ {fb : Nat} {v : VV} {v' : Value}, R o fb m v v' -> R (fun j => if j = k then none else o j) fb m' (fz k mp cells v) v' := fun h => h.fz ho hle hS
  refine ⟨hR.asz, hR.adf.mono hle, fun t => ?_, ⟨fun j oi b e1 e2 => ?_, fun j oi e => ?_, fun j j' oi oi' e e' hb => ?_⟩, fun j oi e => ?_, fun j b e hbx => ?_, hM, fun b ob e => ?_, hR.below, hR.hb, fun t => ?_, hR.mlo.trans hle, fun j b e hbx => ?_⟩
  ·show R _ base m' (Vv.ev (Qc9 _ s.A) (.tmp t)) _
   rw [Qpw _ rfl]; exact hR' (hR.tm t)
  ·have e2 : gb (fzB k mp cells 0 s.L) j = some b := e2
   rw [Qpv, Nat.zero_add] at e2
   by_cases hj : j = k
   ·rw [if_pos hj] at e2; cases e2
   ·rw [if_neg hj] at e2
    have e1 : (if j = k then none else o j) = some oi := e1
    rw [if_neg hj] at e1
    cases hb : gb s.L j with
    | none => rw [hb] at e2; cases e2
    | some b0 =>
      rw [hb] at e2
      simp only [Option.map_some, Option.some.injEq] at e2
      subst e2
      have h0 := hR.own.at_ j oi b0 e1 hb
      unfold fz1
      cases hc : (b0.bx && !b0.x) with
      | false =>
        simp only [cond_false]
        cases hx : b0.bx with
        | false => exact (h0.mono (.refl o) hle).off hx
        | true =>
          rw [hx] at hc
          have hc : b0.x = true := by simpa using hc
          cases h0 with
          | row _ _ _ hx' => rw [hc] at hx'; cases hx'
          | it h hb' hh => exact .it h hb' hh
          | mp h hb' hz hh hv ha => exact .mp h hb' hz hh hv (ha.mono (.refl _) hle (Nat.le_refl _))
      | true =>
        simp only [Bool.and_eq_true, Bool.not_eq_true'] at hc
        simp only [cond_true]
        cases h0 with
        | row h hs hz hx hh ha =>
          rw [hc.1] at ha
          refine .row h hs hz hx hh ?_
          show At (OM.of _ b0.bx) base m' (fzL k mp cells b0.cells) _ oi.off
          rw [hc.1]
          refine ⟨by rw [Qe2]; exact ha.1, fun q u u' x y => ?_⟩
          rw [Qe1] at x
          cases hq : b0.cells[q]? with
          | none => rw [hq] at x; cases x
          | some z =>
            rw [hq] at x; simp only [Option.map_some, Option.some.injEq] at x; subst x
            exact hR' (ha.2 q z u' hq y)
        | it h hb' hh => subst hb'; have := hc.2; simp [Blk.x, bigX] at this
        | mp h hb' hz hh hv ha =>
          have := hc.2
          rcases hz with hz | hz
          ·unfold Blk.x at this; rw [hz] at this; simp [bigX] at this
          ·unfold Blk.x at this; rw [hz] at this; simp [bigX] at this
  ·have e : (if j = k then none else o j) = some oi := e
   by_cases hj : j = k
   ·rw [if_pos hj] at e; cases e
   ·rw [if_neg hj] at e
    obtain ⟨d1, d2, d3⟩ := hR.own.dom j oi e
    refine ⟨d1, d2, ?_⟩
    cases hm : m' oi.b with
    | none => rfl
    | some ob =>
      rcases hnew _ _ hm with h | ⟨oi', h, hb⟩
      ·rw [d3] at h; cases h
      ·exact absurd (hR.own.inj j k oi oi' e h hb) hj
  ·have e : (if j = k then none else o j) = some oi := e
   have e' : (if j' = k then none else o j') = some oi' := e'
   by_cases hj : j = k
   ·rw [if_pos hj] at e; cases e
   ·by_cases hj' : j' = k
    ·rw [if_pos hj'] at e'; cases e'
    ·rw [if_neg hj] at e; rw [if_neg hj'] at e'; exact hR.own.inj j j' oi oi' e e' hb
  ·have e : (if j = k then none else o j) = some oi := e
   show j < (fzB k mp cells 0 s.L).length
   rw [Qti]
   by_cases hj : j = k
   ·rw [if_pos hj] at e; cases e
   ·rw [if_neg hj] at e; exact hR.olt j oi e
  ·have e : gb (fzB k mp cells 0 s.L) j = some b := e
   rw [Qpv, Nat.zero_add] at e
   by_cases hj : j = k
   ·rw [if_pos hj] at e; cases e
   ·rw [if_neg hj] at e
    cases hb : gb s.L j with
    | none => rw [hb] at e; cases e
    | some b0 =>
      rw [hb] at e
      simp only [Option.map_some, Option.some.injEq] at e
      subst e
      unfold fz1 at hbx ⊢
      cases hc : (b0.bx && !b0.x) with
      | false => rw [hc] at hbx; exact hR.still j b0 hb hbx
      | true =>
        rw [hc] at hbx
        simp only [Bool.and_eq_true] at hc
        have hbx : b0.bx = false := hbx
        rw [hc.1] at hbx; cases hbx
  ·rcases hnew b ob e with h | ⟨oi, h, rfl⟩
   ·exact hR.mfr b ob h
   ·exact .inr (hbase oi h)
  ·show R _ base m' (Vv.ev (Qc9 _ s.G) (.tmp t)) _
   rw [Qpw _ rfl]; exact hR' (hR.gh t)
  ·have e : gb (fzB k mp cells 0 s.L) j = some b := e
   rw [Qpv, Nat.zero_add] at e
   by_cases hj : j = k
   ·rw [if_pos hj] at e; cases e
   ·rw [if_neg hj] at e
    cases hb : gb s.L j with
    | none => rw [hb] at e; cases e
    | some b0 =>
      rw [hb] at e
      simp only [Option.map_some, Option.some.injEq] at e
      subst e
      have : b0.bx = true := by
       unfold fz1 at hbx
       cases hc : (b0.bx && !b0.x) with
       | false => rw [hc] at hbx; exact hbx
       | true => simp only [Bool.and_eq_true] at hc; exact hc.1
      obtain ⟨oi, h⟩ := hR.ex j b0 hb this
      exact ⟨oi, by show (if j = k then none else o j) = _; rw [if_neg hj]; exact h⟩
 cases hk : o k with
 | none => exact ⟨_, m, main m (.refl m) (fun oi e => by rw [hk] at e; cases e) hR.mem (fun b ob e => .inl e) (fun oi e => by rw [hk] at e; cases e)⟩
 | some oi =>
   obtain ⟨d1, d2, d3⟩ := hR.own.dom k oi hk
   obtain ⟨ob, hob⟩ := (hR.own.at_ k oi blk hk hg).data
   have hle : m.Le (m.plus oi.b ob) := fun b x e => by
    show (if b = oi.b then some ob else m b) = _
    rw [if_neg (fun h => by rw [h, d3] at e; cases e)]; exact e
   have hin : ∀ ob', w.heap[oi.b]? = some ob' -> (m.plus oi.b ob) oi.b = some ob' := fun ob' e => by
    rw [hob] at e; injection e with e; subst e; exact if_pos rfl
   refine ⟨_, m.plus oi.b ob, main _ hle (fun oi' e => ?_) (fun b x e => ?_) (fun b x e => ?_) (fun oi' e => ?_)⟩
   ·rw [hk] at e; injection e with e; subst e
    exact (hsh gv base o m _ w oi hR.own hR.still hk hle hin).2
   ·have e : (if b = oi.b then some ob else m b) = some x := e
    by_cases hb : b = oi.b
    ·rw [if_pos hb] at e; injection e with e; rw [hb, <- e]; exact hob
    ·rw [if_neg hb] at e; exact hR.mem b x e
   ·have e : (if b = oi.b then some ob else m b) = some x := e
    by_cases hb : b = oi.b
    ·exact .inr ⟨oi, hk, hb⟩
    ·rw [if_neg hb] at e; exact .inl e
   ·rw [hk] at e; injection e with e; subst e
    exact (hsh gv base o m _ w oi hR.own hR.still hk hle hin).1
theorem Qtk {k : Nat} {s s' : VS} (h : frz1 k s = some s') : Wk s s' := by
 unfold frz1 at h
 split at h
 case h_2 => cases h
 rename_i blk hg
 cases hh : blk.h with
 | true => rw [hh] at h; cases h
 | false =>
   rw [hh] at h
   simp only [cond_false] at h
   cases hx : blk.x with
   | true =>
     rw [hx] at h
     simp only [cond_true] at h
     obtain ⟨hz, h⟩ := Qe h
     injection h with h; subst h
     refine Qtj hg hh (fun gv base o m m' w oi hO hS ho hle hin => ?_)
     obtain ⟨es, clock, g1, g2, _, g4, g5⟩ := (hO.at_ k oi blk ho hg).mapOf (.inl (Nat.eq_of_beq_eq_true hz))
     exact ⟨g4 hh, fun e => (by cases e), fun _ => Qks g2 g5 hle (hin _ g1)⟩
   | false =>
     rw [hx] at h
     simp only [cond_false] at h
     obtain ⟨hst, h⟩ := Qe h
     injection h with h; subst h
     refine Qtj hg hh (fun gv base o m m' w oi hO hS ho hle hin => ?_)
     have h0 := hO.at_ k oi blk ho hg
     cases h0 with
     | row hc hs hz hx' hb ha =>
       refine ⟨hb hh, fun _ => ⟨_, _, _, hin _ hc, by rw [List.length_map]; exact ha.1, hs.symm, fun j v v' a b => ?_⟩, fun e => (by cases e)⟩
       rw [List.getElem?_map] at a
       cases hcj : blk.cells[j]? with
       | none => rw [hcj] at a; cases a
       | some x =>
         rw [hcj] at a
         simp only [Option.map_some, Option.some.injEq] at a
         subst a
         have hsx := List.all_eq_true.1 hst x (List.mem_of_getElem? hcj)
         exact (T.unfr (Qgj (ha.2 j x v' hcj b) hsx) hsx).mono hle
     | it _ hb' _ => subst hb'; simp [Blk.x, bigX] at hx
     | mp _ _ hz => rcases hz with hz | hz <;> (unfold Blk.x at hx; rw [hz] at hx; simp [bigX] at hx)
def frz2 (k : Nat) (s : VS) : Option (VS × Prop) := match gb s.L k with
 | some blk => bif blk.h || blk.x then none else some (⟨Qc9 (fz k false (blk.cells.map unfr)) s.A, fzB k false (blk.cells.map unfr) 0 s.L, Qc9 (fz k false (blk.cells.map unfr)) s.G⟩, blk.cells.all VV.still = true)
 | none => none
theorem Qtl {k : Nat} {s s' : VS} {q : Prop} (h : frz2 k s = some (s', q)) (hq : q) : Wk s s' := by
 refine Qtk (k := k) ?_
 unfold frz2 at h
 unfold frz1
 split at h
 case h_2 => cases h
 rename_i blk hg
 cases hh : blk.h with
 | true => rw [hh] at h; cases h
 | false =>
   cases hx : blk.x with
   | true => rw [hh, hx] at h; cases h
   | false =>
     rw [hh, hx] at h
     simp only [Bool.or_self, cond_false, Option.some.injEq, Prod.mk.injEq] at h
     obtain ⟨h1, h2⟩ := h
     rw [<- h2] at hq
     rw [hq, h1]; rfl
end Go.Proofs.Ytfeedchjdnedjaa.Vv
