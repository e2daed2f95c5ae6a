import Derived.Test.YtfeedchjdnedjaaVv8
set_option linter.unusedVariables false
set_option linter.unusedSimpArgs false
namespace Go.Proofs.Ytfeedchjdnedjaa.Vv
open Go Go.Proofs.Ytfeedchjdnedjaa.Ev
open Go.RowKit (Below)
structure VS where
 A : Tr VV
 L : List (Option Blk)
 G : Tr VV
mutual
def kv (k : Nat) : VV -> VV
 | .rf k' off n => bif Nat.beq k k' then .any else .rf k' off n
 | .pt k' off => bif Nat.beq k k' then .any else .pt k' off
 | .ag cs => .ag (kvL k cs)
 | .tu cs => .tu (kvL k cs)
 | .c v => .c v
 | .tr cs n => .tr cs n
 | .fr cs n => .fr cs n
 | .tp cs n => .tp cs n
 | .fn g cs => .fn g (kvL k cs)
 | .it k' => bif Nat.beq k k' then .any else .it k'
 | .mp k' => bif Nat.beq k k' then .any else .mp k'
 | .mt cs => .mt cs
 | .fw s cs n => .fw s cs n
 | .any => .any
 | .e0 => .e0
 | .en => .en
def kvL (k : Nat) : List VV -> List VV
 | [] => []
 | v :: l => kv k v :: kvL k l
end
def Qc9 (f : VV -> VV) : Tr VV -> Tr VV
 | .nil => .nil
 | .node v l r => .node (match v with | some v => some (f v) | none => none) (Qc9 f l) (Qc9 f r)
def setB (k : Nat) (blk : Blk) : List (Option Blk) -> List (Option Blk)
 | [] => []
 | b :: l => match k with
   | 0 => some blk :: l
   | k + 1 => b :: setB k blk l
def Qhu : List (Nat × Blk) -> List (Option Blk) -> List (Option Blk)
 | [], L => L
 | (k, b) :: l, L => Qhu l (setB k b L)
def Qhv (k : Nat) : List (Option Blk) -> List (Option Blk)
 | [] => []
 | b :: l => (match b with
   | some blk => bif blk.bx then some ⟨true, blk.sz, kvL k blk.cells⟩ else some blk
   | none => none) :: Qhv k l
def Eff.app : Eff -> VS -> VS
 | .no, s => s
 | .put k blk, s => ⟨s.A, setB k blk s.L, s.G⟩
 | .new blk, s => ⟨s.A, s.L ++ [some blk], s.G⟩
 | .grow k blk, s => ⟨Qc9 (kv k) s.A, setB k blk (Qhv k s.L), Qc9 (kv k) s.G⟩
 | .mods l, s => ⟨s.A, Qhu l s.L, s.G⟩
 | .jump A L G, _ => ⟨A, L, G⟩
def VS.put (s : VS) (d : Option Tmp) (v : VV) : VS := match d with
 | some d => ⟨s.A.set d v, s.L, s.G⟩
 | none => s
theorem Qey (k : Nat) : ∀ (l : List VV) (j : Nat), (kvL k l)[j]? = (l[j]?).map (kv k)
 | [], j => by simp [kvL]
 | v :: l, 0 => by simp [kvL]
 | v :: l, j + 1 => by simp [kvL, Qey k l j]
theorem Qez (k : Nat) : ∀ (l : List VV), (kvL k l).length = l.length
 | [] => rfl
 | v :: l => by simp [kvL, Qez k l]
theorem Qe0 (f : VV -> VV) : ∀ (A : Tr VV) (n : Nat), (Qc9 f A).get n = (A.get n).map f
 | .nil, n => by cases n <;> rfl
 | .node v l r, 0 => by cases v <;> rfl
 | .node v l r, n + 1 => by
   simp only [Qc9, Tr.get]
   cases Nat.beq (n % 2) 0
   ·exact Qe0 f r _
   ·exact Qe0 f l _
theorem T.kill {m : MM} {v : VV} {v' : Value} (k : Nat) (h : T m v v') : T m (kv k v) v' := by
 induction h with
 | c h => exact .c h
 | any => exact .any
 | e => exact .e
 | z => exact .z
 | en => exact .en
 | tr a b c d => exact .tr a b c d
 | tp a b c => exact .tp a b c
 | ag hs _ ih =>
   refine .ag (by rw [Qez]; exact hs) (fun j u u' a b => ?_)
   rw [Qey] at a
   cases h : (_ : List VV)[j]? with
   | none => rw [h] at a; cases a
   | some x => rw [h] at a; simp only [Option.map_some, Option.some.injEq] at a; subst a; exact ih j x u' h b
 | tu hs _ ih =>
   refine .tu (by rw [Qez]; exact hs) (fun j u u' a b => ?_)
   rw [Qey] at a
   cases h : (_ : List VV)[j]? with
   | none => rw [h] at a; cases a
   | some x => rw [h] at a; simp only [Option.map_some, Option.some.injEq] at a; subst a; exact ih j x u' h b
 | fn hs _ ih =>
   refine .fn (by rw [Qez]; exact hs) (fun j u u' a b => ?_)
   rw [Qey] at a
   cases h : (_ : List VV)[j]? with
   | none => rw [h] at a; cases a
   | some x => rw [h] at a; simp only [Option.map_some, Option.some.injEq] at a; subst a; exact ih j x u' h b
 | mt a b c d => exact .mt a b c d
theorem R.kill {o o' : OM} {fb : Nat} {m : MM} {v : VV} {v' : Value} {k : Nat} (ho : ∀ j, j ≠ k -> o' j = o j) (h : R o fb m v v') : R o' fb m (kv k v) v' := by
 induction h with
 | t h => exact .t (h.kill k)
 | fr h => exact .fr h
 | @rf k' off n cap oi h1 h2 h3 =>
   simp only [kv]
   cases hb : Nat.beq k k' with
   | true => exact .undef
   | false => exact .rf (by rw [ho k' (fun e => Nat.ne_of_beq_eq_false hb e.symm)]; exact h1) h2 h3
 | @rf0 k' off a =>
   simp only [kv]
   cases hb : Nat.beq k k' with
   | true => exact .undef
   | false => exact .rf0
 | @pt k' off oi h1 =>
   simp only [kv]
   cases hb : Nat.beq k k' with
   | true => exact .undef
   | false => exact .pt (by rw [ho k' (fun e => Nat.ne_of_beq_eq_false hb e.symm)]; exact h1)
 | ag hs _ ih =>
   refine .ag (by rw [Qez]; exact hs) (fun j u u' a b => ?_)
   rw [Qey] at a
   cases h : (_ : List VV)[j]? with
   | none => rw [h] at a; cases a
   | some x => rw [h] at a; simp only [Option.map_some, Option.some.injEq] at a; subst a; exact ih j x u' h b
 | tu hs _ ih =>
   refine .tu (by rw [Qez]; exact hs) (fun j u u' a b => ?_)
   rw [Qey] at a
   cases h : (_ : List VV)[j]? with
   | none => rw [h] at a; cases a
   | some x => rw [h] at a; simp only [Option.map_some, Option.some.injEq] at a; subst a; exact ih j x u' h b
 | fn hs _ ih =>
   refine .fn (by rw [Qez]; exact hs) (fun j u u' a b => ?_)
   rw [Qey] at a
   cases h : (_ : List VV)[j]? with
   | none => rw [h] at a; cases a
   | some x => rw [h] at a; simp only [Option.map_some, Option.some.injEq] at a; subst a; exact ih j x u' h b
 | @it k' oi h1 =>
   simp only [kv]
   cases hb : Nat.beq k k' with
   | true => exact .undef
   | false => exact .it (by rw [ho k' (fun e => Nat.ne_of_beq_eq_false hb e.symm)]; exact h1)
 | @mp k' oi h1 =>
   simp only [kv]
   cases hb : Nat.beq k k' with
   | true => exact .undef
   | false => exact .mp (by rw [ho k' (fun e => Nat.ne_of_beq_eq_false hb e.symm)]; exact h1)
 | fw h hc => exact .fw h hc
theorem Qde (k : Nat) (blk : Blk) : ∀ (L : List (Option Blk)) (j : Nat), gb (setB k blk L) j = if j = k /\ k < L.length then some blk else gb L j := by
 intro L
 unfold gb
 simp only [Jj]
 induction L generalizing k with
 | nil => intro j; simp [setB]
 | cons b L ih =>
   intro j
   cases k with
   | zero => cases j <;> simp [setB]
   | succ k =>
     cases j with
     | zero => simp [setB]
     | succ j => simp only [setB, List.getElem?_cons_succ]; rw [ih k j]; simp
theorem Qby (k : Nat) (blk : Blk) : ∀ (L : List (Option Blk)), (setB k blk L).length = L.length := by
 intro L
 induction L generalizing k with
 | nil => cases k <;> rfl
 | cons b L ih => cases k <;> simp [setB, ih]
theorem Qgn (k : Nat) : ∀ (L : List (Option Blk)), (Qhv k L).length = L.length
 | [] => rfl
 | b :: L => by simp [Qhv, Qgn k L]
theorem Qtg (k : Nat) : ∀ (L : List (Option Blk)) (j : Nat), gb (Qhv k L) j = (gb L j).map fun blk => bif blk.bx then ⟨true, blk.sz, kvL k blk.cells⟩ else blk := by
 intro L
 unfold gb
 simp only [Jj]
 induction L with
 | nil => intro j; simp [Qhv]
 | cons b L ih =>
   intro j
   cases j with
   | zero =>
     simp only [Qhv, List.getElem?_cons_zero]
     cases b with
     | none => rfl
     | some blk => cases hb : blk.bx <;> simp [hb]
   | succ j => simp only [Qhv, List.getElem?_cons_succ]; exact ih j
theorem Qjl {L : List (Option Blk)} {k : Nat} {blk : Blk} (h : gb L k = some blk) : k < L.length := by
 unfold gb at h
 rw [Jj] at h
 split at h
 ·exact (List.getElem?_eq_some_iff.1 ‹_›).1
 ·cases h
theorem Qdf (L : List (Option Blk)) (b : Option Blk) (j : Nat) : gb (L ++ [b]) j = if j = L.length then b else gb L j := by
 unfold gb
 simp only [Jj]
 by_cases e : j = L.length
 ·subst e; rw [if_pos rfl]; simp
 ·rw [if_neg e]
  by_cases h : j < L.length
  ·rw [List.getElem?_append_left h]
  ·rw [List.getElem?_append_right (by omega), List.getElem?_eq_none (by simp; omega), List.getElem?_eq_none (by omega)]
def Marks (base : Nat) (m0 m : MM) (ds : List Deferred) : Prop := ∃ rs : List Nat, ds = rs.map (fun r => { target := .collected r, args := #[] }) /\ rs.Nodup /\ ∀ r ∈ rs, (base <= r /\ m0 r = none) /\ m r = some (.deferred (some []))
theorem Marks.nil {base : Nat} {m0 m : MM} : Marks base m0 m [] := ⟨[], rfl, List.nodup_nil, fun r h => by cases h⟩
theorem Marks.mono {base : Nat} {m0 m m' : MM} {ds : List Deferred} (h : Marks base m0 m ds) (hm : m.Le m') : Marks base m0 m' ds := by
 obtain ⟨rs, h1, h2, h3⟩ := h
 exact ⟨rs, h1, h2, fun r hr => ⟨(h3 r hr).1, hm _ _ (h3 r hr).2⟩⟩
structure Rel (gv : Nat -> Value) (base : Nat) (w0 : World) (m0 : MM) (sz : Nat) (s : VS) (o : OM) (m : MM) (a : Act) (w : World) : Prop where
 asz : a.tmps.size = sz
 adf : Marks base m0 m a.defers
 tm : ∀ t : Nat, R o base m (ev s.A (.tmp t)) (a.tmps.getD t undef)
 own : Own gv base o m s.L w
 olt : ∀ k oi, o k = some oi -> k < s.L.length
 still : Still s.L
 mem : Yo m w
 mfr : ∀ b ob, m b = some ob -> m0 b = some ob \/ base <= b
 below : Qel gv base w0 w
 hb : base = w0.heap.size
 gh : ∀ t : Nat, R o base m (ev s.G (.tmp t)) (gvl gv t)
 mlo : m0.Le m
 ex : ∀ k blk, gb s.L k = some blk -> blk.bx = true -> ∃ oi, o k = some oi
section
variable {P : Program} {gv : Nat -> Value} {base : Nat} {w0 : World} {m0 : MM} {sz : Nat} {s : VS} {o : OM} {m : MM} {a : Act} {w : World}
theorem Rel.ev (h : Rel gv base w0 m0 sz s o m a w) (x : Operand) : R o base m (ev s.A x) (a.eval x) := by
 cases x with
 | tmp t => exact h.tm t
 | const v => exact Qle
 | global g => exact .undef
 | func f => exact .fn (cs := #[]) rfl (fun j v v' h => by simp at h)
theorem Rel.Qg8 (h : Rel gv base w0 m0 sz s o m a w) : base <= w.heap.size := by rw [h.hb]; exact h.below.size
theorem Qhc {A : Tr VV} {d t : Nat} {v : VV} (hd : d < 1099511627776) : Vv.ev (A.set d v) (.tmp t) = if t = d then v else Vv.ev A (.tmp t) := by
 simp only [Vv.ev]
 rw [Tr.Qns _ _ _ _ (by omega)]
 by_cases e : t = d
 ·rw [if_pos e, if_pos e]
 ·rw [if_neg e, if_neg e]
theorem Rel.put (h : Rel gv base w0 m0 sz s o m a w) {dst : Option Tmp} (hd : ∀ d : Nat, dst = some d -> d < sz) (hsz : sz < 1000000) {v : VV} {v' : Value} (hv : R o base m v v') : Rel gv base w0 m0 sz (s.put dst v) o m (a.put dst v') w := by
 cases dst with
 | none => exact h
 | some d =>
   have hlt : (d : Nat) < sz := hd d rfl
   refine ⟨by simp [Act.put, h.asz], h.adf, fun t => ?_, h.own, h.olt, h.still, h.mem, h.mfr, h.below, h.hb, h.gh, h.mlo, h.ex⟩
   show R o base m (Vv.ev (s.A.set d v) (.tmp t)) ((a.tmps.setIfInBounds d v').getD t undef)
   rw [Qhc (Nat.lt_trans hlt (Nat.lt_trans hsz (by decide))), Array.getD_eq_getD_getElem?, Array.getElem?_setIfInBounds]
   by_cases e : t = d
   ·subst e; rw [if_pos rfl, if_pos rfl, if_pos (by rw [h.asz]; exact hlt)]; exact hv
   ·rw [if_neg e, if_neg (fun x => e x.symm)]
    have := h.tm t
    rw [Array.getD_eq_getD_getElem?] at this
    exact this
theorem Rel.quiet (h : Rel gv base w0 m0 sz s o m a w) {eff : Eff} {v : VV} {v' : Value} {m' : MM} {w' : World} (hq : Quiet base o m w s.L.length eff v v' m' w') (heff : eff.quiet = true)
 (hst : ∀ blk, eff = .new blk -> blk.bx = false -> blk.cells.all VV.still = true) : ∃ o', Rel gv base w0 m0 sz (eff.app s) o' m' a w' /\ R o' base m' v v' := by
 have hb := h.Qg8
 have hbelow : Qel gv base w0 w' := ⟨hq.same.os.trans h.below.os, hq.same.tape.trans h.below.tape, hq.same.output.trans h.below.output, Nat.le_trans h.below.size hq.size, fun k hk he => by
  rw [hq.keep k (by omega)]; exact h.below.block k hk he⟩
 have hmfr : ∀ b ob, m' b = some ob -> m0 b = some ob \/ base <= b := fun b ob e => by
  rcases hq.new b ob e with e | e
  ·exact h.mfr b ob e
  ·exact .inr (by omega)
 have hdom : ∀ k oi, o k = some oi -> (base <= oi.b \/ hE gv oi.b = some (oi.tot, oi.sz)) /\ oi.b < w'.heap.size /\ m' oi.b = none := fun k oi e => by
  obtain ⟨h1, h2, h3⟩ := h.own.dom k oi e
  refine ⟨h1, Nat.lt_of_lt_of_le h2 hq.size, ?_⟩
  cases hm : m' oi.b with
  | none => rfl
  | some ob =>
    rcases hq.new _ _ hm with e | e
    ·rw [h3] at e; cases e
    ·omega
 have hold : ∀ k oi blk, o k = some oi -> gb s.L k = some blk -> Holds o base m' w'.heap[oi.b]? oi blk := fun k oi blk e1 e2 => by
  rw [hq.keep _ (h.own.dom k oi e1).2.1]
  exact (h.own.at_ k oi blk e1 e2).mono (.refl _) hq.le
 have htm : ∀ t : Nat, R o base m' (Vv.ev s.A (.tmp t)) (a.tmps.getD t undef) := fun t => (h.tm t).mono (.refl o) hq.le (Nat.le_refl _)
 have htg : ∀ t : Nat, R o base m' (Vv.ev s.G (.tmp t)) (gvl gv t) := fun t => (h.gh t).mono (.refl o) hq.le (Nat.le_refl _)
 have hres := hq.res
 cases eff with
 | no => exact ⟨o, ⟨h.asz, h.adf.mono hq.le, htm, ⟨hold, hdom, h.own.inj⟩, h.olt, h.still, hq.mem, hmfr, hbelow, h.hb, htg, h.mlo.trans hq.le, h.ex⟩, hres⟩
 | put => cases heff
 | grow => cases heff
 | mods => cases heff
 | jump => cases heff
 | new blk =>
   have hstill : Still (s.L ++ [some blk]) := fun k b e hbx => by
    rw [Qdf] at e
    split at e
    ·injection e with e; subst e; exact hst _ rfl hbx
    ·exact h.still k b e hbx
   rcases hres with ⟨hc, hx, hv⟩ | ⟨oi, g1, g2, g3, g4, g5⟩
   ·refine ⟨o, ⟨h.asz, h.adf.mono hq.le, htm, ⟨fun k oi b e1 e2 => ?_, hdom, h.own.inj⟩, fun k oi e => by have := h.olt k oi e; show k < (s.L ++ [some blk]).length; simp; omega, hstill, hq.mem, hmfr, hbelow, h.hb, htg, h.mlo.trans hq.le, fun k b e hbx => ?_⟩, hv⟩
    ·have hk := h.olt k oi e1
     have e2' : gb s.L k = some b := by
      have : gb (s.L ++ [some blk]) k = some b := e2
      rw [Qdf, if_neg (by omega)] at this; exact this
     exact hold k oi b e1 e2'
    ·have e' : gb (s.L ++ [some blk]) k = some b := e
     rw [Qdf] at e'
     split at e'
     ·injection e' with e'; subst e'; rw [hx] at hbx; cases hbx
     ·exact h.ex k b e' hbx
   ·have hle : o.Le (fun k => if k = s.L.length then some oi else o k) := fun k i e => by
     have := h.olt k i e
     show (if k = s.L.length then some oi else o k) = some i
     rw [if_neg (by omega)]; exact e
    refine ⟨fun k => if k = s.L.length then some oi else o k, ⟨h.asz, h.adf.mono hq.le, fun t => (htm t).mono hle (.refl _) (Nat.le_refl _), ⟨fun k i b e1 e2 => ?_, fun k i e => ?_, fun k k' i i' e e' hbb => ?_⟩, fun k i e => ?_, hstill, hq.mem, hmfr, hbelow, h.hb, fun t => (htg t).mono hle (.refl _) (Nat.le_refl _), h.mlo.trans hq.le, fun k b e hbx => ?_⟩, g5 _ hle (if_pos rfl)⟩
    ·have e2' : gb (s.L ++ [some blk]) k = some b := e2
     rw [Qdf] at e2'
     split at e1
     ·rename_i hk
      rw [if_pos hk] at e2'
      injection e1 with e1; injection e2' with e2'; subst e1; subst e2'
      exact g4.mono hle (.refl _)
     ·rename_i hk
      rw [if_neg hk] at e2'
      exact (hold k i b e1 e2').mono hle (.refl _)
    ·skip
     split at e
     ·injection e with e; subst e
      exact ⟨.inl (by omega), g2, g3⟩
     ·exact hdom k i e
    ·skip
     split at e
     ·rename_i hk
      split at e'
      ·rename_i hk'; rw [hk, hk']
      ·injection e with e; subst e
       have := (h.own.dom k' i' e').2.1; omega
     ·split at e'
      ·injection e' with e'; subst e'
       have := (h.own.dom k i e).2.1; omega
      ·exact h.own.inj k k' i i' e e' hbb
    ·skip
     split at e
     ·rename_i hk; show k < (s.L ++ [some blk]).length; simp; omega
     ·have := h.olt k i e; show k < (s.L ++ [some blk]).length; simp; omega
    ·by_cases hk : k = s.L.length
     ·exact ⟨oi, if_pos hk⟩
     ·have e' : gb (s.L ++ [some blk]) k = some b := e
      rw [Qdf, if_neg hk] at e'
      obtain ⟨i, hi⟩ := h.ex k b e' hbx
      exact ⟨i, hle k i hi⟩
end
end Go.Proofs.Ytfeedchjdnedjaa.Vv
