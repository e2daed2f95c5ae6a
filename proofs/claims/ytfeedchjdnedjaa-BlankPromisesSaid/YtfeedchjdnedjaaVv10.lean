import Derived.Test.YtfeedchjdnedjaaVv9
set_option linter.unusedVariables false
set_option linter.unusedSimpArgs false
namespace Go.Proofs.Ytfeedchjdnedjaa.Vv
open Go Go.Proofs.Ytfeedchjdnedjaa.Ev
open Go.RowKit (Below)
section
variable {P : Program} {gv : Nat -> Value} {base : Nat} {w0 : World} {m0 : MM} {sz : Nat} {s : VS} {o o' : OM} {m : MM} {a : Act} {w w' : World}
theorem Qwi (k : Nat) : ∀ (l : List VV), l.all VV.tl = true -> kvL k l = l
 | [], _ => rfl
 | v :: l, h => by
   simp only [List.all_cons, Bool.and_eq_true] at h
   simp only [kvL]
   rw [Qwi k l h.2]
   cases v <;> first | rfl | cases h.1
theorem Qqd (k : Nat) {v : VV} (h : v.still = true) : kv k v = v := by
 cases v <;> first | rfl | (cases h; done) | (simp only [kv]; rw [Qwi k _ h])
theorem Qnj (k : Nat) : ∀ (l : List VV), l.all VV.still = true -> kvL k l = l
 | [], _ => rfl
 | v :: l, h => by
   simp only [List.all_cons, Bool.and_eq_true] at h
   simp only [kvL]
   rw [Qnj k l h.2, Qqd k h.1]
theorem Qx6 (k : Nat) {v : VV} (h : v.mval = true) : kv k v = v := by
 unfold VV.mval at h
 split at h
 ·simp only [kv]; rw [Qnj k _ h]
 ·exact Qqd k h
theorem Qqe (k : Nat) : ∀ (l : List VV), l.all VV.mval = true -> kvL k l = l
 | [], _ => rfl
 | v :: l, h => by
   simp only [List.all_cons, Bool.and_eq_true] at h
   simp only [kvL]
   rw [Qqe k l h.2, Qx6 k h.1]
theorem Holds.kill {ob : Option Obj} {oi : OI} {b0 : Blk} {k : Nat} (ho : ∀ j, j ≠ k -> o' j = o j) (h : Holds o base m ob oi b0) : Holds o' base m ob oi (bif b0.bx then ⟨true, b0.sz, kvL k b0.cells⟩ else b0) := by
 cases hb : b0.bx with
 | false => exact h.off hb
 | true =>
   simp only [cond_true]
   cases h with
   | row h hs hz hx hh ha =>
     rw [hb] at ha
     refine .row h hs hz hx hh ⟨by rw [Qez]; exact ha.1, fun q u u' x y => ?_⟩
     rw [Qey] at x
     cases hq : b0.cells[q]? with
     | none => rw [hq] at x; cases x
     | some z =>
       rw [hq] at x; simp only [Option.map_some, Option.some.injEq] at x; subst x
       exact (ha.2 q z u' hq y).kill ho
   | it h hb' hh =>
     subst hb'
     exact .it h rfl hh
   | mp h hb' hz hh hv ha =>
     rw [Qqe k _ hv]
     exact .mp h rfl hz hh hv ha
theorem Rel.stored (h : Rel gv base w0 m0 sz s o m a w) {k : Nat} {blk : Blk} {oi : OI} {ob ob0 : Obj} (ho : o k = some oi) (hc : w.heap[oi.b]? = some ob0)
 (hl : Holds o base m (some ob) oi blk) (hst : blk.bx = false -> blk.cells.all VV.still = true) : Rel gv base w0 m0 sz ((Eff.put k blk).app s) o m a (World.upd w (.put oi.b ob)) := by
 have hg : ∀ j, (World.upd w (.put oi.b ob)).heap[j]? = if j = oi.b then some ob else w.heap[j]? := fun j => by
  rw [show (World.upd w (.put oi.b ob)).heap = w.heap.setIfInBounds oi.b ob from rfl, heap_set _ hc j]
 have hsize : (World.upd w (.put oi.b ob)).heap.size = w.heap.size := by simp [World.upd]
 obtain ⟨d1, d2, d3⟩ := h.own.dom k oi ho
 refine ⟨h.asz, h.adf, h.tm, ⟨fun j i b e1 e2 => ?_, fun j i e => ?_, h.own.inj⟩, fun j i e => by show j < (setB k blk s.L).length; rw [Qby]; exact h.olt j i e, fun j b e hbx => ?_, fun b ob e => ?_, h.mfr, ⟨h.below.os, h.below.tape, h.below.output, by rw [hsize]; exact h.below.size, fun j hj he => ?_⟩, h.hb, h.gh, h.mlo, fun j b e hbx => ?_⟩
 ·have e2' : gb (setB k blk s.L) j = some b := e2
  rw [Qde] at e2'
  rw [hg]
  split at e2'
  ·rename_i hjk
   obtain ⟨rfl, _⟩ := hjk
   rw [ho] at e1
   injection e1 with e1; injection e2' with e2'; subst e1; subst e2'
   rw [if_pos rfl]
   exact hl
  ·rename_i hjk
   have hne : j ≠ k := fun e => hjk ⟨e, by rw [<- e]; exact h.olt j i e1⟩
   rw [if_neg (fun e => hne (h.own.inj j k i oi e1 ho e))]
   exact h.own.at_ j i b e1 e2'
 ·rw [hsize]; exact h.own.dom j i e
 ·have e' : gb (setB k blk s.L) j = some b := e
  rw [Qde] at e'
  split at e'
  ·injection e' with e'; subst e'; exact hst hbx
  ·exact h.still j b e' hbx
 ·rw [hg, if_neg (fun e' => by subst e'; rw [d3] at e; cases e)]
  exact h.mem b ob e
 ·rw [hg, if_neg (fun e => by
   rcases d1 with d1 | d1
   ·omega
   ·rw [<- e, he] at d1; cases d1)]
  exact h.below.block j hj he
 ·have e' : gb (setB k blk s.L) j = some b := e
  rw [Qde] at e'
  split at e'
  ·rename_i hjk; rw [hjk.1]; exact ⟨oi, ho⟩
  ·exact h.ex j b e' hbx
theorem Rel.grown (h : Rel gv base w0 m0 sz s o m a w) {k : Nat} {blk : Blk} (hk : k < s.L.length) (ho : ∀ j, j ≠ k -> o' j = o j) (hbx : blk.bx = false) (hst : blk.cells.all VV.still = true)
 (hat : ∀ oi, o' k = some oi -> Holds o' base m w'.heap[oi.b]? oi blk)
 (hdom : ∀ oi, o' k = some oi -> (base <= oi.b \/ hE gv oi.b = some (oi.tot, oi.sz)) /\ oi.b < w'.heap.size /\ m oi.b = none) (hinj : ∀ j oi oi', j ≠ k -> o' k = some oi -> o j = some oi' -> oi.b ≠ oi'.b)
 (hkeep : ∀ b, (∀ oi, o' k = some oi -> oi.b ≠ b) -> b < w.heap.size -> w'.heap[b]? = w.heap[b]?) (hsize : w.heap.size <= w'.heap.size) (hsame : Same w w') :
 Rel gv base w0 m0 sz ((Eff.grow k blk).app s) o' m a w' := by
 have hb := h.Qg8
 have hget : ∀ j b, gb (setB k blk (Qhv k s.L)) j = some b -> (j = k /\ b = blk) \/ (j ≠ k /\ ∃ b0, gb s.L j = some b0 /\ b = bif b0.bx then ⟨true, b0.sz, kvL k b0.cells⟩ else b0) := by
  intro j b e
  rw [Qde, Qgn] at e
  split at e
  ·rename_i hjk; injection e with e; exact .inl ⟨hjk.1, e.symm⟩
  ·rename_i hjk
   have hne : j ≠ k := fun e => hjk ⟨e, hk⟩
   rw [Qtg] at e
   cases hg : gb s.L j with
   | none => rw [hg] at e; cases e
   | some b0 => rw [hg] at e; simp only [Option.map_some, Option.some.injEq] at e; exact .inr ⟨hne, b0, rfl, e.symm⟩
 refine ⟨h.asz, h.adf, fun t => ?_, ⟨fun j i b e1 e2 => ?_, fun j i e => ?_, fun j j' i i' e e' hbb => ?_⟩, fun j i e => ?_, fun j b e hbx' => ?_, fun b ob e => ?_, h.mfr,
  ⟨hsame.os.trans h.below.os, hsame.tape.trans h.below.tape, hsame.output.trans h.below.output, Nat.le_trans h.below.size hsize, fun j hj he => ?_⟩, h.hb, fun t => ?_, h.mlo, fun j b e hbx' => ?_⟩
 ·have := (h.tm t).kill (k := k) ho
  show R o' base m (Vv.ev (Qc9 (kv k) s.A) (.tmp t)) _
  simp only [Vv.ev] at this ⊢
  rw [Qe0]
  cases hA : s.A.get t with
  | none => exact .undef
  | some v => rw [hA] at this; exact this
 ·rcases hget j b e2 with ⟨rfl, rfl⟩ | ⟨hne, b0, g1, rfl⟩
  ·exact hat i e1
  ·rw [ho j hne] at e1
   have hbk := (h.own.dom j i e1).2.1
   rw [hkeep _ (fun oi e => hinj j oi i hne e e1) hbk]
   exact (h.own.at_ j i b0 e1 g1).kill ho
 ·by_cases hj : j = k
  ·subst hj; exact hdom i e
  ·rw [ho j hj] at e
   obtain ⟨d1, d2, d3⟩ := h.own.dom j i e
   exact ⟨d1, by omega, d3⟩
 ·by_cases hj : j = k
  ·by_cases hj' : j' = k
   ·rw [hj, hj']
   ·subst hj; rw [ho j' hj'] at e'; exact absurd hbb (hinj j' i i' hj' e e')
  ·by_cases hj' : j' = k
   ·subst hj'; rw [ho j hj] at e; exact absurd hbb.symm (hinj j i' i hj e' e)
   ·rw [ho j hj] at e; rw [ho j' hj'] at e'; exact h.own.inj j j' i i' e e' hbb
 ·show j < (setB k blk (Qhv k s.L)).length
  rw [Qby, Qgn]
  by_cases hj : j = k
  ·subst hj; exact hk
  ·rw [ho j hj] at e; exact h.olt j i e
 ·rcases hget j b e with ⟨rfl, rfl⟩ | ⟨hne, b0, g1, rfl⟩
  ·exact hst
  ·cases hb0 : b0.bx with
   | false => simp only [hb0, cond_false] at hbx' ⊢; exact h.still j b0 g1 hb0
   | true => simp only [hb0, cond_true] at hbx'; cases hbx'
 ·rw [hkeep b (fun oi e' => fun e'' => by subst e''; rw [(hdom oi e').2.2] at e; cases e) (h.mem.lt e)]
  exact h.mem b ob e
 ·rw [hkeep j (fun oi e' e => by
   rcases (hdom oi e').1 with d | d
   ·omega
   ·rw [e, he] at d; cases d) (by omega)]
  exact h.below.block j hj he
 ·have := (h.gh t).kill (k := k) ho
  show R o' base m (Vv.ev (Qc9 (kv k) s.G) (.tmp t)) _
  simp only [Vv.ev] at this ⊢
  rw [Qe0]
  cases hA : s.G.get t with
  | none => exact .undef
  | some v => rw [hA] at this; exact this
 ·rcases hget j b e with ⟨rfl, rfl⟩ | ⟨hne, b0, g1, rfl⟩
  ·rw [hbx] at hbx'; cases hbx'
  ·rw [ho j hne]
   refine h.ex j b0 g1 ?_
   cases hb0 : b0.bx with
   | true => rfl
   | false => simp only [hb0, cond_false] at hbx'; cases hbx'
def Qc7 (ks : List Nat) (o : OM) : OM := fun j => match getL j ks with
 | some k => o k
 | none => none
theorem Qh3 {k : Nat} : ∀ {ks : List Nat} {j : Nat}, idx k ks = some j -> getL j ks = some k
 | [], j, h => by cases h
 | i :: l, j, h => by
   simp only [idx] at h
   cases hb : Nat.beq i k with
   | true => rw [hb] at h; injection h with h; subst h; rw [Nat.eq_of_beq_eq_true hb]; rfl
   | false =>
     rw [hb] at h
     simp only [cond_false] at h
     split at h
     ·rename_i j' hj
      injection h with h; subst h
      have := Qh3 (ks := l) hj
      exact this
     ·cases h
theorem Qon {ks : List Nat} {v u : VV} {v' : Value} {fb : Nat} (h : renV ks v = some u) (hr : R o base m v v') : R (Qc7 ks o) fb m u v' := by
 have tr : ∀ {v u : VV}, renV ks v = some u -> T m v v' -> R (Qc7 ks o) fb m u v' := by
  intro v u h ht
  cases v <;> simp only [renV, Option.some.injEq] at h <;> first
   | (subst h; exact .t ht)
   | (subst h; cases ht; exact .t .e)
   | (cases ht; done)
   | (cases h; done)
   | (split at h
      ·injection h with h; subst h; cases ht with
       | fn hs hh => exact .t (.fn hs hh)
      ·cases h)
 cases hr with
 | t ht => exact tr h ht
 | fr ht => simp only [renV, Option.some.injEq] at h; subst h; exact .t (ht.mono (MM.Qjk _ _))
 | rf ho hn hb =>
   simp only [renV] at h
   split at h
   ·rename_i j hj
    injection h with h; subst h
    exact .rf (by unfold Qc7; rw [Qh3 hj]; exact ho) hn hb
   ·cases h
 | rf0 =>
   simp only [renV] at h
   split at h
   ·injection h with h; subst h; exact .rf0
   ·cases h
 | pt ho =>
   simp only [renV] at h
   split at h
   ·rename_i j hj
    injection h with h; subst h
    exact .pt (by unfold Qc7; rw [Qh3 hj]; exact ho)
   ·cases h
 | mp ho =>
   simp only [renV] at h
   split at h
   ·rename_i j hj
    injection h with h; subst h
    exact .mp (by unfold Qc7; rw [Qh3 hj]; exact ho)
   ·cases h
 | it ho => cases h
 | fw => cases h
 | ag => cases h
 | tu => cases h
 | fn hs hh =>
   simp only [renV] at h
   split at h
   ·injection h with h; subst h
    exact .fn hs (fun j v v' e => by simp at e)
   ·cases h
theorem Qqf {ks : List Nat} {fb : Nat} : ∀ {l u : List VV} {l' : List Value}, Qht ks l = some u -> RL o base m l l' -> RL (Qc7 ks o) fb m u l'
 | [], u, l', h, hr => by
   simp only [Qht, Option.some.injEq] at h; subst h
   exact ⟨hr.1, fun j v v' a => by simp at a⟩
 | v :: l, u, l', h, hr => by
   cases l' with
   | nil => have := hr.1; simp at this
   | cons v' l' =>
     obtain ⟨h1, h2⟩ := hr.tail
     simp only [Qht] at h
     split at h
     case h_2 => cases h
     rename_i u1 us hu1 hus
     injection h with h; subst h
     exact .cons (Qon hu1 h1) (Qqf hus h2)
theorem Qli {ks : List Nat} {fb : Nat} : ∀ {l u : List VV} {l' : List Value}, Qmz ks l = some u -> RL o base m l l' -> RL (Qc7 ks o) fb m u l'
 | [], u, l', h, hr => by
   simp only [Qmz, Option.some.injEq] at h; subst h
   exact ⟨hr.1, fun j v v' a => by simp at a⟩
 | v :: l, u, l', h, hr => by
   cases l' with
   | nil => have := hr.1; simp at this
   | cons v' l' =>
     obtain ⟨h1, h2⟩ := hr.tail
     simp only [Qmz] at h
     split at h
     case h_2 => cases h
     rename_i u1 us hu1 hus
     injection h with h; subst h
     refine .cons ?_ (Qli hus h2)
     unfold ren1 at hu1
     split at hu1
     ·split at hu1
      case h_2 => cases hu1
      rename_i cs l0 hl0
      injection hu1 with hu1; subst hu1
      obtain ⟨c, rfl, hc⟩ := Qf1 h1
      exact R.Qd4 (Qqf hl0 hc)
     ·exact Qon hu1 h1
theorem Qzu {ks : List Nat} {v : VV} {v' : Value} {fb : Nat} (hb : base <= fb) (hr : R (Qc7 ks o) fb m v v') : R o base m (unV ks v) v' := by
 have got : ∀ {j : Nat} {oi : OI}, Qc7 ks o j = some oi -> ∃ k, getL j ks = some k /\ o k = some oi := fun {j oi} e => by
  unfold Qc7 at e
  split at e
  ·rename_i k hk; exact ⟨k, hk, e⟩
  ·cases e
 cases hr with
 | t ht =>
   cases v <;> simp only [unV] <;> first
    | exact .t ht
    | exact .undef
    | (cases ht; done)
 | fr ht => exact .fr (ht.mono (MM.Qd3 (.refl m) hb))
 | rf ho hn hb =>
   obtain ⟨k, h1, h2⟩ := got ho
   simp only [unV, h1]
   exact .rf h2 hn hb
 | rf0 =>
   simp only [unV]
   split
   ·exact .rf0
   ·exact .undef
 | pt ho =>
   obtain ⟨k, h1, h2⟩ := got ho
   simp only [unV, h1]
   exact .pt h2
 | mp ho =>
   obtain ⟨k, h1, h2⟩ := got ho
   simp only [unV, h1]
   exact .mp h2
 | it ho => exact .undef
 | fw ht hc => exact .undef
 | ag => exact .undef
 | tu => exact .undef
 | fn => exact .undef
theorem hand_h {n : Nat} (h : n = bigH \/ n = bigX + 2) (bx : Bool) (l : List VV) : Blk.h ⟨bx, n, l⟩ = true := by
 unfold Blk.h
 rcases h with h | h
 ·rw [show Nat.beq n bigH = true by rw [h]; exact Nat.beq_refl _]; rfl
 ·rw [show Nat.beq n (bigX + 2) = true by rw [h]; exact Nat.beq_refl _, Bool.or_true]
theorem Qwj (bx : Bool) (l : List VV) : Blk.x ⟨bx, bigH, l⟩ = false := by
 unfold Blk.x
 cases e : Nat.ble bigX bigH with
 | false => rfl
 | true => have := Nat.le_of_ble_eq_true e; unfold bigX bigH at this; omega
theorem Qrq {v : VV} (hv : v.mval = true) : (Qek v).mval = true := by
 cases v with
 | ag cs =>
   have hv : cs.all VV.still = true := hv
   show (cs.map unfr).all VV.still = true
   rw [List.all_map, List.all_eq_true]
   rw [List.all_eq_true] at hv
   intro x hx
   have := hv x hx
   show (unfr x).still = true
   cases x <;> first | rfl | exact this | cases this
 | _ => first | rfl | exact hv | cases hv
theorem Qlj {ks : List Nat} {b b' : Blk} {ob : Option Obj} {oi : OI} {fb : Nat} (h : Qn9 ks b = some b') (hb : Holds o base m ob oi b) (hS : b.bx = false -> b.cells.all VV.still = true) : Holds (Qc7 ks o) fb m ob oi b' /\ b'.h = true := by
 unfold Qn9 at h
 cases hb with
 | row h1 hs hz hx hh ha =>
   rw [hx] at h
   simp only [cond_false] at h
   cases hbx : b.bx with
   | true =>
     rw [hbx] at h ha
     simp only [cond_true] at h
     split at h
     case h_2 => cases h
     rename_i l hl
     injection h with h; subst h
     have hd := hand_h (n := bigH) (.inl rfl) true l
     refine ⟨.row h1 hs (fun e => by rw [hd] at e; cases e) (Qwj _ _) (fun e => by rw [hd] at e; cases e) ?_, hd⟩
     obtain ⟨a1, a2⟩ := ha
     have key : ∀ (cells u : List VV), Qht ks cells = some u -> ∀ (j : Nat) (v : VV), u[j]? = some v -> ∃ x, cells[j]? = some x /\ renV ks x = some v := by
      intro cells
      induction cells with
      | nil => intro u hu j v hv; simp only [Qht, Option.some.injEq] at hu; subst hu; simp at hv
      | cons x cells ih =>
        intro u hu j v hv
        simp only [Qht] at hu
        split at hu
        case h_2 => cases hu
        rename_i u1 us e1 e2
        injection hu with hu; subst hu
        cases j with
        | zero => simp at hv; subst hv; exact ⟨x, rfl, e1⟩
        | succ j => simpa using ih us e2 j v (by simpa using hv)
     have hlen : ∀ (cells u : List VV), Qht ks cells = some u -> u.length = cells.length := by
      intro cells
      induction cells with
      | nil => intro u hu; simp only [Qht, Option.some.injEq] at hu; subst hu; rfl
      | cons x cells ih =>
        intro u hu
        simp only [Qht] at hu
        split at hu
        case h_2 => cases hu
        rename_i u1 us e1 e2
        injection hu with hu; subst hu
        simp [ih us e2]
     refine ⟨by show oi.off + l.length <= _; rw [hlen _ _ hl]; exact a1, fun j v v' e1 e2 => ?_⟩
     obtain ⟨x, hx1, hx2⟩ := key _ _ hl j v e1
     exact Qon hx2 (a2 j x v' hx1 e2)
   | false =>
     rw [hbx] at h ha
     simp only [cond_false, Option.some.injEq] at h
     subst h
     have hd := hand_h (n := bigH) (.inl rfl) false (b.cells.map unfr)
     refine ⟨.row h1 hs (fun e => by rw [hd] at e; cases e) (Qwj _ _) (fun e => by rw [hd] at e; cases e) ⟨by show oi.off + (b.cells.map unfr).length <= _; rw [List.length_map]; exact ha.1, fun j v v' e1 e2 => ?_⟩, hd⟩
     have e1 : (b.cells.map unfr)[j]? = some v := e1
     rw [List.getElem?_map] at e1
     cases hcj : b.cells[j]? with
     | none => rw [hcj] at e1; cases e1
     | some x =>
       rw [hcj] at e1
       simp only [Option.map_some, Option.some.injEq] at e1
       subst e1
       exact .t (T.unfr (ha.2 j x v' hcj e2) (List.all_eq_true.1 (hS hbx) x (List.mem_of_getElem? hcj)))
 | it h1 hb' hh =>
   have hx : b.x = true := by rw [hb']; exact Nat.ble_eq_true_of_le (Nat.le_refl _)
   have hz : b.sz = bigX := by rw [hb']
   rw [hx] at h
   simp only [cond_true] at h
   obtain ⟨h2, _⟩ := Qe h
   have := Qhk h2
   omega
 | mp h1 hb' hz hh hv ha =>
   have hx : b.x = true := by unfold Blk.x; exact Nat.ble_eq_true_of_le (by omega)
   rw [hx] at h
   simp only [cond_true] at h
   obtain ⟨_, h⟩ := Qe h
   injection h with h; subst h
   have hd := hand_h (n := bigX + 2) (.inr rfl) true (b.cells.map Qek)
   refine ⟨.mp h1 rfl (.inr rfl) (fun e => by rw [hd] at e; cases e) ?_ ⟨by show (b.cells.map Qek).length = _; rw [List.length_map]; exact ha.len, fun j e he => ?_, fun j v e h1 h2 => ?_⟩, hd⟩
   ·show (b.cells.map Qek).all VV.mval = true
    rw [List.all_map, List.all_eq_true]
    intro x hx; exact Qrq (List.all_eq_true.1 hv x hx)
   ·show (b.cells.map Qek)[2 * j]? = _
    rw [List.getElem?_map, ha.key j e he]; rfl
   ·have h1 : (b.cells.map Qek)[2 * j + 1]? = some v := h1
    rw [List.getElem?_map] at h1
    cases hc : b.cells[2 * j + 1]? with
    | none => rw [hc] at h1; cases h1
    | some x =>
      rw [hc] at h1
      simp only [Option.map_some, Option.some.injEq] at h1
      subst h1
      exact .t (T.Qek (ha.val j x e hc h2) (List.all_eq_true.1 hv x (List.mem_of_getElem? hc)))
theorem Qp1 {ks : List Nat} {old new b' : Blk} {ob0 ob : Option Obj} {oi : OI} {fb : Nat} {m1 : MM} (hh : Qn9 ks old = some b') (hb : base <= fb) (h0 : Holds o base m ob0 oi old) (h : Holds (Qc7 ks o) fb m1 ob oi new) (hnb : new.bx = b'.bx /\ new.sz = b'.sz) : Holds o base m1 ob oi (Qg5 ks old new).1 \/ ¬ (Qg5 ks old new).2 := by
 unfold Qn9 at hh
 unfold Qg5
 cases hx : old.x with
 | true =>
   rw [hx] at hh
   simp only [cond_true] at hh ⊢
   obtain ⟨h2, hh⟩ := Qe hh
   injection hh with hh; subst hh
   obtain ⟨es0, clock0, _, _, g3, g4, _⟩ := h0.mapOf (Qhk h2)
   obtain ⟨es, clock, k1, k2, k3, _, k5⟩ := h.mapOf (.inr hnb.2)
   exact .inl (.mp k1 g3 (Qhk h2) g4 k5 (k2.mono (.refl _) (.refl _) hb))
 | false =>
   rw [hx] at hh
   simp only [cond_false] at hh ⊢
   have hrow : ∀ {P : Prop}, (∀ {c t}, ob = some (.cells c t (0, 0)) -> c.size = oi.tot -> At ((Qc7 ks o).of new.bx) fb m1 new.cells c oi.off -> (old.h = false -> oi.sz = old.sz) -> (old.h = false -> base <= oi.b) -> P) -> new.sz = bigH -> P := by
    intro P k hns
    cases h0 with
    | row _ _ hz _ hh' _ =>
      cases h with
      | row h1 hs _ _ _ ha => exact k h1 hs ha hz hh'
      | it _ hb' =>
        have e1 : new.sz = bigX := congrArg Blk.sz hb'
        unfold bigX at e1; unfold bigH at hns; omega
      | mp _ _ hz' => unfold bigX bigH at *; omega
    | it _ hb' => rw [show old.x = true by rw [hb']; exact Nat.ble_eq_true_of_le (Nat.le_refl _)] at hx; cases hx
    | mp _ _ hz' => rw [show old.x = true by unfold Blk.x; exact Nat.ble_eq_true_of_le (by omega)] at hx; cases hx
   cases hbx : old.bx with
   | true =>
     rw [hbx] at hh
     simp only [cond_true] at hh ⊢
     split at hh
     case h_2 => cases hh
     rename_i l hl
     injection hh with hh; subst hh
     refine .inl (hrow (fun h1 hs ha hz hh' => .row h1 hs hz hx hh' ?_) hnb.2)
     rw [hnb.1] at ha
     refine ⟨by show oi.off + (new.cells.map (unV ks)).length <= _; rw [List.length_map]; exact ha.1, fun j v v' e1 e2 => ?_⟩
     have e1 : (new.cells.map (unV ks))[j]? = some v := e1
     rw [List.getElem?_map] at e1
     cases hcj : new.cells[j]? with
     | none => rw [hcj] at e1; cases e1
     | some x =>
       rw [hcj] at e1
       simp only [Option.map_some, Option.some.injEq] at e1
       subst e1
       exact Qzu hb (ha.2 j x v' hcj e2)
   | false =>
     rw [hbx] at hh
     simp only [cond_false] at hh ⊢
     injection hh with hh; subst hh
     refine .inl (hrow (fun h1 hs ha hz hh' => .row h1 hs hz hx hh' ?_) hnb.2)
     rw [hnb.1] at ha
     exact ⟨ha.1, fun j v v' e1 e2 => (ha.2 j v v' e1 e2).mono (OM.Qhq _) (.refl _) hb⟩
theorem Qlk {op : Oper} {A G : Tr VV} {L : List (Option Blk)} {N : Nat} {an : Ans} {v : VV} {eff : Eff} {q : Prop} (h : Qc5 P op A L G N an = some (v, eff, q)) (hq : q) (hS : Still L) :
 ∀ blk, (eff = .new blk \/ (∃ k, eff = .put k blk) \/ ∃ k, eff = .grow k blk) -> blk.bx = false -> blk.cells.all VV.still = true := by
 have allC : ∀ l : List VV, l.all VV.isC = true -> l.all VV.still = true := fun l h => by
  rw [List.all_eq_true] at h ⊢
  intro x hx; have := h x hx; cases x <;> first | rfl | cases this
 intro blk hblk hbx
 have hcs := Qdx h; clear h
 rcases hcs with ⟨g, args, ts, as, ho, has, ⟨rfl, _, _⟩ | ⟨cells, n, i, r, p, sz0, hown, rfl, rfl, _⟩⟩ | ⟨_, _, _, _, _, _, _, _, _, _, _, rfl, _, _⟩ | ⟨_, _, _, _, _, _, _, _, _, _, _, _, _, _, rfl | ⟨_, _, _, _, rfl, _, hbt⟩, _⟩ | ⟨_, _, _, _, _, _, _, _, _, _, _, _, rfl, _⟩ | h
 ·rcases hblk with e | ⟨_, e⟩ | ⟨_, e⟩ <;> cases e
 ·rcases hblk with e | ⟨_, e⟩ | ⟨_, e⟩ <;> cases e
  exact allC _ hq.2.2.1
 ·rcases hblk with e | ⟨_, e⟩ | ⟨_, e⟩ <;> cases e
 ·rcases hblk with e | ⟨_, e⟩ | ⟨_, e⟩ <;> cases e
 ·rcases hblk with e | ⟨_, e⟩ | ⟨_, e⟩ <;> cases e
  rw [hbt] at hbx; cases hbx
 ·rcases hblk with e | ⟨_, e⟩ | ⟨_, e⟩ <;> cases e
 ·obtain ⟨dst, oo, type, pos, after, guard⟩ := op
  have nono : ∀ {v0 : Option VV}, noP v0 = some (v, eff, q) -> blk.cells.all VV.still = true := fun h => by
   obtain ⟨_, rfl⟩ := Qal h; rcases hblk with e | ⟨_, e⟩ | ⟨_, e⟩ <;> cases e
  have nowi : ∀ {v0 : Option (VV × Prop)}, wiP v0 = some (v, eff, q) -> blk.cells.all VV.still = true := fun h => by
   obtain ⟨_, rfl⟩ := Qbz h; rcases hblk with e | ⟨_, e⟩ | ⟨_, e⟩ <;> cases e
  have nono' : ∀ {u : VV} {p : Prop}, some (u, Eff.no, p) = some (v, eff, q) -> blk.cells.all VV.still = true := fun h => by
   injection h with h; injection h with h1 h2; injection h2 with h2 h3; subst h2; rcases hblk with e | ⟨_, e⟩ | ⟨_, e⟩ <;> cases e
  cases oo <;> simp only [vOp] at h
  case move => exact nono' h
  case nilCheck =>
   split at h
   ·exact nono' h
   ·cases h
  case assign => exact nono' h
  case pick =>
   split at h
   ·exact nono' h
   ·cases h
  case alloc =>
   split at h
   case h_2 => cases h
   have hb0 := Qe h; clear h; obtain ⟨_, h⟩ := hb0
   injection h with h; injection h with h1 h2; injection h2 with h2 h3; subst h2
   rcases hblk with e | ⟨_, e⟩ | ⟨_, e⟩ <;> cases e
   cases hbx
  case box =>
   have hb0 := Qe h; clear h; obtain ⟨_, h⟩ := hb0
   injection h with h; injection h with h1 h2; injection h2 with h2 h3; subst h2
   rcases hblk with e | ⟨_, e⟩ | ⟨_, e⟩ <;> cases e
   cases hbx
  case build =>
   have hb0 := Qe h; clear h; obtain ⟨_, h⟩ := hb0
   exact nono h
  case buildSlice =>
   split at h
   case h_2 => cases h
   rename_i u b hu
   have h2 : Eff.new b = eff := by
    split at h
    ·injection h with h; injection h with h1 h2; injection h2 with h2 h3
    ·have hb0 := Qe h; clear h; obtain ⟨_, h⟩ := hb0
     injection h with h; injection h with h1 h2; injection h2 with h2 h3
     rw [<- h2] at hblk
     rcases hblk with e | ⟨_, e⟩ | ⟨_, e⟩ <;> cases e
    ·have hb0 := Qe h; clear h; obtain ⟨_, h⟩ := hb0
     injection h with h; injection h with h1 h2; injection h2 with h2 h3
     rw [<- h2] at hblk
     rcases hblk with e | ⟨_, e⟩ | ⟨_, e⟩ <;> cases e
    ·injection h with h; injection h with h1 h2; injection h2 with h2 h3
   subst h2
   rcases hblk with e | ⟨_, e⟩ | ⟨_, e⟩ <;> cases e
   unfold Qbv at hu
   split at hu
   case h_2 => cases hu
   split at hu
   case h_2 => cases hu
   have hb0 := Qe hu; clear hu; obtain ⟨_, hu⟩ := hb0
   split at hu
   case h_2 => cases hu
   split at hu
   case h_2 => cases hu
   injection hu with hu; injection hu with h1 h2; subst h2
   simpa using hbx
  case load => exact nowi h
  case store t p x =>
   split at h
   case h_2 => cases h
   rename_i e1 q1 hs
   injection h with h; injection h with h1 h2; injection h2 with h2 h3; subst h2; subst h3
   unfold Qpz at hs
   split at hs
   case h_2 => cases hs
   split at hs
   case h_2 => cases hs
   rename_i k off b0 n hb0' hn
   have hb0 := Qe hs; clear hs; obtain ⟨hfl, hs⟩ := hb0
   cases hb1 : b0.bx with
   | true =>
     rw [hb1] at hs
     simp only [cond_true] at hs
     split at hs
     case h_2 => cases hs
     injection hs with hs; injection hs with h1 h2; subst h1
     rcases hblk with e | ⟨_, e⟩ | ⟨_, e⟩ <;> cases e
     cases hbx
   | false =>
     rw [hb1] at hs
     simp only [cond_false] at hs
     have hb0 := Qe hs; clear hs; obtain ⟨hst, hs⟩ := hb0
     injection hs with hs; injection hs with h1 h2; subst h1
     rcases hblk with e | ⟨_, e⟩ | ⟨_, e⟩ <;> cases e
     have h0 := hS _ _ (Qc6 hb0').1 hb1
     show (putT _ b0.cells _).all VV.still = true
     unfold putT
     rw [List.all_eq_true] at h0 hst ⊢
     intro y hy
     rw [List.mem_append, List.mem_append] at hy
     rcases hy with (hy | hy) | hy
     ·exact h0 y (List.mem_of_mem_take hy)
     ·exact hst y hy
     ·exact h0 y (List.mem_of_mem_drop hy)
  case binOp => exact nowi h
  case unOp => exact nono h
  case convert => exact nono h
  case makeSlice t l c =>
   split at h
   case h_2 => cases h
   rename_i u b p hu
   injection h with h; injection h with h1 h2; injection h2 with h2 h3; subst h2
   rcases hblk with e | ⟨_, e⟩ | ⟨_, e⟩ <;> cases e
   refine allC _ ?_
   unfold Qfe at hu
   split at hu
   case h_2 => cases hu
   split at hu
   case h_2 => cases hu
   split at hu
   case h_2 => cases hu
   have hb0 := Qe hu; clear hu; obtain ⟨_, hu⟩ := hb0
   rename_i i _ _ z _ _
   cases hb1 : Nat.beq i.size 1 with
   | true =>
     rw [hb1] at hu
     simp only [cond_true, Option.some.injEq, Prod.mk.injEq] at hu
     obtain ⟨_, rfl, _⟩ := hu
     rw [List.all_eq_true]; intro y hy; rw [List.eq_of_mem_replicate hy]; rfl
   | false =>
     rw [hb1] at hu
     simp only [cond_false, Option.some.injEq, Prod.mk.injEq] at hu
     obtain ⟨_, rfl, _⟩ := hu
     unfold zeroCells
     rw [List.all_eq_true]; intro y hy
     obtain ⟨j, _, rfl⟩ := List.mem_map.1 hy; rfl
  case slice t x lo hi mx =>
   cases mx with
   | none => exact nowi h
   | some => cases h
  case fieldAddr => exact nono h
  case field => exact nono h
  case indexAddr => exact nowi h
  case index =>
   split at h
   ·exact nowi h
   ·exact nowi h
  case range =>
   split at h
   case h_2 => cases h
   injection h with h; injection h with h1 h2; injection h2 with h2 h3; subst h2
   rcases hblk with e | ⟨_, e⟩ | ⟨_, e⟩ <;> cases e
   cases hbx
  case next x b =>
   cases b with
   | false => cases h
   | true =>
     simp only at h
     split at h
     case h_2 => cases h
     unfold Qvk at h
     split at h
     ·injection h with h; injection h with h1 h2; injection h2 with h2 h3; subst h2
      rcases hblk with e | ⟨_, e⟩ | ⟨_, e⟩ <;> cases e
      cases hbx
     ·exact nono' h
     ·cases h
  case makeMap t r =>
   cases r with
   | some r => cases h
   | none =>
     have hb0 := Qe h; clear h; obtain ⟨_, h⟩ := hb0
     injection h with h; injection h with h1 h2; injection h2 with h2 h3; subst h2
     rcases hblk with e | ⟨_, e⟩ | ⟨_, e⟩ <;> cases e
     cases hbx
  case lookup =>
   unfold Qlq at h
   split at h
   case h_2 => cases h
   have hb0 := Qe h; clear h; obtain ⟨_, h⟩ := hb0
   split at h
   ·exact nono' h
   ·split at h
    case h_2 => cases h
    have hb0 := Qe h; clear h; obtain ⟨_, h⟩ := hb0
    exact nono' h
   ·cases h
  case mapUpdate =>
   unfold Qfd at h
   split at h
   case h_2 => cases h
   split at h
   case h_2 => cases h
   rename_i b0 hb0'
   have hb0 := Qe h; clear h; obtain ⟨hc, h⟩ := hb0
   simp only [Bool.and_eq_true] at hc
   injection h with h; injection h with h1 h2; injection h2 with h2 h3; subst h2
   rcases hblk with e | ⟨_, e⟩ | ⟨_, e⟩ <;> cases e
   have hbx : b0.bx = false := hbx
   rw [hc.2] at hbx; cases hbx
  case extract => exact nono h
  case makeFunc fn first caps =>
   cases fn with
   | func g =>
     simp only [vOp] at h
     split at h
     ·exact nono' h
     ·cases h
   | _ => cases h
  case call c =>
   obtain ⟨callee, args, argTypes⟩ := c
   cases callee with
   | value f => cases h
   | invoke f m => cases h
   | builtin b =>
     cases b <;> simp only at h
     case len =>
      split at h
      ·split at h
       ·rename_i r hr
        injection h with h; subst h
        unfold Qoh at hr
        split at hr
        case h_2 => cases hr
        have hb0 := Qe hr; clear hr; obtain ⟨_, hr⟩ := hb0
        split at hr
        ·exact nono' hr
        ·cases hr
       ·exact nono h
      ·cases h
     case append =>
      split at h
      case h_2 => cases h
      have hb0 := Qe h; clear h; obtain ⟨_, h⟩ := hb0
      unfold Qlo at h
      split at h
      case h_2 => cases h
      split at h
      case h_2 => cases h
      split at h
      case h_2 => cases h
      have hb0 := Qe h; clear h; obtain ⟨_, h⟩ := hb0
      split at h
      ·injection h with h; injection h with h1 h2; injection h2 with h2 h3; subst h2; subst h3
       rcases hblk with e | ⟨_, e⟩ | ⟨_, e⟩ <;> cases e
       exact hq.2.2.2
      ·split at h
       ·exact nono' h
       ·injection h with h; injection h with h1 h2; injection h2 with h2 h3; subst h2; subst h3
        rcases hblk with e | ⟨_, e⟩ | ⟨_, e⟩ <;> cases e
        exact hq.2.2.2
      ·split at h
       case h_2 => cases h
       rename_i b0 hb0'
       have hb0 := Qe h; clear h; obtain ⟨hcb, h⟩ := hb0
       simp only [Bool.and_eq_true, Bool.not_eq_true'] at hcb
       injection h with h; injection h with h1 h2; injection h2 with h2 h3; subst h2; subst h3
       rcases hblk with e | ⟨_, e⟩ | ⟨_, e⟩ <;> cases e
       show (b0.cells ++ _).all VV.still = true
       rw [List.all_append, hS _ _ (Yb hb0').1 hcb.1, hq.2.2.2.2]; rfl
      ·exact nono' h
      ·cases h
     case copy =>
      split at h
      case h_2 => cases h
      have hb0 := Qe h; clear h; obtain ⟨_, h⟩ := hb0
      unfold Qve at h
      split at h
      case h_2 => cases h
      split at h
      case h_2 => cases h
      split at h
      case h_2 => cases h
      rename_i b0 xs n' p hb0' hsrc
      have hb0 := Qe h; clear h; obtain ⟨hcb, h⟩ := hb0
      simp only [Bool.and_eq_true, Bool.not_eq_true'] at hcb
      injection h with h; injection h with h1 h2; injection h2 with h2 h3; subst h2; subst h3
      rcases hblk with e | ⟨_, e⟩ | ⟨_, e⟩ <;> cases e
      have h0 := hS _ _ (Yb hb0').1 hcb.1.1
      have hst := hq.2.2.2.2
      show (putT _ b0.cells _).all VV.still = true
      unfold putT
      rw [List.all_eq_true] at h0 hst ⊢
      intro y hy
      rw [List.mem_append, List.mem_append] at hy
      rcases hy with (hy | hy) | hy
      ·exact h0 y (List.mem_of_mem_take hy)
      ·exact hst y (List.mem_of_mem_take hy)
      ·exact h0 y (List.mem_of_mem_drop hy)
     case min => exact nono h
     case max => exact nono h
     all_goals (cases h)
  all_goals (cases h)
end
end Go.Proofs.Ytfeedchjdnedjaa.Vv
