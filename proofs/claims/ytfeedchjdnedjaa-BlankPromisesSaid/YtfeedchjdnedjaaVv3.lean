import Derived.Test.YtfeedchjdnedjaaVv2
set_option linter.unusedVariables false
set_option linter.unusedSimpArgs false
namespace Go.Proofs.Ytfeedchjdnedjaa.Vv
open Go Go.Proofs.Ytfeedchjdnedjaa.Ev
open Go.RowKit (Below)
abbrev Qgo (w : World) : Mem := fun b => w.heap[b]?
inductive Res (base : Nat) (o : OM) (m : MM) (L : List (Option Blk)) (w : World) (N : Nat) : Eff -> VV -> Value -> World -> Prop
 | no {v : VV} {v' : Value} (hv : R o base m v v') : Res base o m L w N .no v v' w
 | frNo {v : VV} {v' : Value} {ob : Obj} {d : Nat} (hv : ∀ m' : MM, m.Le m' -> m' w.heap.size = some ob -> R o base m' v v') : Res base o m L w N .no v v' { (w.alloc ob) with drawn := d }
 | newNo {blk : Blk} {v : VV} {v' : Value} (hb : blk.cells = []) (hx : blk.bx = false) (hv : R o base m v v') : Res base o m L w N (.new blk) v v' w
 | new {blk : Blk} {v : VV} {v' : Value} {ob : Obj} {oi : OI} {d : Nat} (hoi : oi.b = w.heap.size) (hl : Holds o base m (some ob) oi blk)
  (hv : ∀ o' : OM, o.Le o' -> o' N = some oi -> R o' base m v v') : Res base o m L w N (.new blk) v v' { (w.alloc ob) with drawn := d }
 | put {k : Nat} {blk : Blk} {v : VV} {v' : Value} {oi : OI} {ob ob0 : Obj} (ho : o k = some oi) (hc : w.heap[oi.b]? = some ob0) (hl : Holds o base m (some ob) oi blk)
  (hv : ∀ o' : OM, R o' base m v v') : Res base o m L w N (.put k blk) v v' (World.upd w (.put oi.b ob))
 | growNo {k : Nat} {blk : Blk} {v : VV} {v' : Value} (hb : gb L k = some blk) (hx : blk.bx = false) (hv : R o base m v v') : Res base o m L w N (.grow k blk) v v' w
 | growIn {k : Nat} {blk : Blk} {v : VV} {v' : Value} {oi : OI} {ob ob0 : Obj} (ho : o k = some oi) (hc : w.heap[oi.b]? = some ob0)
  (hx : blk.bx = false) (hl : Holds o base m (some ob) oi blk) (hv : ∀ o' : OM, o' k = some oi -> R o' base m v v') (hp : ∃ b0 xs, gb L k = some b0 /\ blk = { b0 with cells := b0.cells ++ xs }) : Res base o m L w N (.grow k blk) v v' (World.upd w (.put oi.b ob))
 | growNew {k : Nat} {blk : Blk} {v : VV} {v' : Value} {ob : Obj} {oi : OI} {d : Nat} (hb : ∃ b, gb L k = some b) (hoi : oi.b = w.heap.size) (hx : blk.bx = false) (hl : Holds o base m (some ob) oi blk)
  (hv : ∀ o' : OM, o' k = some oi -> R o' base m v v') : Res base o m L w N (.grow k blk) v v' { (w.alloc ob) with drawn := d }
theorem Qpr {b : Blk} (h : b.sz < bigH) : b.x = false /\ b.h = false := by
 have hh : b.h = false := by
  unfold Blk.h
  have ne : ∀ x y : Nat, x ≠ y -> Nat.beq x y = false := fun x y h => by
   cases e : Nat.beq x y with
   | false => rfl
   | true => exact absurd (Nat.eq_of_beq_eq_true e) h
  rw [ne b.sz bigH (by omega), ne b.sz (bigX + 2) (by unfold bigX bigH at *; omega)]; rfl
 refine ⟨?_, hh⟩
 ·unfold Blk.x
  cases e : Nat.ble bigX b.sz with
  | false => rfl
  | true => have := Nat.le_of_ble_eq_true e; unfold bigX bigH at *; omega
theorem Holds.fresh {o : OM} {base : Nat} {m : MM} {w : World} {c : Array Value} {t : TypeId} {blk : Blk} (hs : blk.sz < bigH) (hb : base <= w.heap.size) (ha : At (o.of blk.bx) base m blk.cells c 0) : Holds o base m (some (.cells c t (0, 0))) ⟨w.heap.size, 0, c.size, blk.sz⟩ blk :=
 .row rfl rfl (fun _ => rfl) (Qpr hs).1 (fun _ => hb) ha
theorem Holds.off {o o' : OM} {base : Nat} {m : MM} {ob : Option Obj} {oi : OI} {blk : Blk} (h : Holds o base m ob oi blk) (hx : blk.bx = false) : Holds o' base m ob oi blk := by
 cases h with
 | row h hs hz hx' hh ha => exact .row h hs hz hx' hh (by rw [hx] at ha ⊢; exact ha)
 | it h hb hh => exact .it h hb hh
 | mp h hb hz hh hv ha => rw [hx] at hb; cases hb
theorem Holds.pre {o : OM} {base : Nat} {m : MM} {ob : Option Obj} {oi : OI} {blk : Blk} {xs : List VV} (h : Holds o base m ob oi { blk with cells := blk.cells ++ xs }) (hx : blk.bx = false) : Holds o base m ob oi blk := by
 cases h with
 | row h hs hz hx' hh ha =>
   refine .row h hs hz hx' hh ⟨?_, fun j v v' e e' => ha.2 j v v' ?_ e'⟩
   ·have := ha.1; simp only [List.length_append] at this; omega
   ·rw [List.getElem?_append_left (List.getElem?_eq_some_iff.1 e).1]; exact e
 | it h hb hh =>
   injection hb with hb; rw [hx] at hb; cases hb
 | mp h hb hz hh hv ha =>
   have hb : blk.bx = true := hb
   rw [hx] at hb; cases hb
section
variable {P : Program} {gv : Nat -> Value} {base : Nat} {o : OM} {m : MM} {L : List (Option Blk)} {w : World} {N : Nat}
theorem Qle {v : Value} : R o base m (ofV v) v := by
 unfold ofV
 cases hg : Zn v with
 | true => exact .t (.c (Qu8 hg))
 | false =>
   simp only [cond_false]
   split
   ·rename_i cs
    cases hc : cs.all Zn with
    | true =>
      simp only [cond_true]
      refine .t (.ag (by simp) (fun j v v' a b => ?_))
      rw [List.getElem?_map, Array.getElem?_toList, b] at a
      simp only [Option.map_some, Option.some.injEq] at a
      subst a
      exact .c (Qu8 (Array.all_eq_true_iff_forall_mem.1 hc _ (Array.mem_of_getElem? b)))
    | false => exact .undef
   ·exact .undef
theorem T.at {cells : List VV} {b off : Nat} {cs : Array Value} (hs : off + cells.length <= cs.size) (h : ∀ (j : Nat) (v v' : _), cells[j]? = some v -> cs[off + j]? = some v' -> T m v v') : At o base m cells cs off :=
 ⟨hs, fun j v v' a b => .t (h j v v' a b)⟩
theorem Qi4 {t : TypeId} {off d b : Nat} {cells : List VV} {v : VV} {c : Array Value} {ty : TypeId} {fz : Nat × Nat} (h : Jw P t off cells = some v) (ha : At o base m cells c d) (hb : w.heap[b]? = some (.cells c ty fz)) :
 ∃ v', Qh6 P (Qgo w) t (.pointer (some ⟨b, d + off, none⟩)) = some v' /\ R o base m v v' := by
 unfold Jw at h
 unfold Qh6
 simp only [Qgo, hb]
 split at h
 ·rename_i hag
  rw [hag]
  split at h
  case h_2 => cases h
  rename_i n hn
  rw [hn]
  split at h
  case h_2 => cases h
  rename_i l hl
  injection h with h; subst h
  obtain ⟨l', e, r⟩ := ha.take hl
  dsimp only
  rw [e]
  exact ⟨_, rfl, R.Qd4 (cs := ⟨l'⟩) r⟩
 ·rename_i hag
  rw [hag]
  exact ha.get h
 ·cases h
theorem Qko {a : Ans} {t : TypeId} {p v : VV} {q : Prop} {p' : Value} (h : Qh5 P L a t p = some (v, q)) (hq : q) (hO : Own gv base o m L w) (hM : Yo m w) (hp : R o base m p p') :
 ∃ v', Qh6 P (Qgo w) t p' = some v' /\ R o base m v v' := by
 unfold Qh5 at h
 split at h
 ·rename_i k off
  split at h
  case h_2 => cases h
  rename_i blk hblk
  cases hp with
  | t h => cases h
  | pt ho =>
    obtain ⟨c, ty, hc, _, _, hat⟩ := hO.row ho hblk
    have hat' : ∀ d, At (if blk.bx = true then o else OM.no) base m blk.cells c d -> At o base m blk.cells c d := by
     intro d hat
     refine ⟨hat.1, fun j v v' a b => ?_⟩
     have := hat.2 j v v' a b
     by_cases hbx : blk.bx = true
     ·rw [if_pos hbx] at this; exact this
     ·rw [if_neg hbx] at this; exact this.mono (OM.Qhq o) (.refl m) (Nat.le_refl _)
    split at h
    ·injection h with h; injection h with h1 h2; subst h1; subst h2
     exact Qi4 hq (hat' _ hat) hc
    ·cases hbx : blk.bx with
     | true =>
       rw [hbx] at h
       simp only [cond_true] at h
       split at h
       ·rename_i u hu
        injection h with h; injection h with h1 h2; subst h1
        exact Qi4 hu (hat' _ hat) hc
       ·cases h
     | false =>
       rw [hbx] at h
       simp only [cond_false] at h
       cases h
 ·rename_i cells off
  split at h
  ·injection h with h; injection h with h1 h2; subst h1; subst h2
   cases hp with
   | t h =>
     cases h with
     | tp hb hs hh => exact Qi4 hq (T.at (b := 0) hs hh) (hM _ _ hb)
  ·cases h
 ·cases h
theorem Qu9 {v : VV} {v' : Value} (h : R o base m v v') (hf : v.flat = true) : v'.oneCell' = true := by
 refine (h.cells ?_).2 (fun l e => by subst e; cases hf)
 cases v <;> first | rfl | cases hf
theorem RL.one {l : List VV} {l' : List Value} (h : RL o base m l l') (hf : l.all VV.flat = true) : l'.all (·.oneCell') = true := by
 rw [List.all_eq_true] at hf ⊢
 intro v' hv'
 obtain ⟨j, hj⟩ := List.mem_iff_getElem?.1 hv'
 have hlt : j < l.length := by rw [h.1]; exact (List.getElem?_eq_some_iff.1 hj).1
 exact Qu9 (h.2 j l[j] v' (List.getElem?_eq_getElem hlt) hj) (hf _ (List.getElem_mem hlt))
theorem Qm5 {α : Type} : ∀ (n : Nat) (l xs : List α), n + xs.length <= l.length -> setL n l xs = some (l.take n ++ xs ++ l.drop (n + xs.length))
 | 0, l, xs, h => by
   simp only [setL, List.take_zero, List.nil_append, Nat.zero_add]
   induction xs generalizing l with
   | nil => cases l <;> simp [putL]
   | cons x xs ih =>
     cases l with
     | nil => simp at h
     | cons y l => simp only [putL]; rw [ih l (by simp at h ⊢; omega)]; simp
 | n + 1, [], xs, h => by simp at h
 | n + 1, a :: l, xs, h => by
   simp only [setL]
   rw [Qm5 n l xs (by simp at h; omega)]
   simp only [List.take_succ_cons, List.cons_append]
   congr 2
   rw [show n + 1 + xs.length = (n + xs.length) + 1 by omega, List.drop_succ_cons]
theorem Qva {off : Nat} {cells xs : List VV} (h : off + xs.length <= cells.length) (j : Nat) : (putT off cells xs)[j]? = if off <= j /\ j < off + xs.length then xs[j - off]? else cells[j]? := by
 unfold putT
 have h1 : (cells.take off).length = off := by simp; omega
 by_cases c1 : j < off
 ·rw [if_neg (by omega), List.append_assoc, List.getElem?_append_left (by rw [h1]; exact c1), List.getElem?_take, if_pos c1]
 ·by_cases c2 : j < off + xs.length
  ·rw [if_pos ⟨by omega, c2⟩, List.append_assoc, List.getElem?_append_right (by rw [h1]; omega), h1, List.getElem?_append_left (by omega)]
  ·rw [if_neg (by omega), List.append_assoc, List.getElem?_append_right (by rw [h1]; omega), h1, List.getElem?_append_right (by omega), List.getElem?_drop]
   congr 1; omega
theorem Qlg {off : Nat} {cells xs : List VV} (h : off + xs.length <= cells.length) : (putT off cells xs).length = cells.length := by
 unfold putT; simp; omega
theorem At.put {cells xs : List VV} {c : Array Value} {d off : Nat} {xs' : List Value} (h : At o base m cells c d) (hx : RL o base m xs xs') (hl : off + xs.length <= cells.length) :
 ∃ l, setL (d + off) c.toList xs' = some l /\ l.length = c.size /\ At o base m (putT off cells xs) ⟨l⟩ d := by
 have hd := h.1
 have hxl := hx.1
 refine ⟨_, Qm5 _ _ _ (by simp; omega), by simp; omega, by rw [Qlg hl]; simp; omega, ?_⟩
 intro j v v' a b
 rw [Qva hl] at a
 have hb : (c.toList.take (d + off) ++ xs' ++ c.toList.drop (d + off + xs'.length))[d + j]? = some v' := by simpa using b
 by_cases c1 : j < off
 ·rw [if_neg (by omega)] at a
  rw [List.append_assoc, List.getElem?_append_left (by simp; omega), List.getElem?_take, if_pos (by omega)] at hb
  exact h.2 j v v' a (by simpa using hb)
 ·by_cases c2 : j < off + xs.length
  ·rw [if_pos ⟨by omega, c2⟩] at a
   rw [List.append_assoc, List.getElem?_append_right (by simp; omega), List.getElem?_append_left (by simp; omega)] at hb
   refine hx.2 _ v v' a ?_
   rw [<- hb]; congr 1; simp; omega
  ·rw [if_neg (by omega)] at a
   rw [List.append_assoc, List.getElem?_append_right (by simp; omega), List.getElem?_append_right (by simp; omega), List.getElem?_drop] at hb
   refine h.2 j v v' a ?_
   rw [<- Array.getElem?_toList, <- hb]; congr 1; simp; omega
theorem Qy3 {v : VV} {v' : Value} (h : R o base m v v') (hs : v.tl = true) : T m v v' := by
 cases h with
 | t h => exact h
 | _ => cases hs
theorem Qgj {v : VV} {v' : Value} (h : R o base m v v') (hs : v.still = true) : R .no base m v v' := by
 cases h with
 | t h => exact .t h
 | fr h => exact .fr h
 | rf a b c => cases hs
 | rf0 => cases hs
 | pt a => cases hs
 | ag a b => cases hs
 | tu a b => cases hs
 | fn a b => exact .t (.fn a (fun j v v' x y => Qy3 (b j v v' x y) (List.all_eq_true.1 hs v (List.mem_of_getElem? x))))
 | it a => cases hs
 | mp a => cases hs
 | fw a b => cases hs
theorem RL.still {l : List VV} {l' : List Value} (h : RL o base m l l') (hs : l.all VV.still = true) : RL .no base m l l' :=
 ⟨h.1, fun j v v' a b => Qgj (h.2 j v v' a b) (List.all_eq_true.1 hs v (List.mem_of_getElem? a))⟩
theorem Qi5 {off : Nat} {cells xs l : List VV} (h : setL off cells xs = some l) : l = putT off cells xs /\ off + xs.length <= cells.length := by
 obtain ⟨h1, h2⟩ := Qd2 _ _ _ _ h
 exact ⟨h1, h2⟩
theorem Qgp {v : VV} (h : v.cells.all VV.flat = true) : v.known = true := by
 cases v <;> first | rfl | (simp [VV.cells, VV.flat] at h)
theorem Qtq {t : TypeId} {p v : VV} {e : Eff} {q : Prop} {p' v' : Value} (h : Qpz P L t p v = some (e, q)) (hq : q) (hO : Own gv base o m L w) (hp : R o base m p p') (hv : R o base m v v') :
 ∃ w', (Instr.storeAt t p' v').run P w = .ok () w' /\ Res base o m L w N e .any undef w' := by
 unfold Qpz at h
 split at h
 case h_2 => cases h
 rename_i k off
 split at h
 case h_2 => cases h
 rename_i blk n hblk hn
 obtain ⟨hc1, h⟩ := Qe h
 simp only [Bool.and_eq_true] at hc1
 have hlen := Nat.eq_of_beq_eq_true hc1.1
 cases hp with
 | t h => cases h
 | pt ho =>
   rename_i oi
   have hrow := hO.at_ k _ blk ho (Qc6 hblk).1
   have hnx := (Qc6 hblk).2
   obtain ⟨c, ty, hc, htot, hz, hat⟩ := hO.row ho hblk
   have hhh : blk.h = false -> base <= oi.b := by
    cases hrow with
    | row _ _ _ _ hh _ => exact hh
    | it _ _ hh => exact fun _ => hh
    | mp _ _ _ hh _ _ => exact hh
   have fin : ∀ {c' : Array Value} {cs' : List VV}, c'.size = oi.tot -> At (o.of blk.bx) base m cs' c' oi.off -> Holds o base m (some (.cells c' ty (0, 0))) oi { blk with cells := cs' } := fun h1 h2 => .row rfl h1 hz hnx hhh h2
   obtain ⟨hvc, _⟩ := hv.cells (Qgp hc1.2)
   have hone := hvc.one hc1.2
   have run : ∀ l, setL (oi.off + off) c.toList v'.cells.toList = some l -> (Instr.storeAt t (.pointer (some ⟨oi.b, oi.off + off, none⟩)) v').run P w = .ok () (World.upd w (.put oi.b (.cells ⟨l⟩ ty (0, 0)))) := by
    intro l hl
    have hf : Qic P 0 (Qgo w) t (.pointer (some ⟨oi.b, oi.off + off, none⟩)) v' = some (.put oi.b (.cells ⟨l⟩ ty (0, 0))) := by
     unfold Qic
     have h0 : Nat.ble 0 oi.b = true := Nat.ble_eq_true_of_le (Nat.zero_le _)
     have h1 : (Nat.beq v'.cells.toList.length n && v'.cells.toList.all (·.oneCell')) = true := by
      rw [hone, <- hvc.1, hlen]; simp
     simp only [h0, cond_true, Qgo, hc, hn, h1, hl]
    exact (Qj4 hf).1
   cases hbx : blk.bx with
   | true =>
     rw [hbx] at h
     simp only [cond_true] at h
     split at h
     ·rename_i l hl
      injection h with h; injection h with h1 h2; subst h1
      obtain ⟨e1, e2⟩ := Qi5 hl
      subst e1
      have hat' : At o base m blk.cells c oi.off := by rw [if_pos hbx] at hat; exact hat
      obtain ⟨l', g1, g2, g3⟩ := hat'.put hvc e2
      refine ⟨_, run _ g1, .put ho hc (by have h9 := fin (c' := ⟨l'⟩) (cs' := putT off blk.cells v.cells) (g2.trans htot) (by rw [hbx]; exact g3); rw [hbx] at h9; exact h9) (fun _ => .undef)⟩
     ·cases h
   | false =>
     rw [hbx] at h
     simp only [cond_false] at h
     obtain ⟨hst, h⟩ := Qe h
     injection h with h; injection h with h1 h2; subst h1; subst h2
     have hat' : At .no base m blk.cells c oi.off := by rw [if_neg (by rw [hbx]; simp)] at hat; exact hat
     obtain ⟨l', g1, g2, g3⟩ := hat'.put (hvc.still hst) hq
     refine ⟨_, run _ g1, .put ho hc (by have h9 := fin (c' := ⟨l'⟩) (cs' := putT off blk.cells v.cells) (g2.trans htot) (by rw [hbx]; exact g3); rw [hbx] at h9; exact h9) (fun _ => .undef)⟩
end
end Go.Proofs.Ytfeedchjdnedjaa.Vv
