import Derived.Test.YtfeedchjdnedjaaVv4
set_option linter.unusedVariables false
set_option linter.unusedSimpArgs false
namespace Go.Proofs.Ytfeedchjdnedjaa.Vv
open Go Go.Proofs.Ytfeedchjdnedjaa.Ev
open Go.RowKit (Below)
section
variable {P : Program} {gv : Nat -> Value} {base : Nat} {o : OM} {m : MM} {L : List (Option Blk)} {w : World} {N : Nat}
theorem replicate_zero {z : Value} (l : Nat) (h : z.cells.size = 1) : (List.range (l * 1)).map (fun j => z.cells[j % z.cells.size]!) = List.replicate l (z.cells[0]!) := by
 rw [h, Nat.mul_one]
 apply List.ext_getElem
 ·simp
 ·intro j h1 h2; simp [Nat.mod_one]
theorem Qls {t : TypeId} {l c v : VV} {blk : Blk} {q : Prop} {l' c' : Value} (h : Qfe P N t l c = some (v, blk, q)) (hq : q) (hbl : base <= w.heap.size) (hl : R o base m l l') (hc : R o base m c c') :
 ∃ v' w', (Instr.makeSlice t l' c').run P w = .ok v' w' /\ Res base o m L w N (.new blk) v v' w' := by
 unfold Qfe at h
 split at h
 case h_2 => cases h
 rename_i e k l k2 c hu
 obtain ⟨rfl, _⟩ := hl.J9
 obtain ⟨rfl, _⟩ := hc.J9
 split at h
 case h_2 => cases h
 rename_i i hi
 split at h
 case h_2 => cases h
 rename_i z hz
 have hb0 := Qe h; clear h; obtain ⟨hcc, h⟩ := hb0
 simp only [Bool.and_eq_true] at hcc
 obtain ⟨⟨hg, hsz⟩, hsm⟩ := hcc
 have hsm := Qdw hsm
 have hsz := Nat.eq_of_beq_eq_true hsz
 have main : ∀ (cells : List VV), (0 <= l /\ c = l /\ (i.bytes * l.toNat) <= 281474976710656 /\ l < 1099511627776) -> cells = ((List.range (l.toNat * i.size)).map fun j => z.cells[j % z.cells.size]!).map .c ->
  ∃ v' w', (Instr.makeSlice t (.int k l) (.int k2 c)).run P w = .ok v' w' /\ Res base o m L w N (.new ⟨false, i.size, cells⟩) (.rf N 0 l.toNat) v' w' := by
  intro cells hq hcells
  obtain ⟨q1, rfl, q3, q4⟩ := hq
  obtain ⟨n, rfl⟩ := Int.eq_ofNat_of_zero_le q1
  simp only [Int.toNat_natCast] at q3 hcells ⊢
  generalize hzl : (List.range (n * i.size)).map (fun j => z.cells[j % z.cells.size]!) = zl at hcells
  have hzo : Qcf P e (n * i.size) = some zl := by
   unfold Qcf; rw [hi]; dsimp only; rw [hz]; dsimp only; rw [hg, cond_true, hzl]
  have hf : Qdm P w.heap.size t (.ofNat n) (.ofNat n) = some (.slice (some ⟨w.heap.size, 0, none⟩) n n, .cells ⟨zl⟩ e) := by
   unfold Qdm
   rw [hu]; dsimp only; rw [hi]; dsimp only
   have : (Nat.ble n n && Nat.ble (i.bytes * n) 281474976710656 && Nat.blt n 1099511627776) = true := by
    simp only [Bool.and_eq_true]
    exact ⟨⟨Nat.ble_eq_true_of_le (Nat.le_refl _), Nat.ble_eq_true_of_le q3⟩, Nat.ble_eq_true_of_le (by omega)⟩
   rw [this, cond_true, hzo]; rfl
  refine ⟨_, _, (Qfj hf k k2).1, .new (d := w.drawn) rfl (Holds.fresh (blk := ⟨false, i.size, cells⟩) hsm hbl (Qbt (hcells ▸ Qec (Qjb hzo)))) (fun o' _ ho => ?_)⟩
  have hlen : zl.length = n * i.size := by rw [<- hzl]; simp
  have := R.rf (o := o') (fb := base) (m := m) (k := N) (off := 0) (n := n) (cap := n) ho (Nat.le_refl _) (by show 0 + 0 + n * i.size <= zl.toArray.size; simp [hlen])
  simpa using this
 cases h1 : Nat.beq i.size 1 with
 | true =>
   rw [h1] at h
   simp only [cond_true, Option.some.injEq, Prod.mk.injEq] at h
   obtain ⟨rfl, rfl, rfl⟩ := h
   have e1 : i.size = 1 := Nat.eq_of_beq_eq_true h1
   have := main _ hq rfl
   rw [e1, replicate_zero _ (by rw [hsz, e1])] at this
   rw [List.map_replicate] at this
   exact this
 | false =>
   rw [h1] at h
   simp only [cond_false, Option.some.injEq, Prod.mk.injEq] at h
   obtain ⟨rfl, rfl, rfl⟩ := h
   refine main _ hq ?_
   unfold zeroCells; rw [List.map_map]; rfl
def OptR (o : OM) (base : Nat) (m : MM) : Option VV -> Option Value -> Prop
 | none, none => True
 | some v, some v' => R o base m v v'
 | _, _ => False
theorem Qbi {x : Option VV} {x' : Option Value} {d n : Nat} {q : Prop} (h : vBnd x d = some (n, q)) (hq : q) (hx : OptR o base m x x') : bnd x' d = some n := by
 unfold vBnd at h
 split at h
 ·injection h with h; injection h with h1 h2; subst h1
  cases x' with
  | none => rfl
  | some v => exact hx.elim
 ·injection h with h; injection h with h1 h2; subst h1; subst h2
  cases x' with
  | none => exact hx.elim
  | some v' =>
    obtain ⟨rfl, _⟩ := R.J9 hx
    simp only [bnd]
    rw [if_pos hq]
 ·cases h
theorem T.take_drop {cells : List VV} {n l h s : Nat} {x' : Value} (hx : T m (.tr cells n) x') (h1 : l <= h) (h2 : h <= n) (h3 : h * s <= cells.length) :
 ∃ a c, x' = .slice a n c /\ h <= c /\ T m (.tr ((cells.drop (l * s)).take ((h - l) * s)) (h - l)) (.slice (if c = l then a else a.map (·.add (l * s))) (h - l) (c - l)) := by
 cases hx with
 | e =>
   refine ⟨_, _, rfl, by omega, ?_⟩
   rw [show h - l = 0 by omega, Nat.zero_sub]
   exact .e
 | @tr _ _ b off cap cs t fz hb hn hs hh =>
   refine ⟨_, _, rfl, by omega, ?_⟩
   by_cases e : cap = l
   ·rw [show h - l = 0 by omega, show cap - l = 0 by omega]
    exact .e
   ·rw [if_neg e]
    simp only [Option.map_some, Yi]
    have hls : l * s + (h - l) * s = h * s := by rw [<- Nat.add_mul]; congr 1; omega
    refine .tr hb (by omega) ?_ (fun j v v' a b => ?_)
    ·simp only [List.length_take, List.length_drop]; omega
    ·rw [List.getElem?_take] at a
     split at a
     ·rw [List.getElem?_drop] at a
      exact hh _ v v' a (by rw [<- b]; congr 1; omega)
     ·cases a
theorem Qhm {t e : TypeId} {s len l h : Nat} {lo hi : Option Value} {a : Addr} {w : World} (hu : P.underlying t = some (.array len e)) (hs : szOf P e = some s) (hb : (Instr.sliceBounds false len len lo hi none).run P w = .ok (l, h, len) w) :
 (Instr.sliceAt t (.pointer (some a)) lo hi none).run P w = .ok (.slice (some (if len = l then a else a.add (l * s))) (h - l) (len - l)) w := by
 unfold Instr.sliceAt
 rw [Sem.run_bind, Qh hu]
 simp only [Result.andThen_ok]
 show Sem.run P (Instr.sliceBounds false len len lo hi none >>= _) w = _
 rw [Sem.run_bind, hb]
 simp only [Result.andThen_ok]
 rw [Sem.run_bind, Xn hs]
 simp only [Result.andThen_ok, Sem.run_pure]
theorem Qnk {t : TypeId} {x v : VV} {lo hi : Option VV} {q : Prop} {x' : Value} {lo' hi' : Option Value} (h : Quc P L t x lo hi = some (v, q)) (hq : q) (hO : Own gv base o m L w) (hx : R o base m x x')
 (hlo : OptR o base m lo lo') (hhi : OptR o base m hi hi') :
 ∃ v', (Instr.sliceAt t x' lo' hi' none).run P w = .ok v' w /\ R o base m v v' := by
 unfold Quc at h
 split at h
 case h_4 => cases h
 case h_3 len e hu =>
  split at h
  ·rename_i s cells off hs
   split at h
   case h_2 => cases h
   rename_i l p hh q' hbl hbh
   injection h with h; injection h with e1 e2; subst e1; subst e2
   obtain ⟨q1, q2, q3, q4, q5⟩ := hq
   cases hx with
   | t hx =>
     cases hx with
     | @tp _ b roff _ cs ty fz hb hs' hcells =>
       refine ⟨_, Qhm hu hs (Y2 false (Qbi hbl q1 hlo) (Qbi hbh q2 hhi) (rfl : bnd none len = some len) q3 (.inl q4) (Nat.le_refl _) (fun h => by cases h) w), ?_⟩
       by_cases e0 : len = l
       ·rw [if_pos e0, show hh - l = 0 by omega, show len - l = 0 by omega]
        exact .t .e
       ·rw [if_neg e0, Yi]
        have hls : l * s + (hh - l) * s = hh * s := by rw [<- Nat.add_mul]; congr 1; omega
        refine .t (.tr (off := roff + off + l * s) hb (by omega) ?_ (fun j v v' a b => ?_))
        ·simp only [List.length_take, List.length_drop]; omega
        ·rw [List.getElem?_take] at a
         split at a
         ·rw [List.getElem?_drop] at a
          exact hcells _ v v' a (by rw [<- b]; congr 1; omega)
         ·cases a
  ·rename_i s k off hs
   split at h
   case h_2 => cases h
   rename_i l p hh q' blk hbl hbh hblk
   have hb0 := Qe h; clear h; obtain ⟨hbs, h⟩ := hb0
   have hbs := Nat.eq_of_beq_eq_true hbs
   injection h with h; injection h with e1 e2; subst e1; subst e2
   obtain ⟨q1, q2, q3, q4, q5⟩ := hq
   cases hx with
   | t hx => cases hx
   | @pt _ _ oi ho =>
     have hrun := Qhm (a := ⟨oi.b, oi.off + off, none⟩) hu hs (Y2 false (Qbi hbl q1 hlo) (Qbi hbh q2 hhi) (rfl : bnd none len = some len) q3 (.inl q4) (Nat.le_refl _) (fun h => by cases h) w)
     refine ⟨_, hrun, ?_⟩
     obtain ⟨c, ty, hc, htot, hzz, hat⟩ := hO.row ho (Qqs hblk)
     have q6 : oi.sz = s := by rw [hzz (Yb hblk).2.2, hbs]
     subst q6
     have hat1 := hat.1
     by_cases e0 : len = l
     ·have e1 : hh - l = 0 := by omega
      rw [if_pos e0, e1, show len - l = 0 by omega]
      exact .rf0
     ·rw [if_neg e0, Yi]
      have := R.rf (o := o) (fb := base) (m := m) (k := k) (off := off + l * oi.sz) (n := hh - l) (cap := len - l) ho (by omega) (by
       have : (len - l) * oi.sz + l * oi.sz = len * oi.sz := by rw [<- Nat.add_mul]; congr 1; omega
       omega)
      rw [<- Nat.add_assoc] at this
      exact this
  ·cases h
 case h_2 hu =>
  split at h
  case h_2 => cases h
  rename_i s
  split at h
  case h_2 => cases h
  rename_i l p hh q' hbl hbh
  injection h with h; injection h with e1 e2; subst e1; subst e2
  obtain ⟨q1, q2, q3, q4⟩ := hq
  obtain ⟨rfl, _⟩ := hx.J9
  refine ⟨.string (s.extract l hh), ?_, .t (.c rfl)⟩
  unfold Instr.sliceAt
  rw [Sem.run_bind, Qh hu]
  simp only [Result.andThen_ok]
  unfold Instr.slice
  rw [Sem.run_bind, Qh hu]
  simp only [Result.andThen_ok]
  rw [if_neg (by simp), Sem.run_bind, Y2 false (Qbi hbl q1 hlo) (Qbi hbh q2 hhi) (rfl : bnd none s.size = some s.size) q3 (.inl q4) (Nat.le_refl _) (fun h => by cases h)]
  rfl
 rename_i e hu
 split at h
 ·rename_i s cells n hs
  split at h
  case h_2 => cases h
  rename_i l p hh q' hbl hbh
  injection h with h; injection h with e1 e2; subst e1; subst e2
  obtain ⟨q1, q2, q3, q4, q5⟩ := hq
  cases hx with
  | t hx =>
    obtain ⟨a, c, rfl, hc, ht⟩ := hx.take_drop (l := l) (s := s) q3 q4 q5
    exact ⟨_, Qb6 hu hs (Y2 true (Qbi hbl q1 hlo) (Qbi hbh q2 hhi) (rfl : bnd none c = some c) q3 (.inl hc) (Nat.le_refl _) (fun h => by cases h)) w, .t ht⟩
 ·rename_i s cells n hs
  split at h
  case h_2 => cases h
  rename_i l p hh q' hbl hbh
  injection h with h; injection h with e1 e2; subst e1; subst e2
  obtain ⟨q1, q2, q3, q4, q5⟩ := hq
  cases hx with
  | t hx => cases hx
  | fr hx =>
    obtain ⟨a, c, rfl, hc, ht⟩ := hx.take_drop (l := l) (s := s) q3 q4 q5
    exact ⟨_, Qb6 hu hs (Y2 true (Qbi hbl q1 hlo) (Qbi hbh q2 hhi) (rfl : bnd none c = some c) q3 (.inl hc) (Nat.le_refl _) (fun h => by cases h)) w, .fr ht⟩
 ·rename_i s k off n hs
  split at h
  case h_2 => cases h
  rename_i l p hh q' blk hbl hbh hblk
  have hb0 := Qe h; clear h; obtain ⟨hbs, h⟩ := hb0
  have hbs := Nat.eq_of_beq_eq_true hbs
  injection h with h; injection h with e1 e2; subst e1; subst e2
  obtain ⟨q1, q2, q3, q4⟩ := hq
  cases hx with
  | t hx => cases hx
  | @rf _ _ _ cap oi ho hn hr =>
    have hrun := Qb6 (a := some ⟨oi.b, oi.off + off, none⟩) hu hs (Y2 true (Qbi hbl q1 hlo) (Qbi hbh q2 hhi) (rfl : bnd none cap = some cap) q3 (.inl (by omega)) (Nat.le_refl _) (fun h => by cases h)) w
    refine ⟨_, hrun, ?_⟩
    obtain ⟨_, _, _, _, hzz, _⟩ := hO.row ho (Qqs hblk)
    have q5 : oi.sz = s := by rw [hzz (Yb hblk).2.2, hbs]
    subst q5
    by_cases e : cap = l
    ·have e0 : hh - l = 0 := by omega
     rw [if_pos e, e0, show cap - l = 0 by omega]
     exact .rf0
    ·rw [if_neg e]
     simp only [Option.map_some, Yi]
     have := R.rf (o := o) (fb := base) (m := m) (k := k) (off := off + l * oi.sz) (n := hh - l) (cap := cap - l) ho (by omega) (by
      have : (cap - l) * oi.sz + l * oi.sz = cap * oi.sz := by rw [<- Nat.add_mul]; congr 1; omega
      omega)
     rw [<- Nat.add_assoc] at this
     exact this
  | @rf0 _ _ a =>
    have hrun := Qb6 (a := a) hu hs (Y2 true (Qbi hbl q1 hlo) (Qbi hbh q2 hhi) (rfl : bnd none 0 = some 0) q3 (.inl (by omega)) (Nat.le_refl _) (fun h => by cases h)) w
    refine ⟨_, hrun, ?_⟩
    rw [show hh - l = 0 by omega, Nat.zero_sub]
    exact .rf0
 ·cases h
theorem Qrf {a : Ans} {t : TypeId} {x v : VV} {lo hi : Option VV} {q : Prop} {x' : Value} {lo' hi' : Option Value} (h : Qoo P L a t x lo hi = some (v, q)) (hq : q) (hO : Own gv base o m L w) (hx : R o base m x x')
 (hlo : OptR o base m lo lo') (hhi : OptR o base m hi hi') :
 ∃ v', (Instr.sliceAt t x' lo' hi' none).run P w = .ok v' w /\ R o base m v v' := by
 unfold Qoo at h
 split at h
 ·rename_i v0 p v1 e1
  injection h with h; injection h with h1 h2; subst h1; subst h2
  obtain ⟨v', h1, h2⟩ := Qnk e1 hq.1 hO hx hlo hhi
  exact ⟨v', h1, by rw [<- hq.2]; exact h2⟩
 ·exact Qnk h hq hO hx hlo hhi
end
end Go.Proofs.Ytfeedchjdnedjaa.Vv
