import Derived.Test.YtfeedchjdnedjaaVv5
set_option linter.unusedVariables false
set_option linter.unusedSimpArgs false
namespace Go.Proofs.Ytfeedchjdnedjaa.Vv
open Go Go.Proofs.Ytfeedchjdnedjaa.Ev
open Go.RowKit (Below)
section
variable {P : Program} {gv : Nat -> Value} {base : Nat} {o : OM} {m : MM} {L : List (Option Blk)} {w : World} {N : Nat}
theorem Qll {s : TypeId} {x v : VV} {f : Nat} {x' : Value} (h : Qha P s x f = some v) (hx : R o base m x x') : ∃ v', (Instr.fieldAt s x' f).run P w = .ok v' w /\ R o base m v v' := by
 unfold Qha at h
 split at h
 ·rename_i fo k off hfo
  injection h with h; subst h
  cases hx with
  | t hx => cases hx
  | @pt _ _ oi ho =>
    refine ⟨.pointer (some ⟨oi.b, oi.off + off + fo, none⟩), (Qdi (f := f) ?_ w).1, ?_⟩
    ·unfold Qdo; rw [hfo]
    ·rw [Nat.add_assoc]; exact .pt ho
 ·rename_i fo cells off hfo
  injection h with h; subst h
  cases hx with
  | t hx =>
    cases hx with
    | @tp _ b d _ cs ty fz hb hs hh =>
      refine ⟨.pointer (some ⟨b, d + off + fo, none⟩), (Qdi (f := f) ?_ w).1, ?_⟩
      ·unfold Qdo; rw [hfo]
      ·rw [Nat.add_assoc]; exact .t (.tp hb hs hh)
 ·cases h
theorem Qp2 {off : Nat} {n : Option Nat} {cs : List VV} {l' : List Value} {v : VV} (h : Qvb off n cs = some v) (hc : RL o base m cs l') : ∃ v', Qod off n l' = some v' /\ R o base m v v' := by
 have hat := Qbt hc
 unfold Qvb at h
 unfold Qod
 split at h
 ·split at h
  case h_2 => cases h
  rename_i l hl
  injection h with h; subst h
  obtain ⟨l2, e, r⟩ := hat.take hl
  rw [Nat.zero_add] at e
  dsimp only
  rw [show (⟨l'⟩ : Array Value).toList = l' from rfl] at e
  rw [e]
  exact ⟨_, rfl, R.Qd4 (cs := ⟨l2⟩) r⟩
 ·obtain ⟨v', e, r⟩ := hat.get h
  rw [Nat.zero_add] at e
  exact ⟨v', e, r⟩
theorem Qf1 {cs : List VV} {x' : Value} (h : R o base m (.ag cs) x') : ∃ c : Array Value, x' = .agg c /\ RL o base m cs c.toList := by
 cases h with
 | t h =>
   cases h with
   | ag hs hh => exact ⟨_, rfl, by simpa using hs, fun j v v' a b => .t (hh j v v' a (by simpa using b))⟩
 | ag hs hh => exact ⟨_, rfl, by simpa using hs, fun j v v' a b => hh j v v' a (by simpa using b)⟩
theorem Qm1 {cs : List VV} {x' : Value} (h : R o base m (.tu cs) x') : ∃ c : Array Value, x' = .tuple c /\ RL o base m cs c.toList := by
 cases h with
 | t h =>
   cases h with
   | tu hs hh => exact ⟨_, rfl, by simpa using hs, fun j v v' a b => .t (hh j v v' a (by simpa using b))⟩
 | tu hs hh => exact ⟨_, rfl, by simpa using hs, fun j v v' a b => hh j v v' a (by simpa using b)⟩
theorem Qtt {t : TypeId} {x v : VV} {f : Nat} {x' : Value} (h : Qtu P t x f = some v) (hx : R o base m x x') : ∃ v', (Instr.field t x' f).run P w = .ok v' w /\ R o base m v v' := by
 unfold Qtu at h
 split at h
 ·rename_i off n cs hi
  obtain ⟨c, rfl, hc⟩ := Qf1 hx
  obtain ⟨v', e, r⟩ := Qp2 h hc
  refine ⟨v', Qj5 (f := f) ?_ w, r⟩
  unfold Qoy
  rw [hi]
  exact e
 ·cases h
theorem Qgq {t : TypeId} {x i v : VV} {q : Prop} {x' i' : Value} (h : Qhb P t x i = some (v, q)) (hq : q) (hx : R o base m x x') (hi : R o base m i i') : ∃ v', (Instr.indexAt t x' i').run P w = .ok v' w /\ R o base m v v' := by
 have tree : ∀ {m' : MM} {cells : List VV} {n s : Nat} {k : IntKind} {j : Int}, Qgr P t = some (s, none) -> m'.Le m -> T m' (.tr cells n) x' -> 0 <= j /\ j < n -> ∃ v', (Instr.indexAt t x' (.int k j)).run P w = .ok v' w /\ R o base m (.tp cells (j.toNat * s)) v' := by
  intro m' cells n s k j he hm hx hq
  obtain ⟨p, rfl⟩ := Int.eq_ofNat_of_zero_le hq.1
  cases hx with
  | e => have := hq.2; omega
  | @tr _ _ b off cap cs ty fz hb hn hs hh =>
    refine ⟨.pointer (some ⟨b, off + p * s, none⟩), Qa2 (k := k) ?_ w, .t (.tp (hm _ _ hb) hs (fun j v v' a b => (hh j v v' a b).mono hm))⟩
    unfold Qbp
    rw [he]
    have : Nat.blt p n = true := Nat.ble_eq_true_of_le (by have := hq.2; omega)
    show (bif Nat.blt p n then _ else _) = _
    rw [this]; rfl
 unfold Qhb at h
 split at h
 ·rename_i s cells n k j he
  obtain ⟨rfl, _⟩ := hi.J9
  injection h with h; injection h with h1 h2; subst h1; subst h2
  cases hx with
  | t hx => exact tree he (.refl m) hx hq
 ·rename_i s cells n k j he
  obtain ⟨rfl, _⟩ := hi.J9
  injection h with h; injection h with h1 h2; subst h1; subst h2
  cases hx with
  | t hx => cases hx
  | fr hx => exact tree he (MM.Qjk _ _) hx hq
 ·rename_i s k off n kk j he
  obtain ⟨rfl, _⟩ := hi.J9
  injection h with h; injection h with h1 h2; subst h1; subst h2
  obtain ⟨p, rfl⟩ := Int.eq_ofNat_of_zero_le hq.1
  cases hx with
  | t hx => cases hx
  | @rf _ _ _ cap oi ho hn hr =>
    refine ⟨.pointer (some ⟨oi.b, oi.off + off + p * s, none⟩), Qa2 (k := kk) ?_ w, ?_⟩
    ·unfold Qbp
     rw [he]
     have : Nat.blt p n = true := Nat.ble_eq_true_of_le (by have := hq.2; omega)
     show (bif Nat.blt p n then _ else _) = _
     rw [this]; rfl
    ·rw [Nat.add_assoc]; exact .pt ho
  | rf0 => have := hq.2; omega
 ·rename_i s NN k off kk j he
  obtain ⟨rfl, _⟩ := hi.J9
  injection h with h; injection h with h1 h2; subst h1; subst h2
  obtain ⟨p, rfl⟩ := Int.eq_ofNat_of_zero_le hq.1
  cases hx with
  | t hx => cases hx
  | @pt _ _ oi ho =>
    refine ⟨.pointer (some ⟨oi.b, oi.off + off + p * s, none⟩), Qa2 (k := kk) ?_ w, ?_⟩
    ·unfold Qbp
     rw [he]
     have : Nat.blt p NN = true := Nat.ble_eq_true_of_le (by have := hq.2; omega)
     show (bif Nat.blt p NN then _ else _) = _
     rw [this]; rfl
    ·rw [Nat.add_assoc]; exact .pt ho
 ·rename_i s NN cells off kk j he
  obtain ⟨rfl, _⟩ := hi.J9
  injection h with h; injection h with h1 h2; subst h1; subst h2
  obtain ⟨p, rfl⟩ := Int.eq_ofNat_of_zero_le hq.1
  cases hx with
  | t hx =>
    cases hx with
    | @tp _ b ofb o cs t fz hb hs hh =>
      refine ⟨.pointer (some ⟨b, ofb + off + p * s, none⟩), Qa2 (k := kk) ?_ w, ?_⟩
      ·unfold Qbp
       rw [he]
       have : Nat.blt p NN = true := Nat.ble_eq_true_of_le (by have := hq.2; omega)
       show (bif Nat.blt p NN then _ else _) = _
       rw [this]; rfl
      ·rw [Nat.add_assoc]; exact .t (.tp hb hs hh)
 ·cases h
theorem Qjm {a : Ans} {t : TypeId} {x i v : VV} {q : Prop} {x' i' : Value} (h : Qfv P a t x i = some (v, q)) (hq : q) (hx : R o base m x x') (hi : R o base m i i') : ∃ v', (Instr.indexAt t x' i').run P w = .ok v' w /\ R o base m v v' := by
 unfold Qfv at h
 split at h
 ·rename_i v0 p v1 e1
  injection h with h; injection h with h1 h2; subst h1; subst h2
  obtain ⟨v', h1, h2⟩ := Qgq (w := w) e1 hq.1 hx hi
  exact ⟨v', h1, by rw [<- hq.2]; exact h2⟩
 ·exact Qgq h hq hx hi
theorem Qtv {a : Ans} {t : TypeId} {x i v : VV} {q : Prop} {x' i' : Value} (h : Qtw P a t x i = some (v, q)) (hq : q) (hx : R o base m x x') (hi : R o base m i i') : ∃ v', (Instr.index t x' i').run P w = .ok v' w /\ R o base m v v' := by
 unfold Qtw at h
 split at h
 ·rename_i NN s n cs kk j vv he
  obtain ⟨rfl, _⟩ := hi.J9
  injection h with h; injection h with h1 h2; subst h1; subst h2
  obtain ⟨q1, q2, q3⟩ := hq
  obtain ⟨p, rfl⟩ := Int.eq_ofNat_of_zero_le q1
  obtain ⟨c, rfl, hc⟩ := Qf1 hx
  obtain ⟨v', e, r⟩ := Qp2 q3 hc
  refine ⟨v', Qj6 (k := kk) ?_ w, r⟩
  unfold Qoz
  rw [he]
  have : Nat.blt p NN = true := Nat.ble_eq_true_of_le (by omega)
  show (bif Nat.blt p NN then _ else _) = _
  rw [this]; exact e
 ·cases h
theorem Qq9 {t : TypeId} {s : ByteArray} {i v : VV} {q : Prop} {i' : Value} (h : Qoe P t s i = some (v, q)) (hq : q) (hi : R o base m i i') : ∃ v', (Instr.index t (.string s) i').run P w = .ok v' w /\ R o base m v v' := by
 unfold Qoe at h
 split at h
 ·rename_i k j hu
  injection h with h; injection h with h1 h2; subst h1; subst h2
  obtain ⟨rfl, _⟩ := hi.J9
  refine ⟨.int .u8 (bat s j), ?_, .t (.c rfl)⟩
  have hlt : j.toNat < s.size := by omega
  have e : s[j.toNat]? = some s[j.toNat] := by simp [hlt]
  unfold Instr.index
  rw [Sem.run_bind]
  show Result.andThen (.ok (k, j) w) _ = _
  simp only [Result.andThen_ok]
  rw [Sem.run_bind, Qh hu]
  simp only [Result.andThen_ok]
  rw [if_pos hq.1, e]
  unfold bat
  rw [e]; rfl
 ·cases h
theorem Qof {x v : VV} {i : Nat} {x' : Value} (h : Qlm x i = some v) (hx : R o base m x x') : ∃ v', (Instr.extract x' i).run P w = .ok v' w /\ R o base m v v' := by
 unfold Qlm at h
 split at h
 ·obtain ⟨c, rfl, hc⟩ := Qm1 hx
  obtain ⟨v', e, r⟩ := (Qbt hc).get h
  rw [Nat.zero_add] at e
  refine ⟨v', Qhh ?_ w, r⟩
  exact e
 ·cases h
theorem Qxv {t ty : TypeId} {x v : VV} {x' : Value} (h : vLen P t x = some v) (hx : R o base m x x') : ∃ v', (Builtin.len_ #[t] ty #[x']).run P w = .ok v' w /\ R o base m v v' := by
 unfold vLen at h
 split at h
 ·rename_i hu
  injection h with h; subst h
  cases hx with
  | t hx => cases hx <;> exact ⟨_, by simp [Builtin.len_, run_underlying hu], .t (.c rfl)⟩
 ·rename_i hu
  injection h with h; subst h
  cases hx with
  | t hx => cases hx
  | fr hx => cases hx <;> exact ⟨_, by simp [Builtin.len_, run_underlying hu], .t (.c rfl)⟩
 ·rename_i hu
  injection h with h; subst h
  cases hx with
  | t hx => cases hx
  | rf => exact ⟨_, by simp [Builtin.len_, run_underlying hu], .t (.c rfl)⟩
  | rf0 => exact ⟨_, by simp [Builtin.len_, run_underlying hu], .t (.c rfl)⟩
 ·rename_i hu
  injection h with h; subst h
  obtain ⟨rfl, _⟩ := hx.J9
  exact ⟨_, by simp [Builtin.len_, run_underlying hu], .t (.c rfl)⟩
 ·rename_i hu
  injection h with h; subst h
  cases hx with
  | t hx => cases hx; exact ⟨_, by simp [Builtin.len_, run_underlying hu], .t (.c rfl)⟩
 ·rename_i hu
  injection h with h; subst h
  obtain ⟨rfl, _⟩ := hx.J9
  exact ⟨_, by simp [Builtin.len_, run_underlying hu], .t (.c rfl)⟩
 ·rename_i hu
  injection h with h; subst h
  exact ⟨_, by simp [Builtin.len_, run_underlying hu], .t (.c rfl)⟩
 ·cases h
theorem Qp3 {f : Int -> Int -> Int} {g : Value -> Value -> Sem Value} (hfg : ∀ k x k' y, g (.int k x) (.int k' y) = Pure.pure (.int k (f x y))) (k : IntKind) : ∀ (l : List VV) (l' : List Value) (x : Int) (v : VV), foldI f k x l = some v -> RL o base m l l' ->
 ∃ v', (l'.foldlM g (.int k x)).run P w = .ok v' w /\ R o base m v v'
 | [], l', x, v, h, hl => by
   obtain rfl : l' = [] := by have := hl.1; simpa using this.symm
   simp only [foldI, Option.some.injEq] at h; subst h
   exact ⟨_, rfl, .t (.c rfl)⟩
 | a :: l, [], x, v, h, hl => by have := hl.1; simp at this
 | a :: l, b :: l', x, v, h, hl => by
   have hl2 := hl.tail; clear hl; obtain ⟨ha, hl⟩ := hl2
   cases a with
   | c a =>
     cases a with
     | int k2 y =>
       obtain ⟨rfl, _⟩ := ha.J9
       simp only [foldI] at h
       obtain ⟨v', e, r⟩ := Qp3 hfg k l l' _ v h hl
       exact ⟨v', by rw [List.foldlM_cons, hfg, pure_bind]; exact e, r⟩
     | _ => simp [foldI] at h
   | _ => simp [foldI] at h
theorem Qm7 {f : Int -> Int -> Int} {g : Value -> Value -> Sem Value} (hfg : ∀ k x k' y, g (.int k x) (.int k' y) = Pure.pure (.int k (f x y))) {l : List VV} {l' : List Value} {v : VV} {why : String} (h : Qp4 f l = some v) (hl : RL o base m l l') :
 ∃ v', (match l' with | [] => Go.stuck why | x :: rest => rest.foldlM g x : Sem Value).run P w = .ok v' w /\ R o base m v v' := by
 unfold Qp4 at h
 split at h
 ·cases l' with
  | nil => have := hl.1; simp at this
  | cons b l' =>
    have hl2 := hl.tail; clear hl; obtain ⟨ha, hl⟩ := hl2
    obtain ⟨rfl, _⟩ := ha.J9
    exact Qp3 hfg _ _ _ _ _ h hl
 ·cases h
theorem src_ok {x : VV} {xs : List VV} {n s : Nat} {x' : Value} (h : Qxw L x = some (xs, n)) (hlen : xs.length = n * s) (hO : Own gv base o m L w) (hM : Yo m w) (hx : R o base m x x') :
 ∃ A C, x' = .slice A n C /\ (n ≠ 0 -> ∃ l', (∀ d, (Builtin.firstCells s n x').run P { w with drawn := d } = .ok ⟨l'⟩ { w with drawn := d }) /\ RL o base m xs l') := by
 have tree : ∀ {m' : MM} {cells : List VV}, cells.length = n * s -> m'.Le m -> T m' (.tr cells n) x' -> ∃ A C, x' = .slice A n C /\ (n ≠ 0 -> ∃ l', (∀ d, (Builtin.firstCells s n x').run P { w with drawn := d } = .ok ⟨l'⟩ { w with drawn := d }) /\ RL o base m cells l') := by
  intro m' cells hlen hm hx
  cases hx with
  | e => exact ⟨_, _, rfl, fun h => absurd rfl h⟩
  | @tr _ _ b off cap cs ty fz hb hn hs hh =>
    refine ⟨_, _, rfl, fun _ => ?_⟩
    have hat : At o base m cells cs off := ⟨hs, fun j v v' a b => .t ((hh j v v' a b).mono hm)⟩
    have ht : Qbe (n * s) (Qbm 0 cells) = some cells := by
     show Qbe (n * s) cells = _
     rw [Qbd (by omega), List.take_of_length_le (by omega)]
    obtain ⟨l', e, r⟩ := hat.take ht
    refine ⟨l', fun d => (Qau (wA := { w with drawn := d }) (l := n) (c := cap) ?_).1, r⟩
    unfold Qcg
    show (match w.heap[b]? with | some (.cells c _ _) => Qbe (n * s) (Qbm off c.toList) | _ => none) = _
    rw [hM _ _ (hm _ _ hb)]
    exact e
 unfold Qxw at h
 split at h
 ·injection h with h; injection h with h1 h2; subst h1; subst h2
  obtain ⟨rfl, _⟩ := hx.J9
  exact ⟨_, _, rfl, fun h => absurd rfl h⟩
 ·injection h with h; injection h with h1 h2; subst h1; subst h2
  cases hx with
  | t hx => cases hx; exact ⟨_, _, rfl, fun h => absurd rfl h⟩
 ·injection h with h; injection h with h1 h2; subst h1; subst h2
  cases hx with
  | t hx => cases hx; exact ⟨_, _, rfl, fun h => absurd rfl h⟩
 ·injection h with h; injection h with h1 h2; subst h1; subst h2
  cases hx with
  | t hx => exact tree hlen (.refl m) hx
 ·injection h with h; injection h with h1 h2; subst h1; subst h2
  cases hx with
  | t hx => cases hx
  | fr hx => exact tree hlen (MM.Qjk _ _) hx
 ·rename_i k off n0
  split at h
  case h_2 => cases h
  rename_i blk hblk
  cases hbx : blk.bx with
  | true => rw [hbx] at h; cases h
  | false =>
    rw [hbx] at h
    simp only [cond_false] at h
    injection h with h; injection h with h1 h2; subst h1; subst h2
    cases hx with
    | t hx => cases hx
    | rf0 => exact ⟨_, _, rfl, fun h => absurd rfl h⟩
    | @rf _ _ _ cap oi ho hn hr =>
      obtain ⟨c, ty, hc, htot, hz, hat⟩ := hO.row ho hblk
      rw [if_neg (by rw [hbx]; simp)] at hat
      have hat' : At o base m blk.cells c oi.off := ⟨hat.1, fun j v v' a b => (hat.2 j v v' a b).mono (OM.Qhq o) (.refl m) (Nat.le_refl _)⟩
      refine ⟨_, _, rfl, fun _ => ?_⟩
      have ht : Qbe (n0 * s) (Qbm 0 blk.cells) = some blk.cells := by
       show Qbe (n0 * s) blk.cells = _
       rw [Qbd (by omega), List.take_of_length_le (by omega)]
      obtain ⟨l', e, r⟩ := hat'.take ht
      refine ⟨l', fun d => (Qau (wA := { w with drawn := d }) (l := n0) (c := cap) ?_).1, r⟩
      unfold Qcg
      show (match w.heap[oi.b]? with | some (.cells c _ _) => Qbe (n0 * s) (Qbm (oi.off + 0) c.toList) | _ => none) = _
      rw [hc]
      exact e
 ·cases h
theorem At.ext {cells xs : List VV} {c : Array Value} {d : Nat} {xs' : List Value} (h : At o base m cells c d) (hx : RL o base m xs xs') (hl : d + cells.length + xs.length <= c.size) :
 At o base m (cells ++ xs) ⟨c.toList.take (d + cells.length) ++ xs' ++ c.toList.drop (d + cells.length + xs'.length)⟩ d := by
 have hxl := hx.1
 refine ⟨by simp; omega, fun j v v' a b => ?_⟩
 have hb : (c.toList.take (d + cells.length) ++ xs' ++ c.toList.drop (d + cells.length + xs'.length))[d + j]? = some v' := by simpa using b
 by_cases c1 : j < cells.length
 ·rw [List.getElem?_append_left c1] at a
  rw [List.append_assoc, List.getElem?_append_left (by simp; omega), List.getElem?_take, if_pos (by omega)] at hb
  exact h.2 j v v' a (by simpa using hb)
 ·have hj : j < (cells ++ xs).length := (List.getElem?_eq_some_iff.1 a).1
  rw [List.length_append] at hj
  rw [List.getElem?_append_right (by omega)] at a
  rw [List.append_assoc, List.getElem?_append_right (by simp; omega), List.getElem?_append_left (by simp; omega)] at hb
  refine hx.2 _ v v' a ?_
  rw [<- hb]; congr 1; simp; omega
theorem Qln {cells xs : List VV} {l l' : List Value} (h : RL o base m cells l) (k : RL o base m xs l') (r : Array Value) : At o base m (cells ++ xs) ((⟨l⟩ : Array Value) ++ (⟨l'⟩ : Array Value) ++ r) 0 := by
 have e0 : (⟨l⟩ : Array Value) ++ (⟨l'⟩ : Array Value) ++ r = ⟨l ++ l' ++ r.toList⟩ := by apply Array.ext'; simp
 rw [e0]
 generalize r.toList = r
 have := h.app k
 refine ⟨by have := this.1; simp at this ⊢; omega, fun j v v' a b => this.2 j v v' a ?_⟩
 have hj : j < (cells ++ xs).length := (List.getElem?_eq_some_iff.1 a).1
 have hb : (l ++ l' ++ r)[j]? = some v' := by simpa using b
 rw [List.getElem?_append_left (by rw [<- this.1]; exact hj)] at hb
 exact hb
theorem Qm8 {cells xs : List VV} {l l' : List Value} {Q : VV -> Value -> Prop} (h1 : cells.length = l.length) (h2 : xs.length = l'.length) (q1 : ∀ (j : Nat) (v : VV) (v' : Value), cells[j]? = some v -> l[j]? = some v' -> Q v v')
 (q2 : ∀ (j : Nat) (v : VV) (v' : Value), xs[j]? = some v -> l'[j]? = some v' -> Q v v') (r : Array Value) : ∀ (j : Nat) (v : VV) (v' : Value), (cells ++ xs)[j]? = some v -> ((⟨l⟩ : Array Value) ++ (⟨l'⟩ : Array Value) ++ r)[0 + j]? = some v' -> Q v v' := by
 have e0 : (⟨l⟩ : Array Value) ++ (⟨l'⟩ : Array Value) ++ r = ⟨l ++ l' ++ r.toList⟩ := by apply Array.ext'; simp
 rw [e0]
 generalize r.toList = r
 intro j v v' a b
 rw [Nat.zero_add] at b
 have hb : (l ++ l' ++ r)[j]? = some v' := by simpa using b
 have hj : j < (cells ++ xs).length := (List.getElem?_eq_some_iff.1 a).1
 rw [List.length_append] at hj
 rw [List.append_assoc] at hb
 by_cases c : j < cells.length
 ·rw [List.getElem?_append_left c] at a
  rw [List.getElem?_append_left (by omega)] at hb
  exact q1 j v v' a hb
 ·rw [List.getElem?_append_right (by omega)] at a
  rw [List.getElem?_append_right (by omega), List.getElem?_append_left (by omega), <- h1] at hb
  exact q2 _ v v' a hb
theorem Qdy (old l' : List Value) {z : Value} {n0 n cap s : Nat} (h0 : old.length = n0 * s) (h1 : l'.length = n * s) (hz : z.cells.size = s) (hc : n0 + n <= cap) :
 ((⟨old⟩ : Array Value) ++ (⟨l'⟩ : Array Value) ++ Builtin.zeroCells z.cells (cap - (n0 + n))).size = cap * s := by
 rw [Array.size_append, Array.size_append, size_zeroCells, hz]
 show old.length + l'.length + _ = _
 rw [h0, h1, <- Nat.add_mul, <- Nat.add_mul]; congr 1; omega
theorem Qra {a : Ans} {t ty : TypeId} {s x v : VV} {e : Eff} {q : Prop} {s' x' : Value} (h : Qlo P L N a t s x = some (v, e, q)) (hq : q) (hbl : base <= w.heap.size) (hO : Own gv base o m L w) (hM : Yo m w) (hs : R o base m s s') (hx : R o base m x x') :
 ∃ v' w', (Builtin.append_ #[t, t] ty #[s', x']).run P w = .ok v' w' /\ Res base o m L w N e v v' w' := by
 unfold Qlo at h
 split at h
 case h_2 => cases h
 rename_i el hu
 split at h
 case h_2 => cases h
 rename_i i hi
 split at h
 case h_2 => cases h
 rename_i z xs n hz hsrc
 have hb0 := Qe h; clear h; obtain ⟨hc, h⟩ := hb0
 simp only [Bool.and_eq_true] at hc
 have hzs := Nat.eq_of_beq_eq_true hc.1.1
 have hsz : 0 < i.size := Z4 hc.1.2
 have hsm := Qdw hc.2
 split at h
 ·
  injection h with h; injection h with h1 h2; injection h2 with h2 h3; subst h1; subst h2; subst h3
  obtain ⟨q1, q2, q3, q4⟩ := hq
  obtain ⟨rfl, _⟩ := hs.J9
  obtain ⟨A, C, rfl, hsome⟩ := src_ok (P := P) hsrc q1 hO hM hx
  by_cases hn : n = 0
  ·subst hn
   refine ⟨_, w, Qak w hu hi (Nat.le_refl _), .newNo ?_ rfl .rf0⟩
   simpa using q1
  ·obtain ⟨l', hrun, hrl⟩ := hsome hn
   have hlen : l'.length = n * i.size := by rw [<- hrl.1, q1]
   have hg := Qbb (ty := ty) w hu hi hz (a := none) (sLen := 0) (sCap := 0) (olds := #[]) rfl (hrun _) (by omega) (by omega) (by simpa using q2)
   have hcap := grownCap_ge w (0 + n) 0 el
   generalize grownCap w (0 + n) 0 el = cap at hg hcap
   refine ⟨_, _, hg, ?_⟩
   have hsize := Qdy [] l' (n0 := 0) (s := i.size) (by simp) hlen hzs hcap
   refine Res.new (d := w.drawn + 1) rfl (Holds.fresh (blk := ⟨false, i.size, xs⟩) hsm hbl ?_) (fun o' _ ho => ?_)
   ·exact Qln (cells := []) (RL.nil (o := .no) (fb := base) (m := m)) (hrl.still q4) (Builtin.zeroCells z.cells (cap - (0 + n)))
   ·have := R.rf (o := o') (fb := base) (m := m) (k := N) (off := 0) (n := n) (cap := cap) ho (by omega) (Nat.le_of_eq (by simp only [Nat.zero_add] at hsize ⊢; exact hsize.symm))
    simpa using this
 ·
  split at h
  ·injection h with h; injection h with h1 h2; injection h2 with h2 h3; subst h1; subst h2; subst h3
   obtain ⟨q1, q2, q3, q4⟩ := hq
   have hs2 : ∃ ad, s' = .slice ad 0 0 := by
    cases hs with
    | t hs => cases hs; exact ⟨_, rfl⟩
   obtain ⟨ad, rfl⟩ := hs2
   obtain ⟨A, C, rfl, hsome⟩ := src_ok (P := P) hsrc q1 hO hM hx
   by_cases hn : n = 0
   ·subst hn
    have hxs : xs = [] := by simpa using q1
    subst hxs
    exact ⟨_, w, Qak w hu hi (Nat.le_refl _), .no (.fr .e)⟩
   ·obtain ⟨l', hrun, hrl⟩ := hsome hn
    have hlen : l'.length = n * i.size := by rw [<- hrl.1, q1]
    have hg := Qbb (ty := ty) w hu hi hz (a := ad) (sLen := 0) (sCap := 0) (olds := #[]) (by cases ad <;> simp [Builtin.firstCells, Go.loadCells, Go.loadCellsFrom] <;> rfl) (hrun _) (by omega) (by omega) (by simpa using q2)
    have hcap := grownCap_ge w (0 + n) 0 el
    generalize grownCap w (0 + n) 0 el = cap at hg hcap
    have hsize := Qdy [] l' (n0 := 0) (s := i.size) (by simp) hlen hzs hcap
    simp only [Nat.zero_add] at hg hcap hsize
    refine ⟨_, _, hg, .frNo (d := w.drawn + 1) (fun m' hle' hm' => .fr (.tr (fz := (0, 0)) (MM.Qch.2 ⟨hbl, hm', rfl⟩) hcap ?_ ?_))⟩
    ·rw [hsize, q1, Nat.zero_add]
     exact Nat.mul_le_mul_right _ hcap
    ·have hfg := Qm8 (cells := []) (xs := xs) (l := []) (l' := l') (Q := T (m'.fr base)) rfl (by rw [q1, hlen]) (fun j v v' a b => by simp at a) (fun j v v' a b => by
      have hcv := List.all_eq_true.1 q4 v (List.mem_of_getElem? a)
      have hr := hrl.2 j v v' a b
      cases v <;> first | (cases hcv; done) | skip
      obtain ⟨rfl, hg⟩ := hr.J9
      exact (T.c hg : T (m'.fr base) _ _)) (Builtin.zeroCells z.cells (cap - n))
     simpa using hfg
  ·injection h with h; injection h with h1 h2; injection h2 with h2 h3; subst h1; subst h2; subst h3
   obtain ⟨q1, q2, q3, q4⟩ := hq
   have hs2 : ∃ ad, s' = .slice ad 0 0 := by
    cases hs with
    | t hs => cases hs; exact ⟨_, rfl⟩
   obtain ⟨ad, rfl⟩ := hs2
   obtain ⟨A, C, rfl, hsome⟩ := src_ok (P := P) hsrc q1 hO hM hx
   by_cases hn : n = 0
   ·subst hn
    refine ⟨_, w, Qak w hu hi (Nat.le_refl _), .newNo ?_ rfl .rf0⟩
    simpa using q1
   ·obtain ⟨l', hrun, hrl⟩ := hsome hn
    have hlen : l'.length = n * i.size := by rw [<- hrl.1, q1]
    have hg := Qbb (ty := ty) w hu hi hz (a := ad) (sLen := 0) (sCap := 0) (olds := #[]) (by cases ad <;> simp [Builtin.firstCells, Go.loadCells, Go.loadCellsFrom] <;> rfl) (hrun _) (by omega) (by omega) (by simpa using q2)
    have hcap := grownCap_ge w (0 + n) 0 el
    generalize grownCap w (0 + n) 0 el = cap at hg hcap
    refine ⟨_, _, hg, ?_⟩
    have hsize := Qdy [] l' (n0 := 0) (s := i.size) (by simp) hlen hzs hcap
    refine Res.new (d := w.drawn + 1) rfl (Holds.fresh (blk := ⟨false, i.size, xs⟩) hsm hbl ?_) (fun o' _ ho => ?_)
    ·exact Qln (cells := []) (RL.nil (o := .no) (fb := base) (m := m)) (hrl.still q4) (Builtin.zeroCells z.cells (cap - (0 + n)))
    ·have := R.rf (o := o') (fb := base) (m := m) (k := N) (off := 0) (n := n) (cap := cap) ho (by omega) (Nat.le_of_eq (by simp only [Nat.zero_add] at hsize ⊢; exact hsize.symm))
     simpa using this
 ·
  rename_i k n0
  split at h
  case h_2 => cases h
  rename_i blk hblk
  have hb0 := Qe h; clear h; obtain ⟨hcb, h⟩ := hb0
  simp only [Bool.and_eq_true, Bool.not_eq_true'] at hcb
  obtain ⟨hbx, hbs⟩ := hcb
  have hbs := Nat.eq_of_beq_eq_true hbs
  injection h with h; injection h with h1 h2; injection h2 with h2 h3; subst h1; subst h2; subst h3
  obtain ⟨q1, q2, q3, q4, q5⟩ := hq
  obtain ⟨A, C, rfl, hsome⟩ := src_ok (P := P) hsrc q2 hO hM hx
  by_cases hn : n = 0
  ·subst hn
   have hxs : xs = [] := by simpa using q2
   subst hxs
   have hb' : ({ blk with cells := blk.cells ++ [] } : Blk) = blk := by simp
   rw [hb', Nat.add_zero]
   cases hs with
   | t hs => cases hs
   | rf ho hle hr => exact ⟨_, w, Qak w hu hi hle, .growNo (Yb hblk).1 hbx (.rf ho hle hr)⟩
   | rf0 => exact ⟨_, w, Qak w hu hi (Nat.le_refl _), .growNo (Yb hblk).1 hbx .rf0⟩
  ·obtain ⟨l', hrun, hrl⟩ := hsome hn
   have hlen : l'.length = n * i.size := by rw [<- hrl.1, q2]
   have grow : ∀ (a : Option Addr) (sCap : Nat) (old : List Value), (∀ d, (Builtin.firstCells i.size n0 (.slice a n0 sCap)).run P { w with drawn := d } = .ok ⟨old⟩ { w with drawn := d }) -> RL .no base m blk.cells old -> sCap < n0 + n ->
    ∃ v' w', (Builtin.append_ #[t, t] ty #[.slice a n0 sCap, .slice A n C]).run P w = .ok v' w' /\ Res base o m L w N (.grow k { blk with cells := blk.cells ++ xs }) (.rf k 0 (n0 + n)) v' w' := by
    intro a sCap old hold holdr hlt
    have holen : old.length = n0 * i.size := by rw [<- holdr.1, q1]
    have hg := Qbb (ty := ty) w hu hi hz (hold _) (hrun _) hlt (by omega) (by simpa using q3)
    have hcap := grownCap_ge w (n0 + n) sCap el
    generalize grownCap w (n0 + n) sCap el = cap at hg hcap
    refine ⟨_, _, hg, ?_⟩
    have hsize := Qdy old l' holen hlen hzs hcap
    refine Res.growNew (d := w.drawn + 1) ⟨_, (Yb hblk).1⟩ rfl hbx (Holds.fresh (blk := { blk with cells := blk.cells ++ xs }) (by rw [hbs]; exact hsm) hbl ?_) (fun o' ho => ?_)
    ·rw [hbx]; exact Qln holdr (hrl.still q5) (Builtin.zeroCells z.cells (cap - (n0 + n)))
    ·have := R.rf (o := o') (fb := base) (m := m) (k := k) (off := 0) (n := n0 + n) (cap := cap) ho hcap (Nat.le_of_eq (by simp only [Nat.zero_add]; show cap * blk.sz = _; rw [hbs]; exact hsize.symm))
     simpa using this
   cases hs with
   | t hs => cases hs
   | @rf0 _ _ a =>
     have hce : blk.cells = [] := by simpa using q1
     refine grow a 0 [] (fun d => ?_) (by rw [hce]; exact .nil) (by omega)
     cases a <;> simp [Builtin.firstCells, Go.loadCells, Go.loadCellsFrom]
   | @rf _ _ _ cap oi ho hle hr =>
     obtain ⟨c, ct, hc0, htot, hz0, hat⟩ := hO.row ho (Qqs hblk)
     rw [if_neg (by rw [hbx]; simp)] at hat
     have hzz : oi.sz = i.size := by rw [hz0 (Yb hblk).2.2, hbs]
     have hbase : base <= oi.b := by
      cases hO.at_ k _ blk ho (Yb hblk).1 with
      | row _ _ _ _ hh _ => exact hh (Yb hblk).2.2
      | it _ _ hh => exact hh
      | mp _ _ _ hh _ _ => exact hh (Yb hblk).2.2
     by_cases hin : n0 + n <= cap
     ·have hmul : (n0 + n) * i.size <= cap * i.size := Nat.mul_le_mul_right _ hin
      rw [Nat.add_mul] at hmul
      rw [hzz] at hr
      have hfit : oi.off + blk.cells.length + xs.length <= c.size := by rw [q1, q2, htot]; omega
      have hone := hrl.one (by
       rw [List.all_eq_true] at q5 ⊢
       intro v hv; have := q5 v hv; cases v <;> first | rfl | (cases this))
      have hst := run_storeCells_at P oi.b (oi.off + n0 * i.size) ct l' 0 c w hc0 (by simp only [Nat.add_zero]; rw [hlen]; rw [q1, q2] at hfit; exact hfit) (fun v hv => by simpa using (List.all_eq_true.1 hone) v hv)
      simp only [Nat.add_zero] at hst
      refine ⟨.slice (some ⟨oi.b, oi.off + 0, none⟩) (n0 + n) cap, _, ?_, Res.growIn (oi := oi) (ob := .cells ⟨c.toList.take (oi.off + blk.cells.length) ++ l' ++ c.toList.drop (oi.off + blk.cells.length + l'.length)⟩ ct) ho hc0 hbx (.row (c := ⟨c.toList.take (oi.off + blk.cells.length) ++ l' ++ c.toList.drop (oi.off + blk.cells.length + l'.length)⟩) rfl ?_ hz0 (Yb hblk).2.1 (fun _ => hbase) ?_) (fun o' ho' => ?_) ⟨blk, xs, (Yb hblk).1, rfl⟩⟩
      ·rw [Qft w hu hi hin, Yi, Sem.run_bind, hrun w.drawn]
       simp only [Result.andThen_ok]
       rw [Sem.run_bind]
       rw [show oi.off + 0 + n0 * i.size = oi.off + n0 * i.size by omega]
       show ((Sem.run P (Go.storeCells _ l') w).andThen _) = _
       rw [hst]
       simp only [Result.andThen_ok]
       rw [Qcw hc0, q1]; rfl
      ·have : l'.length = xs.length := hrl.1.symm
       simp only [List.size_toArray, List.length_append, List.length_take, List.length_drop, Array.length_toList]; omega
      ·rw [hbx]; exact hat.ext (hrl.still q5) hfit
      ·exact .rf ho' hin (by rw [hzz]; omega)
     ·have ht : Qbe (n0 * i.size) (Qbm 0 blk.cells) = some blk.cells := by
       show Qbe (n0 * i.size) blk.cells = _
       rw [Qbd (by omega), List.take_of_length_le (by omega)]
      obtain ⟨old, e, r⟩ := hat.take ht
      refine grow _ cap old (fun d => (Qau (wA := { w with drawn := d }) (l := n0) (c := cap) ?_).1) r (by omega)
      unfold Qcg
      show (match w.heap[oi.b]? with | some (.cells c _ _) => Qbe (n0 * i.size) (Qbm (oi.off + 0) c.toList) | _ => none) = _
      rw [hc0]
      exact e
 ·
  rename_i cells0 n0
  injection h with h; injection h with h1 h2; injection h2 with h2 h3; subst h1; subst h2; subst h3
  obtain ⟨q1, q2, q3, q4, q5, q6⟩ := hq
  obtain ⟨A, C, rfl, hsome⟩ := src_ok (P := P) hsrc q2 hO hM hx
  have wk : ∀ {m' : MM} {c : List VV} {k : Nat} {v' : Value}, T (m'.fr base) (.tr c k) v' -> R o base m' (match a with | .v _ => .tr c k | _ => .fr c k) v' := by
   intro m' c k v' h
   cases a <;> first | exact .fr h | exact .t (h.mono (MM.Qjk _ _))
  cases hs with
  | t hs => cases hs
  | fw hs hcc =>
    cases hs with
    | e => exact absurd q6 (Nat.lt_irrefl _)
    | @tr _ _ b off cap cs ty0 fz hb hle hsz hh =>
      obtain ⟨hb1, hb2, hb3⟩ := MM.Qch.1 hb
      obtain ⟨z0, _⟩ := hcc b off cap rfl (by omega)
      obtain rfl : cap = n0 := z0 rfl
      by_cases hn : n = 0
      ·subst hn
       have hxs : xs = [] := by simpa using q2
       subst hxs
       refine ⟨_, w, Qak w hu hi (Nat.le_refl _), .no ?_⟩
       rw [List.append_nil, Nat.add_zero]
       exact wk (.tr hb hle hsz hh)
      ·obtain ⟨l', hrun, hrl⟩ := hsome hn
       have hlen : l'.length = n * i.size := by rw [<- hrl.1, q2]
       have hoff : (Qbm off cs.toList).length = cs.size - off := by rw [Qa5]; simp
       have hold : Qbe (cap * i.size) (Qbm off cs.toList) = some ((Qbm off cs.toList).take (cap * i.size)) := Qbd (by rw [hoff]; omega)
       have holdn : ((Qbm off cs.toList).take (cap * i.size)).length = cap * i.size := by rw [List.length_take, hoff]; omega
       have holdg : ∀ (j : Nat) (v : VV) (v' : Value), cells0[j]? = some v -> ((Qbm off cs.toList).take (cap * i.size))[j]? = some v' -> T (m.fr base) v v' := by
        intro j v v' a b'
        rw [List.getElem?_take] at b'
        split at b'
        ·rw [Qa5, List.getElem?_drop] at b'
         exact hh j v v' a (by simpa using b')
        ·cases b'
       generalize (Qbm off cs.toList).take (cap * i.size) = old at hold holdn holdg
       have hro : ∀ d, (Builtin.firstCells i.size cap (.slice (some ⟨b, off, none⟩) cap cap)).run P { w with drawn := d } = .ok ⟨old⟩ { w with drawn := d } := fun d => (Qau (wA := { w with drawn := d }) (l := cap) (c := cap) (by
        unfold Qcg
        show (match w.heap[b]? with | some (.cells c _ _) => Qbe (cap * i.size) (Qbm off c.toList) | _ => none) = _
        rw [hM _ _ hb2]
        exact hold)).1
       have hg := Qbb (ty := ty) w hu hi hz (hro _) (hrun _) (by omega) (by omega) (by simpa using q3)
       have hcap := grownCap_ge w (cap + n) cap el
       generalize grownCap w (cap + n) cap el = cap2 at hg hcap
       refine ⟨_, _, hg, .frNo (d := w.drawn + 1) (fun m' hle' hm' => wk (.tr (fz := (0, 0)) (MM.Qch.2 ⟨hbl, hm', rfl⟩) hcap ?_ ?_))⟩
       ·rw [Qdy old l' holdn hlen hzs hcap, List.length_append, q1, q2, <- Nat.add_mul, Nat.zero_add]
        exact Nat.mul_le_mul_right _ hcap
       ·refine Qm8 (by rw [q1, holdn]) (by rw [q2, hlen]) (fun j v v' a b => (holdg j v v' a b).mono (MM.Qd3 hle' (Nat.le_refl _))) (fun j v v' a b => ?_) _
        have hcv := List.all_eq_true.1 q5 v (List.mem_of_getElem? a)
        have hr := hrl.2 j v v' a b
        cases v <;> first | (cases hcv; done) | skip
        obtain ⟨rfl, hg⟩ := hr.J9
        exact .c hg
 ·cases h
theorem Qvc {s : Nat} {x : VV} {xs : List VV} {n : Nat} {p : Prop} {x' : Value} (h : Qrb L s x = some (xs, n, p)) (hp : p) (hn0 : 0 < n) (hO : Own gv base o m L w) (hM : Yo m w) (hx : R o base m x x') :
 ∃ A C, x' = .slice A n C /\ ∀ k, k <= n -> ∃ l', Qcg (Qgo w) (k * s) A = some l' /\ RL o base m (xs.take (k * s)) l' := by
 have tree : ∀ {m' : MM} {cells : List VV}, n * s <= cells.length -> m'.Le m -> T m' (.tr cells n) x' -> ∃ A C, x' = .slice A n C /\ ∀ k, k <= n -> ∃ l', Qcg (Qgo w) (k * s) A = some l' /\ RL o base m ((cells.take (n * s)).take (k * s)) l' := by
  intro m' cells hlen hm hx
  cases hx with
  | e => exact absurd hn0 (Nat.lt_irrefl _)
  | @tr _ _ b off cap cs ty fz hb hn hs hh =>
    refine ⟨_, _, rfl, fun k hk => ?_⟩
    have hks : k * s <= n * s := Nat.mul_le_mul_right _ hk
    have hat : At o base m cells cs off := ⟨hs, fun j v v' a b => .t ((hh j v v' a b).mono hm)⟩
    have ht : Qbe (k * s) (Qbm 0 cells) = some (cells.take (k * s)) := Qbd (by show k * s <= cells.length; omega)
    obtain ⟨l', e, r⟩ := hat.take ht
    refine ⟨l', ?_, by rw [List.take_take, Nat.min_eq_left hks]; exact r⟩
    unfold Qcg
    show (match w.heap[b]? with | some (.cells c _ _) => Qbe (k * s) (Qbm off c.toList) | _ => none) = _
    rw [hM _ _ (hm _ _ hb)]
    exact e
 unfold Qrb at h
 split at h
 ·injection h with h; injection h with h1 h2; injection h2 with h2 h3; subst h1; subst h2; subst h3
  cases hx with
  | t hx => exact tree hp (.refl m) hx
 ·injection h with h; injection h with h1 h2; injection h2 with h2 h3; subst h1; subst h2; subst h3
  cases hx with
  | t hx => cases hx
  | fr hx => exact tree hp (MM.Qjk _ _) hx
 ·rename_i k0 off n0
  split at h
  case h_2 => cases h
  rename_i blk hblk
  cases hbx : blk.bx with
  | true => rw [hbx] at h; cases h
  | false =>
    rw [hbx] at h
    simp only [cond_false] at h
    injection h with h; injection h with h1 h2; injection h2 with h2 h3; subst h1; subst h2; subst h3
    cases hx with
    | t hx => cases hx
    | rf0 => exact absurd hn0 (Nat.lt_irrefl _)
    | @rf _ _ _ cap oi ho hn hr =>
      obtain ⟨c, ty, hc, htot, hz, hat⟩ := hO.row ho hblk
      rw [if_neg (by rw [hbx]; simp)] at hat
      have hat' : At o base m blk.cells c oi.off := ⟨hat.1, fun j v v' a b => (hat.2 j v v' a b).mono (OM.Qhq o) (.refl m) (Nat.le_refl _)⟩
      refine ⟨_, _, rfl, fun k hk => ?_⟩
      have hks : k * s <= n0 * s := Nat.mul_le_mul_right _ hk
      have ht : Qbe (k * s) (Qbm off blk.cells) = some ((blk.cells.drop off).take (k * s)) := by
       rw [Qa5]; exact Qbd (by rw [List.length_drop]; omega)
      obtain ⟨l', e, r⟩ := hat'.take ht
      refine ⟨l', ?_, by rw [List.take_take, Nat.min_eq_left hks]; exact r⟩
      unfold Qcg
      show (match w.heap[oi.b]? with | some (.cells c _ _) => Qbe (k * s) (Qbm (oi.off + off) c.toList) | _ => none) = _
      rw [hc]
      exact e
 ·cases h
theorem Qvd {t ty : TypeId} {d x v : VV} {e : Eff} {q : Prop} {d' x' : Value} (h : Qve P L t d x = some (v, e, q)) (hq : q) (hO : Own gv base o m L w) (hM : Yo m w) (hd : R o base m d d') (hx : R o base m x x') :
 ∃ v' w', (Builtin.copy_ #[t, t] ty #[d', x']).run P w = .ok v' w' /\ Res base o m L w N e v v' w' := by
 unfold Qve at h
 split at h
 case h_2 => cases h
 rename_i el hu
 split at h
 case h_2 => cases h
 rename_i s k off n hs
 split at h
 case h_2 => cases h
 rename_i blk xs n' p hblk hsrc
 have hb0 := Qe h; clear h; obtain ⟨hc, h⟩ := hb0
 simp only [Bool.and_eq_true, Bool.not_eq_true'] at hc
 obtain ⟨⟨hbx, hbs⟩, hs0⟩ := hc
 have hs0 : 0 < s := Z4 hs0
 injection h with h; injection h with h1 h2; injection h2 with h2 h3; subst h1; subst h2; subst h3
 obtain ⟨hp, hn, hn', hlen, hst⟩ := hq
 obtain ⟨A, C, rfl, hall⟩ := Qvc hsrc hp hn' hO hM hx
 obtain ⟨l', hfirst, hrl⟩ := hall (Nat.min n' n) (Nat.min_le_left _ _)
 have hmin : Nat.min n' n <= n := Nat.min_le_right _ _
 have hmin0 : 0 < Nat.min n' n := Nat.lt_min.2 ⟨hn', hn⟩
 have hst' : (xs.take (Nat.min n' n * s)).all VV.still = true := by
  rw [List.all_eq_true] at hst ⊢
  exact fun y hy => hst y (List.mem_of_mem_take hy)
 have hxl : (xs.take (Nat.min n' n * s)).length <= n * s := by
  rw [List.length_take]
  exact Nat.le_trans (Nat.min_le_left _ _) (Nat.mul_le_mul_right _ hmin)
 cases hd with
 | t hd => cases hd
 | rf0 => exact absurd hn (Nat.lt_irrefl _)
 | @rf _ _ _ cap oi ho hle hr =>
   obtain ⟨c, ct, hc0, htot, hz0, hat⟩ := hO.row ho (Qqs hblk)
   rw [if_neg (by rw [hbx]; simp)] at hat
   have hbase : base <= oi.b := by
    cases hO.at_ k _ blk ho (Yb hblk).1 with
    | row _ _ _ _ hh _ => exact hh (Yb hblk).2.2
    | it _ _ hh => exact hh
    | mp _ _ _ hh _ _ => exact hh (Yb hblk).2.2
   have hone := hrl.one (by
    rw [List.all_eq_true] at hst' ⊢
    intro y hy; have := hst' y hy; cases y <;> first | rfl | (cases this))
   have hne : l' ≠ [] := by
    have hfl : l'.length = Nat.min n' n * s := by
     unfold Qcg at hfirst
     split at hfirst
     ·rename_i hA
      exfalso
      cases hx with
      | t hx => cases hx with
        | e => exact absurd hn' (Nat.lt_irrefl _)
        | z => exact absurd hn' (Nat.lt_irrefl _)
        | c hg => simp [Qrb] at hsrc
        | any => simp [Qrb] at hsrc
      | fr hx => cases hx; exact absurd hn' (Nat.lt_irrefl _)
      | rf0 => simp only [Qrb] at hsrc; exact absurd hn' (Nat.lt_irrefl _)
      | fw hx _ => cases hx; exact absurd hn' (Nat.lt_irrefl _)
     ·split at hfirst
      case h_2 => cases hfirst
      exact (Qfc _ _ _ hfirst).2
     ·cases hfirst
    intro e
    rw [e] at hfl
    have : 0 < Nat.min n' n * s := Nat.mul_pos hmin0 hs0
    simp at hfl; omega
   obtain ⟨l, g1, g2, g3⟩ := hat.put (off := off) (hrl.still hst') (Nat.le_trans (Nat.add_le_add_left hxl off) hlen)
   have hf : fCopy P 0 (Qgo w) t (.slice (some ⟨oi.b, oi.off + off, none⟩) n cap) (.slice A n' C) = some (goInt (Nat.min n' n), .put oi.b (.cells ⟨l⟩ ct (0, 0))) := by
    unfold fCopy
    simp only [hu, hs, hfirst]
    have h0 : (Nat.ble 0 oi.b && l'.all (·.oneCell')) = true := by rw [hone]; simp
    rw [h0]
    simp only [cond_true]
    cases l' with
    | nil => exact absurd rfl hne
    | cons y ys => simp only [Qgo, hc0, g1]
   refine ⟨_, _, (Ql6 hf).1, .put ho hc0 (.row rfl (g2.trans htot) hz0 (Yb hblk).2.1 (fun _ => hbase) (by rw [hbx]; exact g3)) (fun _ => .t (.c rfl))⟩
end
end Go.Proofs.Ytfeedchjdnedjaa.Vv
namespace Go.Proofs.Ytfeedchjdnedjaa.Vv
open Go Go.Proofs.Ytfeedchjdnedjaa.Ev
def mkV (ag : Bool) (l : List Value) : Value := match ag with
 | true => .agg l.toArray
 | false => match l with
   | v :: _ => v
   | [] => undef
def EqT (P : Program) (d : Nat) (t : TypeId) (ks : List (Option KK)) : Prop := ∃ ag, Qaq P t = some ag /\ (ag = false -> ks.length = 1) /\ szOf P t = some ks.length /\
 ∀ (l r : List Value), l.map kdV = ks -> r.map kdV = ks -> ∀ w : World, (Op.equalIn d t (mkV ag l) (mkV ag r)).run P w = .ok (eqL l r) w
theorem Qm9 : ∀ (m : Nat) (l r : List Value), l.length = r.length -> eqL l r = (eqL (l.take m) (r.take m) && eqL (l.drop m) (r.drop m))
 | 0, l, r, _ => by simp [eqL]
 | m + 1, [], r, h => by
   obtain rfl : r = [] := by cases r with | nil => rfl | cons _ _ => cases h
   rfl
 | m + 1, a :: l, [], h => by cases h
 | m + 1, a :: l, b :: r, h => by
   have := Qm9 m l r (by simpa using h)
   show (eqS a b && eqL l r) = ((eqS a b && eqL (l.take m) (r.take m)) && eqL (l.drop m) (r.drop m))
   rw [this, Bool.and_assoc]
theorem Qp5 {P : Program} {t : TypeId} {ag : Bool} {m off : Nat} {l : List Value} (h1 : Qaq P t = some ag) (h2 : ag = false -> m = 1) (h3 : szOf P t = some m) (hl : off + m <= l.length) (w : World) :
 (Go.part t l.toArray off).run P w = .ok (mkV ag ((l.drop off).take m)) w := by
 unfold Go.part
 rw [Sem.run_bind, Qe3 h1]
 cases ag with
 | true =>
   show (do let n <- Go.sizeOf t; Pure.pure (Value.agg (Array.extract _ off (off + n))) : Sem Value).run P w = _
   rw [Sem.run_bind, Xn h3]
   show Result.ok (Value.agg _) w = _
   unfold mkV
   rw [List.extract_toArray]
   simp [List.extract_eq_take_drop]
 | false =>
   obtain rfl := h2 rfl
   have e : l.toArray[off]? = some (l[off]'(by omega)) := by simp [show off < l.length by omega]
   show (match l.toArray[off]? with | some v => Pure.pure v | none => Go.stuck _ : Sem Value).run P w = _
   rw [e, List.drop_eq_getElem_cons (by omega : off < l.length)]
   rfl
theorem kd1 {l : List Value} {x : Option KK} (h : l.map kdV = [x]) : ∃ v, l = [v] /\ kdV v = x := by
 match l, h with
 | [v], h => exact ⟨v, rfl, by simpa using h⟩
theorem bytes_beq (a b : ByteArray) : (a == b) = decide (a = b) := by
 by_cases h : a = b
 ·subst h
  rw [decide_eq_true rfl]
  show ByteArray.beq a a = true
  unfold ByteArray.beq; simp
 ·rw [decide_eq_false h]
  cases e : (a == b) with
  | false => rfl
  | true =>
    exfalso; apply h
    have : ByteArray.beq a b = true := e
    unfold ByteArray.beq at this
    cases a; cases b
    simpa using this
theorem Qtx {P : Program} {d : Nat} {t : TypeId} (hu : P.underlying t = some .string) (h1 : Qaq P t = some false) (h3 : szOf P t = some 1) : EqT P (d + 1) t [some .s] := by
 refine ⟨false, h1, fun _ => rfl, h3, fun l r hl hr w => ?_⟩
 obtain ⟨a, rfl, ha⟩ := kd1 hl
 obtain ⟨b, rfl, hb⟩ := kd1 hr
 cases a <;> simp [kdV] at ha
 cases b <;> simp [kdV] at hb
 rename_i a b
 show (Op.equalIn (d + 1) t (.string a) (.string b)).run P w = _
 rw [Op.equalIn.eq_2, Sem.run_bind, Qh hu]
 show Result.ok (a == b) w = Result.ok (decide (a = b) && true) w
 rw [Bool.and_true, bytes_beq]
inductive Qgs (P : Program) (d : Nat) : List Field -> Nat -> List (Option KK) -> Prop
 | nil {n : Nat} : Qgs P d [] n []
 | cons {f : Field} {fs : List Field} {off : Nat} {k1 k2 : List (Option KK)} (h1 : f.name ≠ "_") (h2 : f.offset = off) (h3 : EqT P d f.type k1) (h : Qgs P d fs (off + k1.length) k2) : Qgs P d (f :: fs) off (k1 ++ k2)
theorem Qp6 {l : List Value} {off : Nat} {k1 k2 : List (Option KK)} (h0 : off <= l.length) (h : (l.drop off).map kdV = k1 ++ k2) : off + k1.length <= l.length /\ ((l.drop off).take k1.length).map kdV = k1 /\ (l.drop (off + k1.length)).map kdV = k2 := by
 have hl : (l.drop off).length = k1.length + k2.length := by rw [<- List.length_map (f := kdV), h, List.length_append]
 rw [List.length_drop] at hl
 refine ⟨by omega, ?_, ?_⟩
 ·rw [List.map_take, h, List.take_left']; rfl
 ·rw [<- List.drop_drop, List.map_drop, h, List.drop_left']; rfl
theorem Qrc {P : Program} {d : Nat} {ks : List (Option KK)} {t : TypeId} {fs : Array Field} (hu : P.underlying t = some (.struct fs)) (h1 : Qaq P t = some true) (h3 : szOf P t = some ks.length) (hs : P.stoodInHeld t = false) (hf : Qgs P d fs.toList 0 ks) : EqT P (d + 1) t ks := by
 refine ⟨true, h1, (fun e => by cases e), h3, fun l r hl hr w => ?_⟩
 show (Op.equalIn (d + 1) t (.agg l.toArray) (.agg r.toArray)).run P w = _
 have key : ∀ (fs : List Field) (off : Nat) (ks : List (Option KK)), Qgs P d fs off ks -> off <= l.length -> off <= r.length -> (l.drop off).map kdV = ks -> (r.drop off).map kdV = ks -> (forIn (m := Sem) fs ((none, ()) : Option Bool × Unit) fun f __s =>
               if f.name ≠ "_" then do
                let __do_lift <- Go.part f.type l.toArray f.offset
                let __do_lift_1 <- Go.part f.type r.toArray f.offset
                let __do_lift <- Op.equalIn d f.type __do_lift __do_lift_1
                if (!__do_lift) = true then Pure.pure (ForInStep.done (some false, ()))
                 else Pure.pure (ForInStep.yield (none, ()))
               else Pure.pure (ForInStep.yield (none, ()))).run P w = .ok (match eqL (l.drop off) (r.drop off) with | true => (none, ()) | false => (some false, ())) w := by
  intro fs
  induction fs with
  | nil =>
    intro off ks h hl0 hr0 hl hr
    cases h
    have e1 : l.drop off = [] := by simpa using hl
    have e2 : r.drop off = [] := by simpa using hr
    rw [List.forIn_nil, e1, e2]; rfl
  | cons f fs ih =>
    intro off ks h hl0 hr0 hl hr
    cases h with
    | @cons _ _ _ k1 k2 g1 g2 g3 g =>
      obtain ⟨ag, a1, a2, a3, a4⟩ := g3
      obtain ⟨p1, p2, p3⟩ := Qp6 hl0 hl
      obtain ⟨q1, q2, q3⟩ := Qp6 hr0 hr
      rw [List.forIn_cons, Sem.run_bind, if_pos g1, g2, Sem.run_bind, Qp5 a1 a2 a3 p1 w]
      show Result.andThen (Sem.run P (do
       let __do_lift_1 <- Go.part f.type r.toArray off
       let __do_lift <- Op.equalIn d f.type (mkV ag ((l.drop off).take k1.length)) __do_lift_1
       if (!__do_lift) = true then Pure.pure (ForInStep.done (some false, ()))
        else Pure.pure (ForInStep.yield (none, ()))) w) _ = _
      rw [Sem.run_bind, Qp5 a1 a2 a3 q1 w]
      show Result.andThen (Sem.run P (do
       let __do_lift <- Op.equalIn d f.type (mkV ag ((l.drop off).take k1.length)) (mkV ag ((r.drop off).take k1.length))
       if (!__do_lift) = true then Pure.pure (ForInStep.done (some false, ()))
        else Pure.pure (ForInStep.yield (none, ()))) w) _ = _
      rw [Sem.run_bind, a4 _ _ p2 q2 w]
      have hlen : (l.drop off).length = (r.drop off).length := by rw [<- List.length_map (f := kdV), hl, <- hr, List.length_map]
      rw [Qm9 k1.length (l.drop off) (r.drop off) hlen, List.drop_drop, List.drop_drop]
      cases hE : eqL ((l.drop off).take k1.length) ((r.drop off).take k1.length) with
      | false => rfl
      | true => exact ih (off + k1.length) k2 g p1 q1 p3 q3
 rw [Op.equalIn.eq_2, Sem.run_bind, Qh hu]
 have k0 := key fs.toList 0 ks hf (Nat.zero_le _) (Nat.zero_le _) (by rw [List.drop_zero]; exact hl) (by rw [List.drop_zero]; exact hr)
 rw [Array.forIn_toList] at k0
 simp only [Result.andThen_ok]
 rw [Sem.run_bind]
 show Sem.run P (if P.stoodInHeld t = true then _ else _) w = _
 rw [hs, if_neg (by decide)]
 rw [Sem.run_bind, k0, List.drop_zero, List.drop_zero]
 cases eqL l r <;> rfl
theorem Qxx {P : Program} {t : TypeId} {ks : List (Option KK)} (hg : P.eqGuardType P.depth t = false) (h1 : Qaq P t = some true) (h : EqT P 10000 t ks) : EqOK P t ks := by
 obtain ⟨ag, a1, a2, a3, a4⟩ := h
 rw [h1] at a1; injection a1 with a1; subst a1
 exact ⟨hg, a4⟩
end Go.Proofs.Ytfeedchjdnedjaa.Vv
