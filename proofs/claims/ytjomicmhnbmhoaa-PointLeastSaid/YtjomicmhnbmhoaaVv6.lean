import Derived.Test.YtjomicmhnbmhoaaVv5
set_option linter.unusedVariables false
set_option linter.unusedSimpArgs false
namespace Go.Proofs.Ytjomicmhnbmhoaa.Vv
open Go Go.Proofs.Ytjomicmhnbmhoaa.Ev
open Go.RowKit (Below)
section
variable {P : Program} {gv : Nat -> Value} {base : Nat} {o : OM} {m : MM} {L : List (Option Blk)} {w : World} {N : Nat}
theorem Qm2 {s : TypeId} {x v : VV} {f : Nat} {x' : Value} (h : Qnr P s x f = some v) (hx : R o base m x x') : ∃ v', (Instr.fieldAt s x' f).run P w = .ok v' w /\ R o base m v v' := by
 unfold Qnr at h
 split at h
 ·rename_i fo k off hfo
  injection h with h; subst h
  cases hx with
  | t hx => cases hx
  | @pt _ _ oi ho =>
    refine ⟨.pointer (some ⟨oi.b, oi.off + off + fo, none⟩), (Ql6 (f := f) ?_ w).1, ?_⟩
    ·unfold Qlo; rw [hfo]
    ·rw [Nat.add_assoc]; exact .pt ho
 ·rename_i fo cells off hfo
  injection h with h; subst h
  cases hx with
  | t hx =>
    cases hx with
    | @tp _ b d _ cs ty fz hb hs hh =>
      refine ⟨.pointer (some ⟨b, d + off + fo, none⟩), (Ql6 (f := f) ?_ w).1, ?_⟩
      ·unfold Qlo; rw [hfo]
      ·rw [Nat.add_assoc]; exact .t (.tp hb hs hh)
 ·cases h
theorem Qvm {off : Nat} {n : Option Nat} {cs : List VV} {l' : List Value} {v : VV} (h : Qyg off n cs = some v) (hc : RL o base m cs l') : ∃ v', Qtt off n l' = some v' /\ R o base m v v' := by
 have hat := Qgy hc
 unfold Qyg at h
 unfold Qtt
 split at h
 ·split at h
  case h_2 => cases h
  rename_i l hl
  injection h with h; subst h
  obtain ⟨l2, e, r⟩ := hat.take hl
  rw [Nat.zero_add] at e
  dsimp only
  rw [show (⟨l'⟩ : Array Value).toList = l' from rfl] at e
  rw [e]
  exact ⟨_, rfl, R.Qiw (cs := ⟨l2⟩) r⟩
 ·obtain ⟨v', e, r⟩ := hat.get h
  rw [Nat.zero_add] at e
  exact ⟨v', e, r⟩
theorem Ql7 {cs : List VV} {x' : Value} (h : R o base m (.ag cs) x') : ∃ c : Array Value, x' = .agg c /\ RL o base m cs c.toList := by
 cases h with
 | t h =>
   cases h with
   | ag hs hh => exact ⟨_, rfl, by simpa using hs, fun j v v' a b => .t (hh j v v' a (by simpa using b))⟩
 | ag hs hh => exact ⟨_, rfl, by simpa using hs, fun j v v' a b => hh j v v' a (by simpa using b)⟩
theorem Qsr {cs : List VV} {x' : Value} (h : R o base m (.tu cs) x') : ∃ c : Array Value, x' = .tuple c /\ RL o base m cs c.toList := by
 cases h with
 | t h =>
   cases h with
   | tu hs hh => exact ⟨_, rfl, by simpa using hs, fun j v v' a b => .t (hh j v v' a (by simpa using b))⟩
 | tu hs hh => exact ⟨_, rfl, by simpa using hs, fun j v v' a b => hh j v v' a (by simpa using b)⟩
theorem Qss {t : TypeId} {x v : VV} {f : Nat} {x' : Value} (h : Qzd P t x f = some v) (hx : R o base m x x') : ∃ v', (Instr.field t x' f).run P w = .ok v' w /\ R o base m v v' := by
 unfold Qzd at h
 split at h
 ·rename_i off n cs hi
  obtain ⟨c, rfl, hc⟩ := Ql7 hx
  obtain ⟨v', e, r⟩ := Qvm h hc
  refine ⟨v', Qw4 (f := f) ?_ w, r⟩
  unfold Qyh
  rw [hi]
  exact e
 ·cases h
theorem Qm3 {t : TypeId} {x i v : VV} {q : Prop} {x' i' : Value} (h : Qns P t x i = some (v, q)) (hq : q) (hx : R o base m x x') (hi : R o base m i i') : ∃ v', (Instr.indexAt t x' i').run P w = .ok v' w /\ R o base m v v' := by
 have tree : ∀ {m' : MM} {cells : List VV} {n s : Nat} {k : IntKind} {j : Int}, Qmy P t = some (s, none) -> m'.Le m -> T m' (.tr cells n) x' -> 0 <= j /\ j < n -> ∃ v', (Instr.indexAt t x' (.int k j)).run P w = .ok v' w /\ R o base m (.tp cells (j.toNat * s)) v' := by
  intro m' cells n s k j he hm hx hq
  obtain ⟨p, rfl⟩ := Int.eq_ofNat_of_zero_le hq.1
  cases hx with
  | e => have := hq.2; omega
  | @tr _ _ b off cap cs ty fz hb hn hs hh =>
    refine ⟨.pointer (some ⟨b, off + p * s, none⟩), Qg9 (k := k) ?_ w, .t (.tp (hm _ _ hb) hs (fun j v v' a b => (hh j v v' a b).mono hm))⟩
    unfold Qh9
    rw [he]
    have : Nat.blt p n = true := Nat.ble_eq_true_of_le (by have := hq.2; omega)
    show (bif Nat.blt p n then _ else _) = _
    rw [this]; rfl
 unfold Qns at h
 split at h
 ·rename_i s cells n k j he
  obtain ⟨rfl, _⟩ := hi.Qa3
  injection h with h; injection h with h1 h2; subst h1; subst h2
  cases hx with
  | t hx => exact tree he (.refl m) hx hq
 ·rename_i s cells n k j he
  obtain ⟨rfl, _⟩ := hi.Qa3
  injection h with h; injection h with h1 h2; subst h1; subst h2
  cases hx with
  | t hx => cases hx
  | fr hx => exact tree he (MM.Qrd _ _) hx hq
 ·rename_i s k off n kk j he
  obtain ⟨rfl, _⟩ := hi.Qa3
  injection h with h; injection h with h1 h2; subst h1; subst h2
  obtain ⟨p, rfl⟩ := Int.eq_ofNat_of_zero_le hq.1
  cases hx with
  | t hx => cases hx
  | @rf _ _ _ cap oi ho hn hr =>
    refine ⟨.pointer (some ⟨oi.b, oi.off + off + p * s, none⟩), Qg9 (k := kk) ?_ w, ?_⟩
    ·unfold Qh9
     rw [he]
     have : Nat.blt p n = true := Nat.ble_eq_true_of_le (by have := hq.2; omega)
     show (bif Nat.blt p n then _ else _) = _
     rw [this]; rfl
    ·rw [Nat.add_assoc]; exact .pt ho
  | rf0 => have := hq.2; omega
 ·rename_i s NN k off kk j he
  obtain ⟨rfl, _⟩ := hi.Qa3
  injection h with h; injection h with h1 h2; subst h1; subst h2
  obtain ⟨p, rfl⟩ := Int.eq_ofNat_of_zero_le hq.1
  cases hx with
  | t hx => cases hx
  | @pt _ _ oi ho =>
    refine ⟨.pointer (some ⟨oi.b, oi.off + off + p * s, none⟩), Qg9 (k := kk) ?_ w, ?_⟩
    ·unfold Qh9
     rw [he]
     have : Nat.blt p NN = true := Nat.ble_eq_true_of_le (by have := hq.2; omega)
     show (bif Nat.blt p NN then _ else _) = _
     rw [this]; rfl
    ·rw [Nat.add_assoc]; exact .pt ho
 ·rename_i s NN cells off kk j he
  obtain ⟨rfl, _⟩ := hi.Qa3
  injection h with h; injection h with h1 h2; subst h1; subst h2
  obtain ⟨p, rfl⟩ := Int.eq_ofNat_of_zero_le hq.1
  cases hx with
  | t hx =>
    cases hx with
    | @tp _ b ofb o cs t fz hb hs hh =>
      refine ⟨.pointer (some ⟨b, ofb + off + p * s, none⟩), Qg9 (k := kk) ?_ w, ?_⟩
      ·unfold Qh9
       rw [he]
       have : Nat.blt p NN = true := Nat.ble_eq_true_of_le (by have := hq.2; omega)
       show (bif Nat.blt p NN then _ else _) = _
       rw [this]; rfl
      ·rw [Nat.add_assoc]; exact .t (.tp hb hs hh)
 ·cases h
theorem Ql8 {a : Ans} {t : TypeId} {x i v : VV} {q : Prop} {x' i' : Value} (h : Qme P a t x i = some (v, q)) (hq : q) (hx : R o base m x x') (hi : R o base m i i') : ∃ v', (Instr.indexAt t x' i').run P w = .ok v' w /\ R o base m v v' := by
 unfold Qme at h
 split at h
 ·rename_i v0 p v1 e1
  injection h with h; injection h with h1 h2; subst h1; subst h2
  obtain ⟨v', h1, h2⟩ := Qm3 (w := w) e1 hq.1 hx hi
  exact ⟨v', h1, by rw [<- hq.2]; exact h2⟩
 ·exact Qm3 h hq hx hi
theorem Qst {a : Ans} {t : TypeId} {x i v : VV} {q : Prop} {x' i' : Value} (h : Qze P a t x i = some (v, q)) (hq : q) (hx : R o base m x x') (hi : R o base m i i') : ∃ v', (Instr.index t x' i').run P w = .ok v' w /\ R o base m v v' := by
 unfold Qze at h
 split at h
 ·rename_i NN s n cs kk j vv he
  obtain ⟨rfl, _⟩ := hi.Qa3
  injection h with h; injection h with h1 h2; subst h1; subst h2
  obtain ⟨q1, q2, q3⟩ := hq
  obtain ⟨p, rfl⟩ := Int.eq_ofNat_of_zero_le q1
  obtain ⟨c, rfl, hc⟩ := Ql7 hx
  obtain ⟨v', e, r⟩ := Qvm q3 hc
  refine ⟨v', Qw5 (k := kk) ?_ w, r⟩
  unfold Qyi
  rw [he]
  have : Nat.blt p NN = true := Nat.ble_eq_true_of_le (by omega)
  show (bif Nat.blt p NN then _ else _) = _
  rw [this]; exact e
 ·cases h
theorem Qqh {t : TypeId} {s : ByteArray} {i v : VV} {q : Prop} {i' : Value} (h : Qt9 P t s i = some (v, q)) (hq : q) (hi : R o base m i i') : ∃ v', (Instr.index t (.string s) i').run P w = .ok v' w /\ R o base m v v' := by
 unfold Qt9 at h
 split at h
 ·rename_i k j hu
  injection h with h; injection h with h1 h2; subst h1; subst h2
  obtain ⟨rfl, _⟩ := hi.Qa3
  refine ⟨.int .u8 (bat s j), ?_, .t (.c rfl)⟩
  have hlt : j.toNat < s.size := by omega
  have e : s[j.toNat]? = some s[j.toNat] := by simp [hlt]
  unfold Instr.index
  rw [Sem.run_bind]
  show Result.andThen (.ok (k, j) w) _ = _
  simp only [Result.andThen_ok]
  rw [Sem.run_bind, Qq hu]
  simp only [Result.andThen_ok]
  rw [if_pos hq.1, e]
  unfold bat
  rw [e]; rfl
 ·cases h
theorem Qo8 {x v : VV} {i : Nat} {x' : Value} (h : Qrk x i = some v) (hx : R o base m x x') : ∃ v', (Instr.extract x' i).run P w = .ok v' w /\ R o base m v v' := by
 unfold Qrk at h
 split at h
 ·obtain ⟨c, rfl, hc⟩ := Qsr hx
  obtain ⟨v', e, r⟩ := (Qgy hc).get h
  rw [Nat.zero_add] at e
  refine ⟨v', Qsh ?_ w, r⟩
  exact e
 ·cases h
theorem Qzf {t ty : TypeId} {x v : VV} {x' : Value} (h : vLen P t x = some v) (hx : R o base m x x') : ∃ v', (Builtin.len_ #[t] ty #[x']).run P w = .ok v' w /\ R o base m v v' := by
 unfold vLen at h
 split at h
 ·rename_i hu
  injection h with h; subst h
  cases hx with
  | t hx => cases hx <;> exact ⟨_, by simp [Builtin.len_, run_underlying hu], .t (.c rfl)⟩
 ·rename_i hu
  injection h with h; subst h
  cases hx with
  | t hx => cases hx
  | fr hx => cases hx <;> exact ⟨_, by simp [Builtin.len_, run_underlying hu], .t (.c rfl)⟩
 ·rename_i hu
  injection h with h; subst h
  cases hx with
  | t hx => cases hx
  | rf => exact ⟨_, by simp [Builtin.len_, run_underlying hu], .t (.c rfl)⟩
  | rf0 => exact ⟨_, by simp [Builtin.len_, run_underlying hu], .t (.c rfl)⟩
 ·rename_i hu
  injection h with h; subst h
  obtain ⟨rfl, _⟩ := hx.Qa3
  exact ⟨_, by simp [Builtin.len_, run_underlying hu], .t (.c rfl)⟩
 ·rename_i hu
  injection h with h; subst h
  cases hx with
  | t hx => cases hx; exact ⟨_, by simp [Builtin.len_, run_underlying hu], .t (.c rfl)⟩
 ·rename_i hu
  injection h with h; subst h
  obtain ⟨rfl, _⟩ := hx.Qa3
  exact ⟨_, by simp [Builtin.len_, run_underlying hu], .t (.c rfl)⟩
 ·rename_i hu
  injection h with h; subst h
  exact ⟨_, by simp [Builtin.len_, run_underlying hu], .t (.c rfl)⟩
 ·cases h
theorem Qvn {f : Int -> Int -> Int} {g : Value -> Value -> Sem Value} (hfg : ∀ k x k' y, g (.int k x) (.int k' y) = Pure.pure (.int k (f x y))) (k : IntKind) : ∀ (l : List VV) (l' : List Value) (x : Int) (v : VV), foldI f k x l = some v -> RL o base m l l' ->
 ∃ v', (l'.foldlM g (.int k x)).run P w = .ok v' w /\ R o base m v v'
 | [], l', x, v, h, hl => by
   obtain rfl : l' = [] := by have := hl.1; simpa using this.symm
   simp only [foldI, Option.some.injEq] at h; subst h
   exact ⟨_, rfl, .t (.c rfl)⟩
 | a :: l, [], x, v, h, hl => by have := hl.1; simp at this
 | a :: l, b :: l', x, v, h, hl => by
   have hl2 := hl.tail; clear hl; obtain ⟨ha, hl⟩ := hl2
   cases a with
   | c a =>
     cases a with
     | int k2 y =>
       obtain ⟨rfl, _⟩ := ha.Qa3
       simp only [foldI] at h
       obtain ⟨v', e, r⟩ := Qvn hfg k l l' _ v h hl
       exact ⟨v', by rw [List.foldlM_cons, hfg, pure_bind]; exact e, r⟩
     | _ => simp [foldI] at h
   | _ => simp [foldI] at h
theorem Qm4 {f : Int -> Int -> Int} {g : Value -> Value -> Sem Value} (hfg : ∀ k x k' y, g (.int k x) (.int k' y) = Pure.pure (.int k (f x y))) {l : List VV} {l' : List Value} {v : VV} {why : String} (h : Qvo f l = some v) (hl : RL o base m l l') :
 ∃ v', (match l' with | [] => Go.stuck why | x :: rest => rest.foldlM g x : Sem Value).run P w = .ok v' w /\ R o base m v v' := by
 unfold Qvo at h
 split at h
 ·cases l' with
  | nil => have := hl.1; simp at this
  | cons b l' =>
    have hl2 := hl.tail; clear hl; obtain ⟨ha, hl⟩ := hl2
    obtain ⟨rfl, _⟩ := ha.Qa3
    exact Qvn hfg _ _ _ _ _ h hl
 ·cases h
theorem src_ok {x : VV} {xs : List VV} {n s : Nat} {x' : Value} (h : Q37 L x = some (xs, n)) (hlen : xs.length = n * s) (hO : Own gv base o m L w) (hM : Qbl m w) (hx : R o base m x x') :
 ∃ A C, x' = .slice A n C /\ (n ≠ 0 -> ∃ l', (∀ d, (Builtin.firstCells s n x').run P { w with drawn := d } = .ok ⟨l'⟩ { w with drawn := d }) /\ RL o base m xs l') := by
 have tree : ∀ {m' : MM} {cells : List VV}, cells.length = n * s -> m'.Le m -> T m' (.tr cells n) x' -> ∃ A C, x' = .slice A n C /\ (n ≠ 0 -> ∃ l', (∀ d, (Builtin.firstCells s n x').run P { w with drawn := d } = .ok ⟨l'⟩ { w with drawn := d }) /\ RL o base m cells l') := by
  intro m' cells hlen hm hx
  cases hx with
  | e => exact ⟨_, _, rfl, fun h => absurd rfl h⟩
  | @tr _ _ b off cap cs ty fz hb hn hs hh =>
    refine ⟨_, _, rfl, fun _ => ?_⟩
    have hat : At o base m cells cs off := ⟨hs, fun j v v' a b => .t ((hh j v v' a b).mono hm)⟩
    have ht : Qf9 (n * s) (Qgg 0 cells) = some cells := by
     show Qf9 (n * s) cells = _
     rw [Qf6 (by omega), List.take_of_length_le (by omega)]
    obtain ⟨l', e, r⟩ := hat.take ht
    refine ⟨l', fun d => (Qji (wA := { w with drawn := d }) (l := n) (c := cap) ?_).1, r⟩
    unfold Qif
    show (match w.heap[b]? with | some (.cells c _ _) => Qf9 (n * s) (Qgg off c.toList) | _ => none) = _
    rw [hM _ _ (hm _ _ hb)]
    exact e
 unfold Q37 at h
 split at h
 ·injection h with h; injection h with h1 h2; subst h1; subst h2
  obtain ⟨rfl, _⟩ := hx.Qa3
  exact ⟨_, _, rfl, fun h => absurd rfl h⟩
 ·injection h with h; injection h with h1 h2; subst h1; subst h2
  cases hx with
  | t hx => cases hx; exact ⟨_, _, rfl, fun h => absurd rfl h⟩
 ·injection h with h; injection h with h1 h2; subst h1; subst h2
  cases hx with
  | t hx => cases hx; exact ⟨_, _, rfl, fun h => absurd rfl h⟩
 ·injection h with h; injection h with h1 h2; subst h1; subst h2
  cases hx with
  | t hx => exact tree hlen (.refl m) hx
 ·injection h with h; injection h with h1 h2; subst h1; subst h2
  cases hx with
  | t hx => cases hx
  | fr hx => exact tree hlen (MM.Qrd _ _) hx
 ·rename_i k off n0
  split at h
  case h_2 => cases h
  rename_i blk hblk
  cases hbx : blk.bx with
  | true => rw [hbx] at h; cases h
  | false =>
    rw [hbx] at h
    simp only [cond_false] at h
    injection h with h; injection h with h1 h2; subst h1; subst h2
    cases hx with
    | t hx => cases hx
    | rf0 => exact ⟨_, _, rfl, fun h => absurd rfl h⟩
    | @rf _ _ _ cap oi ho hn hr =>
      obtain ⟨c, ty, hc, htot, hz, hat⟩ := hO.row ho hblk
      rw [if_neg (by rw [hbx]; simp)] at hat
      have hat' : At o base m blk.cells c oi.off := ⟨hat.1, fun j v v' a b => (hat.2 j v v' a b).mono (OM.Qov o) (.refl m) (Nat.le_refl _)⟩
      refine ⟨_, _, rfl, fun _ => ?_⟩
      have ht : Qf9 (n0 * s) (Qgg 0 blk.cells) = some blk.cells := by
       show Qf9 (n0 * s) blk.cells = _
       rw [Qf6 (by omega), List.take_of_length_le (by omega)]
      obtain ⟨l', e, r⟩ := hat'.take ht
      refine ⟨l', fun d => (Qji (wA := { w with drawn := d }) (l := n0) (c := cap) ?_).1, r⟩
      unfold Qif
      show (match w.heap[oi.b]? with | some (.cells c _ _) => Qf9 (n0 * s) (Qgg (oi.off + 0) c.toList) | _ => none) = _
      rw [hc]
      exact e
 ·cases h
theorem At.ext {cells xs : List VV} {c : Array Value} {d : Nat} {xs' : List Value} (h : At o base m cells c d) (hx : RL o base m xs xs') (hl : d + cells.length + xs.length <= c.size) :
 At o base m (cells ++ xs) ⟨c.toList.take (d + cells.length) ++ xs' ++ c.toList.drop (d + cells.length + xs'.length)⟩ d := by
 have hxl := hx.1
 refine ⟨by simp; omega, fun j v v' a b => ?_⟩
 have hb : (c.toList.take (d + cells.length) ++ xs' ++ c.toList.drop (d + cells.length + xs'.length))[d + j]? = some v' := by simpa using b
 by_cases c1 : j < cells.length
 ·rw [List.getElem?_append_left c1] at a
  rw [List.append_assoc, List.getElem?_append_left (by simp; omega), List.getElem?_take, if_pos (by omega)] at hb
  exact h.2 j v v' a (by simpa using hb)
 ·have hj : j < (cells ++ xs).length := (List.getElem?_eq_some_iff.1 a).1
  rw [List.length_append] at hj
  rw [List.getElem?_append_right (by omega)] at a
  rw [List.append_assoc, List.getElem?_append_right (by simp; omega), List.getElem?_append_left (by simp; omega)] at hb
  refine hx.2 _ v v' a ?_
  rw [<- hb]; congr 1; simp; omega
theorem Qrl {cells xs : List VV} {l l' : List Value} (h : RL o base m cells l) (k : RL o base m xs l') (r : Array Value) : At o base m (cells ++ xs) ((⟨l⟩ : Array Value) ++ (⟨l'⟩ : Array Value) ++ r) 0 := by
 have e0 : (⟨l⟩ : Array Value) ++ (⟨l'⟩ : Array Value) ++ r = ⟨l ++ l' ++ r.toList⟩ := by apply Array.ext'; simp
 rw [e0]
 generalize r.toList = r
 have := h.app k
 refine ⟨by have := this.1; simp at this ⊢; omega, fun j v v' a b => this.2 j v v' a ?_⟩
 have hj : j < (cells ++ xs).length := (List.getElem?_eq_some_iff.1 a).1
 have hb : (l ++ l' ++ r)[j]? = some v' := by simpa using b
 rw [List.getElem?_append_left (by rw [<- this.1]; exact hj)] at hb
 exact hb
theorem Qsu {cells xs : List VV} {l l' : List Value} {Q : VV -> Value -> Prop} (h1 : cells.length = l.length) (h2 : xs.length = l'.length) (q1 : ∀ (j : Nat) (v : VV) (v' : Value), cells[j]? = some v -> l[j]? = some v' -> Q v v')
 (q2 : ∀ (j : Nat) (v : VV) (v' : Value), xs[j]? = some v -> l'[j]? = some v' -> Q v v') (r : Array Value) : ∀ (j : Nat) (v : VV) (v' : Value), (cells ++ xs)[j]? = some v -> ((⟨l⟩ : Array Value) ++ (⟨l'⟩ : Array Value) ++ r)[0 + j]? = some v' -> Q v v' := by
 have e0 : (⟨l⟩ : Array Value) ++ (⟨l'⟩ : Array Value) ++ r = ⟨l ++ l' ++ r.toList⟩ := by apply Array.ext'; simp
 rw [e0]
 generalize r.toList = r
 intro j v v' a b
 rw [Nat.zero_add] at b
 have hb : (l ++ l' ++ r)[j]? = some v' := by simpa using b
 have hj : j < (cells ++ xs).length := (List.getElem?_eq_some_iff.1 a).1
 rw [List.length_append] at hj
 rw [List.append_assoc] at hb
 by_cases c : j < cells.length
 ·rw [List.getElem?_append_left c] at a
  rw [List.getElem?_append_left (by omega)] at hb
  exact q1 j v v' a hb
 ·rw [List.getElem?_append_right (by omega)] at a
  rw [List.getElem?_append_right (by omega), List.getElem?_append_left (by omega), <- h1] at hb
  exact q2 _ v v' a hb
theorem Qjr (old l' : List Value) {z : Value} {n0 n cap s : Nat} (h0 : old.length = n0 * s) (h1 : l'.length = n * s) (hz : z.cells.size = s) (hc : n0 + n <= cap) :
 ((⟨old⟩ : Array Value) ++ (⟨l'⟩ : Array Value) ++ Builtin.zeroCells z.cells (cap - (n0 + n))).size = cap * s := by
 rw [Array.size_append, Array.size_append, size_zeroCells, hz]
 show old.length + l'.length + _ = _
 rw [h0, h1, <- Nat.add_mul, <- Nat.add_mul]; congr 1; omega
theorem Qxd {a : Ans} {t ty : TypeId} {s x v : VV} {e : Eff} {q : Prop} {s' x' : Value} (h : Qrf P L N a t s x = some (v, e, q)) (hq : q) (hbl : base <= w.heap.size) (hO : Own gv base o m L w) (hM : Qbl m w) (hs : R o base m s s') (hx : R o base m x x') :
 ∃ v' w', (Builtin.append_ #[t, t] ty #[s', x']).run P w = .ok v' w' /\ Res base o m L w N e v v' w' := by
 unfold Qrf at h
 split at h
 case h_2 => cases h
 rename_i el hu
 split at h
 case h_2 => cases h
 rename_i i hi
 split at h
 case h_2 => cases h
 rename_i z xs n hz hsrc
 have hb0 := Qm h; clear h; obtain ⟨hc, h⟩ := hb0
 simp only [Bool.and_eq_true] at hc
 have hzs := Nat.eq_of_beq_eq_true hc.1.1
 have hsz : 0 < i.size := Qec hc.1.2
 have hsm := Qjc hc.2
 split at h
 ·
  injection h with h; injection h with h1 h2; injection h2 with h2 h3; subst h1; subst h2; subst h3
  obtain ⟨q1, q2, q3, q4⟩ := hq
  obtain ⟨rfl, _⟩ := hs.Qa3
  obtain ⟨A, C, rfl, hsome⟩ := src_ok (P := P) hsrc q1 hO hM hx
  by_cases hn : n = 0
  ·subst hn
   refine ⟨_, w, Qeu w hu hi (Nat.le_refl _), .newNo ?_ rfl .rf0⟩
   simpa using q1
  ·obtain ⟨l', hrun, hrl⟩ := hsome hn
   have hlen : l'.length = n * i.size := by rw [<- hrl.1, q1]
   have hg := Qf3 (ty := ty) w hu hi hz (a := none) (sLen := 0) (sCap := 0) (olds := #[]) rfl (hrun _) (by omega) (by omega) (by simpa using q2)
   have hcap := grownCap_ge w (0 + n) 0 el
   generalize grownCap w (0 + n) 0 el = cap at hg hcap
   refine ⟨_, _, hg, ?_⟩
   have hsize := Qjr [] l' (n0 := 0) (s := i.size) (by simp) hlen hzs hcap
   refine Res.new (d := w.drawn + 1) rfl (Holds.fresh (blk := ⟨false, i.size, xs⟩) hsm hbl ?_) (fun o' _ ho => ?_)
   ·exact Qrl (cells := []) (RL.nil (o := .no) (fb := base) (m := m)) (hrl.still q4) (Builtin.zeroCells z.cells (cap - (0 + n)))
   ·have := R.rf (o := o') (fb := base) (m := m) (k := N) (off := 0) (n := n) (cap := cap) ho (by omega) (Nat.le_of_eq (by simp only [Nat.zero_add] at hsize ⊢; exact hsize.symm))
    simpa using this
 ·
  split at h
  ·injection h with h; injection h with h1 h2; injection h2 with h2 h3; subst h1; subst h2; subst h3
   obtain ⟨q1, q2, q3, q4⟩ := hq
   have hs2 : ∃ ad, s' = .slice ad 0 0 := by
    cases hs with
    | t hs => cases hs; exact ⟨_, rfl⟩
   obtain ⟨ad, rfl⟩ := hs2
   obtain ⟨A, C, rfl, hsome⟩ := src_ok (P := P) hsrc q1 hO hM hx
   by_cases hn : n = 0
   ·subst hn
    have hxs : xs = [] := by simpa using q1
    subst hxs
    exact ⟨_, w, Qeu w hu hi (Nat.le_refl _), .no (.fr .e)⟩
   ·obtain ⟨l', hrun, hrl⟩ := hsome hn
    have hlen : l'.length = n * i.size := by rw [<- hrl.1, q1]
    have hg := Qf3 (ty := ty) w hu hi hz (a := ad) (sLen := 0) (sCap := 0) (olds := #[]) (by cases ad <;> simp [Builtin.firstCells, Go.loadCells, Go.loadCellsFrom] <;> rfl) (hrun _) (by omega) (by omega) (by simpa using q2)
    have hcap := grownCap_ge w (0 + n) 0 el
    generalize grownCap w (0 + n) 0 el = cap at hg hcap
    have hsize := Qjr [] l' (n0 := 0) (s := i.size) (by simp) hlen hzs hcap
    simp only [Nat.zero_add] at hg hcap hsize
    refine ⟨_, _, hg, .frNo (d := w.drawn + 1) (fun m' hle' hm' => .fr (.tr (fz := (0, 0)) (MM.Qhq.2 ⟨hbl, hm', rfl⟩) hcap ?_ ?_))⟩
    ·rw [hsize, q1, Nat.zero_add]
     exact Nat.mul_le_mul_right _ hcap
    ·have hfg := Qsu (cells := []) (xs := xs) (l := []) (l' := l') (Q := T (m'.fr base)) rfl (by rw [q1, hlen]) (fun j v v' a b => by simp at a) (fun j v v' a b => by
      have hcv := List.all_eq_true.1 q4 v (List.mem_of_getElem? a)
      have hr := hrl.2 j v v' a b
      cases v <;> first | (cases hcv; done) | skip
      obtain ⟨rfl, hg⟩ := hr.Qa3
      exact (T.c hg : T (m'.fr base) _ _)) (Builtin.zeroCells z.cells (cap - n))
     simpa using hfg
  ·injection h with h; injection h with h1 h2; injection h2 with h2 h3; subst h1; subst h2; subst h3
   obtain ⟨q1, q2, q3, q4⟩ := hq
   have hs2 : ∃ ad, s' = .slice ad 0 0 := by
    cases hs with
    | t hs => cases hs; exact ⟨_, rfl⟩
   obtain ⟨ad, rfl⟩ := hs2
   obtain ⟨A, C, rfl, hsome⟩ := src_ok (P := P) hsrc q1 hO hM hx
   by_cases hn : n = 0
   ·subst hn
    refine ⟨_, w, Qeu w hu hi (Nat.le_refl _), .newNo ?_ rfl .rf0⟩
    simpa using q1
   ·obtain ⟨l', hrun, hrl⟩ := hsome hn
    have hlen : l'.length = n * i.size := by rw [<- hrl.1, q1]
    have hg := Qf3 (ty := ty) w hu hi hz (a := ad) (sLen := 0) (sCap := 0) (olds := #[]) (by cases ad <;> simp [Builtin.firstCells, Go.loadCells, Go.loadCellsFrom] <;> rfl) (hrun _) (by omega) (by omega) (by simpa using q2)
    have hcap := grownCap_ge w (0 + n) 0 el
    generalize grownCap w (0 + n) 0 el = cap at hg hcap
    refine ⟨_, _, hg, ?_⟩
    have hsize := Qjr [] l' (n0 := 0) (s := i.size) (by simp) hlen hzs hcap
    refine Res.new (d := w.drawn + 1) rfl (Holds.fresh (blk := ⟨false, i.size, xs⟩) hsm hbl ?_) (fun o' _ ho => ?_)
    ·exact Qrl (cells := []) (RL.nil (o := .no) (fb := base) (m := m)) (hrl.still q4) (Builtin.zeroCells z.cells (cap - (0 + n)))
    ·have := R.rf (o := o') (fb := base) (m := m) (k := N) (off := 0) (n := n) (cap := cap) ho (by omega) (Nat.le_of_eq (by simp only [Nat.zero_add] at hsize ⊢; exact hsize.symm))
     simpa using this
 ·
  rename_i k n0
  split at h
  case h_2 => cases h
  rename_i blk hblk
  have hb0 := Qm h; clear h; obtain ⟨hcb, h⟩ := hb0
  simp only [Bool.and_eq_true, Bool.not_eq_true'] at hcb
  obtain ⟨hbx, hbs⟩ := hcb
  have hbs := Nat.eq_of_beq_eq_true hbs
  injection h with h; injection h with h1 h2; injection h2 with h2 h3; subst h1; subst h2; subst h3
  obtain ⟨q1, q2, q3, q4, q5⟩ := hq
  obtain ⟨A, C, rfl, hsome⟩ := src_ok (P := P) hsrc q2 hO hM hx
  by_cases hn : n = 0
  ·subst hn
   have hxs : xs = [] := by simpa using q2
   subst hxs
   have hb' : ({ blk with cells := blk.cells ++ [] } : Blk) = blk := by simp
   rw [hb', Nat.add_zero]
   cases hs with
   | t hs => cases hs
   | rf ho hle hr => exact ⟨_, w, Qeu w hu hi hle, .growNo (Qbr hblk).1 hbx (.rf ho hle hr)⟩
   | rf0 => exact ⟨_, w, Qeu w hu hi (Nat.le_refl _), .growNo (Qbr hblk).1 hbx .rf0⟩
  ·obtain ⟨l', hrun, hrl⟩ := hsome hn
   have hlen : l'.length = n * i.size := by rw [<- hrl.1, q2]
   have grow : ∀ (a : Option Addr) (sCap : Nat) (old : List Value), (∀ d, (Builtin.firstCells i.size n0 (.slice a n0 sCap)).run P { w with drawn := d } = .ok ⟨old⟩ { w with drawn := d }) -> RL .no base m blk.cells old -> sCap < n0 + n ->
    ∃ v' w', (Builtin.append_ #[t, t] ty #[.slice a n0 sCap, .slice A n C]).run P w = .ok v' w' /\ Res base o m L w N (.grow k { blk with cells := blk.cells ++ xs }) (.rf k 0 (n0 + n)) v' w' := by
    intro a sCap old hold holdr hlt
    have holen : old.length = n0 * i.size := by rw [<- holdr.1, q1]
    have hg := Qf3 (ty := ty) w hu hi hz (hold _) (hrun _) hlt (by omega) (by simpa using q3)
    have hcap := grownCap_ge w (n0 + n) sCap el
    generalize grownCap w (n0 + n) sCap el = cap at hg hcap
    refine ⟨_, _, hg, ?_⟩
    have hsize := Qjr old l' holen hlen hzs hcap
    refine Res.growNew (d := w.drawn + 1) ⟨_, (Qbr hblk).1⟩ rfl hbx (Holds.fresh (blk := { blk with cells := blk.cells ++ xs }) (by rw [hbs]; exact hsm) hbl ?_) (fun o' ho => ?_)
    ·rw [hbx]; exact Qrl holdr (hrl.still q5) (Builtin.zeroCells z.cells (cap - (n0 + n)))
    ·have := R.rf (o := o') (fb := base) (m := m) (k := k) (off := 0) (n := n0 + n) (cap := cap) ho hcap (Nat.le_of_eq (by simp only [Nat.zero_add]; show cap * blk.sz = _; rw [hbs]; exact hsize.symm))
     simpa using this
   cases hs with
   | t hs => cases hs
   | @rf0 _ _ a =>
     have hce : blk.cells = [] := by simpa using q1
     refine grow a 0 [] (fun d => ?_) (by rw [hce]; exact .nil) (by omega)
     cases a <;> simp [Builtin.firstCells, Go.loadCells, Go.loadCellsFrom]
   | @rf _ _ _ cap oi ho hle hr =>
     obtain ⟨c, ct, hc0, htot, hz0, hat⟩ := hO.row ho (Qw1 hblk)
     rw [if_neg (by rw [hbx]; simp)] at hat
     have hzz : oi.sz = i.size := by rw [hz0 (Qbr hblk).2.2, hbs]
     have hbase : base <= oi.b := by
      cases hO.at_ k _ blk ho (Qbr hblk).1 with
      | row _ _ _ _ hh _ => exact hh (Qbr hblk).2.2
      | it _ _ hh => exact hh
      | mp _ _ _ hh _ _ => exact hh (Qbr hblk).2.2
     by_cases hin : n0 + n <= cap
     ·have hmul : (n0 + n) * i.size <= cap * i.size := Nat.mul_le_mul_right _ hin
      rw [Nat.add_mul] at hmul
      rw [hzz] at hr
      have hfit : oi.off + blk.cells.length + xs.length <= c.size := by rw [q1, q2, htot]; omega
      have hone := hrl.one (by
       rw [List.all_eq_true] at q5 ⊢
       intro v hv; have := q5 v hv; cases v <;> first | rfl | (cases this))
      have hst := run_storeCells_at P oi.b (oi.off + n0 * i.size) ct l' 0 c w hc0 (by simp only [Nat.add_zero]; rw [hlen]; rw [q1, q2] at hfit; exact hfit) (fun v hv => by simpa using (List.all_eq_true.1 hone) v hv)
      simp only [Nat.add_zero] at hst
      refine ⟨.slice (some ⟨oi.b, oi.off + 0, none⟩) (n0 + n) cap, _, ?_, Res.growIn (oi := oi) (ob := .cells ⟨c.toList.take (oi.off + blk.cells.length) ++ l' ++ c.toList.drop (oi.off + blk.cells.length + l'.length)⟩ ct) ho hc0 hbx (.row (c := ⟨c.toList.take (oi.off + blk.cells.length) ++ l' ++ c.toList.drop (oi.off + blk.cells.length + l'.length)⟩) rfl ?_ hz0 (Qbr hblk).2.1 (fun _ => hbase) ?_) (fun o' ho' => ?_) ⟨blk, xs, (Qbr hblk).1, rfl⟩⟩
      ·rw [Qmf w hu hi hin, Qca, Sem.run_bind, hrun w.drawn]
       simp only [Result.andThen_ok]
       rw [Sem.run_bind]
       rw [show oi.off + 0 + n0 * i.size = oi.off + n0 * i.size by omega]
       show ((Sem.run P (Go.storeCells _ l') w).andThen _) = _
       rw [hst]
       simp only [Result.andThen_ok]
       rw [Qnq hc0, q1]; rfl
      ·have : l'.length = xs.length := hrl.1.symm
       simp only [List.size_toArray, List.length_append, List.length_take, List.length_drop, Array.length_toList]; omega
      ·rw [hbx]; exact hat.ext (hrl.still q5) hfit
      ·exact .rf ho' hin (by rw [hzz]; omega)
     ·have ht : Qf9 (n0 * i.size) (Qgg 0 blk.cells) = some blk.cells := by
       show Qf9 (n0 * i.size) blk.cells = _
       rw [Qf6 (by omega), List.take_of_length_le (by omega)]
      obtain ⟨old, e, r⟩ := hat.take ht
      refine grow _ cap old (fun d => (Qji (wA := { w with drawn := d }) (l := n0) (c := cap) ?_).1) r (by omega)
      unfold Qif
      show (match w.heap[oi.b]? with | some (.cells c _ _) => Qf9 (n0 * i.size) (Qgg (oi.off + 0) c.toList) | _ => none) = _
      rw [hc0]
      exact e
 ·
  rename_i cells0 n0
  injection h with h; injection h with h1 h2; injection h2 with h2 h3; subst h1; subst h2; subst h3
  obtain ⟨q1, q2, q3, q4, q5, q6⟩ := hq
  obtain ⟨A, C, rfl, hsome⟩ := src_ok (P := P) hsrc q2 hO hM hx
  have wk : ∀ {m' : MM} {c : List VV} {k : Nat} {v' : Value}, T (m'.fr base) (.tr c k) v' -> R o base m' (match a with | .v _ => .tr c k | _ => .fr c k) v' := by
   intro m' c k v' h
   cases a <;> first | exact .fr h | exact .t (h.mono (MM.Qrd _ _))
  cases hs with
  | t hs => cases hs
  | fw hs hcc =>
    cases hs with
    | e => exact absurd q6 (Nat.lt_irrefl _)
    | @tr _ _ b off cap cs ty0 fz hb hle hsz hh =>
      obtain ⟨hb1, hb2, hb3⟩ := MM.Qhq.1 hb
      obtain ⟨z0, _⟩ := hcc b off cap rfl (by omega)
      obtain rfl : cap = n0 := z0 rfl
      by_cases hn : n = 0
      ·subst hn
       have hxs : xs = [] := by simpa using q2
       subst hxs
       refine ⟨_, w, Qeu w hu hi (Nat.le_refl _), .no ?_⟩
       rw [List.append_nil, Nat.add_zero]
       exact wk (.tr hb hle hsz hh)
      ·obtain ⟨l', hrun, hrl⟩ := hsome hn
       have hlen : l'.length = n * i.size := by rw [<- hrl.1, q2]
       have hoff : (Qgg off cs.toList).length = cs.size - off := by rw [Qfz]; simp
       have hold : Qf9 (cap * i.size) (Qgg off cs.toList) = some ((Qgg off cs.toList).take (cap * i.size)) := Qf6 (by rw [hoff]; omega)
       have holdn : ((Qgg off cs.toList).take (cap * i.size)).length = cap * i.size := by rw [List.length_take, hoff]; omega
       have holdg : ∀ (j : Nat) (v : VV) (v' : Value), cells0[j]? = some v -> ((Qgg off cs.toList).take (cap * i.size))[j]? = some v' -> T (m.fr base) v v' := by
        intro j v v' a b'
        rw [List.getElem?_take] at b'
        split at b'
        ·rw [Qfz, List.getElem?_drop] at b'
         exact hh j v v' a (by simpa using b')
        ·cases b'
       generalize (Qgg off cs.toList).take (cap * i.size) = old at hold holdn holdg
       have hro : ∀ d, (Builtin.firstCells i.size cap (.slice (some ⟨b, off, none⟩) cap cap)).run P { w with drawn := d } = .ok ⟨old⟩ { w with drawn := d } := fun d => (Qji (wA := { w with drawn := d }) (l := cap) (c := cap) (by
        unfold Qif
        show (match w.heap[b]? with | some (.cells c _ _) => Qf9 (cap * i.size) (Qgg off c.toList) | _ => none) = _
        rw [hM _ _ hb2]
        exact hold)).1
       have hg := Qf3 (ty := ty) w hu hi hz (hro _) (hrun _) (by omega) (by omega) (by simpa using q3)
       have hcap := grownCap_ge w (cap + n) cap el
       generalize grownCap w (cap + n) cap el = cap2 at hg hcap
       refine ⟨_, _, hg, .frNo (d := w.drawn + 1) (fun m' hle' hm' => wk (.tr (fz := (0, 0)) (MM.Qhq.2 ⟨hbl, hm', rfl⟩) hcap ?_ ?_))⟩
       ·rw [Qjr old l' holdn hlen hzs hcap, List.length_append, q1, q2, <- Nat.add_mul, Nat.zero_add]
        exact Nat.mul_le_mul_right _ hcap
       ·refine Qsu (by rw [q1, holdn]) (by rw [q2, hlen]) (fun j v v' a b => (holdg j v v' a b).mono (MM.Qj3 hle' (Nat.le_refl _))) (fun j v v' a b => ?_) _
        have hcv := List.all_eq_true.1 q5 v (List.mem_of_getElem? a)
        have hr := hrl.2 j v v' a b
        cases v <;> first | (cases hcv; done) | skip
        obtain ⟨rfl, hg⟩ := hr.Qa3
        exact .c hg
 ·cases h
theorem Q1y {s : Nat} {x : VV} {xs : List VV} {n : Nat} {p : Prop} {x' : Value} (h : Qxe L s x = some (xs, n, p)) (hp : p) (hn0 : 0 < n) (hO : Own gv base o m L w) (hM : Qbl m w) (hx : R o base m x x') :
 ∃ A C, x' = .slice A n C /\ ∀ k, k <= n -> ∃ l', Qif (Qm5 w) (k * s) A = some l' /\ RL o base m (xs.take (k * s)) l' := by
 have tree : ∀ {m' : MM} {cells : List VV}, n * s <= cells.length -> m'.Le m -> T m' (.tr cells n) x' -> ∃ A C, x' = .slice A n C /\ ∀ k, k <= n -> ∃ l', Qif (Qm5 w) (k * s) A = some l' /\ RL o base m ((cells.take (n * s)).take (k * s)) l' := by
  intro m' cells hlen hm hx
  cases hx with
  | e => exact absurd hn0 (Nat.lt_irrefl _)
  | @tr _ _ b off cap cs ty fz hb hn hs hh =>
    refine ⟨_, _, rfl, fun k hk => ?_⟩
    have hks : k * s <= n * s := Nat.mul_le_mul_right _ hk
    have hat : At o base m cells cs off := ⟨hs, fun j v v' a b => .t ((hh j v v' a b).mono hm)⟩
    have ht : Qf9 (k * s) (Qgg 0 cells) = some (cells.take (k * s)) := Qf6 (by show k * s <= cells.length; omega)
    obtain ⟨l', e, r⟩ := hat.take ht
    refine ⟨l', ?_, by rw [List.take_take, Nat.min_eq_left hks]; exact r⟩
    unfold Qif
    show (match w.heap[b]? with | some (.cells c _ _) => Qf9 (k * s) (Qgg off c.toList) | _ => none) = _
    rw [hM _ _ (hm _ _ hb)]
    exact e
 unfold Qxe at h
 split at h
 ·injection h with h; injection h with h1 h2; injection h2 with h2 h3; subst h1; subst h2; subst h3
  cases hx with
  | t hx => exact tree hp (.refl m) hx
 ·injection h with h; injection h with h1 h2; injection h2 with h2 h3; subst h1; subst h2; subst h3
  cases hx with
  | t hx => cases hx
  | fr hx => exact tree hp (MM.Qrd _ _) hx
 ·rename_i k0 off n0
  split at h
  case h_2 => cases h
  rename_i blk hblk
  cases hbx : blk.bx with
  | true => rw [hbx] at h; cases h
  | false =>
    rw [hbx] at h
    simp only [cond_false] at h
    injection h with h; injection h with h1 h2; injection h2 with h2 h3; subst h1; subst h2; subst h3
    cases hx with
    | t hx => cases hx
    | rf0 => exact absurd hn0 (Nat.lt_irrefl _)
    | @rf _ _ _ cap oi ho hn hr =>
      obtain ⟨c, ty, hc, htot, hz, hat⟩ := hO.row ho hblk
      rw [if_neg (by rw [hbx]; simp)] at hat
      have hat' : At o base m blk.cells c oi.off := ⟨hat.1, fun j v v' a b => (hat.2 j v v' a b).mono (OM.Qov o) (.refl m) (Nat.le_refl _)⟩
      refine ⟨_, _, rfl, fun k hk => ?_⟩
      have hks : k * s <= n0 * s := Nat.mul_le_mul_right _ hk
      have ht : Qf9 (k * s) (Qgg off blk.cells) = some ((blk.cells.drop off).take (k * s)) := by
       rw [Qfz]; exact Qf6 (by rw [List.length_drop]; omega)
      obtain ⟨l', e, r⟩ := hat'.take ht
      refine ⟨l', ?_, by rw [List.take_take, Nat.min_eq_left hks]; exact r⟩
      unfold Qif
      show (match w.heap[oi.b]? with | some (.cells c _ _) => Qf9 (k * s) (Qgg (oi.off + off) c.toList) | _ => none) = _
      rw [hc]
      exact e
 ·cases h
theorem Q1z {t ty : TypeId} {d x v : VV} {e : Eff} {q : Prop} {d' x' : Value} (h : Q1r P L t d x = some (v, e, q)) (hq : q) (hO : Own gv base o m L w) (hM : Qbl m w) (hd : R o base m d d') (hx : R o base m x x') :
 ∃ v' w', (Builtin.copy_ #[t, t] ty #[d', x']).run P w = .ok v' w' /\ Res base o m L w N e v v' w' := by
 unfold Q1r at h
 split at h
 case h_2 => cases h
 rename_i el hu
 split at h
 case h_2 => cases h
 rename_i s k off n hs
 split at h
 case h_2 => cases h
 rename_i blk xs n' p hblk hsrc
 have hb0 := Qm h; clear h; obtain ⟨hc, h⟩ := hb0
 simp only [Bool.and_eq_true, Bool.not_eq_true'] at hc
 obtain ⟨⟨hbx, hbs⟩, hs0⟩ := hc
 have hs0 : 0 < s := Qec hs0
 injection h with h; injection h with h1 h2; injection h2 with h2 h3; subst h1; subst h2; subst h3
 obtain ⟨hp, hn, hn', hlen, hst⟩ := hq
 obtain ⟨A, C, rfl, hall⟩ := Q1y hsrc hp hn' hO hM hx
 obtain ⟨l', hfirst, hrl⟩ := hall (Nat.min n' n) (Nat.min_le_left _ _)
 have hmin : Nat.min n' n <= n := Nat.min_le_right _ _
 have hmin0 : 0 < Nat.min n' n := Nat.lt_min.2 ⟨hn', hn⟩
 have hst' : (xs.take (Nat.min n' n * s)).all VV.still = true := by
  rw [List.all_eq_true] at hst ⊢
  exact fun y hy => hst y (List.mem_of_mem_take hy)
 have hxl : (xs.take (Nat.min n' n * s)).length <= n * s := by
  rw [List.length_take]
  exact Nat.le_trans (Nat.min_le_left _ _) (Nat.mul_le_mul_right _ hmin)
 cases hd with
 | t hd => cases hd
 | rf0 => exact absurd hn (Nat.lt_irrefl _)
 | @rf _ _ _ cap oi ho hle hr =>
   obtain ⟨c, ct, hc0, htot, hz0, hat⟩ := hO.row ho (Qw1 hblk)
   rw [if_neg (by rw [hbx]; simp)] at hat
   have hbase : base <= oi.b := by
    cases hO.at_ k _ blk ho (Qbr hblk).1 with
    | row _ _ _ _ hh _ => exact hh (Qbr hblk).2.2
    | it _ _ hh => exact hh
    | mp _ _ _ hh _ _ => exact hh (Qbr hblk).2.2
   have hone := hrl.one (by
    rw [List.all_eq_true] at hst' ⊢
    intro y hy; have := hst' y hy; cases y <;> first | rfl | (cases this))
   have hne : l' ≠ [] := by
    have hfl : l'.length = Nat.min n' n * s := by
     unfold Qif at hfirst
     split at hfirst
     ·rename_i hA
      exfalso
      cases hx with
      | t hx => cases hx with
        | e => exact absurd hn' (Nat.lt_irrefl _)
        | z => exact absurd hn' (Nat.lt_irrefl _)
        | c hg => simp [Qxe] at hsrc
        | any => simp [Qxe] at hsrc
      | fr hx => cases hx; exact absurd hn' (Nat.lt_irrefl _)
      | rf0 => simp only [Qxe] at hsrc; exact absurd hn' (Nat.lt_irrefl _)
      | fw hx _ => cases hx; exact absurd hn' (Nat.lt_irrefl _)
     ·split at hfirst
      case h_2 => cases hfirst
      exact (Qln _ _ _ hfirst).2
     ·cases hfirst
    intro e
    rw [e] at hfl
    have : 0 < Nat.min n' n * s := Nat.mul_pos hmin0 hs0
    simp at hfl; omega
   obtain ⟨l, g1, g2, g3⟩ := hat.put (off := off) (hrl.still hst') (Nat.le_trans (Nat.add_le_add_left hxl off) hlen)
   have hf : fCopy P 0 (Qm5 w) t (.slice (some ⟨oi.b, oi.off + off, none⟩) n cap) (.slice A n' C) = some (goInt (Nat.min n' n), .put oi.b (.cells ⟨l⟩ ct (0, 0))) := by
    unfold fCopy
    simp only [hu, hs, hfirst]
    have h0 : (Nat.ble 0 oi.b && l'.all (·.oneCell')) = true := by rw [hone]; simp
    rw [h0]
    simp only [cond_true]
    cases l' with
    | nil => exact absurd rfl hne
    | cons y ys => simp only [Qm5, hc0, g1]
   refine ⟨_, _, (Qzg hf).1, .put ho hc0 (.row rfl (g2.trans htot) hz0 (Qbr hblk).2.1 (fun _ => hbase) (by rw [hbx]; exact g3)) (fun _ => .t (.c rfl))⟩
end
end Go.Proofs.Ytjomicmhnbmhoaa.Vv
namespace Go.Proofs.Ytjomicmhnbmhoaa.Vv
open Go Go.Proofs.Ytjomicmhnbmhoaa.Ev
theorem bytes_beq (a b : ByteArray) : (a == b) = decide (a = b) := by
 by_cases h : a = b
 ·subst h
  rw [decide_eq_true rfl]
  show ByteArray.beq a a = true
  unfold ByteArray.beq; simp
 ·rw [decide_eq_false h]
  cases e : (a == b) with
  | false => rfl
  | true =>
    exfalso; apply h
    have : ByteArray.beq a b = true := e
    unfold ByteArray.beq at this
    cases a; cases b
    simpa using this
end Go.Proofs.Ytjomicmhnbmhoaa.Vv
