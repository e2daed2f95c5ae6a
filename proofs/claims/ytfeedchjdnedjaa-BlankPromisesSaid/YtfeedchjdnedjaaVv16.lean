import Derived.Test.YtfeedchjdnedjaaVv21
set_option linter.unusedVariables false
set_option linter.unusedSimpArgs false
namespace Go.Proofs.Ytfeedchjdnedjaa.Vv
open Go Go.Proofs.Ytfeedchjdnedjaa.Ev
open Go.RowKit (Below)
def Wv (v v' : VV) : Prop := ∀ o fb m x, R o fb m v x -> R o fb m v' x
theorem Wv.refl (v : VV) : Wv v v := fun _ _ _ _ h => h
theorem Wv.of_eq {v v' : VV} (h : v = v') : Wv v v' := h ▸ Wv.refl v
theorem Wv.fr {cells cells' : List VV} {n n' : Nat} (h : cells = cells') (hn : n = n') : Wv (.fr cells n) (.tr cells' n') := fun o fb m x hr => by
 subst h; subst hn
 cases hr with
 | t h => cases h
 | fr h => exact .t (h.mono (MM.Qjk _ _))
theorem Wv.nil {k : Nat} : Wv (.c (.slice none 0 0)) (.tr [] 0) := fun o fb m x hr => by
 obtain ⟨rfl, _⟩ := hr.J9
 exact .t .e
theorem Wv.Qz5 {k : Nat} : Wv (.c (.slice none 0 0)) (.rf k 0 0) := fun o fb m x hr => by
 obtain ⟨rfl, _⟩ := hr.J9
 exact .rf0
theorem Wv.fw {s : Nat} {cells cells' : List VV} {n n' : Nat} (h : cells = cells') (hn : n = n') : Wv (.fw s cells n) (.fr cells' n') := fun o fb m x hr => by
 subst h; subst hn
 cases hr with
 | t h => cases h
 | fw h _ => exact .fr h
theorem Wv.Qth {s : Nat} : Wv (.c (.slice none 0 0)) (.fw s [] 0) := fun o fb m x hr => by
 obtain ⟨rfl, _⟩ := hr.J9
 exact .fw .e (fun b off c e hp => by cases e)
theorem Wv.e0 : Wv .e0 (.tr [] 0) := fun o fb m x hr => by
 cases hr with
 | t h => cases h; exact .t .e
theorem Wv.any {v : VV} : Wv v .any := fun _ _ _ _ _ => .undef
def vltT (n : Nat) : Tr VV -> Bool
 | .nil => true
 | .node v l r => (match v with | some v => vlt n v | none => true) && vltT n l && vltT n r
theorem Qly {n : Nat} : ∀ {A : Tr VV} {t : Nat} {v : VV}, vltT n A = true -> A.get t = some v -> vlt n v = true
 | .nil, t, v, h, e => by cases t <;> cases e
 | .node u l r, 0, v, h, e => by
   simp only [vltT, Bool.and_eq_true] at h
   have e : u = some v := e
   subst e; exact h.1.1
 | .node u l r, t + 1, v, h, e => by
   simp only [vltT, Bool.and_eq_true] at h
   simp only [Tr.get] at e
   cases hb : Nat.beq (t % 2) 0 with
   | true => rw [hb] at e; exact Qly h.1.2 e
   | false => rw [hb] at e; exact Qly h.2 e
inductive Soft where
 | t (t sz : Nat)
 | b (k i sz : Nat)
 | n (k i : Nat)
structure Cut where
 keep : List (Nat × Option VV)
 blks : List (Option (List VV))
 soft : List Soft
def cutA (n : Nat) (A : Tr VV) : List (Nat × Option VV) -> Option (Tr VV × Prop)
 | [] => some (.nil, True)
 | (t, w) :: l => match cutA n A l with
   | some (A', p) => bif vlt n (ev A (.tmp t)) && Nat.blt t 1000000 then (match w with
     | none => some (A'.set t (ev A (.tmp t)), p)
     | some v => bif vlt n v then some (A'.set t v, Wv (ev A (.tmp t)) v /\ p) else none) else none
   | none => none
def cutL (n : Nat) : List (Option (List VV)) -> List (Option Blk) -> Option (List (Option Blk) × Prop)
 | [], _ => some ([], True)
 | w :: ws, b :: L => match cutL n ws L with
   | some (L', p) => match b with
     | none => some (none :: L', p)
     | some blk => bif !blk.bx || (blk.x || vltL n blk.cells) then (match w with
       | none => some (some blk :: L', p)
       | some cs => some (some { blk with cells := cs } :: L', blk.cells = cs /\ p)) else none
   | none => none
 | _ :: _, [] => none
def Qya (k i n : Nat) (L : List (Option Blk)) : Option (List (Option Blk)) := match gc L k with
 | some blk => match getL i blk.cells with
   | some (.c (.slice none 0 0)) => bif blk.bx then some (setB k { blk with cells := setAt i (.rf n 0 0) blk.cells } L) else none
   | _ => none
 | none => none
def Qyb (t sz : Nat) (s : VS) : Option VS := match ev s.A (.tmp t) with
 | .c (.slice none 0 0) => some ⟨s.A.set t (.rf s.L.length 0 0), s.L ++ [some ⟨false, sz, []⟩], s.G⟩
 | _ => none
def Qyc (k i sz : Nat) (s : VS) : Option VS := match Qya k i s.L.length s.L with
 | some L => some ⟨s.A, L ++ [some ⟨false, sz, []⟩], s.G⟩
 | none => none
def nilP (k i : Nat) (s : VS) : Option VS := match gc s.L k with
 | some blk => match getL i blk.cells with
   | some (.c (.slice none 0 0)) => bif blk.bx then some ⟨s.A, setB k { blk with cells := setAt i (.tr [] 0) blk.cells } s.L, s.G⟩ else none
   | _ => none
 | none => none
def Quk : Soft -> VS -> Option VS
 | .n k i, s => nilP k i s
 | .t t sz, s => bif Nat.blt t 1000000 && Nat.blt sz bigH then Qyb t sz s else none
 | .b k i sz, s => bif Nat.blt sz bigH then Qyc k i sz s else none
def Qul : List Soft -> VS -> Option VS
 | [], s => some s
 | x :: l, s => match Quk x s with
   | some s1 => Qul l s1
   | none => none
def cutS (c : Cut) (s : VS) : Option (VS × Prop) := match cutA c.blks.length s.A c.keep, cutL c.blks.length c.blks s.L with
 | some (A, p), some (L, q) => bif vltT c.blks.length s.G then (match Qul c.soft ⟨A, L, s.G⟩ with
   | some s' => some (s', p /\ q)
   | none => none) else none
 | _, _ => none
theorem Qop {n : Nat} {A : Tr VV} {o : OM} {fb : Nat} {m : MM} {a : Act} (h : ∀ t : Nat, R o fb m (ev A (.tmp t)) (a.tmps.getD t undef)) : ∀ {l : List (Nat × Option VV)} {A' : Tr VV} {p : Prop}, cutA n A l = some (A', p) -> p ->
 ∀ t : Nat, R (o.cut n) fb m (ev A' (.tmp t)) (a.tmps.getD t undef)
 | [], A', p, e, hp, t => by
   simp only [cutA, Option.some.injEq, Prod.mk.injEq] at e
   obtain ⟨rfl, _⟩ := e
   exact .undef
 | (t0, w) :: l, A', p, e, hp, t => by
   simp only [cutA] at e
   split at e
   case h_2 => cases e
   rename_i A1 p1 h1
   have hb0 := Qe e; clear e; obtain ⟨hv, e⟩ := hb0
   simp only [Bool.and_eq_true] at hv
   have hlt := Z4 hv.2
   split at e
   ·simp only [Option.some.injEq, Prod.mk.injEq] at e
    obtain ⟨rfl, rfl⟩ := e
    rw [Qhc (by omega)]
    split
    ·rename_i e; subst e; exact (h t).cut hv.1
    ·exact Qop h h1 hp t
   ·rename_i v
    have hb0 := Qe e; clear e; obtain ⟨hvv, e⟩ := hb0
    simp only [Option.some.injEq, Prod.mk.injEq] at e
    obtain ⟨rfl, rfl⟩ := e
    rw [Qhc (by omega)]
    split
    ·rename_i e; subst e; exact (hp.1 _ _ _ _ (h t)).cut hvv
    ·exact Qop h h1 hp.2 t
theorem Qum {n : Nat} : ∀ {ws : List (Option (List VV))} {L L' : List (Option Blk)} {p : Prop}, cutL n ws L = some (L', p) -> p -> L'.length = ws.length /\ ∀ k blk, gb L' k = some blk -> gb L k = some blk /\ (blk.bx = true -> blk.x = false -> vltL n blk.cells = true)
 | [], L, L', p, e, hp => by
   have : L' = [] := by cases L <;> simp_all [cutL]
   subst this
   exact ⟨rfl, fun k blk h => by simp [gb, getL] at h⟩
 | w :: ws, [], L', p, e, hp => by simp [cutL] at e
 | w :: ws, b :: L, L', p, e, hp => by
   simp only [cutL] at e
   split at e
   case h_2 => cases e
   rename_i L1 p1 h1
   have tail : ∀ {c : Option Blk}, p1 -> (∀ blk, c = some blk -> b = some blk /\ (blk.bx = true -> blk.x = false -> vltL n blk.cells = true)) -> (c :: L1).length = (w :: ws).length /\ ∀ k blk, gb (c :: L1) k = some blk -> gb (b :: L) k = some blk /\ (blk.bx = true -> blk.x = false -> vltL n blk.cells = true) := by
    intro c hp1 hc
    obtain ⟨g1, g2⟩ := Qum h1 hp1
    refine ⟨by simp [g1], fun k blk h => ?_⟩
    cases k with
    | zero =>
      have h : c = some blk := by simpa [gb, getL] using h
      obtain ⟨e1, e2⟩ := hc blk h
      exact ⟨by simp [gb, getL, e1], e2⟩
    | succ k =>
      have h : gb L1 k = some blk := by simpa [gb, getL] using h
      obtain ⟨e1, e2⟩ := g2 k blk h
      exact ⟨by simpa [gb, getL] using e1, e2⟩
   split at e
   ·simp only [Option.some.injEq, Prod.mk.injEq] at e
    obtain ⟨rfl, rfl⟩ := e
    exact tail hp (fun blk h => by cases h)
   ·rename_i blk0
    have hb0 := Qe e; clear e; obtain ⟨hv, e⟩ := hb0
    have hbx : blk0.bx = true -> blk0.x = false -> vltL n blk0.cells = true := fun h hx => by rw [h, hx] at hv; simpa using hv
    split at e
    ·simp only [Option.some.injEq, Prod.mk.injEq] at e
     obtain ⟨rfl, rfl⟩ := e
     exact tail hp (fun blk h => by injection h with h; subst h; exact ⟨rfl, hbx⟩)
    ·simp only [Option.some.injEq, Prod.mk.injEq] at e
     obtain ⟨rfl, rfl⟩ := e
     obtain ⟨rfl, hp1⟩ := hp
     exact tail hp1 (fun blk h => by injection h with h; subst h; exact ⟨rfl, hbx⟩)
theorem Qvr {k i n sz : Nat} {s : VS} {L : List (Option Blk)} (h : Qya k i n s.L = some L) (hn : n = s.L.length) : Wk s ⟨s.A, L ++ [some ⟨false, sz, []⟩], s.G⟩ := by
 unfold Qya at h
 split at h
 case h_2 => cases h
 rename_i blk hgc
 split at h
 case h_2 => cases h
 rename_i hgi
 have hb0 := Qe h; clear h; obtain ⟨hbx, h⟩ := hb0
 simp only [Option.some.injEq] at h
 subst h
 have hgb := (Qc6 hgc).1
 have hk : k < s.L.length := Qjl hgb
 have hlook : ∀ (k' : Nat) (blk' : Blk), gb (setB k { blk with cells := setAt i (.rf n 0 0) blk.cells } s.L ++ [some ⟨false, sz, []⟩]) k' = some blk' ->
  (k' = s.L.length /\ blk' = ⟨false, sz, []⟩) \/ (k' = k /\ blk' = { blk with cells := setAt i (.rf n 0 0) blk.cells }) \/ gb s.L k' = some blk' := by
  intro k' blk' e
  rw [Qdf, Qby] at e
  split at e
  ·injection e with e; exact .inl ⟨‹_›, e.symm⟩
  ·rw [Qde] at e
   split at e
   ·rename_i hc
    injection e with e; exact .inr (.inl ⟨by omega, e.symm⟩)
   ·exact .inr (.inr e)
 intro gv base w0 m0 sz' o m a w hR
 refine ⟨o, m, hR.asz, hR.adf, hR.tm, ⟨fun k' oi blk' e1 e2 => ?_, hR.own.dom, hR.own.inj⟩, fun k' oi e => by have := hR.olt k' oi e; show k' < (setB _ _ s.L ++ [_]).length; simp [Qby]; omega, fun k' blk' e hb => ?_, hR.mem, hR.mfr, hR.below, hR.hb, hR.gh, hR.mlo, fun k' blk' e hb => ?_⟩
 ·have hlt := hR.olt k' oi e1
  rcases hlook k' blk' e2 with ⟨h1, _⟩ | ⟨h1, h2⟩ | h1
  ·omega
  ·subst h1; subst h2
   cases hR.own.at_ k' oi blk e1 hgb with
   | row h hs hz hx hh ha =>
     refine .row h hs hz hx hh ⟨by have := ha.1; show oi.off + (setAt i _ blk.cells).length <= _; rw [Qgl]; exact this, fun j v v' a b => ?_⟩
     have a : (setAt i (.rf n 0 0) blk.cells)[j]? = some v := a
     rw [Qdv] at a
     split at a
     ·rename_i hc
      injection a with a; subst a
      have h9 := ha.2 j _ v' (by rw [hc.1, <- Jj]; exact hgi) b
      obtain ⟨rfl, _⟩ := h9.J9
      exact .rf0
     ·exact ha.2 j v v' a b
   | it h hb hh =>
     have := (Qc6 hgc).2
     rw [show blk.x = true by rw [hb]; exact Nat.ble_eq_true_of_le (Nat.le_refl _)] at this
     cases this
   | mp h hb hz hh hv ha =>
     have := (Qc6 hgc).2
     rw [show blk.x = true by unfold Blk.x; exact Nat.ble_eq_true_of_le (by omega)] at this
     cases this
  ·exact hR.own.at_ k' oi blk' e1 h1
 ·rcases hlook k' blk' e with ⟨_, h2⟩ | ⟨_, h2⟩ | h1
  ·subst h2; rfl
  ·subst h2; rw [hbx] at hb; cases hb
  ·exact hR.still k' blk' h1 hb
 ·rcases hlook k' blk' e with ⟨_, h2⟩ | ⟨h1, _⟩ | h1
  ·subst h2; cases hb
  ·subst h1; exact hR.ex k' blk hgb hbx
  ·exact hR.ex k' blk' h1 hb
theorem Qvs {k i sz : Nat} {s s1 : VS} (h : Qyc k i sz s = some s1) : Wk s s1 := by
 unfold Qyc at h
 split at h
 ·rename_i L hL
  injection h with h; subst h
  exact Qvr hL rfl
 ·cases h
theorem Qyd {k i : Nat} {s s1 : VS} (h : nilP k i s = some s1) : Wk s s1 := by
 unfold nilP at h
 split at h
 case h_2 => cases h
 rename_i blk hgc
 split at h
 case h_2 => cases h
 rename_i hgi
 have hb0 := Qe h; clear h; obtain ⟨hbx, h⟩ := hb0
 simp only [Option.some.injEq] at h
 subst h
 have hgb := (Qc6 hgc).1
 have hlook : ∀ (k' : Nat) (blk' : Blk), gb (setB k { blk with cells := setAt i (.tr [] 0) blk.cells } s.L) k' = some blk' ->
  (k' = k /\ blk' = { blk with cells := setAt i (.tr [] 0) blk.cells }) \/ gb s.L k' = some blk' := by
  intro k' blk' e
  rw [Qde] at e
  split at e
  ·rename_i hc
   injection e with e; exact .inl ⟨by omega, e.symm⟩
  ·exact .inr e
 intro gv base w0 m0 sz' o m a w hR
 refine ⟨o, m, hR.asz, hR.adf, hR.tm, ⟨fun k' oi blk' e1 e2 => ?_, hR.own.dom, hR.own.inj⟩, fun k' oi e => by have := hR.olt k' oi e; show k' < (setB _ _ s.L).length; rw [Qby]; exact this, fun k' blk' e hb => ?_, hR.mem, hR.mfr, hR.below, hR.hb, hR.gh, hR.mlo, fun k' blk' e hb => ?_⟩
 ·rcases hlook k' blk' e2 with ⟨h1, h2⟩ | h1
  ·subst h1; subst h2
   cases hR.own.at_ k' oi blk e1 hgb with
   | row h hs hz hx hh ha =>
     refine .row h hs hz hx hh ⟨by have := ha.1; show oi.off + (setAt i _ blk.cells).length <= _; rw [Qgl]; exact this, fun j v v' a b => ?_⟩
     have a : (setAt i (.tr [] 0) blk.cells)[j]? = some v := a
     rw [Qdv] at a
     split at a
     ·rename_i hc
      injection a with a; subst a
      have h9 := ha.2 j _ v' (by rw [hc.1, <- Jj]; exact hgi) b
      obtain ⟨rfl, _⟩ := h9.J9
      exact .t .e
     ·exact ha.2 j v v' a b
   | it h hb hh =>
     have := (Qc6 hgc).2
     rw [show blk.x = true by rw [hb]; exact Nat.ble_eq_true_of_le (Nat.le_refl _)] at this
     cases this
   | mp h hb hz hh hv ha =>
     have := (Qc6 hgc).2
     rw [show blk.x = true by unfold Blk.x; exact Nat.ble_eq_true_of_le (by omega)] at this
     cases this
  ·exact hR.own.at_ k' oi blk' e1 h1
 ·rcases hlook k' blk' e with ⟨_, h2⟩ | h1
  ·subst h2; rw [hbx] at hb; cases hb
  ·exact hR.still k' blk' h1 hb
 ·rcases hlook k' blk' e with ⟨h1, _⟩ | h1
  ·subst h1; exact hR.ex k' blk hgb hbx
  ·exact hR.ex k' blk' h1 hb
theorem Qvt {t sz : Nat} {s s1 : VS} (h : Qyb t sz s = some s1) (hlt : t < 1000000) : Wk s s1 := by
 unfold Qyb at h
 split at h
 case h_2 => cases h
 rename_i hev
 injection h with h; subst h
 intro gv base w0 m0 sz' o m a w hR
 refine ⟨o, m, hR.asz, hR.adf, fun t' => ?_, ⟨fun k oi blk e1 e2 => ?_, hR.own.dom, hR.own.inj⟩, fun k oi e => by have := hR.olt k oi e; show k < (s.L ++ [_]).length; simp; omega, fun k blk e hbx => ?_, hR.mem, hR.mfr, hR.below, hR.hb, hR.gh, hR.mlo, fun k blk e hbx => ?_⟩
 ·show R o base m (ev (s.A.set t _) (.tmp t')) _
  rw [Qhc (by omega)]
  split
  ·rename_i e; subst e
   have := hR.tm t'
   rw [hev] at this
   exact Wv.Qz5 _ _ _ _ this
  ·exact hR.tm t'
 ·have hk := hR.olt k oi e1
  have e2' : gb (s.L ++ [some ⟨false, sz, []⟩]) k = some blk := e2
  rw [Qdf, if_neg (by omega)] at e2'
  exact hR.own.at_ k oi blk e1 e2'
 ·have e' : gb (s.L ++ [some ⟨false, sz, []⟩]) k = some blk := e
  rw [Qdf] at e'
  split at e'
  ·injection e' with e'; subst e'; rfl
  ·exact hR.still k blk e' hbx
 ·have e' : gb (s.L ++ [some ⟨false, sz, []⟩]) k = some blk := e
  rw [Qdf] at e'
  split at e'
  ·injection e' with e'; subst e'; cases hbx
  ·exact hR.ex k blk e' hbx
theorem Qvu : ∀ {x : Soft} {s s' : VS}, Quk x s = some s' -> Wk s s'
 | .n k i, s, s', h => by
   unfold Quk at h
   exact Qyd h
 | .t t sz, s, s', h => by
   unfold Quk at h
   have hb0 := Qe h; clear h; obtain ⟨hlt, h⟩ := hb0
   rw [Bool.and_eq_true] at hlt
   exact Qvt h (Z4 hlt.1)
 | .b k i sz, s, s', h => by
   unfold Quk at h
   exact Qvs (Qe h).2
theorem Qqi : ∀ {l : List Soft} {s s' : VS}, Qul l s = some s' -> Wk s s'
 | [], s, s', h => by simp only [Qul, Option.some.injEq] at h; subst h; exact .refl _
 | x :: l, s, s', h => by
   simp only [Qul] at h
   split at h
   ·rename_i s1 h1
    exact Wk.trans (Qvu h1) (Qqi h)
   ·cases h
theorem Qog {c : Cut} {s s' : VS} {p : Prop} (h : cutS c s = some (s', p)) (hp : p) : Wk s s' := by
 unfold cutS at h
 split at h
 case h_2 => cases h
 rename_i A p1 L q1 hA hL
 have hb0 := Qe h; clear h; obtain ⟨hG, h⟩ := hb0
 split at h
 case h_2 => cases h
 rename_i s1 hs
 simp only [Option.some.injEq, Prod.mk.injEq] at h
 obtain ⟨rfl, rfl⟩ := h
 refine Wk.trans ?_ (Qqi hs)
 intro gv base w0 m0 sz o m a w hR
 obtain ⟨g1, g2⟩ := Qum hL hp.2
 have hle := OM.Qv3 o c.blks.length
 refine ⟨o.cut c.blks.length, m, hR.asz, hR.adf, Qop hR.tm hA hp.1, ⟨fun k oi blk e1 e2 => ?_, fun k oi e => hR.own.dom k oi (hle k oi e), fun k k' oi oi' e e' => hR.own.inj k k' oi oi' (hle k oi e) (hle k' oi' e')⟩, fun k oi e => ?_, fun k blk e hbx => hR.still k blk (g2 k blk e).1 hbx, hR.mem, hR.mfr, hR.below, hR.hb, fun t => ?_, hR.mlo, fun k blk e hbx => ?_⟩
 ·obtain ⟨k1, k2⟩ := g2 k blk e2
  cases hR.own.at_ k oi blk (hle k oi e1) k1 with
  | row h1 h2 h3 h5 h6 h4 =>
    refine .row h1 h2 h3 h5 h6 ⟨h4.1, fun j v v' a b => ?_⟩
    have := h4.2 j v v' a b
    cases hbx : blk.bx with
    | false => rw [hbx] at this; exact this
    | true =>
      rw [hbx] at this
      exact this.cut (Qf3 (k2 hbx h5) a)
  | it h1 h2 h3 => exact .it h1 h2 h3
  | mp h1 h2 h3 h4 h5 h6 => exact .mp h1 h2 h3 h4 h5 h6
 ·unfold OM.cut at e
  split at e
  ·rename_i hlt
   show k < L.length
   rw [g1]; exact hlt
  ·cases e
 ·refine (hR.gh t).cut ?_
  show vlt _ (Vv.ev s.G (.tmp t)) = true
  simp only [Vv.ev]
  cases hA2 : s.G.get t with
  | none => rfl
  | some v => exact Qly hG hA2
 ·obtain ⟨k1, _⟩ := g2 k blk e
  obtain ⟨oi, ho⟩ := hR.ex k blk k1 hbx
  refine ⟨oi, ?_⟩
  unfold OM.cut
  rw [if_pos (by rw [<- g1]; exact Qjl e)]; exact ho
inductive An where
 | reg (as : List Ans)
 | br (b : Bool)
 | sub (c : Cut) (e : Exit) (s : VS)
 | frz (k : Nat)
 | frs (k : Nat)
 | unr (n : Nat)
def frzA : List An -> VS -> Option (List An × VS × Option Prop)
 | .frz k :: as, s => match frz1 k s with
   | some s1 => frzA as s1
   | none => none
 | .frs k :: as, s => match frz2 k s with
   | some (s1, q) => (match frzA as s1 with
     | some (as', s', none) => some (as', s', some q)
     | some (as', s', some q') => some (as', s', some (q /\ q'))
     | none => none)
   | none => none
 | as, s => some (as, s, none)
def frzP (p : Prop) (r : Option Prop) (q : Prop) : Prop := match r with
 | none => p /\ q
 | some r => p /\ r /\ q
theorem Qjc : ∀ {as as' : List An} {s s' : VS} {r : Option Prop}, frzA as s = some (as', s', r) -> (∀ q, r = some q -> q) -> Wk s s'
 | [], _, s, _, _, h, _ => by injection h with h; injection h with _ h; injection h with h _; subst h; exact .refl _
 | .frz k :: as, as', s, s', r, h, hr => by
   simp only [frzA] at h
   split at h
   case h_2 => cases h
   rename_i s1 h1
   exact (Qtk h1).trans (Qjc h hr)
 | .frs k :: as, as', s, s', r, h, hr => by
   simp only [frzA] at h
   split at h
   case h_2 => cases h
   rename_i s1 q h1
   split at h
   ·rename_i h2
    injection h with h; injection h with e1 h; injection h with e2 e3; subst e1; subst e2; subst e3
    exact (Qtl h1 (hr _ rfl)).trans (Qjc h2 (fun q e => by cases e))
   ·rename_i q' h2
    injection h with h; injection h with e1 h; injection h with e2 e3; subst e1; subst e2; subst e3
    exact (Qtl h1 (hr _ rfl).1).trans (Qjc h2 (fun q e => by injection e with e; subst e; exact (hr _ rfl).2))
   ·cases h
 | .reg _ :: _, _, s, _, _, h, _ => by injection h with h; injection h with _ h; injection h with h _; subst h; exact .refl _
 | .br _ :: _, _, s, _, _, h, _ => by injection h with h; injection h with _ h; injection h with h _; subst h; exact .refl _
 | .sub _ _ _ :: _, _, s, _, _, h, _ => by injection h with h; injection h with _ h; injection h with h _; subst h; exact .refl _
 | .unr _ :: _, _, s, _, _, h, _ => by injection h with h; injection h with _ h; injection h with h _; subst h; exact .refl _
def unrN (f : List An -> VS -> Option (Exit × VS × Prop × List An)) : Nat -> List An -> VS -> Option (Exit × VS × Prop × List An)
 | 0, _, _ => none
 | n + 1, as, s => match f as s with
   | some (.normal, s1, p, as1) => match unrN f n as1 s1 with
     | some (e, s2, q, as2) => some (e, s2, p /\ q, as2)
     | none => none
   | r => r
theorem Qun {rd : Option Nat} {P : Program} {sz : Nat} {c : Code} {f : List An -> VS -> Option (Exit × VS × Prop × List An)} (hf : ∀ as s e s' q rest, f as s = some (e, s', q, rest) -> q -> VRun rd P sz c s e s') : ∀ (n : Nat) (as : List An) (s : VS) (e : Exit) (s' : VS) (q : Prop) (rest : List An), unrN f n as s = some (e, s', q, rest) -> q -> Ya rd P sz c s e s'
 | 0, as, s, e, s', q, rest, h, hq => by simp [unrN] at h
 | n + 1, as, s, e, s', q, rest, h, hq => by
   simp only [unrN] at h
   split at h
   ·rename_i s1 p as1 hx
    split at h
    case h_2 => cases h
    rename_i e2 s2 q2 as2 hy
    simp only [Option.some.injEq, Prod.mk.injEq] at h
    obtain ⟨rfl, rfl, rfl, _⟩ := h
    exact .next (hf _ _ _ _ _ _ hx hq.1) (Qun hf n _ _ _ _ _ _ hy hq.2)
   ·rename_i hno
    refine .stop (hf _ _ _ _ _ _ h hq) (fun e0 => ?_)
    subst e0
    exact hno _ _ _ h
def Wy (rd : Option Nat) (P : Program) (sz : Nat) : Code -> List An -> VS -> Option (Exit × VS × Prop × List An)
 | .loop x, .sub cc e s' :: as, s => match cutS cc s with
   | some (s0, p) => some (e, s', p /\ VRun rd P sz (.loop x) s0 e s', as)
   | none => none
 | .loop x, .unr n :: as, s => unrN (fun as s => Wy rd P sz x as s) n as s
 | .rangeFunc f ps x y, .sub cc e s' :: as, s => match cutS cc s with
   | some (s0, p) => some (e, s', p /\ VRun rd P sz (.rangeFunc f ps x y) s0 e s', as)
   | none => none
 | .skip, as, s => some (.normal, s, True, as)
 | .label _, as, s => some (.normal, s, True, as)
 | .exit id, as, s => some (.exit id, s, True, as)
 | .ret, as, s => some (.ret, s, True, as)
 | .region _ ops draw, .reg a :: as, s => bif Qhr sz ops then (match draw with
   | false => match vOps P ops 0 0 ops.toList a s with
     | some (s1, q) => some (.normal, s1, q, as)
     | none => none
   | true => match Qii ops with
     | some m => bif Qt6 P ops m a s then (match Qjq P ops m (Qqc P ops m a s) 0 ops.toList a [] s with
       | some (s1, q) => some (.normal, s1, q, as)
       | none => none) else none
     | none => none) else none
 | .seq x y, as, s => match Wy rd P sz x as s with
   | some (.normal, s1, p, as1) => match frzA as1 s1 with
     | some (as1, s1, r) => match Wy rd P sz y as1 s1 with
       | some (e, s2, q, as2) => some (e, s2, frzP p r q, as2)
       | none => none
     | none => none
   | r => r
 | .cond c x y, .br b :: as, s => match ev s.A c with
   | .c (.bool b') => (match b with
     | true => match Wy rd P sz x as s with
       | some (e, s1, p, as1) => some (e, s1, b' = true /\ p, as1)
       | none => none
     | false => match Wy rd P sz y as s with
       | some (e, s1, p, as1) => some (e, s1, b' = false /\ p, as1)
       | none => none)
   | _ => none
 | .block id x, as, s => match Wy rd P sz x as s with
   | some (.exit id', s1, p, as1) => bif Nat.beq id' id then some (.normal, s1, p, as1) else some (.exit id', s1, p, as1)
   | r => r
 | _, _, _ => none
theorem Qfy {rd : Option Nat} {P : Program} {sz : Nat} (hmx : P.follows .mixedOrders = true) (hn : Named P) : ∀ (c : Code) (as : List An) (s : VS) (e : Exit) (s' : VS) (q : Prop) (rest : List An), Wy rd P sz c as s = some (e, s', q, rest) -> q -> VRun rd P sz c s e s' := by
 have sub : ∀ (c : Code) (cc : Cut) (e0 : Exit) (s0 : VS) (as : List An) (s : VS) (e : Exit) (s' : VS) (q : Prop) (rest : List An), (match cutS cc s with
  | some (s1, p) => some (e0, s0, p /\ VRun rd P sz c s1 e0 s0, as)
  | none => none) = some (e, s', q, rest) -> q -> VRun rd P sz c s e s' := by
  intro c cc e0 s0 as s e s' q rest h hq
  split at h
  case h_2 => cases h
  rename_i s1 p hc
  simp only [Option.some.injEq, Prod.mk.injEq] at h
  obtain ⟨rfl, rfl, rfl, _⟩ := h
  exact .weak (Qog hc hq.1) hq.2
 intro c
 induction c with
 | skip =>
   intro as s e s' q rest h hq
   simp only [Wy, Option.some.injEq, Prod.mk.injEq] at h; obtain ⟨rfl, rfl, _⟩ := h; exact .skip
 | label l =>
   intro as s e s' q rest h hq
   simp only [Wy, Option.some.injEq, Prod.mk.injEq] at h; obtain ⟨rfl, rfl, _⟩ := h; exact .label
 | exit id =>
   intro as s e s' q rest h hq
   simp only [Wy, Option.some.injEq, Prod.mk.injEq] at h; obtain ⟨rfl, rfl, _⟩ := h; exact .exit
 | ret =>
   intro as s e s' q rest h hq
   simp only [Wy, Option.some.injEq, Prod.mk.injEq] at h; obtain ⟨rfl, rfl, _⟩ := h; exact .ret
 | region id ops draw =>
   intro as s e s' q rest h hq
   rcases as with _ | ⟨a, as⟩
   ·simp [Wy] at h
   ·cases a with
    | sub => simp [Wy] at h
    | frz => simp [Wy] at h
    | frs => simp [Wy] at h
    | unr => simp [Wy] at h
    | br => simp [Wy] at h
    | reg a =>
      simp only [Wy] at h
      have hb0 := Qe h; clear h; obtain ⟨hok, h⟩ := hb0
      split at h
      ·split at h
       case h_2 => cases h
       rename_i s1 q1 h1
       simp only [Option.some.injEq, Prod.mk.injEq] at h
       obtain ⟨rfl, rfl, rfl, _⟩ := h
       exact .region hn hmx hok h1 hq
      ·split at h
       case h_2 => cases h
       rename_i m hd
       have hb0 := Qe h; clear h; obtain ⟨hpu, h⟩ := hb0
       split at h
       case h_2 => cases h
       rename_i s1 q1 h1
       simp only [Option.some.injEq, Prod.mk.injEq] at h
       obtain ⟨rfl, rfl, rfl, _⟩ := h
       exact .draw hmx hn hok hd hpu h1 hq
 | seq x y ihx ihy =>
   intro as s e s' q rest h hq
   simp only [Wy] at h
   split at h
   ·rename_i s1 p as1 hx
    split at h
    case h_2 => cases h
    rename_i as1' s1' r hz
    split at h
    case h_2 => cases h
    rename_i e2 s2 q2 as2 hy
    simp only [Option.some.injEq, Prod.mk.injEq] at h
    obtain ⟨rfl, rfl, rfl, _⟩ := h
    cases r with
    | none => exact .seq ((ihx _ _ _ _ _ _ hx hq.1).Qvf (Qjc hz (fun q e => by cases e))) (ihy _ _ _ _ _ _ hy hq.2)
    | some r => exact .seq ((ihx _ _ _ _ _ _ hx hq.1).Qvf (Qjc hz (fun q e => by injection e with e; subst e; exact hq.2.1))) (ihy _ _ _ _ _ _ hy hq.2.2)
   ·rename_i hno
    refine .Qx9 (ihx _ _ _ _ _ _ h hq) (fun e0 => ?_)
    subst e0
    exact hno _ _ _ h
 | cond c x y ihx ihy =>
   intro as s e s' q rest h hq
   rcases as with _ | ⟨a, as⟩
   ·simp [Wy] at h
   ·cases a with
    | sub => simp [Wy] at h
    | frz => simp [Wy] at h
    | frs => simp [Wy] at h
    | unr => simp [Wy] at h
    | reg => simp [Wy] at h
    | br b =>
      simp only [Wy] at h
      split at h
      case h_2 => cases h
      rename_i b' hev
      split at h
      ·split at h
       case h_2 => cases h
       rename_i e1 s1 p as1 hx
       simp only [Option.some.injEq, Prod.mk.injEq] at h
       obtain ⟨rfl, rfl, rfl, _⟩ := h
       exact .yes hev hq.1 (ihx _ _ _ _ _ _ hx hq.2)
      ·split at h
       case h_2 => cases h
       rename_i e1 s1 p as1 hx
       simp only [Option.some.injEq, Prod.mk.injEq] at h
       obtain ⟨rfl, rfl, rfl, _⟩ := h
       exact .nope hev hq.1 (ihy _ _ _ _ _ _ hx hq.2)
 | block id x ih =>
   intro as s e s' q rest h hq
   simp only [Wy] at h
   split at h
   ·rename_i id' s1 p as1 hx
    cases hb : Nat.beq id' id with
    | true =>
      rw [hb] at h
      simp only [cond_true, Option.some.injEq, Prod.mk.injEq] at h
      obtain ⟨rfl, rfl, rfl, _⟩ := h
      obtain rfl := Nat.eq_of_beq_eq_true hb
      exact .block (ih _ _ _ _ _ _ hx hq)
    | false =>
      rw [hb] at h
      simp only [cond_false, Option.some.injEq, Prod.mk.injEq] at h
      obtain ⟨rfl, rfl, rfl, _⟩ := h
      exact .Qnn (ih _ _ _ _ _ _ hx hq) (fun e => Nat.ne_of_beq_eq_false hb (by injection e))
   ·rename_i hno
    refine .Qnn (ih _ _ _ _ _ _ h hq) (fun e0 => ?_)
    subst e0
    exact hno _ _ _ _ h
 | loop x ih =>
   intro as s e s' q rest h hq
   rcases as with _ | ⟨a, as⟩
   ·simp [Wy] at h
   ·cases a with
    | sub => simp only [Wy] at h; exact sub _ _ _ _ _ _ _ _ _ _ h hq
    | unr n => simp only [Wy] at h; exact .loop (Qun (fun as s e s' q rest h hq => ih as s e s' q rest h hq) n _ _ _ _ _ _ h hq)
    | _ => simp [Wy] at h
 | rangeFunc f ps x y ihx ihy =>
   intro as s e s' q rest h hq
   rcases as with _ | ⟨a, as⟩
   ·simp [Wy] at h
   ·cases a with
    | sub => simp only [Wy] at h; exact sub _ _ _ _ _ _ _ _ _ _ h hq
    | _ => simp [Wy] at h
 | scope x ih => intro as s e s' q rest h hq; simp [Wy] at h
 | goto l => intro as s e s' q rest h hq; simp [Wy] at h
 | refuse l => intro as s e s' q rest h hq; simp [Wy] at h
end Go.Proofs.Ytfeedchjdnedjaa.Vv
