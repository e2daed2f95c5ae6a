import Derived.Test.YtfeedchjdnedjaaVv10
set_option linter.unusedVariables false
set_option linter.unusedSimpArgs false
namespace Go.Proofs.Ytfeedchjdnedjaa.Vv
open Go Go.Proofs.Ytfeedchjdnedjaa.Ev
open Go.RowKit (Below)
section
variable {P : Program} {gv : Nat -> Value} {base : Nat} {w0 : World} {m0 : MM} {sz : Nat} {s : VS} {o : OM} {m : MM} {a : Act} {w : World} {rd : Option Nat}
theorem Qm6 {α : Type} {n : Nat} {l : List α} {x : α} : getL n l = some x ↔ l[n]? = some x := by rw [Jj]
theorem Qi6 : ∀ {ks : List Nat}, nodupB ks = true -> ∀ (i j : Nat) (k : Nat), ks[i]? = some k -> ks[j]? = some k -> i = j
 | [], _, i, j, k, h, _ => by simp at h
 | x :: ks, h, i, j, k, h1, h2 => by
   simp only [nodupB, Bool.and_eq_true] at h
   have no : ∀ n, ks[n]? ≠ some x := fun n hn => by
    have := List.all_eq_true.1 h.1 x (List.mem_of_getElem? hn)
    rw [show Nat.beq x x = true from Nat.beq_refl x] at this; cases this
   cases i with
   | zero =>
     cases j with
     | zero => rfl
     | succ j =>
       simp at h1 h2; subst h1
       exact absurd h2 (no j)
   | succ i =>
     cases j with
     | zero =>
       simp at h1 h2; subst h2
       exact absurd h1 (no i)
     | succ j => rw [Qi6 h.2 i j k (by simpa using h1) (by simpa using h2)]
theorem Qg9 {ks : List Nat} {L : List (Option Blk)} : ∀ {ls : List Nat} {hs : List Blk}, Qhj ks L ls = some hs -> hs.length = ls.length /\ ∀ (j k : Nat), ls[j]? = some k -> ∃ old b', gb L k = some old /\ Qn9 ks old = some b' /\ hs[j]? = some b'
 | [], hs, h => by
   simp only [Qhj, Option.some.injEq] at h; subst h
   exact ⟨rfl, fun j k h => by simp at h⟩
 | k0 :: ls, hs, h => by
   simp only [Qhj] at h
   split at h
   case h_2 => cases h
   rename_i b hb
   split at h
   case h_2 => cases h
   rename_i b' r h1 h2
   injection h with h; subst h
   obtain ⟨g1, g2⟩ := Qg9 h2
   refine ⟨by simp [g1], fun j k hk => ?_⟩
   cases j with
   | zero => simp at hk; subst hk; exact ⟨b, b', hb, h1, rfl⟩
   | succ j => simpa using g2 j k (by simpa using hk)
theorem Qbs {ks : List Nat} {L : List (Option Blk)} : ∀ {ls : List Nat} {l : List Blk} {bs : List (Nat × Blk)} {q : Prop}, Qev ks L ls l = some (bs, q) -> q -> nodupB ls = true -> ∀ (L' : List (Option Blk)) (k : Nat),
 ((∀ i : Nat, ls[i]? ≠ some k) -> gb (Qhu bs L') k = gb L' k) /\ (∀ i : Nat, ls[i]? = some k -> k < L'.length -> ∃ old new, gb L k = some old /\ l[i]? = some new /\ gb (Qhu bs L') k = some (Qg5 ks old new).1 /\ (Qg5 ks old new).2)
 | [], [], bs, q, h, hq, hn, L', k => by
   simp only [Qev, Option.some.injEq, Prod.mk.injEq] at h
   obtain ⟨rfl, rfl⟩ := h
   exact ⟨fun _ => rfl, fun i h => by simp at h⟩
 | [], _ :: _, bs, q, h, hq, hn, L', k => by simp [Qev] at h
 | _ :: _, [], bs, q, h, hq, hn, L', k => by simp [Qev] at h
 | k0 :: ls, b :: l, bs, q, h, hq, hn, L', k => by
   simp only [Qev] at h
   split at h
   case h_2 => cases h
   rename_i old r q1 h1 h2
   simp only [Option.some.injEq, Prod.mk.injEq] at h
   obtain ⟨rfl, rfl⟩ := h
   have hn' := hn
   simp only [nodupB, Bool.and_eq_true] at hn
   have hnk : ∀ i : Nat, ls[i]? ≠ some k0 := fun i hi => by
    have := Qi6 hn' 0 (i + 1) k0 rfl (by simpa using hi)
    omega
   have ih := Qbs h2 hq.2 hn.2 (setB k0 (Qg5 ks old b).1 L') k
   refine ⟨fun hno => ?_, fun i hi hlt => ?_⟩
   ·show gb (Qhu r (setB k0 _ L')) k = _
    rw [ih.1 (fun i hi => hno (i + 1) (by simpa using hi)), Qde, if_neg (fun e => hno 0 (by rw [e.1]; rfl))]
   ·cases i with
    | zero =>
      simp at hi; subst hi
      refine ⟨old, b, h1, rfl, ?_, hq.1⟩
      show gb (Qhu r (setB k0 _ L')) k0 = _
      rw [ih.1 hnk, Qde, if_pos ⟨rfl, hlt⟩]
    | succ i =>
      obtain ⟨o', n', g1, g2, g3, g4⟩ := ih.2 i (by simpa using hi) (by rw [Qby]; exact hlt)
      exact ⟨o', n', g1, by simpa using g2, g3, g4⟩
theorem Qi7 : ∀ (bs : List (Nat × Blk)) (L : List (Option Blk)), (Qhu bs L).length = L.length
 | [], _ => rfl
 | (k, b) :: bs, L => by simp only [Qhu]; rw [Qi7 bs, Qby]
theorem Qtr {k : Nat} {v : VV} {v' : Value} (h : R o base m v v') (hn : 0 < refN k v) : ∃ oi, o k = some oi := by
 cases v <;> first | (simp [refN] at hn; done) | skip
 rename_i j off n
 simp only [refN] at hn
 cases hb : Nat.beq j k with
 | false => rw [hb] at hn; simp at hn
 | true =>
   obtain rfl := Nat.eq_of_beq_eq_true hb
   rw [hb] at hn
   simp only [cond_true] at hn
   cases h with
   | t h => cases h
   | rf ho => exact ⟨_, ho⟩
   | rf0 => omega
theorem Qlh {k : Nat} : ∀ {l : List VV} {l' : List Value}, RL o base m l l' -> 0 < Qi0 k l -> ∃ oi, o k = some oi
 | [], _, _, h => by simp [Qi0] at h
 | v :: l, [], hr, _ => by have := hr.1; simp at this
 | v :: l, v' :: l', hr, hn => by
   obtain ⟨h1, h2⟩ := hr.tail
   have one : ∀ {v : VV} {v' : Value}, R o base m v v' -> (∀ cs, v ≠ .ag cs) -> Qi0 k (v :: l) = refN k v + Qi0 k l -> 0 < Qi0 k (v :: l) -> ∃ oi, o k = some oi := by
    intro v v' h1 _ e hn
    rw [e] at hn
    by_cases h : 0 < refN k v
    ·exact Qtr h1 h
    ·exact Qlh h2 (by omega)
   cases v with
   | ag cs =>
     simp only [Qi0] at hn
     by_cases h : 0 < Qi0 k l
     ·exact Qlh h2 h
     ·have hs : 0 < (cs.map (refN k)).sum := by omega
      obtain ⟨c, rfl, hc⟩ := Qf1 h1
      have : ∀ (cs : List VV) (c : List Value), RL o base m cs c -> 0 < (cs.map (refN k)).sum -> ∃ oi, o k = some oi := by
       intro cs
       induction cs with
       | nil => intro c _ h; simp at h
       | cons x cs ih =>
         intro c hc h
         cases c with
         | nil => have := hc.1; simp at this
         | cons y c =>
           obtain ⟨g1, g2⟩ := hc.tail
           simp only [List.map_cons, List.sum_cons] at h
           by_cases hx : 0 < refN k x
           ·exact Qtr g1 hx
           ·exact ih c g2 (by omega)
      exact this cs _ hc hs
   | _ => exact one h1 (fun _ => by simp) rfl hn
theorem RL.Qxt {l1 l2 : List VV} {x : List Value} {P : Prop} (h1 : RL o base m l1 x) (k : ∀ l', RL o base m (l1 ++ l2) l' -> P) (h2 : ∃ y, RL o base m l2 y) : P := by
 obtain ⟨y, h2⟩ := h2
 exact k _ (RL.app h1 h2)
theorem Qp0 {L : List (Option Blk)} {w : World} (hO : Own gv base o m L w) (hex : ∀ k blk, gb L k = some blk -> blk.bx = true -> ∃ oi, o k = some oi) : ∀ (ks : List Nat), ∃ y, RL o base m (boxed L ks) y
 | [] => ⟨[], .nil⟩
 | k :: ks => by
   obtain ⟨y, hy⟩ := Qp0 hO hex ks
   simp only [boxed]
   split
   ·rename_i b hb
    cases hbb : (b.bx && !b.x) with
    | false => exact ⟨y, hy⟩
    | true =>
      simp only [Bool.and_eq_true, Bool.not_eq_true'] at hbb
      simp only [cond_true]
      obtain ⟨oi, ho⟩ := hex k b hb hbb.1
      obtain ⟨c, t, _, _, _, ha⟩ := hO.row ho (by unfold gc; rw [hb]; dsimp only; rw [hbb.2]; rfl)
      rw [if_pos hbb.1] at ha
      have : ∃ x : List Value, RL o base m b.cells x := by
       refine ⟨(c.toList.drop oi.off).take b.cells.length, ?_, fun j v v' e1 e2 => ?_⟩
       ·have := ha.1
        rw [List.length_take, List.length_drop, Array.length_toList]; omega
       ·rw [List.getElem?_take] at e2
        split at e2
        ·rw [List.getElem?_drop] at e2
         exact ha.2 j v v' e1 (by simpa using e2)
        ·cases e2
      obtain ⟨x, hx⟩ := this
      exact ⟨x ++ y, RL.app hx hy⟩
   ·exact ⟨y, hy⟩
theorem Qkc {L : List (Option Blk)} {E : List VV} : ∀ {ks : List Nat}, Qm0 L E ks -> ∀ (i k : Nat) (b : Blk), ks[i]? = some k -> gb L k = some b -> b.bx = false -> 0 < Qi0 k E
 | [], _, i, k, b, h, _, _ => by simp at h
 | k0 :: ks, h, i, k, b, hi, hb, hx => by
   cases i with
   | zero =>
     simp at hi; subst hi
     have := h.1
     rw [hb] at this
     dsimp only at this
     rw [hx] at this
     exact this
   | succ i => exact Qkc h.2 i k b (by simpa using hi) hb hx
theorem Qoc {ks : List Nat} {old new : Blk} (h : (Qg5 ks old new).2) (hx : (Qg5 ks old new).1.bx = false) (hS : old.bx = false -> old.cells.all VV.still = true) : (Qg5 ks old new).1.cells.all VV.still = true := by
 obtain ⟨bx, sz, cells⟩ := old
 unfold Qg5 at *
 cases hox : Blk.x ⟨bx, sz, cells⟩ with
 | true =>
   rw [hox] at h hx
   have hx : bx = false := hx
   have h2 : bx = true := h.2
   rw [h2] at hx; cases hx
 | false =>
   rw [hox] at h hx
   simp only [cond_false] at h hx ⊢
   cases bx with
   | true => cases hx
   | false => exact h
theorem Qwd (hn : Named P) (hR : Rel gv base w0 m0 sz s o m a w) {op : Oper} {v : VV} {g : FuncId} {args : Array Operand} {ts : Array TypeId} {ks : List Nat} {l : List Blk} {as : List VV} {hs : List Blk} {bs : List (Nat × Blk)} {q0 : Prop} (hd : ∀ d : Nat, op.dst = some d -> d < sz) (hsz : sz < 1000000)
 (ho : op.op = .call { callee := .value (.func g), args := args, argTypes := ts }) (e1 : Qmz ks (args.toList.map (Vv.ev s.A)) = some as) (e2 : Qhj ks s.L ks = some hs) (e3 : Qev ks s.L ks l = some (bs, q0)) (hnd : nodupB ks = true)
 (hvm : VM P g as hs v l) (hq0 : q0) (href : Qm0 s.L (args.toList.map (Vv.ev s.A) ++ boxed s.L ks) ks) {K : Act -> World -> Prop} {Q : Exit -> Act -> World -> Prop}
 (k : ∀ o' m' a' w', Rel gv base w0 m0 sz (((Eff.mods bs).app s).put op.dst v) o' m' a' w' -> K a' w') : op.wpIn (fen rd) 0 P a w K Q := by
 refine ⟨fun _ _ => trivial, ?_⟩
 have hsem : op.semAt rd a.eval = execOp a.eval op := Oper.semAt_eq _ _ _ (fun c => by rw [ho]; intro e; cases e)
 show op.uponIn (fen rd) 0 P a K Q ((op.semAt rd a.eval).run P w)
 rw [hsem]
 have hargs : RL o base m (args.toList.map (Vv.ev s.A)) (args.toList.map a.eval) := Qgm args.toList fun x _ => hR.ev x
 obtain ⟨⟨fn, c, hfn, hbody⟩, hll, hkind, hvm⟩ := hvm
 have hrun : (execOp a.eval op).run P w = .ok (.enter g (args.toList.map a.eval).toArray) w := by
  have e : (args.toList.map a.eval).toArray = #[] ++ args.map a.eval ++ #[] := by apply Array.ext'; simp
  rw [e]
  obtain ⟨dst, oo, type, pos, after, guard⟩ := op
  dsimp only at ho
  subst ho
  show (resolve a.eval { callee := .value (.func g), args, argTypes := ts } type >>= fun d => invoke d.target d.args).run P w = _
  unfold resolve
  show (callFunc g (#[] ++ args.map a.eval ++ #[])).run P w = _
  exact Qdd hn hfn hbody _ w
 rw [hrun]
 refine ⟨fun h => by simp [fen, Fence.wide] at h, ?_⟩
 show CallsIn (fen none) 0 P g _ w _
 obtain ⟨hlen, hget⟩ := Qg9 e2
 have hbl := hR.Qg8
 have hdef : ∀ j kk, ks[j]? = some kk -> ∃ old b' oi, gb s.L kk = some old /\ Qn9 ks old = some b' /\ hs[j]? = some b' /\ o kk = some oi /\ Qc7 ks o j = some oi := by
  intro j kk hj
  obtain ⟨old, b', g1, g2, g3⟩ := hget j kk hj
  have : ∃ oi, o kk = some oi := by
   cases hbx : old.bx with
   | true => exact hR.ex kk old g1 hbx
   | false =>
     have hp := Qkc href j kk old hj g1 hbx
     exact RL.Qxt hargs (fun l' hl' => Qlh hl' hp) (Qp0 hR.own hR.ex ks)
  obtain ⟨oi, hoi⟩ := this
  exact ⟨old, b', oi, g1, g2, g3, hoi, by unfold Qc7; rw [Qm6.2 hj]; exact hoi⟩
 have hsrc : ∀ j oi, Qc7 ks o j = some oi -> ∃ kk, ks[j]? = some kk /\ o kk = some oi := by
  intro j oi h
  unfold Qc7 at h
  split at h
  ·rename_i kk hk; exact ⟨kk, Qm6.1 hk, h⟩
  ·cases h
 refine (callsIn_wide (n := 0)).2 ((hvm w m (Qc7 ks o) _ hR.mem (fun j oi h => ?_) (fun j j' oi oi' h h' hbb => ?_) (fun j blk hj => ?_) (Qli e1 hargs)).mono ?_)
 ·obtain ⟨kk, h1, h2⟩ := hsrc j oi h
  have hj := (List.getElem?_eq_some_iff.1 h1).1
  exact ⟨by rw [hlen]; exact hj, (hR.own.dom kk oi h2).2⟩
 ·obtain ⟨kk, h1, h2⟩ := hsrc j oi h
  obtain ⟨kk', h1', h2'⟩ := hsrc j' oi' h'
  have := hR.own.inj kk kk' oi oi' h2 h2' hbb
  subst this
  exact Qi6 hnd j j' kk h1 h1'
 ·have hj' : j < ks.length := by rw [<- hlen]; exact (List.getElem?_eq_some_iff.1 hj).1
  obtain ⟨old, b', oi, g1, g2, g3, g4, g5⟩ := hdef j ks[j] (List.getElem?_eq_getElem hj')
  rw [hj] at g3; injection g3 with g3; subst g3
  obtain ⟨k1, k2⟩ := Qlj (fb := w.heap.size) g2 (hR.own.at_ _ oi old g4 g1) (hR.still _ old g1)
  exact ⟨oi, g5, k1, k2⟩
 ·rintro e w' ⟨v', m1, rfl, h1, h2, h3, h4, hkeep, hle, hM1, hnew, hat, hr⟩
  have hno : ∀ kk oi, o kk = some oi -> m1 oi.b = none := fun kk oi hk => by
   obtain ⟨d1, d2, d3⟩ := hR.own.dom kk oi hk
   cases hm : m1 oi.b with
   | none => rfl
   | some ob =>
     rcases hnew _ _ hm with e | e
     ·rw [d3] at e; cases e
     ·omega
  have hrel : Rel gv base w0 m0 sz ((Eff.mods bs).app s) o m1 a w' := by
   refine ⟨hR.asz, hR.adf.mono hle, fun t => (hR.tm t).mono (.refl o) hle (Nat.le_refl _), ⟨fun kk oi b f1 f2 => ?_, fun kk oi f => ?_, hR.own.inj⟩, fun kk oi f => ?_, fun kk b f fx => ?_, hM1, fun b ob f => ?_, ⟨h1.trans hR.below.os, h2.trans hR.below.tape, h3.trans hR.below.output, Nat.le_trans hR.below.size h4, fun b hb hE => ?_⟩, hR.hb, fun t => (hR.gh t).mono (.refl o) hle (Nat.le_refl _), hR.mlo.trans hle, fun kk b f fx => ?_⟩
   ·have f2' : gb (Qhu bs s.L) kk = some b := f2
    have hlt := hR.olt kk oi f1
    by_cases hin : ∃ i : Nat, ks[i]? = some kk
    ·obtain ⟨i, hi⟩ := hin
     obtain ⟨old, new, g1, g2, g3, g4⟩ := (Qbs e3 hq0 hnd s.L kk).2 i hi hlt
     rw [g3] at f2'; injection f2' with f2'; subst f2'
     obtain ⟨old', b', oi', k1, k2, k3, k4, k5⟩ := hdef i kk hi
     rw [g1] at k1; injection k1 with k1; subst k1
     rw [f1] at k4; injection k4 with k4; subst k4
     have hh := hat i oi new k5 g2
     have h0 := hR.own.at_ kk oi old f1 g1
     obtain ⟨z1, z2⟩ := Qlj (fb := w.heap.size) k2 h0 (hR.still _ old g1)
     have hkd : new.bx = b'.bx /\ new.sz = b'.sz := hkind i b' new k3 g2
     rcases Qp1 k2 hbl h0 hh hkd with hgood | hbad
     ·exact hgood
     ·exact absurd g4 hbad
    ·rw [(Qbs e3 hq0 hnd s.L kk).1 (fun i hi => hin ⟨i, hi⟩)] at f2'
     rw [hkeep _ (hR.own.dom kk oi f1).2.1 (fun j oi' hj hbb => by
      obtain ⟨kk', x1, x2⟩ := hsrc j oi' hj
      have := hR.own.inj kk' kk oi' oi x2 f1 hbb
      subst this
      exact hin ⟨j, x1⟩)]
     exact (hR.own.at_ kk oi b f1 f2').mono (.refl _) hle
   ·obtain ⟨d1, d2, d3⟩ := hR.own.dom kk oi f
    exact ⟨d1, Nat.lt_of_lt_of_le d2 h4, hno kk oi f⟩
   ·show kk < (Qhu bs s.L).length
    rw [Qi7]; exact hR.olt kk oi f
   ·have f' : gb (Qhu bs s.L) kk = some b := f
    by_cases hin : ∃ i : Nat, ks[i]? = some kk
    ·obtain ⟨i, hi⟩ := hin
     have hlt : kk < s.L.length := by rw [<- Qi7 bs]; exact Qjl f'
     obtain ⟨old, new, g1, g2, g3, g4⟩ := (Qbs e3 hq0 hnd s.L kk).2 i hi hlt
     rw [g3] at f'; injection f' with f'; subst f'
     exact Qoc g4 fx (hR.still kk old g1)
    ·rw [(Qbs e3 hq0 hnd s.L kk).1 (fun i hi => hin ⟨i, hi⟩)] at f'
     exact hR.still kk b f' fx
   ·rcases hnew b ob f with f | f
    ·exact hR.mfr b ob f
    ·exact .inr (by omega)
   ·rw [hkeep b (by omega) (fun j oi hj hbb => by
     obtain ⟨kk, x1, x2⟩ := hsrc j oi hj
     rcases (hR.own.dom kk oi x2).1 with d | d
     ·omega
     ·rw [hbb, hE] at d; cases d)]
    exact hR.below.block b hb hE
   ·have f' : gb (Qhu bs s.L) kk = some b := f
    by_cases hin : ∃ i : Nat, ks[i]? = some kk
    ·obtain ⟨i, hi⟩ := hin
     obtain ⟨_, _, oi, _, _, _, k4, _⟩ := hdef i kk hi
     exact ⟨oi, k4⟩
    ·rw [(Qbs e3 hq0 hnd s.L kk).1 (fun i hi => hin ⟨i, hi⟩)] at f'
     exact hR.ex kk b f' fx
  exact k o m1 _ w' (hrel.put hd hsz ((hr.mono (OM.Qhq o) (.refl m1) hbl)))
theorem Rel.frame (h : Rel gv base w0 m0 sz s o m a w) : Frame gv base w0 m0 s.A s.L s.G (fun t => a.tmps.getD t undef) o m w :=
 ⟨h.tm, h.own, h.olt, h.still, h.mem, h.mfr, h.below, h.hb, h.gh, h.mlo, h.ex⟩
theorem Frame.rel {A G : Tr VV} {L : List (Option Blk)} {ds : List Deferred} {tmps : Array Value} (h : Frame gv base w0 m0 A L G (fun t => tmps.getD t undef) o m w) (hs : tmps.size = sz) (hd : Marks base m0 m ds) : Rel gv base w0 m0 sz ⟨A, L, G⟩ o m { tmps := tmps, defers := ds } w :=
 ⟨hs, hd, h.tm, h.own, h.olt, h.still, h.mem, h.mfr, h.below, h.hb, h.gh, h.mlo, h.ex⟩
theorem Qxu (hn : Named P) (hmx : P.follows .mixedOrders = true) (hR : Rel gv base w0 m0 sz s o m a w) {op : Oper} (hd : ∀ d : Nat, op.dst = some d -> d < sz) (hsz : sz < 1000000) {f : Inl} {g : FuncId} {x : Operand} {args : Array Operand} {ts : Array TypeId} {caps : List VV} {r : InlR}
 (ho : op.op = .call { callee := .value x, args := args, argTypes := ts }) (hx : Vv.ev s.A x = .fn g caps) (hxx : x = .func g \/ ∃ t, x = .tmp t) (hr : f.run P g (args.toList.map (Vv.ev s.A) ++ caps) s.A s.L s.G = some r) (hq : r.q) {K : Act -> World -> Prop} {Q : Exit -> Act -> World -> Prop}
 (k : ∀ o' m' a' w', Rel gv base w0 m0 sz (((Eff.jump r.A r.L r.G).app s).put op.dst r.v) o' m' a' w' -> K a' w') : op.wpIn (fen rd) 0 P a w K Q := by
 refine ⟨fun _ _ => trivial, ?_⟩
 have hsem : op.semAt rd a.eval = execOp a.eval op := Oper.semAt_eq _ _ _ (fun c => by rw [ho]; intro e; cases e)
 show op.uponIn (fen rd) 0 P a K Q ((op.semAt rd a.eval).run P w)
 rw [hsem]
 have hargs : RL o base m (args.toList.map (Vv.ev s.A)) (args.toList.map a.eval) := Qgm args.toList fun x _ => hR.ev x
 obtain ⟨⟨fn, c, hfn, hbody⟩, hok⟩ := f.ok _ _ _ _ _ _ _ hr hq hmx hn
 have hF := hR.ev x
 rw [hx] at hF
 obtain ⟨cv, hFv, hcv⟩ := Qte hF
 have hrun : (execOp a.eval op).run P w = .ok (.enter g (args.toList.map a.eval ++ cv.toList).toArray) w := by
  have e : (args.toList.map a.eval ++ cv.toList).toArray = #[] ++ args.map a.eval ++ cv := by apply Array.ext'; simp
  rw [e]
  obtain ⟨dst, oo, type, pos, after, guard⟩ := op
  dsimp only at ho
  subst ho
  rcases hxx with rfl | ⟨t, rfl⟩
  ·show (resolve a.eval { callee := .value (.func g), args, argTypes := ts } type >>= fun d => invoke d.target d.args).run P w = _
   have hcv0 : cv = #[] := by
    have : (Value.func (.func g) #[] #[]) = .func (.func g) #[] cv := hFv
    injection this with _ _ h; exact h.symm
   subst hcv0
   unfold resolve
   show (callFunc g (#[] ++ args.map a.eval ++ #[])).run P w = _
   exact Qdd hn hfn hbody _ w
  ·show (resolve a.eval { callee := .value (.tmp t), args, argTypes := ts } type >>= fun d => invoke d.target d.args).run P w = _
   unfold resolve
   dsimp only
   rw [hFv]
   show (callFunc g (#[] ++ args.map a.eval ++ cv)).run P w = _
   exact Qdd hn hfn hbody _ w
 rw [hrun]
 refine ⟨fun h => by simp [fen, Fence.wide] at h, ?_⟩
 show CallsIn (fen none) 0 P g _ w _
 refine (callsIn_wide (n := 0)).2 ((hok gv base w0 m0 _ o m w _ hR.frame (RL.append hargs hcv)).mono ?_)
 rintro e w' ⟨v', o', m', rfl, hle, hfr, hv⟩
 have hrel : Rel gv base w0 m0 sz ((Eff.jump r.A r.L r.G).app s) o' m' a w' := hfr.rel hR.asz (hR.adf.mono hle)
 exact k o' m' _ w' (hrel.put hd hsz hv)
theorem Qts (hn : Named P) (hmx : P.follows .mixedOrders = true) (hR : Rel gv base w0 m0 sz s o m a w) {op : Oper} {an : Ans} {v : VV} {eff : Eff} {q : Prop} (hd : ∀ d : Nat, op.dst = some d -> d < sz) (hsz : sz < 1000000)
 (h : Qc5 P op s.A s.L s.G s.L.length an = some (v, eff, q)) (hq : q) {K : Act -> World -> Prop} {Q : Exit -> Act -> World -> Prop}
 (k : ∀ o' m' a' w', Rel gv base w0 m0 sz ((eff.app s).put op.dst v) o' m' a' w' -> K a' w') : op.wpIn (fen rd) 0 P a w K Q := by
 have hst := Qlk h hq hR.still
 cases hqu : eff.quiet with
 | true =>
   refine Qlc hn h hqu hq hR.own hR.still hR.mem hR.Qg8 (fun x _ => hR.ev x) (fun v' m' w' hQ => ?_)
   obtain ⟨o', h1, h2⟩ := hR.quiet hQ hqu (fun blk e => hst blk (.inl e))
   exact k o' m' _ w' (h1.put hd hsz h2)
 | false =>
   have hcs := Qdx h; clear h
   rcases hcs with ⟨g, args, ts, as, ho, has, ⟨rfl, _, _⟩ | ⟨cells, n, i, r, p, sz0, hown, rfl, rfl, _⟩⟩ | ⟨_, _, _, _, _, _, _, _, _, _, _, rfl, _, _⟩ | ⟨g, args, ts, ks, l, as, hs, bs, q0, ho, e1, e2, e3, hnd, rfl | ⟨k1, b1, rfl, rfl, rfl, hnm, hb1⟩, rfl⟩ | ⟨f, g, x, args, ts, caps, r, ho, hx, hxx, hr, rfl, rfl, rfl⟩ | h
   ·cases hqu
   ·cases hqu
   ·cases hqu
   ·exact Qwd hn hR hd hsz ho e1 e2 e3 hnd hq.1 hq.2.1 hq.2.2 k
   ·exact Qwd hn hR hd hsz ho e1 e2 e3 hnd hq.1 hq.2.1 hq.2.2 k
   ·exact Qxu hn hmx hR hd hsz ho hx hxx hr hq k
   ·refine ⟨fun _ _ => trivial, ?_⟩
    have hnd : ∀ c, op.op ≠ .defer c := by
     intro c e
     unfold vOp at h
     rw [e] at h
     cases h
    have hsem : op.semAt rd a.eval = execOp a.eval op := Oper.semAt_eq _ _ _ hnd
    show op.uponIn (fen rd) 0 P a K Q ((op.semAt rd a.eval).run P w)
    rw [hsem]
    obtain ⟨nx, v', w', g1, g2, g3⟩ := Qps h hq hR.Qg8 hR.own hR.mem (fun x _ => hR.ev x)
    rw [g1]
    have main : K (a.put op.dst v') w' := by
     have hfresh : m w.heap.size = none := by
      cases hm : m w.heap.size with
      | none => rfl
      | some ob => have := hR.mem.lt hm; omega
     have hbl := hR.Qg8
     cases g3 with
     | no => cases hqu
     | newNo => cases hqu
     | frNo => cases hqu
     | new => cases hqu
     | put ho hc hl hv => exact k o m _ _ ((hR.stored ho hc hl (fun e => hst _ (.inr (.inl ⟨_, rfl⟩)) e)).put hd hsz (hv o))
     | @growNo k' blk _ _ hb hx hv =>
       have hk := Qjl hb
       exact k o m _ _ ((hR.grown (o' := o) hk (fun _ _ => rfl) hx (hst _ (.inr (.inr ⟨_, rfl⟩)) hx) (fun oi e => hR.own.at_ _ oi blk e hb) (fun oi e => hR.own.dom _ _ e) (fun j oi oi' hj e e' hbb => hj (hR.own.inj _ _ _ _ e' e hbb.symm)) (fun _ _ _ => rfl) (Nat.le_refl _) ⟨rfl, rfl, rfl⟩).put hd hsz hv)
     | @growIn k' blk _ _ oi ob ob0 ho hc hx hl hv _ =>
       have hg : ∀ j, (World.upd w (.put oi.b ob)).heap[j]? = if j = oi.b then some ob else w.heap[j]? := fun j => by
        rw [show (World.upd w (.put oi.b ob)).heap = w.heap.setIfInBounds oi.b ob from rfl, heap_set _ hc j]
       have hsize : (World.upd w (.put oi.b ob)).heap.size = w.heap.size := by simp [World.upd]
       refine k o m _ _ ((hR.grown (o' := o) (w' := World.upd w (.put oi.b ob)) (hR.olt _ _ ho) (fun _ _ => rfl) hx (hst _ (.inr (.inr ⟨_, rfl⟩)) hx) (fun oi' e => ?_) (fun oi' e => ?_) (fun j oi oi' hj e e' hbb => hj (hR.own.inj _ _ _ _ e' e hbb.symm)) (fun b hbb _ => ?_) (by rw [hsize]; exact Nat.le_refl _) ⟨rfl, rfl, rfl⟩).put hd hsz (hv o ho))
       ·rw [ho] at e; injection e with e; subst e
        rw [hg, if_pos rfl]; exact hl
       ·rw [hsize]; exact hR.own.dom _ _ e
       ·rw [hg, if_neg (fun e => hbb oi ho e.symm)]
     | @growNew k' blk _ _ ob oi d hb hoi hx hl hv =>
       have hk : k' < s.L.length := Qjl hb.choose_spec
       have hg : ∀ j, j < w.heap.size -> ({ (w.alloc ob) with drawn := d } : World).heap[j]? = w.heap[j]? := fun j hj => by
        show (w.heap.push _)[j]? = _
        rw [Array.getElem?_push, if_neg (by omega)]
       have hg0 : ({ (w.alloc ob) with drawn := d } : World).heap[w.heap.size]? = some ob := by
        show (w.heap.push _)[w.heap.size]? = _
        rw [Array.getElem?_push, if_pos rfl]
       have hsize : ({ (w.alloc ob) with drawn := d } : World).heap.size = w.heap.size + 1 := by show (w.heap.push _).size = _; simp
       have ho' : (fun j => if j = k' then some oi else o j) k' = some oi := if_pos rfl
       refine k _ m _ _ ((hR.grown (o' := fun j => if j = k' then some oi else o j) (w' := { (w.alloc ob) with drawn := d }) hk (fun j hj => if_neg hj) hx (hst _ (.inr (.inr ⟨_, rfl⟩)) hx) (fun oi' e => ?_) (fun oi' e => ?_) (fun j oi oi' hj e e' hbb => ?_) (fun b _ hb => hg b hb) (by rw [hsize]; omega) ⟨rfl, rfl, rfl⟩).put hd hsz (hv _ ho'))
       ·rw [if_pos rfl] at e; injection e with e; subst e
        rw [hoi, hg0]; exact hl.off hx
       ·rw [if_pos rfl] at e; injection e with e; subst e
        exact ⟨.inl (by omega), by rw [hsize]; omega, by rw [hoi]; exact hfresh⟩
       ·rw [if_pos rfl] at e; injection e with e; subst e
        have := (hR.own.dom j oi' e').2.1
        omega
    cases nx <;> first | (simp [valOf] at g2; done) | (simp only [valOf, Option.some.injEq] at g2; subst g2; exact main)
end
end Go.Proofs.Ytfeedchjdnedjaa.Vv
