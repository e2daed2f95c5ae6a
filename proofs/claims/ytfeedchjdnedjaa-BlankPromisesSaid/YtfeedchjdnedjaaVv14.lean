import Derived.Test.YtfeedchjdnedjaaVv13
set_option linter.unusedVariables false
set_option linter.unusedSimpArgs false
namespace Go.Proofs.Ytfeedchjdnedjaa.Vv
open Go Go.Proofs.Ytfeedchjdnedjaa.Ev
open Go.RowKit (Below)
def Qzt (o : Oper) : Bool := match o.op with
 | .move _ | .assign _ | .nilCheck _ | .extract _ _ | .binOp _ _ _ _ _ | .unOp _ _ _ | .convert _ _ _ | .field _ _ _ | .pick _ _ _ | .build _ _ | .indexAddr _ _ _ | .fieldAddr _ _ _ => true
 | _ => false
def Qkg (o : Oper) (A : Tr VV) : Bool := Qzt o || (match o.op with
 | .load _ x => (match ev A x with
   | .tp _ _ => true
   | _ => false)
 | .call { callee := .builtin .len, args, .. } => (match args.toList with
   | [x] => (match ev A x with
     | .tr _ _ => true
     | _ => false)
   | _ => false)
 | .call { callee := .builtin .max, .. } => true
 | .call { callee := .builtin .min, .. } => true
 | _ => false)
def newAt (o : Oper) : Bool := match o.op with
 | .alloc _ | .box _ _ => true
 | _ => false
def Qd0 (o : Oper) (A : Tr VV) (N : Nat) : Option (Option Nat) := bif Qkg o A then some none else bif newAt o then some (some N) else (match o.op with
 | .load _ x => (match ev A x with
   | .pt k _ => some (some k)
   | _ => none)
 | _ => none)
def okFl (f : Option (Option Nat)) (k : Nat) : Bool := match f with
 | none => false
 | some none => true
 | some (some k') => !Nat.beq k' k
structure Pn where
 j : Nat
 d : Nat
 k : Nat
 blk : Blk
 n : Nat
def Pn.put (p : Pn) (s : VS) : VS := ((Eff.grow p.k p.blk).app s).put (some p.d) (.rf p.k 0 p.n)
def Qe6 : List Pn -> VS -> VS
 | [], s => s
 | p :: ps, s => Qe6 ps (p.put s)
def Qt5 (o : Oper) (i : Nat) (v : VV) (e : Eff) (s : VS) (ps : List Pn) : Option Pn := match e, v, o.dst with
 | .grow k blk, .rf k' off n, some d => bif Nat.beq k k' && (Nat.beq off 0 && (!blk.bx && (ps.all (fun p => !Nat.beq p.k k) && Nat.blt k s.L.length))) then some ⟨i, d, k, blk, n⟩ else none
 | _, _, _ => none
def stO (o : Oper) (v : VV) (e : Eff) (s : VS) : VS := match e with
 | .grow _ _ => s.put o.dst .any
 | e => (e.app s).put o.dst v
def Qjq (P : Program) (ops : Array Oper) (m : Nat) (b : Bool) : Nat -> List Oper -> List Ans -> List Pn -> VS -> Option (VS × Prop)
 | i, o :: os, an :: as, ps, s => bif Nat.blt i m then (match oneV P ops o an s with
   | some (v, e, q) => (match Qt5 o i v e s ps with
     | some p => bif b then (match Qjq P ops m b (i + 1) os as (p :: ps) (s.put o.dst .any) with
       | some (s', q') => some (s', q /\ q')
       | none => none) else none
     | none => bif e.Qj9 then (match Qjq P ops m b (i + 1) os as ps ((e.app s).put o.dst v) with
       | some (s', q') => some (s', q /\ q')
       | none => none) else none)
   | none => none) else vOps P ops 0 i (o :: os) (an :: as) (Qe6 ps s)
 | _, [], [], ps, s => some (Qe6 ps s, True)
 | _, _, _, _, _ => none
def Qkh (P : Program) (ops : Array Oper) : List Oper -> List Ans -> VS -> List (Option (Option Nat))
 | o :: os, an :: as, s => match oneV P ops o an s with
   | some (v, e, _) => Qd0 o s.A s.L.length :: Qkh P ops os as (stO o v e s)
   | none => []
 | _, _, _ => []
def Qol (P : Program) (ops : Array Oper) (m : Nat) : Nat -> List Oper -> List Ans -> VS -> Option (List (Nat × Nat))
 | i, o :: os, an :: as, s => bif Nat.blt i m then (match oneV P ops o an s with
   | some (v, e, _) => (match Qol P ops m (i + 1) os as (stO o v e s) with
     | some ps => (match e with
       | .put k _ => bif Nat.blt k s.L.length then some ((i, k) :: ps) else none
       | _ => some ps)
     | none => none)
   | none => none) else some []
 | _, _, _, _ => some []
def Qqc (P : Program) (ops : Array Oper) (m : Nat) (as : List Ans) (s : VS) : Bool := match Qol P ops m 0 ops.toList as s with
 | some [] => true
 | _ => false
def Qng (ms : List Nat) (j kb : Nat) : Nat -> List (Option (Option Nat)) -> List Oper -> Bool
 | _, _, [] => true
 | _, [], _ :: _ => false
 | i, f :: fs, _ :: os => (Nat.beq i j || (Nat.blt i j && (maskAt ms j).testBit i) || (Nat.blt j i && (maskAt ms i).testBit j) || okFl f kb) && Qng ms j kb (i + 1) fs os
def Qt6 (P : Program) (ops : Array Oper) (m : Nat) (as : List Ans) (s : VS) : Bool := match Qol P ops m 0 ops.toList as s with
 | some [] => true
 | some ps => ps.all fun p => Qng (masks ops.toList []) p.1 p.2 0 (Qkh P ops ops.toList as s) (ops.toList.take m)
 | none => false
theorem Qnh {ms : List Nat} {j kb : Nat} : ∀ (l : List Oper) (fs : List (Option (Option Nat))) (i : Nat), Qng ms j kb i fs l = true -> ∀ (x : Nat) (o : Oper), l[x]? = some o -> i + x ≠ j -> (i + x < j /\ (maskAt ms j).testBit (i + x) = true) \/ (j < i + x /\ (maskAt ms (i + x)).testBit j = true) \/ ∃ f, fs[x]? = some f /\ okFl f kb = true
 | [], fs, i, h, x, o, hx => by simp at hx
 | o' :: l, [], i, h, x, o, hx => by cases h
 | o' :: l, f :: fs, i, h, x, o, hx => by
   simp only [Qng, Bool.and_eq_true, Bool.or_eq_true] at h
   intro hne
   cases x with
   | zero =>
     rcases h.1 with ((h1 | h1) | h1) | h1
     ·exact absurd (Nat.eq_of_beq_eq_true h1) hne
     ·exact .inl ⟨Z4 h1.1, h1.2⟩
     ·exact .inr (.inl ⟨Z4 h1.1, h1.2⟩)
     ·exact .inr (.inr ⟨f, List.getElem?_cons_zero, h1⟩)
   | succ x =>
     simp only [List.getElem?_cons_succ] at hx
     have := Qnh l fs (i + 1) h.2 x o hx (by omega)
     rw [show i + 1 + x = i + (x + 1) by omega] at this
     exact this
def OpenAt (P : Program) (ops : Array Oper) (st : Nat -> VS) (val : Nat -> VV) (ef : Nat -> Eff) (an : Nat -> Ans) (pe : Nat -> Option Pn) (i : Nat) (o : Oper) : Prop :=
 ((pe i = none /\ ∃ q, oneV P ops o (an i) (st i) = some (val i, ef i, q) /\ q) \/ ∃ p q, pe i = some p /\ val i = .any /\ ef i = .no /\ oneV P ops o (an i) (st i) = some (.rf p.k 0 p.n, .grow p.k p.blk, q) /\ q /\ p.j = i /\ o.dst = some p.d /\ p.blk.bx = false /\ p.k < (st i).L.length) /\
 (ef i).Qj9 = true /\ st (i + 1) = ((ef i).app (st i)).put o.dst (val i)
structure Tc (P : Program) (ops : Array Oper) (m sz : Nat) (st : Nat -> VS) (val : Nat -> VV) (ef : Nat -> Eff) (an : Nat -> Ans) (pe : Nat -> Option Pn) (sc : Nat -> VS) : Prop where
 stat : Go.Proofs.Ytfeedchjdnedjaa.Ev.Stat ops (masks ops.toList []) m
 okops : Qhr sz ops = true
 one : ∀ (i : Nat) (o : Oper), i < m -> ops[i]? = some o -> OpenAt P ops st val ef an pe i o
 putL : ∀ j k b, j < m -> ef j = .put k b -> k < (st j).L.length
 putO : ∀ j k b, j < m -> ef j = .put k b -> ∀ i o, i < m -> i ≠ j -> ops[i]? = some o -> (i < j /\ (maskAt (masks ops.toList []) j).testBit i = true) \/ (j < i /\ (maskAt (masks ops.toList []) i).testBit j = true) \/ okFl (Qd0 o (st i).A (st i).L.length) k = true
 pk : ∀ j j' p p', j < m -> j' < m -> j ≠ j' -> pe j = some p -> pe j' = some p' -> p.k ≠ p'.k
 cm : ∃ ps : List Pn, sc m = Qe6 ps (st m) /\ ps.Pairwise (fun p p' => p.k ≠ p'.k) /\ ∀ p ∈ ps, p.j < m /\ pe p.j = some p
 np : ∀ j p, j < m -> pe j = some p -> ∀ i k b, i < m -> ef i ≠ .put k b
 cl : ∀ (i : Nat) (o : Oper), m <= i -> ops[i]? = some o -> (∃ q, oneV P ops o (an i) (sc i) = some (val i, ef i, q) /\ q) /\ sc (i + 1) = ((ef i).app (sc i)).put o.dst (val i)
theorem Qt7 {P : Program} {ops : Array Oper} : ∀ (l : List Oper) (as : List Ans) (i : Nat) (s s' : VS) (q : Prop), vOps P ops 0 i l as s = some (s', q) -> q ->
 ∃ (sc : Nat -> VS) (val : Nat -> VV) (ef : Nat -> Eff) (an : Nat -> Ans), sc i = s /\ sc (i + l.length) = s' /\ ∀ (j : Nat) (o : Oper), l[j]? = some o ->
   (∃ q, oneV P ops o (an (i + j)) (sc (i + j)) = some (val (i + j), ef (i + j), q) /\ q) /\ sc (i + j + 1) = ((ef (i + j)).app (sc (i + j))).put o.dst (val (i + j))
 | [], [], i, s, s', q, h, hq => by
   simp only [vOps, Option.some.injEq, Prod.mk.injEq] at h
   obtain ⟨rfl, rfl⟩ := h
   exact ⟨fun _ => s, fun _ => .any, fun _ => .no, fun _ => .n, rfl, rfl, fun j o h => by simp at h⟩
 | [], _ :: _, i, s, s', q, h, hq => by simp [vOps] at h
 | _ :: _, [], i, s, s', q, h, hq => by simp [vOps] at h
 | op :: os, a :: as, i, s, s', q, h, hq => by
   simp only [vOps] at h
   split at h
   case h_2 => cases h
   rename_i v e q1 h1
   have hb : (Nat.blt i 0 && !e.Qj9) = false := by
    have : Nat.blt i 0 = false := by cases i <;> rfl
    rw [this]; rfl
   rw [hb] at h
   simp only [cond_false] at h
   split at h
   case h_2 => cases h
   rename_i s2 q2 h2
   simp only [Option.some.injEq, Prod.mk.injEq] at h
   obtain ⟨rfl, rfl⟩ := h
   obtain ⟨sc, val, ef, an, g1, g2, g3⟩ := Qt7 os as (i + 1) _ s2 q2 h2 hq.2
   refine ⟨fun k => if k = i then s else sc k, fun k => if k = i then v else val k, fun k => if k = i then e else ef k, fun k => if k = i then a else an k, if_pos rfl, ?_, fun j o hj => ?_⟩
   ·show (if i + (op :: os).length = i then s else sc _) = _
    rw [if_neg (by simp), <- g2]; congr 1; simp; omega
   ·cases j with
    | zero =>
      simp only [List.getElem?_cons_zero, Option.some.injEq] at hj
      subst hj
      simp only [Nat.add_zero, if_pos]
      refine ⟨⟨q1, h1, hq.1⟩, ?_⟩
      rw [if_neg (by omega)]; exact g1
    | succ j =>
      simp only [List.getElem?_cons_succ] at hj
      have := g3 j o hj
      rw [show i + 1 + j = i + (j + 1) by omega] at this
      simp only [if_neg (show ¬ (i + (j + 1) = i) by omega), if_neg (show ¬ (i + (j + 1) + 1 = i) by omega)]
      exact this
theorem Qom {o : Oper} {i : Nat} {v : VV} {e : Eff} {s : VS} {ps : List Pn} {p : Pn} (h : Qt5 o i v e s ps = some p) : e = .grow p.k p.blk /\ v = .rf p.k 0 p.n /\ o.dst = some p.d /\ p.j = i /\ p.blk.bx = false /\ p.k < s.L.length /\ ∀ r ∈ ps, r.k ≠ p.k := by
 unfold Qt5 at h
 split at h
 case h_2 => cases h
 rename_i k blk k' off n d hd
 have hb0 := Qe h; clear h; obtain ⟨hc, h⟩ := hb0
 injection h with h; subst h
 simp only [Bool.and_eq_true, Bool.not_eq_true'] at hc
 obtain ⟨c1, c2, c3, c4, c5⟩ := hc
 have c1 := Nat.eq_of_beq_eq_true c1
 have c2 := Nat.eq_of_beq_eq_true c2
 subst c1; subst c2
 refine ⟨rfl, rfl, hd, rfl, c3, Z4 c5, fun r hr e => ?_⟩
 have := List.all_eq_true.1 c4 r hr
 simp only [Bool.not_eq_true'] at this
 rw [show r.k = k from e, Nat.beq_refl] at this; cases this
abbrev TrP (P : Program) (ops : Array Oper) (m : Nat) (b : Bool) (l : List Oper) (as : List Ans) (i : Nat) (s s' : VS) (ps0 : List Pn) (pl : List (Nat × Nat)) : Prop :=
 ∃ (st sc : Nat -> VS) (val : Nat -> VV) (ef : Nat -> Eff) (an : Nat -> Ans) (pe : Nat -> Option Pn) (ps : List Pn), st i = s /\ sc (i + l.length) = s' /\ sc m = Qe6 ps (st m) /\ ps.Pairwise (fun p p' => p.k ≠ p'.k) /\ (∀ p ∈ ps, p ∈ ps0 \/ (i <= p.j /\ p.j < m /\ pe p.j = some p)) /\ ((∀ p ∈ ps0, p ∈ ps) /\ ∀ j p, i <= j -> j < m -> pe j = some p -> p ∈ ps) /\
   (∀ (j : Nat) (o : Oper), l[j]? = some o -> i + j < m -> OpenAt P ops st val ef an pe (i + j) o /\ (∀ k b, ef (i + j) = .put k b -> (i + j, k) ∈ pl /\ k < (st (i + j)).L.length) /\ (Qkh P ops l as s)[j]? = some (Qd0 o (st (i + j)).A (st (i + j)).L.length) /\ (∀ p, pe (i + j) = some p -> b = true)) /\
   ∀ (j : Nat) (o : Oper), l[j]? = some o -> m <= i + j -> (∃ q, oneV P ops o (an (i + j)) (sc (i + j)) = some (val (i + j), ef (i + j), q) /\ q) /\ sc (i + j + 1) = ((ef (i + j)).app (sc (i + j))).put o.dst (val (i + j))
theorem Qt8 {P : Program} {ops : Array Oper} {m : Nat} {b : Bool} : ∀ (l : List Oper) (as : List Ans) (i : Nat) (s s' : VS) (q : Prop) (ps0 : List Pn) (pl : List (Nat × Nat)), i <= m -> m <= i + l.length -> (b = true -> pl = []) -> Qol P ops m i l as s = some pl -> Qjq P ops m b i l as ps0 s = some (s', q) -> q -> ps0.Pairwise (fun p p' => p.k ≠ p'.k) ->
 TrP P ops m b l as i s s' ps0 pl
 | [], [], i, s, s', q, ps0, pl, him, hml, hbp, hps, h, hq, hpw => by
   simp only [Qjq, Option.some.injEq, Prod.mk.injEq] at h
   obtain ⟨rfl, rfl⟩ := h
   exact ⟨fun _ => s, fun _ => Qe6 ps0 s, fun _ => .any, fun _ => .no, fun _ => .n, fun _ => none, ps0, rfl, rfl, rfl, hpw, fun p hp => .inl hp, ⟨fun p hp => hp, fun j p _ _ h => (by cases h)⟩, fun j o h => (by simp at h), fun j o h => (by simp at h)⟩
 | [], _ :: _, i, s, s', q, ps0, pl, him, hml, hbp, hps, h, hq, hpw => by simp [Qjq] at h
 | _ :: _, [], i, s, s', q, ps0, pl, him, hml, hbp, hps, h, hq, hpw => by simp [Qjq] at h
 | op :: os, a :: as, i, s, s', q, ps0, pl, him, hml, hbp, hps, h, hq, hpw => by
   simp only [Qjq] at h
   cases hi : Nat.blt i m with
   | false =>
     rw [hi] at h
     have him' : i = m := by have := Qg0 hi; omega
     subst him'
     obtain ⟨sc, val, ef, an, g1, g2, g3⟩ := Qt7 _ _ _ _ _ _ h hq
     exact ⟨fun _ => s, sc, val, ef, an, fun _ => none, ps0, rfl, g2, g1, hpw, fun p hp => .inl hp, ⟨fun p hp => hp, fun j p _ _ h => (by cases h)⟩, fun j o _ h => (by omega), fun j o hj _ => g3 j o hj⟩
   | true =>
     have hlt := Z4 hi
     rw [hi] at h
     simp only [cond_true] at h
     split at h
     case h_2 => cases h
     rename_i v e q1 h1
     have hps' : ∃ ps', Qol P ops m (i + 1) os as (stO op v e s) = some ps' /\ (∀ x, x ∈ ps' -> x ∈ pl) /\ ∀ k b, e = .put k b -> (i, k) ∈ pl /\ k < s.L.length := by
      simp only [Qol] at hps
      rw [hi] at hps
      simp only [cond_true, h1] at hps
      split at hps
      case h_2 => cases hps
      rename_i ps' hp'
      refine ⟨ps', hp', ?_⟩
      split at hps
      ·rename_i k0 b0
       have hb0 := Qe hps; clear hps; obtain ⟨hk, hps⟩ := hb0
       injection hps with hps; subst hps
       refine ⟨fun x hx => by simp [hx], fun k b he => ?_⟩
       injection he with he1 he2
       subst he1
       exact ⟨by simp, Z4 hk⟩
      ·rename_i hno
       injection hps with hps; subst hps
       exact ⟨fun x hx => hx, fun k b he => absurd he (hno k b)⟩
     obtain ⟨pl', hps1, hsub, hput⟩ := hps'
     have hbp' : b = true -> pl' = [] := fun hb => by
      cases hp : pl' with
      | nil => rfl
      | cons x _ => have := hsub x (by rw [hp]; simp); rw [hbp hb] at this; cases this
     have hlen : m <= i + 1 + os.length := by simp only [List.length_cons] at hml; omega
     have rest : ∀ (s1 : VS) (ps1 : List Pn) (v1 : VV) (e1 : Eff) (pp : Option Pn) (s2 : VS) (q2 : Prop), stO op v e s = s1 -> s1 = (e1.app s).put op.dst v1 -> Qjq P ops m b (i + 1) os as ps1 s1 = some (s2, q2) -> q2 -> ps1.Pairwise (fun p p' => p.k ≠ p'.k) -> (∀ p ∈ ps1, p ∈ ps0 \/ (p.j = i /\ pp = some p)) -> (∀ p ∈ ps0, p ∈ ps1) -> (∀ p, pp = some p -> p ∈ ps1) -> e1.Qj9 = true -> (∀ p, pp = some p -> b = true) -> (∀ k b, e1 = .put k b -> e = .put k b) ->
      ((pp = none /\ ∃ q, oneV P ops op a s = some (v1, e1, q) /\ q) \/ ∃ p q, pp = some p /\ v1 = .any /\ e1 = .no /\ oneV P ops op a s = some (.rf p.k 0 p.n, .grow p.k p.blk, q) /\ q /\ p.j = i /\ op.dst = some p.d /\ p.blk.bx = false /\ p.k < s.L.length) -> s2 = s' -> TrP P ops m b (op :: os) (a :: as) i s s' ps0 pl := by
      intro s1 ps1 v1 e1 pp s2 q2 hs1 hs1' h2 hq2 hpw1 hin hin2 hin3 hqu hpb hpe hone hs2
      subst hs2
      rw [hs1] at hps1
      obtain ⟨st, sc, val, ef, an, pe, ps, g1, g2, g3, g4, g5, g8, g6, g7⟩ := Qt8 os as (i + 1) s1 s2 q2 ps1 pl' hlt hlen hbp' hps1 h2 hq2 hpw1
      refine ⟨fun k => if k = i then s else st k, sc, fun k => if k = i then v1 else val k, fun k => if k = i then e1 else ef k, fun k => if k = i then a else an k, fun k => if k = i then pp else pe k, ps, if_pos rfl, ?_, ?_, g4, fun p hp => ?_, ⟨fun p hp => g8.1 p (hin2 p hp), fun j p hij hjm hp => ?_⟩, fun j o hj hjm => ?_, fun j o hj hjm => ?_⟩
      ·rw [<- g2]; congr 1; simp only [List.length_cons]; omega
      ·rw [g3]
       show _ = Qe6 ps (if m = i then s else st m)
       rw [if_neg (by omega)]
      ·rcases g5 p hp with h | ⟨h3, h4, h5⟩
       ·rcases hin p h with h | ⟨h3, h4⟩
        ·exact .inl h
        ·refine .inr ⟨by omega, by omega, ?_⟩
         show (if p.j = i then pp else pe p.j) = some p
         rw [if_pos h3]; exact h4
       ·refine .inr ⟨by omega, h4, ?_⟩
        show (if p.j = i then pp else pe p.j) = some p
        rw [if_neg (by omega)]; exact h5
      ·have hp : (if j = i then pp else pe j) = some p := hp
       by_cases c : j = i
       ·rw [if_pos c] at hp; exact g8.1 p (hin3 p hp)
       ·rw [if_neg c] at hp; exact g8.2 j p (by omega) hjm hp
      ·cases j with
       | zero =>
         simp only [List.getElem?_cons_zero, Option.some.injEq] at hj
         subst hj
         simp only [OpenAt, Nat.add_zero, if_pos]
         refine ⟨⟨hone, hqu, ?_⟩, fun k b he => hput k b (hpe k b he), by simp only [Qkh, h1, List.getElem?_cons_zero], hpb⟩
         rw [if_neg (by omega), g1]; exact hs1'
       | succ j =>
         simp only [List.getElem?_cons_succ] at hj
         obtain ⟨k1, k2, k3, k4⟩ := g6 j o hj (by omega)
         rw [show i + 1 + j = i + (j + 1) by omega] at k1 k2 k3 k4
         simp only [OpenAt, if_neg (show ¬ (i + (j + 1) = i) by omega), if_neg (show ¬ (i + (j + 1) + 1 = i) by omega)]
         exact ⟨k1, fun k b he => ⟨hsub _ (k2 k b he).1, (k2 k b he).2⟩, by simp only [Qkh, h1, List.getElem?_cons_succ]; rw [hs1]; exact k3, k4⟩
      ·cases j with
       | zero => omega
       | succ j =>
         simp only [List.getElem?_cons_succ] at hj
         have := g7 j o hj (by omega)
         rw [show i + 1 + j = i + (j + 1) by omega] at this
         simp only [if_neg (show ¬ (i + (j + 1) = i) by omega)]
         exact this
     split at h
     ·rename_i p hp
      obtain ⟨p1, p2, p3, p4, p5, p6, p7⟩ := Qom hp
      have hb0 := Qe h; clear h; obtain ⟨hb, h⟩ := hb0
      split at h
      case h_2 => cases h
      rename_i s2 q2 h2
      simp only [Option.some.injEq, Prod.mk.injEq] at h
      obtain ⟨e1, rfl⟩ := h
      exact rest (s.put op.dst .any) (p :: ps0) .any .no (some p) s2 q2 (by rw [p1]; rfl) rfl h2 hq.2 (List.pairwise_cons.2 ⟨fun r hr e => p7 r hr e.symm, hpw⟩) (fun r hr => by
       rcases List.mem_cons.1 hr with rfl | hr
       ·exact .inr ⟨p4, rfl⟩
       ·exact .inl hr) (fun r hr => List.mem_cons_of_mem _ hr) (fun r hr => by injection hr with hr; subst hr; simp) rfl (fun _ _ => hb) (fun k b he => by cases he) (.inr ⟨p, q1, rfl, rfl, rfl, by rw [h1, p1, p2], hq.1, p4, p3, p5, p6⟩) e1
     ·have hb0 := Qe h; clear h; obtain ⟨hqu, h⟩ := hb0
      split at h
      case h_2 => cases h
      rename_i s2 q2 h2
      simp only [Option.some.injEq, Prod.mk.injEq] at h
      obtain ⟨e1, rfl⟩ := h
      exact rest ((e.app s).put op.dst v) ps0 v e none s2 q2 (by cases e <;> first | rfl | (cases hqu)) rfl h2 hq.2 hpw (fun r hr => .inl hr) (fun r hr => hr) (fun r hr => by cases hr) hqu (fun _ he => by cases he) (fun k b he => he) (.inl ⟨rfl, q1, h1, hq.1⟩) e1
section
variable {P : Program} {ops : Array Oper} {m sz : Nat} {st : Nat -> VS} {val : Nat -> VV} {ef : Nat -> Eff} {an : Nat -> Ans} {pe : Nat -> Option Pn} {sc : Nat -> VS}
theorem Tc.get (_ : Tc P ops m sz st val ef an pe sc) {i : Nat} (hi : i < ops.size) : ops[i]? = some ops[i] := Array.getElem?_eq_getElem hi
theorem Tc.ev (T : Tc P ops m sz st val ef an pe sc) (t : Nat) : ∀ i, i <= m -> m <= ops.size -> Vv.ev (st i).A (.tmp t) = (match Qah t 0 ops.toList with
 | some j => if j < i then val j else Vv.ev (st 0).A (.tmp t)
 | none => Vv.ev (st 0).A (.tmp t))
 | 0, _, _ => by
   split
   ·rw [if_neg (Nat.not_lt_zero _)]
   ·rfl
 | i + 1, hi, hm => by
   have hlt : i < ops.size := by omega
   obtain ⟨_, hqu, hst⟩ := T.one i _ (show i < m by omega) (T.get hlt)
   have ih := T.ev t i (by omega) hm
   have hA : ((ef i).app (st i)).A = (st i).A := by
    have := hqu
    cases hef : ef i with
    | no => rfl
    | new => rfl
    | put => rfl
    | grow => rw [hef] at this; cases this
    | mods => rw [hef] at this; cases this
    | jump => rw [hef] at this; cases this
   obtain ⟨hsz, hdst, _⟩ := Qa1 T.okops (T.get hlt)
   rw [hst]
   cases hd : ops[i].dst with
   | none =>
     show Vv.ev ((ef i).app (st i)).A (.tmp t) = _
     rw [hA, ih]
     cases hf : Qah t 0 ops.toList with
     | none => rfl
     | some j =>
       dsimp only
       by_cases c : j < i
       ·rw [if_pos c, if_pos (by omega)]
       ·rw [if_neg c, if_neg (fun h => by
         have hji : j = i := by omega
         subst hji
         obtain ⟨i', o', e1, e2, e3⟩ := Y1 _ _ _ hf
         rw [Nat.zero_add] at e1; subst e1
         rw [J7, T.get hlt] at e2
         injection e2 with e2; subst e2
         rw [hd] at e3; cases e3)]
   | some d =>
     show Vv.ev (((ef i).app (st i)).A.set d (val i)) (.tmp t) = _
     rw [hA, Qhc (Nat.lt_trans (hdst d hd) (Nat.lt_trans hsz (by decide))), ih]
     have hfd := T.stat.dst i _ d (T.get hlt) hd
     by_cases e : t = d
     ·subst e
      rw [if_pos rfl, hfd]
      dsimp only
      rw [if_pos (Nat.lt_succ_self _)]
     ·rw [if_neg e]
      cases hf : Qah t 0 ops.toList with
      | none => rfl
      | some j =>
        dsimp only
        by_cases c : j < i
        ·rw [if_pos c, if_pos (by omega)]
        ·rw [if_neg c, if_neg (fun h => by
          have hji : j = i := by omega
          subst hji
          obtain ⟨i', o', e1, e2, e3⟩ := Y1 _ _ _ hf
          rw [Nat.zero_add] at e1; subst e1
          rw [J7, T.get hlt] at e2
          injection e2 with e2; subst e2
          rw [hd] at e3; injection e3 with e3; exact e e3.symm)]
theorem Qz3 (s : VS) (d : Option Tmp) (v : VV) : (s.put d v).L = s.L := by cases d <;> rfl
theorem Tc.L (T : Tc P ops m sz st val ef an pe sc) {i : Nat} (hi : i < m) (hm : m <= ops.size) : (st (i + 1)).L = (match ef i with | .new blk => (st i).L ++ [some blk] | .put k blk => setB k blk (st i).L | _ => (st i).L) := by
 obtain ⟨_, hqu, hst⟩ := T.one i _ hi (T.get (show i < ops.size by omega))
 have := hqu
 rw [hst, Qz3]
 cases hef : ef i with
 | no => rfl
 | new => rfl
 | put => rfl
 | grow => rw [hef] at this; cases this
 | mods => rw [hef] at this; cases this
 | jump => rw [hef] at this; cases this
theorem Qz4 (s : VS) (d : Option Tmp) (v : VV) : (s.put d v).G = s.G := by cases d <;> rfl
theorem Tc.G (T : Tc P ops m sz st val ef an pe sc) (hm : m <= ops.size) : ∀ i, i <= m -> (st i).G = (st 0).G
 | 0, _ => rfl
 | i + 1, hi => by
   obtain ⟨_, hqu, hst⟩ := T.one i _ (show i < m by omega) (T.get (show i < ops.size by omega))
   have := hqu
   rw [hst, Qz4, <- T.G hm i (by omega)]
   cases hef : ef i with
   | no => rfl
   | new => rfl
   | put => rfl
   | grow => rw [hef] at this; cases this
   | mods => rw [hef] at this; cases this
   | jump => rw [hef] at this; cases this
theorem Tc.len (T : Tc P ops m sz st val ef an pe sc) (hm : m <= ops.size) {i : Nat} : ∀ {j : Nat}, i <= j -> j <= m -> (st i).L.length <= (st j).L.length
 | 0, h, _ => by
   obtain rfl : i = 0 := by omega
   exact Nat.le_refl _
 | j + 1, h, hj => by
   rcases Nat.eq_or_lt_of_le h with e | e
   ·rw [e]; exact Nat.le_refl _
   ·have h1 := T.len hm (show i <= j by omega) (by omega)
    rw [T.L (show j < m by omega) hm]
    cases ef j <;> simp [Qby] <;> omega
theorem Tc.gb (T : Tc P ops m sz st val ef an pe sc) (hm : m <= ops.size) {i k : Nat} {blk : Blk} (h : gb (st i).L k = some blk) : ∀ {j : Nat}, i <= j -> j <= m -> (∀ x b, i <= x -> x < j -> ef x ≠ .put k b) -> gb (st j).L k = some blk
 | 0, hi, _, _ => by
   obtain rfl : i = 0 := by omega
   exact h
 | j + 1, hi, hj, hp => by
   rcases Nat.eq_or_lt_of_le hi with e | e
   ·rw [<- e]; exact h
   ·have h1 := T.gb hm h (show i <= j by omega) (by omega) (fun x b h1 h2 => hp x b h1 (by omega))
    rw [T.L (show j < m by omega) hm]
    cases hef : ef j with
    | new b => show Vv.gb ((st j).L ++ [some b]) k = _; rw [Qdf, if_neg (by have := Qjl h1; omega)]; exact h1
    | put k' b =>
      show Vv.gb (setB k' b (st j).L) k = _
      rw [Qde, if_neg (fun e' => hp j b (by omega) (by omega) (by rw [hef, e'.1]))]; exact h1
    | _ => exact h1
theorem Tc.Qni (T : Tc P ops m sz st val ef an pe sc) (hm : m <= ops.size) {i k : Nat} {blk : Blk} (hk : k < (st i).L.length) : ∀ {j : Nat}, i <= j -> j <= m -> (∀ x b, i <= x -> x < j -> ef x ≠ .put k b) -> Vv.gb (st j).L k = some blk -> Vv.gb (st i).L k = some blk
 | 0, hi, _, _, h => by
   obtain rfl : i = 0 := by omega
   exact h
 | j + 1, hi, hj, hp, h => by
   rcases Nat.eq_or_lt_of_le hi with e | e
   ·rw [e]; exact h
   ·refine T.Qni hm hk (show i <= j by omega) (by omega) (fun x b h1 h2 => hp x b h1 (by omega)) ?_
    have hlen := T.len hm (show i <= j by omega) (by omega)
    rw [T.L (show j < m by omega) hm] at h
    cases hef : ef j with
    | new b =>
      rw [hef] at h
      have h : Vv.gb ((st j).L ++ [some b]) k = some blk := h
      rw [Qdf, if_neg (by omega)] at h; exact h
    | put k' b =>
      rw [hef] at h
      have h : Vv.gb (setB k' b (st j).L) k = some blk := h
      rw [Qde, if_neg (fun e' => hp j b (by omega) (by omega) (by rw [hef, e'.1]))] at h; exact h
    | no => rw [hef] at h; exact h
    | grow => rw [hef] at h; exact h
    | mods => rw [hef] at h; exact h
    | jump => rw [hef] at h; exact h
theorem Qki {op : Oper} {a : Ans} {s : VS} {v : VV} {eff : Eff} {q : Prop} (h : oneV P ops op a s = some (v, eff, q)) (hq : q) (hS : Still s.L) :
 ∀ blk, (eff = .new blk \/ (∃ k, eff = .put k blk) \/ ∃ k, eff = .grow k blk) -> blk.bx = false -> blk.cells.all VV.still = true := by
 unfold oneV at h
 split at h
 ·split at h
  ·cases h
  ·exact Qlk h hq hS
 ·split at h
  case h_2 => cases h
  split at h
  case h_2 => cases h
  split at h
  case h_3 => cases h
  case h_2 =>
   split at h
   case h_2 => cases h
   injection h with h; injection h with h1 h2; injection h2 with h2 h3; subst h2
   intro blk e
   rcases e with e | ⟨_, e⟩ | ⟨_, e⟩ <;> cases e
  split at h
  ·injection h with h; injection h with h1 h2; injection h2 with h2 h3; subst h2
   intro blk e
   rcases e with e | ⟨_, e⟩ | ⟨_, e⟩ <;> cases e
  ·split at h
   case h_2 => cases h
   rename_i v1 e1 q1 hs
   injection h with h; injection h with h1 h2; injection h2 with h2 h3; subst h2; subst h3
   exact Qlk hs hq.2 hS
theorem Tc.still (T : Tc P ops m sz st val ef an pe sc) (hm : m <= ops.size) (h0 : Still (st 0).L) : ∀ i, i <= m -> Still (st i).L
 | 0, _ => h0
 | i + 1, hi => by
   have ih := T.still hm h0 i (by omega)
   have hs : ∀ blk, (ef i = .new blk \/ (∃ k, ef i = .put k blk) \/ ∃ k, ef i = .grow k blk) -> blk.bx = false -> blk.cells.all VV.still = true := by
    obtain ⟨⟨_, q, h1, h2⟩ | ⟨_, _, _, _, hno, _⟩, _, _⟩ := T.one i _ (show i < m by omega) (T.get (show i < ops.size by omega))
    ·exact Qki h1 h2 ih
    ·rw [hno]; rintro blk (e | ⟨_, e⟩ | ⟨_, e⟩) <;> cases e
   intro k blk e hbx
   rw [T.L (show i < m by omega) hm] at e
   cases hef : ef i with
   | new b =>
     rw [hef] at e
     have e : Vv.gb ((st i).L ++ [some b]) k = some blk := e
     rw [Qdf] at e
     split at e
     ·injection e with e; subst e; exact hs b (.inl hef) hbx
     ·exact ih k blk e hbx
   | put k' b =>
     rw [hef] at e
     have e : Vv.gb (setB k' b (st i).L) k = some blk := e
     rw [Qde] at e
     split at e
     ·injection e with e; subst e; exact hs _ (.inr (.inl ⟨k', hef⟩)) hbx
     ·exact ih k blk e hbx
   | no => rw [hef] at e; exact ih k blk e hbx
   | grow => rw [hef] at e; exact ih k blk e hbx
   | mods => rw [hef] at e; exact ih k blk e hbx
   | jump => rw [hef] at e; exact ih k blk e hbx
def Cont (m : Nat) (st : Nat -> VS) (ef : Nat -> Eff) (listed : Array Bool) (k : Nat) (blk : Blk) : Prop :=
 (gb (st m).L k = some blk /\ ∀ j b, j < m -> ef j = .put k b -> listed.getD j false = true) \/ ∃ j b, j < m /\ ef j = .put k b /\ listed.getD j false = false /\ gb (st j).L k = some blk /\ ∀ x b', x < j -> ef x = .put k b' -> listed.getD x false = true
theorem least {p : Nat -> Prop} : (∃ n, p n) -> ∃ n, p n /\ ∀ x, x < n -> ¬ p x := by
 rintro ⟨n, h⟩
 induction n using Nat.strongRecOn with
 | _ n ih =>
   by_cases hx : ∃ x, x < n /\ p x
   ·obtain ⟨x, h1, h2⟩ := hx; exact ih x h1 h2
   ·exact ⟨n, h, fun x h1 h2 => hx ⟨x, h1, h2⟩⟩
structure Pd (base : Nat) (o : OM) (mm : MM) (w : World) (L : List (Option Blk)) (p : Pn) (v' : Value) (loc : Option OI) : Prop where
 no : loc = none -> gb L p.k = some p.blk /\ ∀ o' : OM, (∀ oi, o p.k = some oi -> o' p.k = some oi) -> R o' base mm (.rf p.k 0 p.n) v'
 yes : ∀ oi, loc = some oi -> (o p.k = some oi \/ (base <= oi.b /\ ∀ j i, o j = some i -> i.b ≠ oi.b)) /\ oi.b < w.heap.size /\ mm oi.b = none /\ Holds o base mm w.heap[oi.b]? oi p.blk /\ ∀ o' : OM, o' p.k = some oi -> R o' base mm (.rf p.k 0 p.n) v'
theorem Pd.step {base : Nat} {o o' : OM} {mm mm' : MM} {w w' : World} {L : List (Option Blk)} {p : Pn} {v' : Value} {loc : Option OI} (h : Pd base o mm w L p v' loc) (ho : o.Le o') (hm : mm.Le mm') (hk : ∀ oi, loc = some oi -> w'.heap[oi.b]? = w.heap[oi.b]?) (hs : w.heap.size <= w'.heap.size)
 (hn : ∀ b ob, mm' b = some ob -> mm b = some ob \/ w.heap.size <= b) (hno : ∀ j i, o' j = some i -> o j = some i \/ w.heap.size <= i.b) : Pd base o' mm' w' L p v' loc := by
 refine ⟨fun e => ⟨(h.no e).1, fun o2 h2 => ((h.no e).2 o2 (fun oi e' => h2 oi (ho _ _ e'))).mono (.refl _) hm (Nat.le_refl _)⟩, fun oi e => ?_⟩
 obtain ⟨h1, h2, h3, h4, h5⟩ := h.yes oi e
 refine ⟨?_, Nat.lt_of_lt_of_le h2 hs, ?_, ?_, fun o2 h => (h5 o2 h).mono (.refl _) hm (Nat.le_refl _)⟩
 ·rcases h1 with h1 | ⟨h1, h6⟩
  ·exact .inl (ho _ _ h1)
  ·refine .inr ⟨h1, fun j i e' hbb => ?_⟩
   rcases hno j i e' with h | h
   ·exact h6 j i h hbb
   ·omega
 ·cases hmb : mm' oi.b with
  | none => rfl
  | some ob =>
    rcases hn _ _ hmb with h | h
    ·rw [h3] at h; cases h
    ·omega
 ·rw [hk oi e]; exact h4.mono ho hm
structure Iv (P : Program) (ops : Array Oper) (m sz : Nat) (st : Nat -> VS) (val : Nat -> VV) (ef : Nat -> Eff) (pe : Nat -> Option Pn) (gv : Nat -> Value) (base : Nat) (w0 : World) (m0 : MM) (o0 : OM) (mm0 : MM) (a0 : Act) (ws : World) (listed : Array Bool) (o : OM) (mm : MM) (a : Act) (w : World) : Prop where
 lsz : listed.size = ops.size
 lm : ∀ j, listed.getD j false = true -> j < m
 cl : Cl ops listed
 asz : a.tmps.size = sz
 adf : Marks base m0 mm a.defers
 tm0 : ∀ t : Nat, (∀ (j : Nat) (o : Oper), listed.getD j false = true -> ops[j]? = some o -> o.dst ≠ some t) -> a.tmps.getD t undef = a0.tmps.getD t undef
 tm1 : ∀ (j : Nat) (op : Oper) (d : Nat), listed.getD j false = true -> ops[j]? = some op -> op.dst = some d -> R o base mm (val j) (a.tmps.getD d undef)
 ole : o0.Le o
 mle : mm0.Le mm
 at_ : ∀ k oi blk, o k = some oi -> Cont m st ef listed k blk -> Holds o base mm w.heap[oi.b]? oi blk
 dom : ∀ k oi, o k = some oi -> (base <= oi.b \/ hE gv oi.b = some (oi.tot, oi.sz)) /\ oi.b < w.heap.size /\ mm oi.b = none
 inj : ∀ k k' oi oi', o k = some oi -> o k' = some oi' -> oi.b = oi'.b -> k = k'
 src : ∀ k oi, o k = some oi -> o0 k = some oi \/ ∃ j blk, listed.getD j false = true /\ ef j = .new blk /\ k = (st j).L.length
 mem : Yo mm w
 mfr : ∀ b ob, mm b = some ob -> m0 b = some ob \/ base <= b
 below : Qel gv base w0 w
 size : ws.heap.size <= w.heap.size
 gh : ∀ t : Nat, R o base mm (Vv.ev (st 0).G (.tmp t)) (gvl gv t)
 mlo : m0.Le mm
 exN : ∀ j blk, listed.getD j false = true -> ef j = .new blk -> blk.bx = true -> ∃ oi, o (st j).L.length = some oi
 exP : ∀ j k blk, listed.getD j false = true -> ef j = .put k blk -> ∃ oi, o k = some oi
 pd : ∃ loc : Nat -> Option OI, (∀ j p, listed.getD j false = true -> pe j = some p -> Pd base o mm w (st m).L p (a.tmps.getD p.d undef) (loc j)) /\ ∀ j j' p p' oi oi', j ≠ j' -> listed.getD j false = true -> listed.getD j' false = true -> pe j = some p -> pe j' = some p' -> loc j = some oi -> loc j' = some oi' -> oi.b ≠ oi'.b
variable {gv : Nat -> Value} {base : Nat} {w0 : World} {m0 : MM} {o0 : OM} {mm0 : MM} {a0 : Act} {ws : World}
theorem Iv.start (T : Tc P ops m sz st val ef an pe sc) (hm : m <= ops.size) (hR : Rel gv base w0 m0 sz (st 0) o0 mm0 a0 ws) (n : Nat) : Iv P ops m sz st val ef pe gv base w0 m0 o0 mm0 a0 ws (Array.replicate ops.size false) o0 mm0 a0 { ws with drawn := n } := by
 have hf : ∀ j, (Array.replicate ops.size false).getD j false = false := fun j => by
  rw [Array.getD_eq_getD_getElem?, Array.getElem?_replicate]; split <;> rfl
 refine ⟨by simp, fun j h => (by rw [hf] at h; cases h), fun k o ho h => (by rw [hf] at h; cases h), hR.asz, hR.adf, fun t _ => rfl, fun j op d h => (by rw [hf] at h; cases h), .refl _, .refl _, fun k oi blk e1 e2 => ?_, hR.own.dom, hR.own.inj, fun k oi e => .inl e, hR.mem, hR.mfr,
  ⟨hR.below.os, hR.below.tape, hR.below.output, hR.below.size, hR.below.block⟩, Nat.le_refl _, hR.gh, hR.mlo, fun j blk h => (by rw [hf] at h; cases h), fun j k blk h => (by rw [hf] at h; cases h), fun _ => none, fun j p h => (by rw [hf] at h; cases h), fun j j' p p' oi oi' _ h => (by rw [hf] at h; cases h)⟩
 have hk := hR.olt k oi e1
 have e2' : gb (st 0).L k = some blk := by
  rcases e2 with ⟨h1, h2⟩ | ⟨j, b, h1, h2, h3, h4, h5⟩
  ·refine T.Qni hm hk (Nat.zero_le m) (Nat.le_refl _) (fun x b _ hx he => ?_) h1
   have := h2 x b hx he
   rw [hf] at this; cases this
  ·refine T.Qni hm hk (Nat.zero_le j) (by omega) (fun x b' _ hx he => ?_) h4
   have := h5 x b' hx he
   rw [hf] at this; cases this
 exact hR.own.at_ k oi blk e1 e2'
theorem Iv.tmp (T : Tc P ops m sz st val ef an pe sc) (hm : m <= ops.size) (hR : Rel gv base w0 m0 sz (st 0) o0 mm0 a0 ws) {listed : Array Bool} {o : OM} {mm : MM} {a : Act} {w : World} (I : Iv P ops m sz st val ef pe gv base w0 m0 o0 mm0 a0 ws listed o mm a w)
 {k : Nat} (hk : k < m) (hl : listed.getD k false = false) {op : Oper} (ho : ops[k]? = some op) (hrdy : ∀ e ∈ Qb3 op, listed.getD e false = true) {t : Nat} (ht : t ∈ Qb4 ops.toList op) : R o base mm (Vv.ev (st k).A (.tmp t)) (a.tmps.getD t undef) := by
 have hpre := T.stat.pre I.cl k op ho hrdy
 rw [T.ev t k (by omega) hm]
 have old : (∀ (j : Nat) (o : Oper), listed.getD j false = true -> ops[j]? = some o -> o.dst ≠ some t) -> R o base mm (Vv.ev (st 0).A (.tmp t)) (a.tmps.getD t undef) := fun h => by
  rw [I.tm0 t h]
  exact (hR.tm t).mono I.ole I.mle (Nat.le_refl _)
 cases hf : Qah t 0 ops.toList with
 | none =>
   refine old (fun j o hj ho hd => ?_)
   have := T.stat.dst j o t ho hd
   rw [hf] at this; cases this
 | some j =>
   dsimp only
   obtain ⟨i', o', e1, e2, e3⟩ := Y1 _ _ _ hf
   rw [Nat.zero_add] at e1; subst e1
   rw [J7] at e2
   have nol : j ≠ k -> ¬ (j < k) -> ∀ (j' : Nat) (o : Oper), listed.getD j' false = true -> ops[j']? = some o -> o.dst ≠ some t := by
    intro h1 h2 j' o hj' ho' hd
    have := T.stat.dst j' o t ho' hd
    rw [hf] at this; injection this with this; subst this
    rcases T.stat.look k op t j ho ht hf with h | ⟨h, _⟩ | ⟨h, hb⟩
    ·exact h1 h
    ·exact h2 h
    ·have := T.stat.pre I.cl j o' e2 (I.cl j o' e2 hj') k hb
     rw [hl] at this; cases this
   rcases T.stat.look k op t j ho ht hf with h | ⟨h, hb⟩ | ⟨h, hb⟩
   ·subst h
    rw [if_neg (Nat.lt_irrefl _)]
    refine old (fun j' o hj' ho' hd => ?_)
    have := T.stat.dst j' o t ho' hd
    rw [hf] at this; injection this with this; subst this
    rw [hl] at hj'; cases hj'
   ·rw [if_pos h]
    exact I.tm1 j o' t (hpre j hb) e2 e3
   ·rw [if_neg (by omega)]
    exact old (nol (by omega) (by omega))
end
end Go.Proofs.Ytfeedchjdnedjaa.Vv
