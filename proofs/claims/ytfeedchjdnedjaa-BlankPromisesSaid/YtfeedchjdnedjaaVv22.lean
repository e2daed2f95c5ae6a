import Derived.Test.YtfeedchjdnedjaaVv17
set_option linter.unusedVariables false
set_option linter.unusedSimpArgs false
namespace Go.Proofs.Ytfeedchjdnedjaa.Vv
open Go Go.Proofs.Ytfeedchjdnedjaa.Ev
open Go.RowKit (Below)
def resI (P : Program) (s : VS) : ResultVar -> Option (VV × Prop)
 | .tmp t => some (ev s.A (.tmp t), True)
 | .cell c t => Qh5 P s.L .n t (ev s.A (.tmp c))
def Qrx (P : Program) (s : VS) : List ResultVar -> Option (List VV × Prop)
 | [] => some ([], True)
 | r :: rs => match resI P s r, Qrx P s rs with
   | some (v, p), some (l, q) => some (v :: l, p /\ q)
   | _, _ => none
def gvIn (gv tv : Nat -> Value) (n : Nat) : Value := if n % 2 = 1 then gv n else match n / 2 with
 | 0 => undef
 | t + 1 => if t % 2 = 0 then tv (t / 2) else gvl gv (t / 2)
theorem Qwq (gv tv : Nat -> Value) : hE (gvIn gv tv) = hE gv := by
 funext b
 unfold hE gvIn
 rw [if_pos (by omega)]
theorem Qry (gv tv : Nat -> Value) (t : Nat) : gvl (gvIn gv tv) (2 * t + 1) = tv t := by
 unfold gvl gvIn
 rw [if_neg (by omega), show 2 * (2 * t + 1) / 2 = 2 * t + 1 by omega]
 show (if 2 * t % 2 = 0 then tv (2 * t / 2) else gvl gv (2 * t / 2)) = tv t
 rw [if_pos (by omega), show 2 * t / 2 = t by omega]
theorem Qrz (gv tv : Nat -> Value) (t : Nat) : gvl (gvIn gv tv) (2 * t + 1 + 1) = gvl gv t := by
 show gvIn gv tv (2 * (2 * t + 1 + 1)) = gvl gv t
 unfold gvIn
 rw [if_neg (by omega), show 2 * (2 * t + 1 + 1) / 2 = (2 * t + 1) + 1 by omega]
 show (if (2 * t + 1) % 2 = 0 then tv ((2 * t + 1) / 2) else gvl gv ((2 * t + 1) / 2)) = gvl gv t
 rw [if_neg (by omega), show (2 * t + 1) / 2 = t by omega]
theorem Qr0 {v : Option VV} {A G : Tr VV} (t : Nat) : Vv.ev (.node v A G) (.tmp (2 * t + 1 : Nat)) = Vv.ev A (.tmp t) := by
 show (match (Tr.node v A G).get (2 * t + 1) with | some v => v | none => VV.any) = _
 have : (Tr.node v A G).get (2 * t + 1) = A.get t := by
  show (bif Nat.beq (2 * t % 2) 0 then A.get (2 * t / 2) else G.get (2 * t / 2)) = _
  rw [show 2 * t % 2 = 0 by omega, show 2 * t / 2 = t by omega]; rfl
 rw [this]; rfl
theorem Qou {v : Option VV} {A G : Tr VV} (t : Nat) : Vv.ev (.node v A G) (.tmp (2 * t + 1 + 1 : Nat)) = Vv.ev G (.tmp t) := by
 show (match (Tr.node v A G).get (2 * t + 1 + 1) with | some v => v | none => VV.any) = _
 have : (Tr.node v A G).get (2 * t + 1 + 1) = G.get t := by
  show (bif Nat.beq ((2 * t + 1) % 2) 0 then A.get ((2 * t + 1) / 2) else G.get ((2 * t + 1) / 2)) = _
  rw [show (2 * t + 1) % 2 = 1 by omega, show (2 * t + 1) / 2 = t by omega]; rfl
 rw [this]; rfl
theorem Ql4 {gv gv' : Nat -> Value} (h : hE gv' = hE gv) {base : Nat} {w w' : World} (k : Qel gv base w w') : Qel gv' base w w' :=
 ⟨k.os, k.tape, k.output, k.size, fun b hb he => k.block b hb (by rw [<- h]; exact he)⟩
section
variable {P : Program} {gv : Nat -> Value} {base : Nat} {w0 : World} {m0 : MM} {sz : Nat} {s : VS} {o : OM} {m : MM} {a : Act} {w : World}
theorem Qwr (hR : Rel gv base w0 m0 sz s o m a w) {r : ResultVar} {u : VV} {q : Prop} (h : resI P s r = some (u, q)) (hq : q) : ∃ v', (Qem a.tmps r).run P w = .ok v' w /\ R o base m u v' := by
 cases r with
 | tmp t =>
   simp only [resI, Option.some.injEq, Prod.mk.injEq] at h
   obtain ⟨rfl, _⟩ := h
   exact ⟨_, rfl, hR.tm t⟩
 | cell c t =>
   have h : Qh5 P s.L .n t (Vv.ev s.A (.tmp c)) = some (u, q) := h
   obtain ⟨v', h1, h2⟩ := Qko h hq hR.own hR.mem (hR.tm c)
   refine ⟨v', ?_, h2⟩
   have h3 := Qen h1
   show (Go.asAddr (a.tmps.getD c undef) >>= fun ad => Go.loadVar t ad).run P w = _
   generalize a.tmps.getD c undef = y at h1 h3
   unfold Qh6 at h1
   split at h1
   case h_2 => cases h1
   exact h3
theorem Qov (hR : Rel gv base w0 m0 sz s o m a w) : ∀ {rs : List ResultVar} {l : List VV} {q : Prop}, Qrx P s rs = some (l, q) -> q -> ∃ vs', (rs.mapM (Qem a.tmps)).run P w = .ok vs' w /\ RL o base m l vs'
 | [], l, q, h, hq => by
   simp only [Qrx, Option.some.injEq, Prod.mk.injEq] at h
   obtain ⟨rfl, _⟩ := h
   exact ⟨[], rfl, .nil⟩
 | r :: rs, l, q, h, hq => by
   simp only [Qrx] at h
   split at h
   case h_2 => cases h
   rename_i v p l1 q1 hv hl
   simp only [Option.some.injEq, Prod.mk.injEq] at h
   obtain ⟨rfl, rfl⟩ := h
   obtain ⟨v', h1, h2⟩ := Qwr hR hv hq.1
   obtain ⟨vs', k1, k2⟩ := Qov hR hl hq.2
   refine ⟨v' :: vs', ?_, .cons h2 k2⟩
   rw [List.mapM_cons, Sem.run_bind, h1]
   simp only [Result.andThen_ok]
   rw [Sem.run_bind, k1]; rfl
end
theorem Qr1 {o : OM} {fb : Nat} {M : MM} {l : List VV} {vs : List Value} (h : RL o fb M l vs) : R o fb M (Qfx l) (if h : vs.length = 1 then vs[0] else .tuple vs.toArray) := by
 by_cases e : vs.length = 1
 ·rw [dif_pos e]
  cases l with
  | nil => have := h.1; simp at this; omega
  | cons v l =>
    cases l with
    | nil => exact h.2 0 v vs[0] rfl (List.getElem?_eq_getElem (by omega))
    | cons v2 l => have := h.1; simp at this; omega
 ·rw [dif_neg e]
  have hl : l.length ≠ 1 := by rw [h.1]; exact e
  have : Qfx l = .tu l := by
   unfold Qfx
   split
   ·simp at hl
   ·rfl
  rw [this]
  exact .tu (by simpa using h.1) (fun j v v' a b => h.2 j v v' a (by simpa using b))
def endI (P : Program) (fn : Func) (s : VS) (q : Prop) : Option InlR := match s.G with
 | .node _ A G => match Qrx P s fn.results.toList with
   | some (l, q2) => some ⟨Qfx l, A, s.L, G, q /\ q2⟩
   | none => none
 | .nil => none
def runI (fn : Func) (as : List An) (P : Program) (g : FuncId) (args : List VV) (A : Tr VV) (L : List (Option Blk)) (G : Tr VV) : Option InlR := match fn.body with
 | some c => bif Nat.blt (szF fn) 1000000 && Nat.beq (args.length + (fn.ntmps - args.length)) (szF fn) then
  (match Wy none P (szF fn) c as ⟨Qhp args 0 .nil, L, .node none A G⟩ with
  | some (.normal, s, q, []) => endI P fn s (P.funcs[g]? = some fn /\ q)
  | some (.ret, s, q, []) => endI P fn s (P.funcs[g]? = some fn /\ q)
  | _ => none) else none
 | none => none
theorem Qws {fn : Func} {as : List An} {P : Program} {g : FuncId} {args : List VV} {A : Tr VV} {L : List (Option Blk)} {G : Tr VV} {r : InlR} (h : runI fn as P g args A L G = some r) (hq : r.q) (hmx : P.follows .mixedOrders = true) (hn : Named P) : Qwt P g args A L G r := by
 unfold runI at h
 split at h
 case h_2 => cases h
 rename_i c hb
 have hb0 := Qe h; clear h; obtain ⟨hc, h⟩ := hb0
 simp only [Bool.and_eq_true] at hc
 have hlt := Z4 hc.1
 have hsz := Nat.eq_of_beq_eq_true hc.2
 have fin : ∀ {s : VS} {e : Exit} {q1 : Prop}, Wy none P (szF fn) c as ⟨Qhp args 0 .nil, L, .node none A G⟩ = some (e, s, q1, []) -> (e = .normal \/ e = .ret) -> endI P fn s (P.funcs[g]? = some fn /\ q1) = some r -> Qwt P g args A L G r := by
  intro s e q1 hv he hend
  unfold endI at hend
  split at hend
  case h_2 => cases hend
  rename_i v0 A' G' hG
  split at hend
  case h_2 => cases hend
  rename_i l q2 hres
  injection hend with hend
  subst hend
  obtain ⟨⟨hf, hq1⟩, hq2⟩ := hq
  have hrun := Qfy hmx hn _ _ _ _ _ _ _ hv hq1
  refine ⟨⟨fn, c, hf, hb⟩, fun gv base w0 m0 tv o m w args' hF hargs => ?_⟩
  refine (callsIn_wide (n := 0)).1 ?_
  show CallsIn (fen none) 0 P g args'.toArray w _
  refine callsIn_of_wp_marks (F := fen none) hf hb trivial ?_ rfl
  have hl := hargs.1
  have hE' := Qwq gv tv
  have hstart : Rel (gvIn gv tv) base w0 m (szF fn) ⟨Qhp args 0 .nil, L, .node none A G⟩ o m { tmps := args'.toArray ++ Array.replicate (fn.ntmps - args'.toArray.size) undef, defers := [] } w := by
   refine ⟨?_, .nil, fun t => ?_, ⟨hF.own.at_, fun k oi e => ?_, hF.own.inj⟩, hF.olt, hF.still, hF.mem, fun b ob e => .inl e, Ql4 hE' hF.below, hF.hb, fun t => ?_, .refl _, hF.ex⟩
   ·simp; omega
   ·exact Qr2 hargs (by omega) t
   ·rw [hE']; exact hF.own.dom k oi e
   ·show R o base m (Vv.ev (.node none A G) (.tmp t)) _
    cases t with
    | zero => exact .undef
    | succ t =>
      rcases (by omega : t = 2 * (t / 2) \/ t = 2 * (t / 2) + 1) with e | e
      ·rw [e, Qr0, Qry]; exact hF.tm _
      ·rw [e, Qou, Qrz]; exact hF.gh _
  refine hrun _ base w0 m o m _ w hstart _ (fun o' m' a' w' hR => ?_)
  have hfin : LeavesInM (fen none) 0 P fn a'.tmps (fun e w' => ∃ v' o' m', e = .returned v' /\ m.Le m' /\ Frame gv base w0 m0 A' s.L G' tv o' m' w' /\ R o' base m' (Qfx l) v') a'.defers .returning w' := by
   obtain ⟨rs, h1, h2, h3⟩ := hR.adf
   refine Rel.leave rs o' m' a' w' hR rfl h1 h2 h3 (fun m2 a2 w2 hR2 ht => ?_)
   obtain ⟨vs', k1, k2⟩ := Qov hR2 hres hq2
   rw [ht] at k1
   refine ⟨_, Qd1 k1, _, o', m2, rfl, hR2.mlo, ⟨fun t => ?_, ⟨hR2.own.at_, fun k oi e => ?_, hR2.own.inj⟩, hR2.olt, hR2.still, hR2.mem, fun b ob e => ?_, Ql4 hE'.symm hR2.below, hR2.hb, fun t => ?_, hF.mlo.trans hR2.mlo, hR2.ex⟩, Qr1 k2⟩
   ·have := hR2.gh (2 * t + 1 : Nat)
    rw [hG, Qr0, Qry] at this; exact this
   ·have := hR2.own.dom k oi e
    rw [hE'] at this; exact this
   ·rcases hR2.mfr b ob e with e | e
    ·exact hF.mfr b ob e
    ·exact .inr e
   ·have := hR2.gh (2 * t + 1 + 1 : Nat)
    rw [hG, Qou, Qrz] at this; exact this
  rcases he with rfl | rfl
  ·exact hfin
  ·exact hfin
 split at h
 ·rename_i s q1 hv; exact fin hv (.inl rfl) h
 ·rename_i s q1 hv; exact fin hv (.inr rfl) h
 ·cases h
noncomputable def inlF (fn : Func) (as : List An) : Inl := ⟨runI fn as, fun _ _ _ _ _ _ _ h hq hmx hn => Qws h hq hmx hn⟩
end Go.Proofs.Ytfeedchjdnedjaa.Vv
