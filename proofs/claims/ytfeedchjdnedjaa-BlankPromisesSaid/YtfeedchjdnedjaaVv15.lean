import Derived.Test.YtfeedchjdnedjaaVv14
set_option linter.unusedVariables false
set_option linter.unusedSimpArgs false
namespace Go.Proofs.Ytfeedchjdnedjaa.Vv
open Go Go.Proofs.Ytfeedchjdnedjaa.Ev
open Go.RowKit (Below)
section
variable {P : Program} {ops : Array Oper} {m sz : Nat} {st : Nat -> VS} {val : Nat -> VV} {ef : Nat -> Eff} {an : Nat -> Ans} {pe : Nat -> Option Pn} {sc : Nat -> VS} {rd : Option Nat}
variable {gv : Nat -> Value} {base : Nat} {w0 : World} {m0 : MM} {o0 : OM} {mm0 : MM} {a0 : Act} {ws : World}
theorem Qgy (hn : Named P) {o : OM} {mm : MM} {a : Act} {w : World} {s : VS} {op : Oper} {an : Ans} {v : VV} {eff : Eff} {q : Prop} (h : oneV P ops op an s = some (v, eff, q)) (hq : q) (heff : eff.quiet = true) (hO : Own gv base o mm s.L w) (hS : Still s.L)
 (hM : Yo mm w) (hb : base <= w.heap.size) (hlook : ∀ t ∈ Qb4 ops.toList op, R o base mm (Vv.ev s.A (.tmp t)) (a.tmps.getD t undef)) {K : Act -> World -> Prop} {Q : Exit -> Act -> World -> Prop}
 (k : ∀ v' m' w', Quiet base o mm w s.L.length eff v v' m' w' -> K (a.put op.dst v') w') :
 if Region.wanted op (yielded ops a.tmps) then op.wpIn (fen rd) 0 P a w K Q else (∀ f, op.about P w a.eval = some f -> (fen rd).fn f) /\ K (a.put op.dst undef) w := by
 have hopd : ∀ x ∈ op.op.operands, R o base mm (Vv.ev s.A x) (a.eval x) := fun x hx => by
  cases x with
  | tmp t => exact hlook t (Qgu hx)
  | const v => exact Qle
  | global g => exact .undef
  | func f => exact .fn (cs := #[]) rfl (fun j v v' h => by simp at h)
 unfold oneV at h
 split at h
 ·rename_i hg
  have hw : Region.wanted op (yielded ops a.tmps) = true := by unfold Region.wanted; rw [hg]
  rw [hw, if_pos rfl]
  split at h
  ·cases h
  ·exact Qlc hn h heff hq hO hS hM hb hopd k
 ·rename_i j want hg
  split at h
  case h_2 => cases h
  rename_i g hj
  split at h
  case h_2 => cases h
  rename_i d hdg
  split at h
  case h_3 => cases h
  case h_2 hbv =>
   split at h
   case h_2 => cases h
   injection h with h; injection h with h1 h2; injection h2 with h2 h3; subst h1; subst h2
   have hbr : a.tmps.getD d undef = undef := by
    have := hlook d (by unfold Qb4; refine List.mem_append_right _ ?_; rw [hg]; dsimp only; rw [hj]; dsimp only; rw [hdg]; simp)
    rw [hbv] at this
    exact Qnm this
   rw [Qkk (ops := ops) hg hj hdg hbr, if_neg (by simp)]
   exact ⟨fun _ _ => trivial, k _ mm w ⟨.refl _, hM, fun b ob e => .inl e, fun b _ => rfl, Nat.le_refl _, ⟨rfl, rfl, rfl⟩, Qgw⟩⟩
  rename_i b hbv
  have hbr : a.tmps.getD d undef = .bool b := by
   have := hlook d (by unfold Qb4; refine List.mem_append_right _ ?_; rw [hg]; dsimp only; rw [hj]; dsimp only; rw [hdg]; simp)
   rw [hbv] at this
   exact this.J9.1
  have hw := Qgv (ops := ops) hg hj hdg hbr
  split at h
  ·injection h with h; injection h with h1 h2; injection h2 with h2 h3; subst h1; subst h2; subst h3
   rw [hw, hq]
   have : ((!want) == want) = false := by cases want <;> rfl
   rw [this, if_neg (by simp)]
   exact ⟨fun _ _ => trivial, k _ mm w ⟨.refl _, hM, fun b ob e => .inl e, fun b _ => rfl, Nat.le_refl _, ⟨rfl, rfl, rfl⟩, Qgw⟩⟩
  ·split at h
   case h_2 => cases h
   rename_i v1 e1 q1 hs
   injection h with h; injection h with h1 h2; injection h2 with h2 h3; subst h1; subst h2; subst h3
   rw [hw, hq.1]
   rw [beq_self_eq_true, if_pos rfl]
   exact Qlc hn hs heff hq.2 hO hS hM hb hopd k
theorem Qe7 {a : Act} {op : Oper} {v' : Value} {t : Nat} (hsz : ∀ d : Nat, op.dst = some d -> d < a.tmps.size) : (a.put op.dst v').tmps.getD t undef = if op.dst = some t then v' else a.tmps.getD t undef := by
 cases hd : op.dst with
 | none => rw [if_neg (by simp)]; rfl
 | some d =>
   show (a.tmps.setIfInBounds d v').getD t undef = _
   rw [Array.getD_eq_getD_getElem?, Array.getElem?_setIfInBounds, Array.getD_eq_getD_getElem?]
   by_cases e : d = t
   ·subst e; rw [if_pos rfl, if_pos (hsz d hd), if_pos rfl]; rfl
   ·rw [if_neg e, if_neg (fun h => e (by injection h))]
theorem Qqj {op : Oper} {an : Ans} {A : Tr VV} {L : List (Option Blk)} {G : Tr VV} {v : VV} {eff : Eff} {q : Prop} (hp0 : Qkg op A = true) (h : oneV P ops op an ⟨A, L, G⟩ = some (v, eff, q)) : oneV P ops op an ⟨A, [], .nil⟩ = some (v, eff, q) /\ eff = .no := by
 have key : ∀ an, Qc5 P op A L G L.length an = Qc5 P op A [] .nil ([] : List (Option Blk)).length an /\ ∀ v e q, Qc5 P op A L G L.length an = some (v, e, q) -> e = .no := by
  intro an
  simp only [Qkg, Bool.or_eq_true] at hp0
  rcases hp0 with hp | hp
  case inr =>
   obtain ⟨dst, oo, type, pos, after, guard⟩ := op
   dsimp only at hp
   split at hp
   case h_5 => cases hp
   case h_3 => exact ⟨rfl, fun v e q h => (Qal h).2⟩
   case h_4 => exact ⟨rfl, fun v e q h => (Qal h).2⟩
   ·split at hp
    case h_2 => cases hp
    rename_i t x _ cells off hev
    refine ⟨?_, fun v e q h => (Qbz h).2⟩
    show wiP (Qh5 P L an t (Vv.ev A x)) = wiP (Qh5 P [] an t (Vv.ev A x))
    rw [hev]; rfl
   ·rename_i args ts
    split at hp
    case h_2 => cases hp
    rename_i x hx
    split at hp
    case h_2 => cases hp
    rename_i cells n hev
    have e2 : ∀ (L : List (Option Blk)) (G : Tr VV), Qc5 P ⟨dst, .call { callee := .builtin .len, args := args, argTypes := ts }, type, pos, after, guard⟩ A L G L.length an = (match ts.toList with
     | [t] => noP (vLen P t (.tr cells n))
     | _ => none) := fun L G => by
     show (match ts.toList, args.toList with
      | [t], [x] => (match Qoh P L an t (Vv.ev A x) with
        | some r => some r
        | none => noP (vLen P t (Vv.ev A x)))
      | _, _ => none) = _
     rw [hx]
     rcases ts.toList with _ | ⟨t, _ | ⟨_, _⟩⟩
     ·rfl
     ·dsimp only; rw [hev, show Qoh P L an t (.tr cells n) = none from by
       unfold Qoh
       split
       ·cases Qp9 P t <;> rfl
       ·rfl]
     ·rfl
    refine ⟨by rw [e2 L G, e2 [] .nil], fun v e q h => ?_⟩
    rw [e2 L G] at h
    split at h
    ·exact (Qal h).2
    ·cases h
  obtain ⟨dst, oo, type, pos, after, guard⟩ := op
  cases oo <;> first
   | (cases hp; done)
   | exact ⟨rfl, fun v e q h => (Qal h).2⟩
   | exact ⟨rfl, fun v e q h => (Qbz h).2⟩
   | exact ⟨rfl, fun v e q h => by
    have h : some _ = some _ := h
    injection h with h; injection h with h1 h2; injection h2 with h2 h3; exact h2.symm⟩
   | (refine ⟨rfl, fun v e q h => ?_⟩
      simp only [Qc5, vOp] at h
      split at h
      ·injection h with h; injection h with h1 h2; injection h2 with h2 h3; exact h2.symm
      ·cases h)
   | (refine ⟨rfl, fun v e q h => ?_⟩
      simp only [Qc5, vOp] at h
      have hb0 := Qe h; clear h; obtain ⟨_, h⟩ := hb0
      exact (Qal h).2)
 have e1 : oneV P ops op an ⟨A, L, G⟩ = oneV P ops op an ⟨A, [], .nil⟩ := by
  unfold oneV
  dsimp only
  simp only [fun an => (key an).1]
 refine ⟨e1 ▸ h, ?_⟩
 unfold oneV at h
 split at h
 ·split at h
  ·cases h
  ·exact (key _).2 _ _ _ h
 ·split at h
  case h_2 => cases h
  split at h
  case h_2 => cases h
  split at h
  case h_3 => cases h
  case h_2 =>
   split at h
   case h_2 => cases h
   injection h with h; injection h with h1 h2; injection h2 with h2 h3; exact h2.symm
  split at h
  ·injection h with h; injection h with h1 h2; injection h2 with h2 h3; exact h2.symm
  ·split at h
   case h_2 => cases h
   rename_i v1 e1 q1 hs
   have hk2 := (key _).2 _ _ _ hs
   injection h with h; injection h with h1 h2; injection h2 with h2 h3; rw [<- h2]; exact hk2
def Ql1 (k : Nat) (L : List (Option Blk)) : List (Option Blk) := List.replicate k none ++ [gb L k]
theorem Qno : ∀ (k : Nat) (x : Option Blk), getL k (List.replicate k none ++ [x]) = some x
 | 0, x => rfl
 | k + 1, x => Qno k x
theorem Qoq (k : Nat) (L : List (Option Blk)) : gb (Ql1 k L) k = gb L k := by
 show (match getL k (List.replicate k none ++ [gb L k]) with | some b => b | none => none) = gb L k
 rw [Qno]
theorem Qkl : ∀ (k j : Nat) (x : Option Blk) (b : Option Blk), j ≠ k -> getL j (List.replicate k none ++ [x]) = some b -> b = none
 | 0, 0, x, b, h, _ => absurd rfl h
 | 0, j + 1, x, b, h, e => by cases j <;> cases e
 | k + 1, 0, x, b, h, e => by injection e with e; exact e.symm
 | k + 1, j + 1, x, b, h, e => Qkl k j x b (by omega) e
theorem Qqk {k j : Nat} {L : List (Option Blk)} {blk : Blk} (h : gb (Ql1 k L) j = some blk) : j = k := by
 by_cases e : j = k
 ·exact e
 ·exfalso
  have h : (match getL j (List.replicate k none ++ [gb L k]) with | some b => b | none => none) = some blk := h
  cases hc : getL j (List.replicate k none ++ [gb L k]) with
  | none => rw [hc] at h; cases h
  | some b => rw [hc] at h; have := Qkl k j _ b e hc; subst this; cases h
theorem Qql {op : Oper} {an : Ans} {A : Tr VV} {L : List (Option Blk)} {G : Tr VV} {v : VV} {eff : Eff} {q : Prop} {t : TypeId} {x : Operand} {k off : Nat} (hop : op.op = .load t x) (hev : Vv.ev A x = .pt k off) (h : oneV P ops op an ⟨A, L, G⟩ = some (v, eff, q)) : oneV P ops op an ⟨A, Ql1 k L, .nil⟩ = some (v, eff, q) /\ eff = .no := by
 have key : ∀ an, Qc5 P op A L G L.length an = Qc5 P op A (Ql1 k L) .nil (Ql1 k L).length an /\ ∀ v e q, Qc5 P op A L G L.length an = some (v, e, q) -> e = .no := by
  intro an
  obtain ⟨dst, oo, type, pos, after, guard⟩ := op
  dsimp only at hop
  subst hop
  refine ⟨?_, fun v e q h => (Qbz h).2⟩
  show wiP (Qh5 P L an t (Vv.ev A x)) = wiP (Qh5 P (Ql1 k L) an t (Vv.ev A x))
  rw [hev]
  have hg : gc (Ql1 k L) k = gc L k := by unfold gc; rw [Qoq]
  unfold Qh5
  dsimp only
  rw [hg]
 have e1 : oneV P ops op an ⟨A, L, G⟩ = oneV P ops op an ⟨A, Ql1 k L, .nil⟩ := by
  unfold oneV
  dsimp only
  simp only [fun an => (key an).1]
 refine ⟨e1 ▸ h, ?_⟩
 unfold oneV at h
 split at h
 ·split at h
  ·cases h
  ·exact (key _).2 _ _ _ h
 ·split at h
  case h_2 => cases h
  split at h
  case h_2 => cases h
  split at h
  case h_3 => cases h
  ·split at h
   ·injection h with h; injection h with h1 h2; injection h2 with h2 h3; exact h2.symm
   ·split at h
    case h_2 => cases h
    rename_i hs
    have := (key _).2 _ _ _ hs
    injection h with h; injection h with h1 h2; injection h2 with h2 h3; rw [<- h2]; exact this
  ·split at h
   ·injection h with h; injection h with h1 h2; injection h2 with h2 h3; exact h2.symm
   ·cases h
theorem Qhn {op : Oper} {A : Tr VV} (N : Nat) : Qkg op A = true \/ (∃ t x k off, op.op = .load t x /\ Vv.ev A x = .pt k off /\ Qd0 op A N = some (some k)) \/ (newAt op = true /\ Qd0 op A N = some (some N)) \/ Qd0 op A N = none := by
 unfold Qd0
 cases Qkg op A with
 | true => exact .inl rfl
 | false =>
   right
   cases hnw : newAt op with
   | true => exact .inr (.inl ⟨rfl, rfl⟩)
   | false =>
     dsimp only [cond_false]
     split
     ·rename_i t x hop
      split
      ·rename_i k off hev
       exact .inl ⟨t, x, k, off, hop, hev, rfl⟩
      ·exact .inr (.inr rfl)
     ·exact .inr (.inr rfl)
def Ql2 (L : List (Option Blk)) : List (Option Blk) := List.replicate L.length none
theorem Qjd (L : List (Option Blk)) : (Ql2 L).length = L.length := List.length_replicate
theorem Quo (L : List (Option Blk)) (k : Nat) : gb (Ql2 L) k = none := by
 cases hg : gb (Ql2 L) k with
 | none => rfl
 | some b =>
   exfalso
   unfold gb Ql2 at hg
   rw [Jj, List.getElem?_replicate] at hg
   by_cases c : k < L.length
   ·rw [if_pos c] at hg; cases hg
   ·rw [if_neg c] at hg; cases hg
theorem Qvv {op : Oper} {an : Ans} {A : Tr VV} {L : List (Option Blk)} {G : Tr VV} {v : VV} {eff : Eff} {q : Prop} (hnw : newAt op = true) (h : oneV P ops op an ⟨A, L, G⟩ = some (v, eff, q)) : oneV P ops op an ⟨A, Ql2 L, .nil⟩ = some (v, eff, q) /\ (eff = .no \/ ∃ blk, eff = .new blk) := by
 have key : ∀ an, Qc5 P op A L G L.length an = Qc5 P op A (Ql2 L) .nil (Ql2 L).length an /\ ∀ v e q, Qc5 P op A L G L.length an = some (v, e, q) -> ∃ blk, e = .new blk := by
  intro an
  obtain ⟨dst, oo, type, pos, after, guard⟩ := op
  dsimp only [newAt] at hnw
  split at hnw
  case h_3 => cases hnw
  ·refine ⟨by rw [Qjd]; rfl, fun v e q h => ?_⟩
   simp only [Qc5, vOp] at h
   split at h
   ·obtain ⟨_, h⟩ := Qe h
    injection h with h; injection h with h1 h2; injection h2 with h2 h3; exact ⟨_, h2.symm⟩
   ·cases h
  ·refine ⟨by rw [Qjd]; rfl, fun v e q h => ?_⟩
   simp only [Qc5, vOp] at h
   obtain ⟨_, h⟩ := Qe h
   injection h with h; injection h with h1 h2; injection h2 with h2 h3; exact ⟨_, h2.symm⟩
 have e1 : oneV P ops op an ⟨A, L, G⟩ = oneV P ops op an ⟨A, Ql2 L, .nil⟩ := by
  unfold oneV
  dsimp only
  simp only [fun an => (key an).1]
 refine ⟨e1 ▸ h, ?_⟩
 unfold oneV at h
 split at h
 ·split at h
  ·cases h
  ·exact .inr ((key _).2 _ _ _ h)
 ·split at h
  case h_2 => cases h
  split at h
  case h_2 => cases h
  split at h
  case h_3 => cases h
  ·split at h
   ·injection h with h; injection h with h1 h2; injection h2 with h2 h3; exact .inl h2.symm
   ·split at h
    case h_2 => cases h
    rename_i hs
    have := (key _).2 _ _ _ hs
    injection h with h; injection h with h1 h2; injection h2 with h2 h3; rw [<- h2]; exact .inr this
  ·split at h
   ·injection h with h; injection h with h1 h2; injection h2 with h2 h3; exact .inl h2.symm
   ·cases h
theorem Qup {op : Oper} {an : Ans} {A : Tr VV} {L : List (Option Blk)} {G : Tr VV} {v : VV} {eff : Eff} {q : Prop} {kb : Nat} (hp : okFl (Qd0 op A L.length) kb = true) (h : oneV P ops op an ⟨A, L, G⟩ = some (v, eff, q)) : eff = .no \/ (∃ blk, eff = .new blk) /\ kb ≠ L.length := by
 rcases Qhn (op := op) (A := A) L.length with h1 | ⟨t, x, k, off, hop, hev, _⟩ | ⟨h1, h2⟩ | h1
 ·exact .inl (Qqj h1 h).2
 ·exact .inl (Qql hop hev h).2
 ·rcases (Qvv h1 h).2 with e | e
  ·exact .inl e
  ·refine .inr ⟨e, fun hk => ?_⟩
   subst hk
   rw [h2] at hp
   have hp : (!Nat.beq L.length L.length) = true := hp
   rw [Nat.beq_refl] at hp; cases hp
 ·rw [h1] at hp; cases hp
structure Wrote (base : Nat) (o : OM) (m : MM) (w : World) (k0 : Nat) (blk : Blk) (v : VV) (v' : Value) (m' : MM) (w' : World) (oi : OI) : Prop where
 ho : o k0 = some oi
 le : m.Le m'
 mem : Yo m' w'
 new : ∀ b ob, m' b = some ob -> m b = some ob \/ w.heap.size <= b
 keep : ∀ b, b < w.heap.size -> b ≠ oi.b -> w'.heap[b]? = w.heap[b]?
 size : w.heap.size <= w'.heap.size
 same : Same w w'
 at_ : Holds o base m' w'.heap[oi.b]? oi blk
 res : R o base m' v v'
theorem Qrt {o : OM} {m : MM} {k : Nat} {v : VV} {v' : Value} (h : R o base m v v') (hn : Qi1 k v = true) : ∃ oi, o k = some oi := by
 unfold Qi1 at hn
 split at hn
 ·have := Nat.eq_of_beq_eq_true hn
  subst this
  cases h with
  | t ht => cases ht
  | pt ho => exact ⟨_, ho⟩
 ·cases hn
theorem Qye (hn : Named P) {o : OM} {m : MM} {a : Act} {w : World} {A : Tr VV} {L : List (Option Blk)} (hO : Own gv base o m L w) (hS : Still L) (hM : Yo m w) (hbl : base <= w.heap.size) {op : Oper} {v : VV} {g : FuncId} {args : Array Operand} {ts : Array TypeId} {k0 : Nat} {b0 : Blk} {l : List Blk} {as : List VV} {hs : List Blk} {q0 : Prop}
 (ho : op.op = .call { callee := .value (.func g), args := args, argTypes := ts }) (e1 : Qmz [k0] (args.toList.map (Vv.ev A)) = some as) (e2 : Qhj [k0] L [k0] = some hs) (e3 : Qev [k0] L [k0] l = some ([(k0, b0)], q0)) (hnd : nodupB [k0] = true)
 (hvm : VM P g as hs v l) (hq0 : q0) (hnm : (args.toList.map (Vv.ev A)).any (Qi1 k0) = true) (he : ∀ x ∈ op.op.operands, R o base m (Vv.ev A x) (a.eval x)) {K : Act -> World -> Prop} {Q : Exit -> Act -> World -> Prop}
 (k : ∀ v' m' w' oi, Wrote base o m w k0 b0 v v' m' w' oi -> K (a.put op.dst v') w') : op.wpIn (fen rd) 0 P a w K Q := by
 refine ⟨fun _ _ => trivial, ?_⟩
 have hsem : op.semAt rd a.eval = execOp a.eval op := Oper.semAt_eq _ _ _ (fun c => by rw [ho]; intro e; cases e)
 show op.uponIn (fen rd) 0 P a K Q ((op.semAt rd a.eval).run P w)
 rw [hsem]
 have hargs : RL o base m (args.toList.map (Vv.ev A)) (args.toList.map a.eval) := Qgm args.toList fun x hx => he x (by rw [ho]; simp [Op.operands, Call.operands]; exact .inr (Array.mem_toList_iff.1 hx))
 obtain ⟨⟨fn, c, hfn, hbody⟩, hll, hkind, hvm⟩ := hvm
 have hrun : (execOp a.eval op).run P w = .ok (.enter g (args.toList.map a.eval).toArray) w := by
  have e : (args.toList.map a.eval).toArray = #[] ++ args.map a.eval ++ #[] := by apply Array.ext'; simp
  rw [e]
  obtain ⟨dst, oo, type, pos, after, guard⟩ := op
  dsimp only at ho
  subst ho
  show (resolve a.eval { callee := .value (.func g), args, argTypes := ts } type >>= fun d => invoke d.target d.args).run P w = _
  unfold resolve
  show (callFunc g (#[] ++ args.map a.eval ++ #[])).run P w = _
  exact Qdd hn hfn hbody _ w
 rw [hrun]
 refine ⟨fun h => by simp [fen, Fence.wide] at h, ?_⟩
 show CallsIn (fen none) 0 P g _ w _
 obtain ⟨hlen, hget⟩ := Qg9 e2
 obtain ⟨oi, hoi⟩ : ∃ oi, o k0 = some oi := by
  rw [List.any_eq_true] at hnm
  obtain ⟨x, hx, hxn⟩ := hnm
  rw [List.mem_map] at hx
  obtain ⟨y, hy, rfl⟩ := hx
  exact Qrt (he y (by rw [ho]; simp [Op.operands, Call.operands]; exact .inr (Array.mem_toList_iff.1 hy))) hxn
 obtain ⟨old, b', g1, g2, g3⟩ := hget 0 k0 rfl
 have hoi0 : Qc7 [k0] o 0 = some oi := by unfold Qc7; exact hoi
 have hsrc : ∀ j oi', Qc7 [k0] o j = some oi' -> j = 0 /\ oi' = oi := by
  intro j oi' h
  unfold Qc7 at h
  cases j with
  | zero => have h : o k0 = some oi' := h; rw [hoi] at h; injection h with h; exact ⟨rfl, h.symm⟩
  | succ j => cases j <;> cases h
 obtain ⟨d1, d2, d3⟩ := hO.dom k0 oi hoi
 have h0 := hO.at_ k0 oi old hoi g1
 refine (callsIn_wide (n := 0)).2 ((hvm w m (Qc7 [k0] o) _ hM (fun j oi' h => ?_) (fun j j' oi1 oi2 h h' hbb => ?_) (fun j blk hj => ?_) (Qli e1 hargs)).mono ?_)
 ·obtain ⟨rfl, rfl⟩ := hsrc j oi' h
  exact ⟨by rw [hlen]; exact Nat.zero_lt_one, d2, d3⟩
 ·rw [(hsrc j oi1 h).1, (hsrc j' oi2 h').1]
 ·cases j with
  | zero =>
    rw [hj] at g3; injection g3 with g3; subst g3
    obtain ⟨k1, k2⟩ := Qlj (fb := w.heap.size) g2 h0 (hS _ old g1)
    exact ⟨oi, hoi0, k1, k2⟩
  | succ j =>
    have := (List.getElem?_eq_some_iff.1 hj).1
    rw [hlen] at this; simp at this
 ·rintro e w' ⟨v', m1, rfl, h1, h2, h3, h4, hkeep, hle, hM1, hnew, hat, hr⟩
  obtain ⟨old', new, f1, f2, f3, f4⟩ := (Qbs e3 hq0 hnd L k0).2 0 rfl (Qjl g1)
  rw [g1] at f1; injection f1 with f1; subst f1
  have hb0 : b0 = (Qg5 [k0] old new).1 := by
   have f3' : gb (setB k0 b0 L) k0 = _ := f3
   rw [Qde, if_pos ⟨rfl, Qjl g1⟩] at f3'; injection f3'
  have hh := hat 0 oi new hoi0 f2
  have hkd : new.bx = b'.bx /\ new.sz = b'.sz := hkind 0 b' new g3 f2
  refine k v' m1 w' oi ⟨hoi, hle, hM1, hnew, fun b hb hne => hkeep b hb (fun j oi' hj hbb => hne (by rw [<- (hsrc j oi' hj).2]; exact hbb.symm)), h4, ⟨h1, h2, h3⟩, ?_, hr.mono (OM.Qhq o) (.refl m1) hbl⟩
  rw [hb0]
  rcases Qp1 g2 hbl h0 hh hkd with hgood | hbad
  ·exact hgood
  ·exact absurd f4 hbad
theorem Qyf (hn : Named P) {o : OM} {mm : MM} {a : Act} {w : World} {s : VS} {op : Oper} {an : Ans} {v : VV} {k0 : Nat} {blk : Blk} {q : Prop} (h : oneV P ops op an s = some (v, .put k0 blk, q)) (hq : q) (hO : Own gv base o mm s.L w) (hS : Still s.L)
 (hM : Yo mm w) (hbl : base <= w.heap.size) (hlook : ∀ t ∈ Qb4 ops.toList op, R o base mm (Vv.ev s.A (.tmp t)) (a.tmps.getD t undef)) {K : Act -> World -> Prop} {Q : Exit -> Act -> World -> Prop}
 (k : ∀ v' m' w' oi, Wrote base o mm w k0 blk v v' m' w' oi -> K (a.put op.dst v') w') :
 if Region.wanted op (yielded ops a.tmps) then op.wpIn (fen rd) 0 P a w K Q else (∀ f, op.about P w a.eval = some f -> (fen rd).fn f) /\ K (a.put op.dst undef) w := by
 have hopd : ∀ x ∈ op.op.operands, R o base mm (Vv.ev s.A x) (a.eval x) := fun x hx => by
  cases x with
  | tmp t => exact hlook t (Qgu hx)
  | const v => exact Qle
  | global g => exact .undef
  | func f => exact .fn (cs := #[]) rfl (fun j v v' h => by simp at h)
 have main : ∀ {v1 : VV} {q1 : Prop}, Qc5 P op s.A s.L s.G s.L.length an = some (v1, .put k0 blk, q1) -> q1 -> v1 = v -> op.wpIn (fen rd) 0 P a w K Q := by
  intro v1 q1 hs1 hq hv
  subst hv
  rcases Qdx hs1 with ⟨_, _, _, _, _, _, ⟨e, _⟩ | ⟨_, _, _, _, _, _, _, e, _⟩⟩ | ⟨_, _, _, _, _, _, _, _, _, _, _, e, _, _⟩ | ⟨g, args, ts, ks, l, as, hs, bs, q0, ho, e1, e2, e3, hnd, e | ⟨k1, b1, rfl, rfl, e, hnm, hb1⟩, rfl⟩ | ⟨_, _, _, _, _, _, _, _, _, _, _, _, e, _⟩ | hs2
  ·cases e
  ·cases e
  ·cases e
  ·cases e
  ·injection e with e4 e5; subst e4; subst e5
   exact Qye hn hO hS hM hbl ho e1 e2 e3 hnd hq.1 hq.2.1 hnm hopd k
  ·cases e
  clear hs1
  have hs1 := hs2
  refine ⟨fun _ _ => trivial, ?_⟩
  have hnd : ∀ c, op.op ≠ .defer c := by
   intro c e
   unfold vOp at hs1
   rw [e] at hs1
   cases hs1
  have hsem : op.semAt rd a.eval = execOp a.eval op := Oper.semAt_eq _ _ _ hnd
  show op.uponIn (fen rd) 0 P a K Q ((op.semAt rd a.eval).run P w)
  rw [hsem]
  obtain ⟨nx, v', w', g1, g2, g3⟩ := Qps hs1 hq hbl hO hM hopd
  rw [g1]
  have hk : K (a.put op.dst v') w' := by
   cases g3 with
   | put ho hc hl hv =>
     rename_i oi ob ob0
     obtain ⟨d1, d2, d3⟩ := hO.dom _ _ ho
     have hg : ∀ j, (World.upd w (.put oi.b ob)).heap[j]? = if j = oi.b then some ob else w.heap[j]? := fun j => by
      rw [show (World.upd w (.put oi.b ob)).heap = w.heap.setIfInBounds oi.b ob from rfl, heap_set _ hc j]
     refine k _ mm _ oi ⟨ho, .refl _, fun b ob' e => ?_, fun b ob' e => .inl e, fun b hb hne => by rw [hg, if_neg hne], by simp [World.upd], ⟨rfl, rfl, rfl⟩, by rw [hg, if_pos rfl]; exact hl, hv o⟩
     rw [hg, if_neg (fun e' => by subst e'; rw [d3] at e; cases e)]
     exact hM b ob' e
  cases nx <;> first | (simp [valOf] at g2; done) | (simp only [valOf, Option.some.injEq] at g2; subst g2; exact hk)
 unfold oneV at h
 split at h
 ·rename_i hg
  have hw : Region.wanted op (yielded ops a.tmps) = true := by unfold Region.wanted; rw [hg]
  rw [hw, if_pos rfl]
  split at h
  ·cases h
  ·exact main h hq rfl
 ·rename_i j want hg
  split at h
  case h_2 => cases h
  rename_i g hj
  split at h
  case h_2 => cases h
  rename_i d hdg
  split at h
  case h_3 => cases h
  case h_2 =>
   split at h
   case h_2 => cases h
   injection h with h; injection h with h1 h2; injection h2 with h2 h3; cases h2
  rename_i b hbv
  have hbr : a.tmps.getD d undef = .bool b := by
   have := hlook d (by unfold Qb4; refine List.mem_append_right _ ?_; rw [hg]; dsimp only; rw [hj]; dsimp only; rw [hdg]; simp)
   rw [hbv] at this
   exact this.J9.1
  have hw := Qgv (ops := ops) hg hj hdg hbr
  split at h
  ·injection h with h; injection h with h1 h2; injection h2 with h2 h3; cases h2
  ·split at h
   case h_2 => cases h
   rename_i v1 e1 q1 hs
   injection h with h; injection h with h1 h2; injection h2 with h2 h3; subst h1; subst h2; subst h3
   rw [hw, hq.1]
   rw [beq_self_eq_true, if_pos rfl]
   exact main hs hq.2 rfl
structure Grew (base : Nat) (o : OM) (m : MM) (L : List (Option Blk)) (w : World) (k0 : Nat) (blk : Blk) (v : VV) (v' : Value) (w' : World) (loc : Option OI) : Prop where
 keep : ∀ b, b < w.heap.size -> (∀ oi, loc = some oi -> oi.b ≠ b) -> w'.heap[b]? = w.heap[b]?
 size : w.heap.size <= w'.heap.size
 same : Same w w'
 no : loc = none -> gb L k0 = some blk /\ R o base m v v'
 yes : ∀ oi, loc = some oi -> (o k0 = some oi \/ oi.b = w.heap.size) /\ oi.b < w'.heap.size /\ Holds o base m w'.heap[oi.b]? oi blk /\ (∀ o' : OM, o' k0 = some oi -> R o' base m v v') /\ (o k0 = some oi -> ∃ b0, gb L k0 = some b0 /\ Holds o base m w'.heap[oi.b]? oi b0)
theorem Qzv {o o' : OM} {m : MM} {k n : Nat} {v' : Value} (h : R o base m (.rf k 0 n) v') (ho : ∀ oi, o k = some oi -> o' k = some oi) : R o' base m (.rf k 0 n) v' := by
 cases h with
 | t h => cases h
 | rf h hn hr => exact .rf (ho _ h) hn hr
 | rf0 => exact .rf0
theorem Qvw (hn : Named P) {o : OM} {mm : MM} {a : Act} {w : World} {s : VS} {op : Oper} {an : Ans} {v : VV} {k0 : Nat} {blk : Blk} {q : Prop} (h : oneV P ops op an s = some (v, .grow k0 blk, q)) (hq : q) (hO : Own gv base o mm s.L w)
 (hM : Yo mm w) (hbl : base <= w.heap.size) (hlook : ∀ t ∈ Qb4 ops.toList op, R o base mm (Vv.ev s.A (.tmp t)) (a.tmps.getD t undef)) {K : Act -> World -> Prop} {Q : Exit -> Act -> World -> Prop}
 (k : ∀ v' w' loc, Grew base o mm s.L w k0 blk v v' w' loc -> K (a.put op.dst v') w') :
 if Region.wanted op (yielded ops a.tmps) then op.wpIn (fen rd) 0 P a w K Q else (∀ f, op.about P w a.eval = some f -> (fen rd).fn f) /\ K (a.put op.dst undef) w := by
 have hopd : ∀ x ∈ op.op.operands, R o base mm (Vv.ev s.A x) (a.eval x) := fun x hx => by
  cases x with
  | tmp t => exact hlook t (Qgu hx)
  | const v => exact Qle
  | global g => exact .undef
  | func f => exact .fn (cs := #[]) rfl (fun j v v' h => by simp at h)
 have main : ∀ {v1 : VV} {q1 : Prop}, Qc5 P op s.A s.L s.G s.L.length an = some (v1, .grow k0 blk, q1) -> q1 -> v1 = v -> op.wpIn (fen rd) 0 P a w K Q := by
  intro v1 q1 hs1 hq hv
  subst hv
  rcases Qdx hs1 with ⟨_, _, _, _, _, _, ⟨e, _⟩ | ⟨_, _, _, _, _, _, _, e, _⟩⟩ | ⟨_, _, _, _, _, _, _, _, _, _, _, e, _, _⟩ | ⟨g, args, ts, ks, l, as, hs, bs, q0, ho, e1, e2, e3, hnd, e | ⟨k1, b1, _, _, e, hnm, hb1⟩, _⟩ | ⟨_, _, _, _, _, _, _, _, _, _, _, _, e, _⟩ | hs2
  ·cases e
  ·cases e
  ·cases e
  ·cases e
  ·cases e
  ·cases e
  clear hs1
  have hs1 := hs2
  refine ⟨fun _ _ => trivial, ?_⟩
  have hnd : ∀ c, op.op ≠ .defer c := by
   intro c e
   unfold vOp at hs1
   rw [e] at hs1
   cases hs1
  have hsem : op.semAt rd a.eval = execOp a.eval op := Oper.semAt_eq _ _ _ hnd
  show op.uponIn (fen rd) 0 P a K Q ((op.semAt rd a.eval).run P w)
  rw [hsem]
  obtain ⟨nx, v', w', g1, g2, g3⟩ := Qps hs1 hq hbl hO hM hopd
  rw [g1]
  have hk : K (a.put op.dst v') w' := by
   cases g3 with
   | growNo hb hx hv => exact k _ w none ⟨fun _ _ _ => rfl, Nat.le_refl _, ⟨rfl, rfl, rfl⟩, fun _ => ⟨hb, hv⟩, fun oi e => by cases e⟩
   | @growIn _ _ _ _ oi ob ob0 ho hc hx hl hv hp =>
     have hg : ∀ j, (World.upd w (.put oi.b ob)).heap[j]? = if j = oi.b then some ob else w.heap[j]? := fun j => by
      rw [show (World.upd w (.put oi.b ob)).heap = w.heap.setIfInBounds oi.b ob from rfl, heap_set _ hc j]
     have hsize : (World.upd w (.put oi.b ob)).heap.size = w.heap.size := by simp [World.upd]
     refine k _ _ (some oi) ⟨fun b hb hne => by rw [hg, if_neg (fun e => hne oi rfl e.symm)], by rw [hsize]; exact Nat.le_refl _, ⟨rfl, rfl, rfl⟩, fun e => (by cases e), fun oi' e => ?_⟩
     injection e with e; subst e
     refine ⟨.inl ho, by rw [hsize]; exact (hO.dom _ _ ho).2.1, by rw [hg, if_pos rfl]; exact hl, hv, fun _ => ?_⟩
     obtain ⟨b0, xs, z1, z2⟩ := hp
     refine ⟨b0, z1, ?_⟩
     rw [hg, if_pos rfl]
     rw [z2] at hl hx
     exact hl.pre hx
   | @growNew _ _ _ _ ob oi d hb hoi hx hl hv =>
     have hg : ∀ j, j < w.heap.size -> ({ (w.alloc ob) with drawn := d } : World).heap[j]? = w.heap[j]? := fun j hj => by
      show (w.heap.push _)[j]? = _
      rw [Array.getElem?_push, if_neg (by omega)]
     have hg0 : ({ (w.alloc ob) with drawn := d } : World).heap[w.heap.size]? = some ob := by
      show (w.heap.push _)[w.heap.size]? = _
      rw [Array.getElem?_push, if_pos rfl]
     have hsize : ({ (w.alloc ob) with drawn := d } : World).heap.size = w.heap.size + 1 := by show (w.heap.push _).size = _; simp
     refine k _ _ (some oi) ⟨fun b hb _ => hg b hb, by rw [hsize]; omega, ⟨rfl, rfl, rfl⟩, fun e => (by cases e), fun oi' e => ?_⟩
     injection e with e; subst e
     refine ⟨.inr hoi, by rw [hsize]; omega, by rw [hoi, hg0]; exact hl, hv, fun e => ?_⟩
     have := (hO.dom _ _ e).2.1
     omega
  cases nx <;> first | (simp [valOf] at g2; done) | (simp only [valOf, Option.some.injEq] at g2; subst g2; exact hk)
 unfold oneV at h
 split at h
 ·rename_i hg
  have hw : Region.wanted op (yielded ops a.tmps) = true := by unfold Region.wanted; rw [hg]
  rw [hw, if_pos rfl]
  split at h
  ·cases h
  ·exact main h hq rfl
 ·rename_i j want hg
  split at h
  case h_2 => cases h
  rename_i g hj
  split at h
  case h_2 => cases h
  rename_i d hdg
  split at h
  case h_3 => cases h
  case h_2 =>
   split at h
   case h_2 => cases h
   injection h with h; injection h with h1 h2; injection h2 with h2 h3; cases h2
  rename_i b hbv
  have hbr : a.tmps.getD d undef = .bool b := by
   have := hlook d (by unfold Qb4; refine List.mem_append_right _ ?_; rw [hg]; dsimp only; rw [hj]; dsimp only; rw [hdg]; simp)
   rw [hbv] at this
   exact this.J9.1
  have hw := Qgv (ops := ops) hg hj hdg hbr
  split at h
  ·injection h with h; injection h with h1 h2; injection h2 with h2 h3; cases h2
  ·split at h
   case h_2 => cases h
   rename_i v1 e1 q1 hs
   injection h with h; injection h with h1 h2; injection h2 with h2 h3; subst h1; subst h2; subst h3
   rw [hw, hq.1]
   rw [beq_self_eq_true, if_pos rfl]
   exact main hs hq.2 rfl
theorem Tc.dst (T : Tc P ops m sz st val ef an pe sc) (hm : m <= ops.size) {j : Nat} {p : Pn} (hj : j < m) (hp : pe j = some p) : p.j = j /\ p.blk.bx = false /\ p.k < (st j).L.length /\ ∃ o, ops[j]? = some o /\ o.dst = some p.d := by
 have hoj := T.get (show j < ops.size by omega)
 obtain ⟨⟨h, _⟩ | ⟨p', q, h1, _, _, _, _, h2, h3, h4, h5⟩, _⟩ := T.one j _ hj hoj
 ·rw [h] at hp; cases hp
 ·rw [h1] at hp; injection hp with hp; subst hp; exact ⟨h2, h4, h5, _, hoj, h3⟩
theorem Iv.step (T : Tc P ops m sz st val ef an pe sc) (hm : m <= ops.size) (hn : Named P) (hR : Rel gv base w0 m0 sz (st 0) o0 mm0 a0 ws) {listed : Array Bool} {o : OM} {mm : MM} {a : Act} {w : World} (I : Iv P ops m sz st val ef pe gv base w0 m0 o0 mm0 a0 ws listed o mm a w)
 {k : Nat} (hk : k < m) (hl : listed.getD k false = false) {op : Oper} (ho : ops[k]? = some op) (hrdy : ∀ e ∈ Qb3 op, listed.getD e false = true) {K : Act -> World -> Prop} {Q : Exit -> Act -> World -> Prop}
 (hK : ∀ o' mm' a' w', Iv P ops m sz st val ef pe gv base w0 m0 o0 mm0 a0 ws (listed.setIfInBounds k true) o' mm' a' w' -> K a' w') : wpOpIn (fen rd) 0 P ops Q k K a w := by
 unfold wpOpIn
 rw [ho]; dsimp only
 have hks : k < ops.size := by omega
 obtain ⟨hone0, hquk, hst⟩ := T.one k op hk ho
 obtain ⟨hsz, hdst, _⟩ := Qa1 T.okops ho
 have hbw : base <= w.heap.size := by rw [hR.hb]; exact I.below.size
 have hpre := T.stat.pre I.cl k op ho hrdy
 have ordp : ∀ j k' b, j < m -> ef j = .put k' b -> j ≠ k -> okFl (Qd0 op (st k).A (st k).L.length) k' ≠ true -> (k < j -> listed.getD j false = false) /\ (j < k -> listed.getD j false = true) := by
  intro j k' b hj hjb hjk hnp
  rcases T.putO j k' b hj hjb k op hk (fun e => hjk e.symm) ho with ⟨h3, h4⟩ | ⟨h3, h4⟩ | h4
  ·refine ⟨fun _ => ?_, fun h => by omega⟩
   cases hlj : listed.getD j false with
   | false => rfl
   | true =>
     have hoj := T.get (show j < ops.size by omega)
     have := T.stat.pre I.cl j _ hoj (I.cl j _ hoj hlj) k h4
     rw [hl] at this; cases this
  ·exact ⟨fun h => by omega, fun _ => hpre j h4⟩
  ·exact absurd h4 hnp
 have hcontk : ∀ k' blk, okFl (Qd0 op (st k).A (st k).L.length) k' ≠ true -> gb (st k).L k' = some blk -> Cont m st ef listed k' blk := by
  intro k' blk hpu e2
  by_cases hex : ∃ j, ∃ b, k <= j /\ j < m /\ ef j = .put k' b
  ·obtain ⟨j, ⟨b, hkj, hj, hjb⟩, hmin⟩ := least hex
   refine .inr ⟨j, b, hj, hjb, ?_, T.gb hm e2 hkj (by omega) (fun x b' hx1 hx2 he => hmin x hx2 ⟨b', hx1, by omega, he⟩), fun x b' hx he => ?_⟩
   ·by_cases e : j = k
    ·subst e; exact hl
    ·exact (ordp j k' b hj hjb e hpu).1 (by omega)
   ·have hxk : x < k := by
     rcases Nat.lt_or_ge x k with h | h
     ·exact h
     ·exact absurd ⟨b', h, by omega, he⟩ (hmin x hx)
    exact (ordp x k' b' (by omega) he (by omega) hpu).2 hxk
  ·refine .inl ⟨T.gb hm e2 (by omega) (Nat.le_refl _) (fun x b' hx1 hx2 he => hex ⟨x, b', hx1, hx2, he⟩), fun x b' hx he => ?_⟩
   have hxk : x < k := by
    rcases Nat.lt_or_ge x k with h | h
    ·exact h
    ·exact absurd ⟨x, b', h, hx, he⟩ hex
   exact (ordp x k' b' hx he (by omega) hpu).2 hxk
 have hown : Qkg op (st k).A = true \/ (∃ t x k1 off, op.op = .load t x /\ Vv.ev (st k).A x = .pt k1 off /\ Own gv base o mm (Ql1 k1 (st k).L) w) \/ newAt op = true \/ (Qd0 op (st k).A (st k).L.length = none /\ Own gv base o mm (st k).L w) := by
  rcases Qhn (op := op) (A := (st k).A) (st k).L.length with h0 | ⟨t, x, k1, off, hop, hev, hla⟩ | ⟨h0, _⟩ | h0
  ·exact .inl h0
  ·refine .inr (.inl ⟨t, x, k1, off, hop, hev, fun k' oi blk e1 e2 => I.at_ k' oi blk e1 ?_, I.dom, I.inj⟩)
   obtain rfl := Qqk e2
   rw [Qoq] at e2
   refine hcontk k' blk ?_ e2
   rw [hla]
   show ¬ (!Nat.beq k' k') = true
   rw [Nat.beq_refl]; decide
  ·exact .inr (.inr (.inl h0))
  ·refine .inr (.inr (.inr ⟨h0, fun k' oi blk e1 e2 => I.at_ k' oi blk e1 (hcontk k' blk ?_ e2), I.dom, I.inj⟩))
   rw [h0]; intro h; cases h
 have hls : ∀ q, (listed.setIfInBounds k true).getD q false = if q = k then true else listed.getD q false := Qgi (by rw [I.lsz]; exact hks)
 have hcont : ∀ k' blk, (∀ b, ef k ≠ .put k' b) -> Cont m st ef (listed.setIfInBounds k true) k' blk -> Cont m st ef listed k' blk := by
  intro k' blk hno hc
  rcases hc with ⟨g1, g2⟩ | ⟨j, b, g1, g2, g3, g4, g5⟩
  ·refine .inl ⟨g1, fun j b hj he => ?_⟩
   have := g2 j b hj he
   rw [hls] at this
   by_cases e : j = k
   ·subst e; exact absurd he (hno b)
   ·rw [if_neg e] at this; exact this
  ·rw [hls] at g3
   split at g3
   ·cases g3
   ·refine .inr ⟨j, b, g1, g2, g3, g4, fun x b' hx he => ?_⟩
    have := g5 x b' hx he
    rw [hls] at this
    by_cases e : x = k
    ·subst e; exact absurd he (hno b')
    ·rw [if_neg e] at this; exact this
 have hndk : ∀ j (o2 : Oper) (t : Nat), ops[j]? = some o2 -> o2.dst = some t -> op.dst = some t -> j = k := fun j o2 t e1 e2 e3 => by
  have a1 := T.stat.dst j o2 t e1 e2
  have a2 := T.stat.dst k op t ho e3
  rw [a1] at a2; injection a2
 have hother : ∀ (v' : Value) j p, j ≠ k -> listed.getD j false = true -> pe j = some p -> (a.put op.dst v').tmps.getD p.d undef = a.tmps.getD p.d undef := fun v' j p hjk hj hp => by
  obtain ⟨_, _, _, o2, ho2, hd2⟩ := T.dst hm (I.lm j hj) hp
  rw [Qe7 (fun d hd => by rw [I.asz]; exact hdst d hd), if_neg (fun e' => hjk (hndk j o2 p.d ho2 hd2 e'))]
 rcases hone0 with ⟨hpe, q, h1, h2⟩ | ⟨p, q, hpe, hval, hefn, h1, h2, hpj, hpd, hbx, hlt⟩
 case inr =>
  have hO : Own gv base o mm (st k).L w := by
   rcases hown with hp | ⟨t, x, k1, off, hop, hev, _⟩ | hp | ⟨_, h⟩
   ·have := (Qqj (A := (st k).A) (L := (st k).L) (G := (st k).G) hp h1).2; cases this
   ·have := (Qql (A := (st k).A) (L := (st k).L) (G := (st k).G) hop hev h1).2; cases this
   ·rcases (Qvv (A := (st k).A) (L := (st k).L) (G := (st k).G) hp h1).2 with e | ⟨_, e⟩ <;> cases e
   ·exact h
  have hnp : ∀ i x b, i < m -> ef i ≠ .put x b := T.np k p hk hpe
  have hgb : ∀ k' blk, k' < (st k).L.length -> Cont m st ef (listed.setIfInBounds k true) k' blk -> gb (st k).L k' = some blk := fun k' blk hk' hc => by
   rcases hc with ⟨g1, _⟩ | ⟨j, b, g1, g2, _⟩
   ·exact T.Qni hm hk' (show k <= m by omega) (Nat.le_refl _) (fun x b _ hx he => hnp x k' b hx he) g1
   ·exact absurd g2 (hnp j k' b g1)
  refine Qvw hn h1 h2 hO I.mem hbw (fun t ht => I.tmp T hm hR hk hl ho hrdy ht) (fun v' w' loc1 W => ?_)
  have hmb : ∀ b, b < w.heap.size -> (mm b ≠ none \/ (b < base /\ hE gv b = none)) -> w'.heap[b]? = w.heap[b]? := fun b hb hc => W.keep b hb (fun oi e hbb => by
   subst hbb
   rcases (W.yes oi e).1 with y1 | y1
   ·obtain ⟨d1, d2, d3⟩ := I.dom _ _ y1
    rcases hc with hc | ⟨hc1, hc2⟩
    ·exact hc d3
    ·rcases d1 with d1 | d1
     ·omega
     ·rw [hc2] at d1; cases d1
   ·omega)
  have hsep : ∀ (loc : Nat -> Option OI), (∀ j p, listed.getD j false = true -> pe j = some p -> Pd base o mm w (st m).L p (a.tmps.getD p.d undef) (loc j)) -> ∀ j r oi oi1, j ≠ k -> listed.getD j false = true -> pe j = some r -> loc j = some oi -> loc1 = some oi1 -> oi1.b ≠ oi.b := fun loc hp1 j r oi oi1 hjk hj hr e e1 hbb => by
   obtain ⟨z1, z2, _⟩ := (hp1 j r hj hr).yes oi e
   rcases (W.yes oi1 e1).1 with y1 | y1
   ·rcases z1 with z1 | ⟨_, z1⟩
    ·exact T.pk j k r p (I.lm j hj) hk hjk hr hpe (I.inj _ _ _ _ z1 y1 hbb.symm)
    ·exact z1 _ _ y1 hbb
   ·omega
  refine hK o mm (a.put op.dst v') w' ⟨by simp [I.lsz], fun j hj => ?_, fun j o2 ho2 hj e he => ?_, ?_, ?_, fun t' ht => ?_, fun j o2 d hj ho2 hd => ?_, I.ole, I.mle, fun k' oi' blk e1 e2 => ?_, fun k' oi' e => ?_, I.inj, fun k' oi' e => ?_, fun b ob e => ?_, I.mfr, ⟨W.same.os.trans I.below.os, W.same.tape.trans I.below.tape, W.same.output.trans I.below.output, Nat.le_trans I.below.size W.size, fun j hj he => ?_⟩, Nat.le_trans I.size W.size, I.gh, I.mlo, fun j blk hj he hbx => ?_, fun j k' blk hj he => ?_, ?_⟩
  ·rw [hls] at hj
   split at hj
   ·rename_i e; rw [e]; exact hk
   ·exact I.lm j hj
  ·rw [hls] at hj ⊢
   split at hj
   ·rename_i e'; subst e'
    rw [ho] at ho2; injection ho2 with ho2; subst ho2
    split
    ·rfl
    ·exact hrdy e he
   ·split
    ·rfl
    ·exact I.cl j o2 ho2 hj e he
  ·cases hd : op.dst with
   | none => exact I.asz
   | some d => simp [Act.put, I.asz]
  ·cases hd : op.dst with
   | none => exact I.adf
   | some d => exact I.adf
  ·rw [Qe7 (fun d hd => by rw [I.asz]; exact hdst d hd), if_neg (fun e => ht k op (by rw [hls, if_pos rfl]) ho e)]
   refine I.tm0 t' (fun j o2 hj ho2 => ht j o2 ?_ ho2)
   rw [hls]; split
   ·rfl
   ·exact hj
  ·rw [hls] at hj
   by_cases e : j = k
   ·subst e; rw [hval]; exact .undef
   ·rw [if_neg e] at hj
    rw [Qe7 (fun d hd => by rw [I.asz]; exact hdst d hd), if_neg (fun e' => e (hndk j o2 d ho2 hd e'))]
    exact I.tm1 j o2 d hj ho2 hd
  ·have hlt' := (I.dom k' oi' e1).2.1
   by_cases c : ∃ oi, loc1 = some oi /\ oi.b = oi'.b
   ·obtain ⟨oi, e3, e4⟩ := c
    obtain ⟨y1, y2, y3, y4, y5⟩ := W.yes oi e3
    rcases y1 with y1 | y1
    ·have hkk := I.inj p.k k' oi oi' y1 e1 e4
     subst hkk
     rw [y1] at e1; injection e1 with e1; subst e1
     obtain ⟨b0, z1, z2⟩ := y5 y1
     have := hgb _ blk hlt e2
     rw [z1] at this; injection this with this; subst this
     exact z2
    ·omega
   ·rw [W.keep _ hlt' (fun oi e h => c ⟨oi, e, h⟩)]
    exact I.at_ k' oi' blk e1 (hcont k' blk (fun b e => by rw [hefn] at e; cases e) e2)
  ·obtain ⟨d1, d2, d3⟩ := I.dom k' oi' e
   exact ⟨d1, Nat.lt_of_lt_of_le d2 W.size, d3⟩
  ·rcases I.src k' oi' e with e1 | ⟨j, blk, e1, e2, e3⟩
   ·exact .inl e1
   ·exact .inr ⟨j, blk, by rw [hls]; split; rfl; exact e1, e2, e3⟩
  ·rw [hmb b (I.mem.lt e) (.inl (by rw [e]; simp))]; exact I.mem b ob e
  ·rw [hmb j (by omega) (.inr ⟨hj, he⟩)]; exact I.below.block j hj he
  ·rw [hls] at hj
   by_cases e : j = k
   ·subst e; rw [hefn] at he; cases he
   ·rw [if_neg e] at hj; exact I.exN j blk hj he hbx
  ·rw [hls] at hj
   by_cases e : j = k
   ·subst e; rw [hefn] at he; cases he
   ·rw [if_neg e] at hj; exact I.exP j k' blk hj he
  ·obtain ⟨loc, hp1, hp2⟩ := I.pd
   refine ⟨fun j => if j = k then loc1 else loc j, fun j r hj hr => ?_, fun j j' r r' oi oi' hne hj hj' hr hr' e e' => ?_⟩
   ·by_cases c : j = k
    ·subst c
     rw [hpe] at hr; injection hr with hr; subst hr
     show Pd base o mm w' (st m).L p ((a.put op.dst v').tmps.getD p.d undef) (if j = j then loc1 else loc j)
     rw [if_pos rfl, Qe7 (fun d hd => by rw [I.asz]; exact hdst d hd), if_pos hpd]
     refine ⟨fun e => ⟨T.gb hm (W.no e).1 (by omega) (Nat.le_refl _) (fun x b _ hx he => hnp x p.k b hx he), fun o' h => Qzv (W.no e).2 h⟩, fun oi e => ?_⟩
     obtain ⟨y1, y2, y3, y4, y5⟩ := W.yes oi e
     refine ⟨?_, y2, ?_, y3, y4⟩
     ·rcases y1 with y1 | y1
      ·exact .inl y1
      ·exact .inr ⟨by omega, fun j i e' hbb => by have := (I.dom j i e').2.1; omega⟩
     ·rcases y1 with y1 | y1
      ·exact (I.dom _ _ y1).2.2
      ·cases hmo : mm oi.b with
       | none => rfl
       | some ob => have := I.mem.lt hmo; omega
    ·rw [hls, if_neg c] at hj
     show Pd base o mm w' (st m).L r ((a.put op.dst v').tmps.getD r.d undef) (if j = k then loc1 else loc j)
     rw [if_neg c, hother v' j r c hj hr]
     exact (hp1 j r hj hr).step (.refl _) (.refl _) (fun oi e' => W.keep _ ((hp1 j r hj hr).yes oi e').2.1 (fun oi1 e1 => hsep loc hp1 j r oi oi1 c hj hr e' e1)) W.size (fun b ob e => .inl e) (fun j i e => .inl e)
   ·rw [hls] at hj hj'
    have e : (if j = k then loc1 else loc j) = some oi := e
    have e' : (if j' = k then loc1 else loc j') = some oi' := e'
    by_cases c : j = k
    ·have c' : ¬ j' = k := fun h => hne (c.trans h.symm)
     rw [if_pos c] at e
     rw [if_neg c'] at e' hj'
     exact hsep loc hp1 j' r' oi' oi c' hj' hr' e' e
    ·rw [if_neg c] at e hj
     by_cases c' : j' = k
     ·rw [if_pos c'] at e'
      exact fun h => hsep loc hp1 j r oi oi' c hj hr e e' h.symm
     ·rw [if_neg c'] at e' hj'
      exact hp2 j j' r r' oi oi' hne hj hj' hr hr' e e'
 cases hefk : ef k with
 | put k0 b0 =>
   rw [hefk] at h1 hquk
   have hO : Own gv base o mm (st k).L w := by
    rcases hown with hp | ⟨t, x, k1, off, hop, hev, _⟩ | hp | ⟨_, h⟩
    ·have := (Qqj (A := (st k).A) (L := (st k).L) (G := (st k).G) hp h1).2; cases this
    ·have := (Qql (A := (st k).A) (L := (st k).L) (G := (st k).G) hop hev h1).2; cases this
    ·rcases (Qvv (A := (st k).A) (L := (st k).L) (G := (st k).G) hp h1).2 with e | ⟨_, e⟩ <;> cases e
    ·exact h
   refine Qyf hn h1 h2 hO (T.still hm hR.still k (by omega)) I.mem hbw (fun t ht => I.tmp T hm hR hk hl ho hrdy ht) (fun v' m' w' oi W => ?_)
   have ho0 := W.ho
   have hlsm : ∀ j, (listed.setIfInBounds k true).getD j false = true -> j < m := fun j hj => by
    rw [hls] at hj
    split at hj
    ·rename_i e; rw [e]; exact hk
    ·exact I.lm j hj
   obtain ⟨d1, d2, d3⟩ := I.dom k0 oi ho0
   have hb1 : gb (st (k + 1)).L k0 = some b0 := by
    rw [T.L hk hm, hefk]
    show gb (setB k0 b0 (st k).L) k0 = _
    rw [Qde, if_pos ⟨rfl, T.putL k k0 b0 hk hefk⟩]
   refine hK o m' _ w' ⟨by simp [I.lsz], fun j hj => ?_, fun j o2 ho2 hj e he => ?_, ?_, ?_, fun t' ht => ?_, fun j o2 d hj ho2 hd => ?_, I.ole, I.mle.trans W.le, fun k' oi' blk e1 e2 => ?_, fun k' oi' e => ?_, I.inj, fun k' oi' e => ?_, W.mem, fun b ob e => ?_, ⟨W.same.os.trans I.below.os, W.same.tape.trans I.below.tape, W.same.output.trans I.below.output, Nat.le_trans I.below.size W.size, fun j hj he => ?_⟩, Nat.le_trans I.size W.size, fun t => (I.gh t).mono (.refl _) W.le (Nat.le_refl _), I.mlo.trans W.le, fun j blk hj he hbx => ?_, fun j k' blk hj he => ?_, fun _ => none, fun j p hj hp => absurd hefk (T.np j p (hlsm j hj) hp k k0 b0 hk), fun j j' p p' oi oi' _ hj _ hp => absurd hefk (T.np j p (hlsm j hj) hp k k0 b0 hk)⟩
   ·rw [hls] at hj
    split at hj
    ·rename_i e; rw [e]; exact hk
    ·exact I.lm j hj
   ·rw [hls] at hj ⊢
    split at hj
    ·rename_i e'; subst e'
     rw [ho] at ho2; injection ho2 with ho2; subst ho2
     split
     ·rfl
     ·exact hrdy e he
    ·split
     ·rfl
     ·exact I.cl j o2 ho2 hj e he
   ·cases hd : op.dst with
    | none => exact I.asz
    | some d => simp [Act.put, I.asz]
   ·cases hd : op.dst with
    | none => exact I.adf.mono W.le
    | some d => exact I.adf.mono W.le
   ·rw [Qe7 (fun d hd => by rw [I.asz]; exact hdst d hd), if_neg (fun e => ht k op (by rw [hls, if_pos rfl]) ho e)]
    refine I.tm0 t' (fun j o2 hj ho2 => ht j o2 ?_ ho2)
    rw [hls]; split
    ·rfl
    ·exact hj
   ·rw [Qe7 (fun d hd => by rw [I.asz]; exact hdst d hd)]
    rw [hls] at hj
    by_cases e : j = k
    ·subst e
     rw [ho] at ho2; injection ho2 with ho2; subst ho2
     rw [if_pos hd]; exact W.res
    ·rw [if_neg e] at hj
     rw [if_neg (fun e' => e (by
      have a1 := T.stat.dst j o2 d ho2 hd
      have a2 := T.stat.dst k op d ho e'
      rw [a1] at a2; injection a2))]
     exact (I.tm1 j o2 d hj ho2 hd).mono (.refl _) W.le (Nat.le_refl _)
   ·by_cases ek : k' = k0
    ·subst ek
     rw [ho0] at e1; injection e1 with e1; subst e1
     have hblk : blk = b0 := by
      have hnp : okFl (Qd0 op (st k).A (st k).L.length) k' ≠ true := fun hp => by
       rcases Qup (A := (st k).A) (L := (st k).L) (G := (st k).G) hp h1 with e | ⟨⟨_, e⟩, _⟩ <;> cases e
      rcases e2 with ⟨g1, g0⟩ | ⟨j, b, g1, g2, g3, g4, g5⟩
      ·have := T.gb hm hb1 (show k + 1 <= m by omega) (Nat.le_refl _) (fun x b' hx1 hx2 he => by
        have h3 := g0 x b' hx2 he
        rw [hls, if_neg (by omega)] at h3
        have := (ordp x k' b' hx2 he (by omega) hnp).1 (by omega)
        rw [h3] at this; cases this)
       rw [g1] at this; injection this
      ·rw [hls] at g3
       by_cases ejk : j = k
       ·rw [if_pos ejk] at g3; cases g3
       rw [if_neg ejk] at g3
       have hkj : k < j := by
        rcases Nat.lt_or_ge k j with h | h
        ·exact h
        ·have := (ordp j k' b g1 g2 ejk hnp).2 (by omega)
         rw [g3] at this; cases this
       have := T.gb hm hb1 (show k + 1 <= j by omega) (by omega) (fun x b' hx1 hx2 he => by
        have h3 := g5 x b' hx2 he
        rw [hls, if_neg (by omega)] at h3
        have := (ordp x k' b' (by omega) he (by omega) hnp).1 (by omega)
        rw [h3] at this; cases this)
       rw [g4] at this; injection this
     subst hblk
     exact W.at_
    ·rw [W.keep _ (I.dom k' oi' e1).2.1 (fun e => ek (I.inj k' k0 oi' oi e1 ho0 e))]
     exact (I.at_ k' oi' blk e1 (hcont k' blk (fun b e => ek (by rw [hefk] at e; injection e with e1 e2; exact e1.symm)) e2)).mono (.refl _) W.le
   ·obtain ⟨q1, q2, q3⟩ := I.dom k' oi' e
    refine ⟨q1, Nat.lt_of_lt_of_le q2 W.size, ?_⟩
    cases hmb : m' oi'.b with
    | none => rfl
    | some ob =>
      rcases W.new _ _ hmb with e | e
      ·rw [q3] at e; cases e
      ·omega
   ·rcases I.src k' oi' e with e1 | ⟨j, blk, e1, e2, e3⟩
    ·exact .inl e1
    ·exact .inr ⟨j, blk, by rw [hls]; split; rfl; exact e1, e2, e3⟩
   ·rcases W.new b ob e with e | e
    ·exact I.mfr b ob e
    ·exact .inr (by omega)
   ·rw [W.keep j (by omega) (fun e => by
     rcases d1 with d1 | d1
     ·omega
     ·rw [<- e, he] at d1; cases d1)]
    exact I.below.block j hj he
   ·rw [hls] at hj
    by_cases e : j = k
    ·subst e; rw [hefk] at he; cases he
    ·rw [if_neg e] at hj; exact I.exN j blk hj he hbx
   ·rw [hls] at hj
    by_cases e : j = k
    ·subst e; rw [hefk] at he; injection he with he1 he2; subst he1; exact ⟨oi, ho0⟩
    ·rw [if_neg e] at hj; exact I.exP j k' blk hj he
 | grow => rw [hefk] at hquk; cases hquk
 | mods => rw [hefk] at hquk; cases hquk
 | jump => rw [hefk] at hquk; cases hquk
 | _ =>
 have hquk : (ef k).quiet = true := by rw [hefk]; rfl
 have hnop : ∀ k' b, ef k ≠ .put k' b := fun k' b e => by rw [hefk] at e; cases e
 have hone : ∀ (K' : Act -> World -> Prop), (∀ v' m' w', Quiet base o mm w (st k).L.length (ef k) (val k) v' m' w' -> K' (a.put op.dst v') w') ->
  (if Region.wanted op (yielded ops a.tmps) then op.wpIn (fen rd) 0 P a w K' Q else (∀ f, op.about P w a.eval = some f -> (fen rd).fn f) /\ K' (a.put op.dst undef) w) := by
  intro K' hk'
  rcases hown with hp | ⟨t1, x1, k1, off1, hop, hev, hO1⟩ | hnw | ⟨_, hO⟩
  rotate_left
  ·obtain ⟨h1', he⟩ := Qql (A := (st k).A) (L := (st k).L) (G := (st k).G) hop hev h1
   rw [he] at h1' hk'
   refine Qgy (gv := gv) hn h1' h2 rfl hO1 (fun k blk e => by
    obtain rfl := Qqk e
    rw [Qoq] at e
    exact T.still hm hR.still _ (by omega) _ _ e) I.mem hbw (fun t ht => I.tmp T hm hR hk hl ho hrdy ht) (fun v' m' w' hQ => ?_)
   exact hk' v' m' w' ⟨hQ.le, hQ.mem, hQ.new, hQ.keep, hQ.size, hQ.same, hQ.res⟩
  ·obtain ⟨h1', _⟩ := Qvv (A := (st k).A) (L := (st k).L) (G := (st k).G) hnw h1
   refine Qgy (gv := gv) hn h1' h2 hquk ⟨fun k oi blk e1 e2 => (by rw [Quo] at e2; cases e2), I.dom, I.inj⟩ (fun k blk e => (by rw [Quo] at e; cases e)) I.mem hbw (fun t ht => I.tmp T hm hR hk hl ho hrdy ht) (fun v' m' w' hQ => ?_)
   have hQ' : Quiet base o mm w (Ql2 (st k).L).length (ef k) (val k) v' m' w' := hQ
   rw [Qjd] at hQ'
   exact hk' v' m' w' hQ'
  ·exact Qgy hn h1 h2 hquk hO (T.still hm hR.still k (by omega)) I.mem hbw (fun t ht => I.tmp T hm hR hk hl ho hrdy ht) hk'
  ·obtain ⟨h1', he⟩ := Qqj (A := (st k).A) (L := (st k).L) (G := (st k).G) hp h1
   rw [he] at h1' hk'
   refine Qgy (gv := gv) hn h1' h2 rfl ⟨fun k oi blk e1 e2 => (by simp [gb, getL] at e2), I.dom, I.inj⟩ (fun k blk e => (by simp [gb, getL] at e)) I.mem hbw (fun t ht => I.tmp T hm hR hk hl ho hrdy ht) (fun v' m' w' hQ => ?_)
   exact hk' v' m' w' ⟨hQ.le, hQ.mem, hQ.new, hQ.keep, hQ.size, hQ.same, hQ.res⟩
 refine hone K (fun v' m' w' hQ => ?_)
 have hbelow : Qel gv base w0 w' := ⟨hQ.same.os.trans I.below.os, hQ.same.tape.trans I.below.tape, hQ.same.output.trans I.below.output, Nat.le_trans I.below.size hQ.size, fun j hj he => by
  rw [hQ.keep j (by omega)]; exact I.below.block j hj he⟩
 have hmfr : ∀ b ob, m' b = some ob -> m0 b = some ob \/ base <= b := fun b ob e => by
  rcases hQ.new b ob e with e | e
  ·exact I.mfr b ob e
  ·exact .inr (by omega)
 have hdom : ∀ k oi, o k = some oi -> (base <= oi.b \/ hE gv oi.b = some (oi.tot, oi.sz)) /\ oi.b < w'.heap.size /\ m' oi.b = none := fun k oi e => by
  obtain ⟨h1, h2, h3⟩ := I.dom k oi e
  refine ⟨h1, Nat.lt_of_lt_of_le h2 hQ.size, ?_⟩
  cases hmb : m' oi.b with
  | none => rfl
  | some ob =>
    rcases hQ.new _ _ hmb with e | e
    ·rw [h3] at e; cases e
    ·omega
 have hold : ∀ (o' : OM), o.Le o' -> ∀ k' oi blk, o k' = some oi -> Cont m st ef (listed.setIfInBounds k true) k' blk -> Holds o' base m' w'.heap[oi.b]? oi blk := fun o' hle k' oi blk e1 e2 => by
  rw [hQ.keep _ (I.dom k' oi e1).2.1]
  exact (I.at_ k' oi blk e1 (hcont k' blk (hnop k') e2)).mono hle hQ.le
 have hnd : ∀ j (o2 : Oper) (t : Nat), ops[j]? = some o2 -> o2.dst = some t -> op.dst = some t -> j = k := fun j o2 t e1 e2 e3 => by
  have a1 := T.stat.dst j o2 t e1 e2
  have a2 := T.stat.dst k op t ho e3
  rw [a1] at a2; injection a2
 have fin : ∀ (o' : OM), o.Le o' -> R o' base m' (val k) v' -> (∀ k' oi blk, o' k' = some oi -> Cont m st ef (listed.setIfInBounds k true) k' blk -> Holds o' base m' w'.heap[oi.b]? oi blk) ->
  (∀ k oi, o' k = some oi -> (base <= oi.b \/ hE gv oi.b = some (oi.tot, oi.sz)) /\ oi.b < w'.heap.size /\ m' oi.b = none) -> (∀ k k' oi oi', o' k = some oi -> o' k' = some oi' -> oi.b = oi'.b -> k = k') ->
  (∀ k' oi, o' k' = some oi -> o k' = some oi \/ ∃ blk, ef k = .new blk /\ k' = (st k).L.length) -> (∀ blk, ef k = .new blk -> blk.bx = true -> ∃ oi, o' (st k).L.length = some oi) -> (∀ j i, o' j = some i -> o j = some i \/ w.heap.size <= i.b) -> K (a.put op.dst v') w' := by
  intro o' hle hv hat hdm hij hsrc hexk hno
  refine hK o' m' _ w' ⟨by simp [I.lsz], fun j hj => ?_, fun j o2 ho2 hj e he => ?_, ?_, ?_, fun t ht => ?_, fun j o2 d hj ho2 hd => ?_, fun a b e => hle a b (I.ole a b e), I.mle.trans hQ.le, hat, hdm, hij, fun k' oi e => ?_, hQ.mem, hmfr, hbelow, Nat.le_trans I.size hQ.size, fun t => (I.gh t).mono hle hQ.le (Nat.le_refl _), I.mlo.trans hQ.le, fun j blk hj he hbx => ?_, fun j k' blk hj he => ?_, ?_⟩
  ·rw [hls] at hj
   split at hj
   ·rename_i e; rw [e]; exact hk
   ·exact I.lm j hj
  ·rw [hls] at hj ⊢
   split at hj
   ·rename_i e'; subst e'
    rw [ho] at ho2; injection ho2 with ho2; subst ho2
    split
    ·rfl
    ·exact hrdy e he
   ·split
    ·rfl
    ·exact I.cl j o2 ho2 hj e he
  ·cases hd : op.dst with
   | none => exact I.asz
   | some d => simp [Act.put, I.asz]
  ·cases hd : op.dst with
   | none => exact I.adf.mono hQ.le
   | some d => exact I.adf.mono hQ.le
  ·rw [Qe7 (fun d hd => by rw [I.asz]; exact hdst d hd), if_neg (fun e => ht k op (by rw [hls, if_pos rfl]) ho e)]
   refine I.tm0 t (fun j o2 hj ho2 => ht j o2 ?_ ho2)
   rw [hls]; split
   ·rfl
   ·exact hj
  ·rw [Qe7 (fun d hd => by rw [I.asz]; exact hdst d hd)]
   rw [hls] at hj
   by_cases e : j = k
   ·subst e
    rw [ho] at ho2; injection ho2 with ho2; subst ho2
    rw [if_pos hd]; exact hv
   ·rw [if_neg e] at hj
    rw [if_neg (fun e' => e (hnd j o2 d ho2 hd e'))]
    exact (I.tm1 j o2 d hj ho2 hd).mono hle hQ.le (Nat.le_refl _)
  ·rcases hsrc k' oi e with e1 | ⟨blk, e1, e2⟩
   ·rcases I.src k' oi e1 with e2 | ⟨j, blk, e2, e3, e4⟩
    ·exact .inl e2
    ·exact .inr ⟨j, blk, by rw [hls]; split; rfl; exact e2, e3, e4⟩
   ·exact .inr ⟨k, blk, by rw [hls, if_pos rfl], e1, e2⟩
  ·rw [hls] at hj
   by_cases e : j = k
   ·subst e; exact hexk blk he hbx
   ·rw [if_neg e] at hj
    obtain ⟨i, hi⟩ := I.exN j blk hj he hbx
    exact ⟨i, hle _ i hi⟩
  ·rw [hls] at hj
   by_cases e : j = k
   ·subst e; exact absurd he (hnop k' blk)
   ·rw [if_neg e] at hj
    obtain ⟨i, hi⟩ := I.exP j k' blk hj he
    exact ⟨i, hle _ i hi⟩
  ·obtain ⟨loc, hp1, hp2⟩ := I.pd
   have hjk : ∀ j p, (listed.setIfInBounds k true).getD j false = true -> pe j = some p -> j ≠ k /\ listed.getD j false = true := fun j p hj hp => by
    rw [hls] at hj
    by_cases e : j = k
    ·subst e; rw [hpe] at hp; cases hp
    ·rw [if_neg e] at hj; exact ⟨e, hj⟩
   refine ⟨loc, fun j p hj hp => ?_, fun j j' p p' oi oi' hne hj hj' hp hp' => hp2 j j' p p' oi oi' hne (hjk j p hj hp).2 (hjk j' p' hj' hp').2 hp hp'⟩
   obtain ⟨c, hj⟩ := hjk j p hj hp
   rw [hother v' j p c hj hp]
   exact (hp1 j p hj hp).step hle hQ.le (fun oi e' => hQ.keep _ ((hp1 j p hj hp).yes oi e').2.1) hQ.size hQ.new hno
 have hres := hQ.res
 cases hef : ef k with
 | put => rw [hef] at hquk; cases hquk
 | grow => rw [hef] at hquk; cases hquk
 | mods => rw [hef] at hquk; cases hquk
 | jump => rw [hef] at hquk; cases hquk
 | no =>
   rw [hef] at hres
   exact fin o (.refl _) hres (hold o (.refl _)) hdom I.inj (fun k' oi e => .inl e) (fun blk e => by rw [hef] at e; cases e) (fun j i e => .inl e)
 | new blk =>
   rw [hef] at hres
   rcases hres with ⟨_, hx0, hv⟩ | ⟨oi, g1, g2, g5, g6, g7⟩
   ·exact fin o (.refl _) hv (hold o (.refl _)) hdom I.inj (fun k' oi e => .inl e) (fun blk' e hbx => by rw [hef] at e; injection e with e; subst e; rw [hx0] at hbx; cases hbx) (fun j i e => .inl e)
   ·have hN : o (st k).L.length = none := by
     cases hoN : o (st k).L.length with
     | none => rfl
     | some oi' =>
       exfalso
       rcases I.src _ _ hoN with e | ⟨j, b, e1, e2, e3⟩
       ·have := hR.olt _ _ e
        have := T.len hm (Nat.zero_le k) (show k <= m by omega)
        omega
       ·have hjm := I.lm j e1
        have hjk : j ≠ k := fun e => by subst e; rw [hl] at e1; cases e1
        have hjL : (st (j + 1)).L.length = (st j).L.length + 1 := by
         rw [T.L hjm hm, e2]; simp
        have hkL : (st (k + 1)).L.length = (st k).L.length + 1 := by
         rw [T.L hk hm, hef]; simp
        rcases Nat.lt_or_gt_of_ne hjk with h | h
        ·have := T.len hm (show j + 1 <= k by omega) (show k <= m by omega); omega
        ·have := T.len hm (show k + 1 <= j by omega) (show j <= m by omega); omega
    have hle : o.Le (fun j => if j = (st k).L.length then some oi else o j) := fun j i e => by
     show (if j = (st k).L.length then some oi else o j) = some i
     rw [if_neg (fun e' => by subst e'; rw [hN] at e; cases e)]; exact e
    refine fin (fun j => if j = (st k).L.length then some oi else o j) hle (g7 _ hle (if_pos rfl)) (fun k' i b e1 e2 => ?_) (fun k' i e => ?_) (fun k1 k2 i i' e e' hbb => ?_) (fun k' i e => ?_) (fun _ _ _ => ⟨oi, if_pos rfl⟩) (fun j i e => by
     by_cases c : j = (st k).L.length
     ·rw [if_pos c] at e; injection e with e; subst e; exact .inr g1
     ·rw [if_neg c] at e; exact .inl e)
    ·by_cases e : k' = (st k).L.length
     ·rw [if_pos e] at e1; injection e1 with e1; subst e1
      have hgb : gb (st (k + 1)).L k' = some blk := by
       rw [T.L hk hm, hef]
       show gb ((st k).L ++ [some blk]) k' = _
       rw [Qdf, if_pos e]
      have hnpure : okFl (Qd0 op (st k).A (st k).L.length) k' ≠ true := fun hp => by
       rcases Qup (A := (st k).A) (L := (st k).L) (G := (st k).G) hp h1 with e' | ⟨_, e'⟩
       ·rw [hef] at e'; cases e'
       ·exact e' e
      have this : b = blk := by
       rcases hcont k' b (hnop k') e2 with ⟨q1, q2⟩ | ⟨j, bj, q1, q2, q3, q4, q5⟩
       ·by_cases hex : ∃ j b, j < m /\ ef j = .put k' b
        ·exfalso
         obtain ⟨j, bj, hj, hjb⟩ := hex
         have hlj := q2 j bj hj hjb
         have hjk : k ≠ j := fun e => by subst e; rw [hl] at hlj; cases hlj
         have hoj := T.get (show j < ops.size by omega)
         rcases T.putO j k' bj hj hjb k op hk hjk ho with ⟨_, h4⟩ | ⟨h4, _⟩ | h4
         ·have := T.stat.pre I.cl j _ hoj (I.cl j _ hoj hlj) k h4
          rw [hl] at this; cases this
         ·have := T.putL j k' bj hj hjb
          have := T.len hm (show j <= k by omega) (by omega)
          omega
         ·exact hnpure h4
        ·have := T.gb hm hgb (show k + 1 <= m by omega) (Nat.le_refl _) (fun x b' hx1 hx2 he => hex ⟨x, b', hx2, he⟩)
         rw [q1] at this; injection this
       ·have hlt := Qjl q4
        have hkj : k < j := by
         rcases Nat.lt_or_ge k j with h | h
         ·exact h
         ·have := T.len hm h (by omega); omega
        have := T.gb hm hgb (show k + 1 <= j by omega) (by omega) (fun x b' hx1 hx2 he => by
         have h3 := q5 x b' hx2 he
         have := (ordp x k' b' (by omega) he (by omega) hnpure).1 (by omega)
         rw [h3] at this; cases this)
        rw [q4] at this; injection this
      subst this
      exact g6.mono hle (.refl _)
     ·rw [if_neg e] at e1
      exact hold _ hle k' i b e1 e2
    ·by_cases e' : k' = (st k).L.length
     ·rw [if_pos e'] at e; injection e with e; subst e
      exact ⟨.inl (by omega), g2, g5⟩
     ·rw [if_neg e'] at e; exact hdom k' i e
    ·by_cases c1 : k1 = (st k).L.length
     ·by_cases c2 : k2 = (st k).L.length
      ·rw [c1, c2]
      ·rw [if_pos c1] at e; rw [if_neg c2] at e'; injection e with e; subst e
       have := (I.dom k2 i' e').2.1; omega
     ·by_cases c2 : k2 = (st k).L.length
      ·rw [if_neg c1] at e; rw [if_pos c2] at e'; injection e' with e'; subst e'
       have := (I.dom k1 i e).2.1; omega
      ·rw [if_neg c1] at e; rw [if_neg c2] at e'; exact I.inj k1 k2 i i' e e' hbb
    ·by_cases c1 : k' = (st k).L.length
     ·exact .inr ⟨blk, hef, c1⟩
     ·rw [if_neg c1] at e; exact .inl e
theorem Iv.done (T : Tc P ops m sz st val ef an pe sc) (hm : m <= ops.size) (hR : Rel gv base w0 m0 sz (st 0) o0 mm0 a0 ws) {listed : Array Bool} {o : OM} {mm : MM} {a : Act} {w : World} (I : Iv P ops m sz st val ef pe gv base w0 m0 o0 mm0 a0 ws listed o mm a w)
 (hall : ∀ k, k < m -> listed.getD k false = true) : Rel gv base w0 m0 sz (st m) o mm a w := by
 refine ⟨I.asz, I.adf, fun t => ?_, ⟨fun k oi blk e1 e2 => I.at_ k oi blk e1 (.inl ⟨e2, fun j b hj _ => hall j hj⟩), I.dom, I.inj⟩, fun k oi e => ?_, T.still hm hR.still m (Nat.le_refl _), I.mem, I.mfr, I.below, hR.hb, fun t => by rw [T.G hm m (Nat.le_refl _)]; exact I.gh t, I.mlo, fun k blk e hbx => ?_⟩
 ·rw [T.ev t m (Nat.le_refl _) hm]
  have old : (∀ (j : Nat) (o : Oper), listed.getD j false = true -> ops[j]? = some o -> o.dst ≠ some t) -> R o base mm (Vv.ev (st 0).A (.tmp t)) (a.tmps.getD t undef) := fun h => by
   rw [I.tm0 t h]
   exact (hR.tm t).mono I.ole I.mle (Nat.le_refl _)
  cases hf : Qah t 0 ops.toList with
  | none =>
    refine old (fun j o hj ho hd => ?_)
    have := T.stat.dst j o t ho hd
    rw [hf] at this; cases this
  | some j =>
    dsimp only
    obtain ⟨i', o', e1, e2, e3⟩ := Y1 _ _ _ hf
    rw [Nat.zero_add] at e1; subst e1
    rw [J7] at e2
    by_cases c : j < m
    ·rw [if_pos c]
     exact I.tm1 _ o' t (hall j c) e2 e3
    ·rw [if_neg c]
     refine old (fun j' o hj' ho hd => ?_)
     have := T.stat.dst j' o t ho hd
     rw [hf] at this; injection this with this
     have := I.lm j' hj'
     omega
 ·rcases I.src k oi e with e1 | ⟨j, blk, e1, e2, e3⟩
  ·exact Nat.lt_of_lt_of_le (hR.olt k oi e1) (T.len hm (Nat.zero_le m) (Nat.le_refl _))
  ·have hj := I.lm j e1
   have : (st (j + 1)).L.length = (st j).L.length + 1 := by rw [T.L hj hm, e2]; simp
   have := T.len hm (show j + 1 <= m by omega) (Nat.le_refl _)
   omega
 ·by_cases hex : ∃ j b, j < m /\ ef j = .put k b
  ·obtain ⟨j, b, hj, hjb⟩ := hex
   exact I.exP j k b (hall j hj) hjb
  ·have hnp : ∀ x b, ef x = .put k b -> ¬ x < m := fun x b he hx => hex ⟨x, b, hx, he⟩
   by_cases hk0 : k < (st 0).L.length
   ·have := T.Qni hm hk0 (Nat.zero_le m) (Nat.le_refl _) (fun x b _ hx he => hnp x b he hx) e
    obtain ⟨oi, ho⟩ := hR.ex k blk this hbx
    exact ⟨oi, I.ole k oi ho⟩
   ·have hkm := Qjl e
    have : ∀ i, i <= m -> k < (st i).L.length -> ∃ j b, j < i /\ ef j = .new b /\ k = (st j).L.length := by
     intro i
     induction i with
     | zero => intro _ h; omega
     | succ i ih =>
       intro hi h
       by_cases hki : k < (st i).L.length
       ·obtain ⟨j, b, h1, h2, h3⟩ := ih (by omega) hki
        exact ⟨j, b, by omega, h2, h3⟩
       ·rw [T.L (show i < m by omega) hm] at h
        cases hef : ef i with
        | new b =>
          rw [hef] at h
          have h : k < ((st i).L ++ [some b]).length := h
          simp at h
          exact ⟨i, b, by omega, hef, by omega⟩
        | put k' b =>
          rw [hef] at h
          have h : k < (setB k' b (st i).L).length := h
          rw [Qby] at h; omega
        | no => rw [hef] at h; exact absurd h hki
        | grow => rw [hef] at h; exact absurd h hki
        | mods => rw [hef] at h; exact absurd h hki
        | jump => rw [hef] at h; exact absurd h hki
    obtain ⟨j, b, hj, hjb, hjk⟩ := this m (Nat.le_refl _) hkm
    have hgb1 : gb (st (j + 1)).L k = some b := by
     rw [T.L hj hm, hjb]
     show gb ((st j).L ++ [some b]) k = _
     rw [Qdf, if_pos hjk]
    have := T.gb hm hgb1 (show j + 1 <= m by omega) (Nat.le_refl _) (fun x b' _ hx he => hnp x b' he hx)
    rw [e] at this; injection this with this; subst this
    rw [hjk]
    exact I.exN j blk (hall j hj) hjb hbx
theorem Rel.say {s : VS} {o : OM} {mm : MM} {a : Act} {w : World} (h : Rel gv base w0 m0 sz s o mm a w) {d : Nat} (hd : d < sz) (hsz : sz < 1000000) {v : VV} (hv : R o base mm v (a.tmps.getD d undef)) : Rel gv base w0 m0 sz (s.put (some d) v) o mm a w := by
 refine ⟨h.asz, h.adf, fun t => ?_, h.own, h.olt, h.still, h.mem, h.mfr, h.below, h.hb, h.gh, h.mlo, h.ex⟩
 show R o base mm (Vv.ev (s.A.set d v) (.tmp t)) _
 rw [Qhc (Nat.lt_trans hd (Nat.lt_trans hsz (by decide)))]
 by_cases e : t = d
 ·subst e; rw [if_pos rfl]; exact hv
 ·rw [if_neg e]; exact h.tm t
theorem Qzw {p r : Pn} {s : VS} (h : gb s.L r.k = some r.blk) (hx : r.blk.bx = false) (hne : r.k ≠ p.k) : gb (p.put s).L r.k = some r.blk := by
 show gb (setB p.k p.blk (Qhv p.k s.L)) r.k = _
 rw [Qde, if_neg (fun e => hne e.1), Qtg, h]
 simp only [Option.map_some]
 rw [hx]; rfl
theorem Qje {mm : MM} {a : Act} {w : World} {loc : Nat -> Option OI} (hsz : sz < 1000000) : ∀ (ps : List Pn) (s : VS) (o : OM), Rel gv base w0 m0 sz s o mm a w -> ps.Pairwise (fun p p' => p.k ≠ p'.k /\ ∀ oi oi', loc p.j = some oi -> loc p'.j = some oi' -> oi.b ≠ oi'.b) ->
 (∀ p ∈ ps, p.k < s.L.length /\ p.blk.bx = false /\ p.blk.cells.all VV.still = true /\ p.d < sz /\ Pd base o mm w s.L p (a.tmps.getD p.d undef) (loc p.j)) -> ∃ o', Rel gv base w0 m0 sz (Qe6 ps s) o' mm a w
 | [], s, o, h, _, _ => ⟨o, h⟩
 | p :: ps, s, o, h, hpw, hall => by
   obtain ⟨hk, hbx, hst, hd, hP⟩ := hall p (by simp)
   obtain ⟨hpw1, hpw2⟩ := List.pairwise_cons.1 hpw
   have hlen : (p.put s).L.length = s.L.length := by
    show (setB p.k p.blk (Qhv p.k s.L)).length = _
    rw [Qby, Qgn]
   cases hloc : loc p.j with
   | none =>
     obtain ⟨z1, z2⟩ := hP.no hloc
     have R1 := h.grown (o' := o) (w' := w) hk (fun _ _ => rfl) hbx hst (fun oi e => h.own.at_ _ oi _ e z1) (fun oi e => h.own.dom _ _ e) (fun j oi oi' hj e e' hbb => hj (h.own.inj _ _ _ _ e' e hbb.symm)) (fun _ _ _ => rfl) (Nat.le_refl _) ⟨rfl, rfl, rfl⟩
     have R2 := R1.say hd hsz (z2 o (fun oi e => e))
     refine Qje hsz ps (p.put s) o R2 hpw2 (fun r hr => ?_)
     obtain ⟨c1, c2, c3, c4, c5⟩ := hall r (by simp [hr])
     exact ⟨by rw [hlen]; exact c1, c2, c3, c4, ⟨fun e => ⟨Qzw (c5.no e).1 c2 (fun e' => (hpw1 r hr).1 e'.symm), (c5.no e).2⟩, c5.yes⟩⟩
   | some oi =>
     obtain ⟨y1, y2, y3, y4, y5⟩ := hP.yes oi hloc
     have R1 := h.grown (o' := fun j => if j = p.k then some oi else o j) (w' := w) hk (fun j hj => if_neg hj) hbx hst (fun oi' e => by rw [if_pos rfl] at e; injection e with e; subst e; exact y4.off hbx) (fun oi' e => by
      rw [if_pos rfl] at e; injection e with e; subst e
      rcases y1 with y1 | ⟨y1, _⟩
      ·exact h.own.dom _ _ y1
      ·exact ⟨.inl y1, y2, y3⟩) (fun j i i' hj e e' hbb => by
      rw [if_pos rfl] at e; injection e with e; subst e
      rcases y1 with y1 | ⟨_, y1⟩
      ·exact hj (h.own.inj _ _ _ _ e' y1 hbb.symm)
      ·exact y1 _ _ e' hbb.symm) (fun _ _ _ => rfl) (Nat.le_refl _) ⟨rfl, rfl, rfl⟩
     have R2 := R1.say hd hsz (y5 _ (if_pos rfl))
     refine Qje hsz ps (p.put s) _ R2 hpw2 (fun r hr => ?_)
     obtain ⟨c1, c2, c3, c4, c5⟩ := hall r (by simp [hr])
     have hne : r.k ≠ p.k := fun e' => (hpw1 r hr).1 e'.symm
     refine ⟨by rw [hlen]; exact c1, c2, c3, c4, fun e => ⟨Qzw (c5.no e).1 c2 hne, fun o2 h2 => (c5.no e).2 o2 (fun i e' => h2 i (by rw [if_neg hne]; exact e'))⟩, fun i e => ?_⟩
     obtain ⟨x1, x2, x3, x4, x5⟩ := c5.yes i e
     refine ⟨?_, x2, x3, x4.off c2, x5⟩
     rcases x1 with x1 | ⟨x1, x6⟩
     ·exact .inl (by rw [if_neg hne]; exact x1)
     ·refine .inr ⟨x1, fun j i' e' => ?_⟩
      by_cases c : j = p.k
      ·rw [if_pos c] at e'; injection e' with e'; subst e'
       exact (hpw1 r hr).2 oi i hloc e
      ·rw [if_neg c] at e'; exact x6 j i' e'
theorem Iv.commit (T : Tc P ops m sz st val ef an pe sc) (hm : m <= ops.size) (hR : Rel gv base w0 m0 sz (st 0) o0 mm0 a0 ws) {listed : Array Bool} {o : OM} {mm : MM} {a : Act} {w : World} (I : Iv P ops m sz st val ef pe gv base w0 m0 o0 mm0 a0 ws listed o mm a w)
 (hall : ∀ k, k < m -> listed.getD k false = true) : ∃ o', Rel gv base w0 m0 sz (sc m) o' mm a w := by
 have hR' := I.done T hm hR hall
 obtain ⟨ps, e, hpw, hps⟩ := T.cm
 obtain ⟨loc, hp1, hp2⟩ := I.pd
 rw [e]
 cases ps with
 | nil => exact ⟨o, hR'⟩
 | cons p0 ps0 =>
   have hsz : sz < 1000000 := by
    obtain ⟨h1, h2⟩ := hps p0 (by simp)
    obtain ⟨_, _, _, o2, ho2, _⟩ := T.dst hm h1 h2
    exact (Qa1 T.okops ho2).1
   refine Qje (loc := loc) hsz (p0 :: ps0) (st m) o hR' (hpw.imp_of_mem ?_) (fun p hp => ?_)
   ·intro p p' hp hp' hne
    obtain ⟨a1, a2⟩ := hps p hp
    obtain ⟨b1, b2⟩ := hps p' hp'
    refine ⟨hne, fun oi oi' e e' => hp2 p.j p'.j p p' oi oi' (fun h => ?_) (hall _ a1) (hall _ b1) a2 b2 e e'⟩
    rw [h, b2] at a2; injection a2 with a2; exact hne (by rw [a2])
   ·obtain ⟨h1, h2⟩ := hps p hp
    have hoj := T.get (show p.j < ops.size by omega)
    have hst := T.still hm hR.still p.j (by omega)
    obtain ⟨⟨h, _⟩ | ⟨p', q, g1, _, _, g2, g3, g4, g5, g6, g7⟩, _⟩ := T.one p.j _ h1 hoj
    ·rw [h] at h2; cases h2
    ·rw [h2] at g1; injection g1 with g1; subst g1
     have := T.len hm (show p.j <= m by omega) (Nat.le_refl _)
     exact ⟨by omega, g6, Qki g2 g3 hst _ (.inr (.inr ⟨_, rfl⟩)) g6, (Qa1 T.okops hoj).2.1 _ g5, hp1 p.j p (hall _ h1) h2⟩
theorem Qvx (T : Tc P ops m sz st val ef an pe sc) (hn : Named P) (hmx : P.follows .mixedOrders = true) {Q : Exit -> Act -> World -> Prop} (hQ : ∀ o' m' a' w', Rel gv base w0 m0 sz (sc ops.size) o' m' a' w' -> Q .normal a' w') :
 ∀ (fuel i : Nat) (listed : Array Bool) (o : OM) (mm : MM) (a : Act) (w : World), m <= i -> i <= ops.size -> ops.size <= fuel + i -> listed.size = ops.size -> (∀ j, listed.getD j false = decide (j < i)) -> Rel gv base w0 m0 sz (sc i) o mm a w ->
   wpAnyIn (fen rd) 0 P .any ops Q fuel listed a w := by
 intro fuel
 induction fuel with
 | zero =>
   intro i listed o mm a w hmi hi hfu hls hl hR
   have e : i = ops.size := by omega
   subst e
   refine ⟨?_, hQ _ _ _ _ hR⟩
   refine List.eq_nil_iff_forall_not_mem.2 (fun j hj => ?_)
   obtain ⟨h1, h2, _⟩ := (Qb0 hls).1 hj
   rw [hl] at h2
   simp at h2; omega
 | succ fuel ih =>
   intro i listed o mm a w hmi hi hfu hls hl hR
   refine ⟨fun hnil => ?_, fun j hj => ?_⟩
   ·have e : i = ops.size := by
     rcases Nat.lt_or_ge i ops.size with h | h
     ·exfalso
      have : i ∈ Region.ready .any ops listed := (Qb0 hls).2 ⟨h, by rw [hl]; simp, fun o ho e he => by rw [hl]; simpa using T.stat.edge i o ho e he⟩
      rw [hnil] at this; cases this
     ·omega
    subst e
    exact hQ _ _ _ _ hR
   ·obtain ⟨h1, h2, h3⟩ := (Qb0 hls).1 hj
    rw [hl] at h2
    have hij : i <= j := by simpa using h2
    have e : j = i := by
     rcases Nat.eq_or_lt_of_le hij with h | h
     ·exact h.symm
     ·exfalso
      have hcl : Cl ops listed := fun k o ho hk e he => by
       rw [hl] at hk ⊢
       have := T.stat.edge k o ho e he
       simp at hk ⊢; omega
      have := T.stat.pre hcl j _ (T.get h1) (h3 _ (T.get h1)) i (by rw [T.stat.bar j (by omega) h1]; exact Qlv h)
      rw [hl] at this
      simp at this
    subst e
    have ho := T.get h1
    obtain ⟨hsz, hdst, _⟩ := Qa1 T.okops ho
    obtain ⟨⟨q, g1, g2⟩, hst⟩ := T.cl j _ hmi ho
    have hnext : ∀ (o' : OM) (m' : MM) (a' : Act) (w' : World), Rel gv base w0 m0 sz (((ef j).app (sc j)).put ops[j].dst (val j)) o' m' a' w' -> wpAnyIn (fen rd) 0 P .any ops Q fuel (listed.setIfInBounds j true) a' w' := by
     intro o' m' a' w' hR'
     rw [<- hst] at hR'
     refine ih (j + 1) _ o' m' a' w' (by omega) h1 (by omega) (by simp [hls]) (fun q => ?_) hR'
     rw [Qgi (by omega), hl]
     by_cases c : q = j
     ·rw [if_pos c]; subst c; simp
     ·rw [if_neg c]
      by_cases c2 : q < j
      ·simp [c2, show q < j + 1 by omega]
      ·simp [c2, show ¬ q < j + 1 by omega]
    unfold wpOpIn
    rw [ho]; dsimp only
    exact Qwl hn hmx hR hdst hsz g1 g2 hnext
theorem Qvy (T : Tc P ops m sz st val ef an pe sc) (hm : m <= ops.size) (hn : Named P) (hmx : P.follows .mixedOrders = true) (hR : Rel gv base w0 m0 sz (st 0) o0 mm0 a0 ws) {Q : Exit -> Act -> World -> Prop} (hQ : ∀ o' m' a' w', Rel gv base w0 m0 sz (sc ops.size) o' m' a' w' -> Q .normal a' w') :
 ∀ (fuel : Nat) (listed : Array Bool) (o : OM) (mm : MM) (a : Act) (w : World), ops.size <= fuel + cnt listed ops.size -> Iv P ops m sz st val ef pe gv base w0 m0 o0 mm0 a0 ws listed o mm a w -> wpAnyIn (fen rd) 0 P .any ops Q fuel listed a w := by
 intro fuel
 have fin : ∀ (fuel : Nat) (listed : Array Bool) (o : OM) (mm : MM) (a : Act) (w : World), ops.size <= fuel + cnt listed ops.size -> Iv P ops m sz st val ef pe gv base w0 m0 o0 mm0 a0 ws listed o mm a w -> (∀ k, k < m -> listed.getD k false = true) -> wpAnyIn (fen rd) 0 P .any ops Q fuel listed a w := by
  intro fuel listed o mm a w hfu I hall
  obtain ⟨o, hR'⟩ := I.commit T hm hR hall
  have := (cnt_le listed m I.lm ops.size).1
  refine Qvx T hn hmx hQ fuel m listed o mm a w (Nat.le_refl _) hm (by omega) I.lsz (fun j => ?_) hR'
  by_cases c : j < m
  ·rw [hall j c]; simp [c]
  ·cases hj : listed.getD j false with
   | true => exact absurd (I.lm j hj) c
   | false => simp [c]
 have least : ∀ (listed : Array Bool), (∃ k, k < m /\ listed.getD k false = false) -> ∃ k, k < m /\ listed.getD k false = false /\ ∀ j, j < k -> listed.getD j false = true := by
  intro listed h
  obtain ⟨k, hk⟩ := h
  induction k using Nat.strongRecOn with
  | _ k ih =>
    by_cases c : ∃ j, j < k /\ listed.getD j false = false
    ·obtain ⟨j, hj, hl⟩ := c
     exact ih j hj ⟨by omega, hl⟩
    ·refine ⟨k, hk.1, hk.2, fun j hj => ?_⟩
     cases hl : listed.getD j false with
     | true => rfl
     | false => exact absurd ⟨j, hj, hl⟩ c
 have all_or : ∀ (listed : Array Bool), (∀ k, k < m -> listed.getD k false = true) \/ ∃ k, k < m /\ listed.getD k false = false := by
  intro listed
  by_cases c : ∃ k, k < m /\ listed.getD k false = false
  ·exact .inr c
  ·refine .inl (fun k hk => ?_)
   cases hl : listed.getD k false with
   | true => rfl
   | false => exact absurd ⟨k, hk, hl⟩ c
 induction fuel with
 | zero =>
   intro listed o mm a w hfu I
   rcases all_or listed with hall | ⟨k, hk, hl⟩
   ·exact fin 0 listed o mm a w hfu I hall
   ·have := cnt_lt hl ops.size (by omega); omega
 | succ fuel ih =>
   intro listed o mm a w hfu I
   rcases all_or listed with hall | hex
   ·exact fin _ listed o mm a w hfu I hall
   ·refine ⟨fun hnil => ?_, fun j hj => ?_⟩
    ·obtain ⟨k, hk, hl, hlow⟩ := least listed hex
     have : k ∈ Region.ready .any ops listed := (Qb0 I.lsz).2 ⟨by omega, hl, fun o ho e he => hlow e (T.stat.edge k o ho e he)⟩
     rw [hnil] at this; cases this
    ·obtain ⟨h1, h2, h3⟩ := (Qb0 I.lsz).1 hj
     have hjm : j < m := by
      rcases Nat.lt_or_ge j m with h | h
      ·exact h
      ·exfalso
       obtain ⟨k, hk, hl⟩ := hex
       have := T.stat.pre I.cl j _ (T.get h1) (h3 _ (T.get h1)) k (by rw [T.stat.bar j h h1]; exact Qlv (by omega))
       rw [hl] at this; cases this
     refine I.step T hm hn hR hjm h2 (T.get h1) (h3 _ (T.get h1)) (fun o' mm' a' w' I' => ih _ o' mm' a' w' ?_ I')
     rw [Qoj (by rw [I.lsz]; exact h1) h2, if_pos h1]
     omega
end
theorem Qho {α : Type} {R : α -> α -> Prop} (hs : ∀ a b, R a b -> R b a) : ∀ {l : List α}, l.Pairwise R -> ∀ a b, a ∈ l -> b ∈ l -> a ≠ b -> R a b
 | [], _, a, b, h, _, _ => by cases h
 | x :: l, hp, a, b, ha, hb, hne => by
   obtain ⟨h1, h2⟩ := List.pairwise_cons.1 hp
   rcases List.mem_cons.1 ha with e | ha'
   ·rcases List.mem_cons.1 hb with e' | hb'
    ·exact absurd (e.trans e'.symm) hne
    ·rw [e]; exact h1 b hb'
   ·rcases List.mem_cons.1 hb with e' | hb'
    ·rw [e']; exact hs _ _ (h1 a ha')
    ·exact Qho hs h2 a b ha' hb' hne
theorem VRun.draw {rd : Option Nat} {P : Program} {sz : Nat} {s s1 : VS} {m : Nat} (hmx : P.follows .mixedOrders = true) (hn : Named P) {id : Nat} {ops : Array Oper} {as : List Ans} {q : Prop} (hok : Qhr sz ops = true) (hd : Qii ops = some m) (hpu : Qt6 P ops m as s = true)
 (h : Qjq P ops m (Qqc P ops m as s) 0 ops.toList as [] s = some (s1, q)) (hq : q) : VRun rd P sz (.region id ops true) s .normal s1 := fun gv base w0 m0 o mm a w hR Q hQ => by
 have hps : ∃ ps, Qol P ops m 0 ops.toList as s = some ps /\ ∀ p ∈ ps, Qng (masks ops.toList []) p.1 p.2 0 (Qkh P ops ops.toList as s) (ops.toList.take m) = true := by
  unfold Qt6 at hpu
  split at hpu
  ·rename_i hh; exact ⟨[], hh, fun p hp => (by cases hp)⟩
  ·rename_i ps hno hh
   exact ⟨_, hh, fun p hp => List.all_eq_true.1 hpu p hp⟩
  ·cases hpu
 obtain ⟨pl, hps1, hps3⟩ := hps
 have hnb : Qqc P ops m as s = true -> pl = [] := fun hb => by
  unfold Qqc at hb
  split at hb
  ·rename_i hh; rw [hps1] at hh; injection hh
  ·cases hb
 have hlen : ops.toList.length = ops.size := Array.length_toList
 have hms : m <= ops.size := Qmr hd
 obtain ⟨st, sc, val, ef, an, pe, ps, e0, e1, cm, hpw, hpj, hpi, tr, tc⟩ := Qt8 _ _ _ _ _ _ [] pl (Nat.zero_le m) (by omega) hnb hps1 h hq .nil
 rw [hlen, Nat.zero_add] at e1
 subst e0
 have get : ∀ j, j < ops.size -> ops.toList[j]? = some ops[j]! := fun j hj => by rw [J7]; simp [hj]
 have hin : ∀ j k b, j < m -> ef j = .put k b -> (j, k) ∈ pl /\ k < (st j).L.length := fun j k b hj he => by
  have := (tr j _ (get j (by omega)) (by omega)).2.1 k b (by rw [Nat.zero_add]; exact he)
  rw [Nat.zero_add] at this; exact this
 have hmem : ∀ j p, j < m -> pe j = some p -> p ∈ ps := fun j p hj hp => hpi.2 j p (Nat.zero_le j) hj hp
 have hidx : ∀ j p, j < m -> pe j = some p -> p.j = j := fun j p hj hp => by
  have := (tr j _ (get j (by omega)) (by omega)).1
  rw [Nat.zero_add] at this
  obtain ⟨⟨h, _⟩ | ⟨p', _, h1, _, _, _, _, h2, _⟩, _⟩ := this
  ·rw [h] at hp; cases hp
  ·rw [h1] at hp; injection hp with hp; subst hp; exact h2
 have T : Tc P ops m sz st val ef an pe sc := ⟨Qit hd, hok, fun i o hi ho => (by
  have := (tr i o (by rw [J7]; exact ho) (by omega)).1
  rw [Nat.zero_add] at this
  exact this), fun j k b hj he => (hin j k b hj he).2, fun j k b hj he i o hi hne ho => (by
  have h1 := Qnh _ _ _ (hps3 _ (hin j k b hj he).1) i o (by rw [List.getElem?_take, if_pos hi]; simpa using ho) (by simpa using hne)
  rw [Nat.zero_add] at h1
  have hf := (tr i o (by rw [J7]; exact ho) (by omega)).2.2.1
  rw [Nat.zero_add] at hf
  rcases h1 with h1 | h1 | h1
  ·exact .inl h1
  ·exact .inr (.inl h1)
  ·obtain ⟨f, f1, f2⟩ := h1; rw [f1] at hf; injection hf with hf; exact .inr (.inr (hf ▸ f2))),
  fun j j' p p' hj hj' hne hp hp' => Qho (fun a b h => h.symm) hpw p p' (hmem j p hj hp) (hmem j' p' hj' hp') (fun e => hne (by rw [<- hidx j p hj hp, e]; exact hidx j' p' hj' hp')),
  ⟨ps, cm, hpw, fun p hp => (by
   rcases hpj p hp with h | h
   ·cases h
   ·exact h.2)⟩,
  fun j p hj hp i k b hi he => (by
   have hb := (tr j _ (get j (by omega)) (by omega)).2.2.2 p (by rw [Nat.zero_add]; exact hp)
   have := (hin i k b hi he).1
   rw [hnb hb] at this; cases this),
  fun i o hi ho => by
   have := tc i o (by rw [J7]; exact ho) (by omega)
   rw [Nat.zero_add] at this
   exact this⟩
 subst e1
 exact wpIn_region_any hmx (Qvy T hms hn hmx hR hQ _ _ o mm _ _ (by omega) (Iv.start T hms hR _))
end Go.Proofs.Ytfeedchjdnedjaa.Vv
