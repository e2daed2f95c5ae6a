import Derived.Test.YtjomicmhnbmhoaaVv17
import Derived.Test.YtjomicmhnbmhoaaVv18
set_option linter.unusedVariables false
set_option linter.unusedSimpArgs false
namespace Go.Proofs.Ytjomicmhnbmhoaa.Vv
open Go Go.Proofs.Ytjomicmhnbmhoaa.Ev
open Go.RowKit (Below)
def Q0i (o : Op) : Bool := match o with
 | .move _ | .assign _ | .pick _ _ _ | .build _ _ | .load _ _ | .binOp _ _ _ _ _ | .unOp _ _ _ | .convert _ _ _ | .fieldAddr _ _ _ | .field _ _ _ | .indexAddr _ _ _ | .index _ _ _ | .extract _ _ => true
 | .call { callee := .builtin .len, .. } => true
 | .call { callee := .builtin .min, .. } => true
 | .call { callee := .builtin .max, .. } => true
 | _ => false
section
variable {P : Program} {gv : Nat -> Value} {base : Nat} {o : OM} {m : MM} {L : List (Option Blk)} {w : World} {N : Nat}
set_option maxHeartbeats 2000000 in
theorem Q19 {op : Oper} {A : Tr VV} {a : Ans} {e : Operand -> Value} {v : VV} {eff : Eff} {q : Prop} (hp : Q0i op.op = true) (h : vOp P op A L N a = some (v, eff, q)) (hq : q) (hO : Own gv base o m L w) (hM : Qbl m w)
 (he : ∀ x ∈ op.op.operands, R o base m (ev A x) (e x)) : ∃ n v', (execOp e op).run P w = .ok n w /\ valOf n = some v' /\ R o base m v v' := by
 obtain ⟨dst, op, type, pos, after, guard⟩ := op
 have pure_ : ∀ {v : VV} {v' : Value}, R o base m v v' -> ∃ n u, (Pure.pure (Next.value v') : Sem Next).run P w = .ok n w /\ valOf n = some u /\ R o base m v u :=
  fun h => ⟨_, _, rfl, rfl, h⟩
 have val_ : ∀ {s : Sem Value} {v : VV}, (∃ v', s.run P w = .ok v' w /\ R o base m v v') -> ∃ n u, (do Pure.pure (Next.value (<- s)) : Sem Next).run P w = .ok n w /\ valOf n = some u /\ R o base m v u := by
  rintro s v ⟨v', h1, h2⟩
  exact ⟨_, _, Quh h1, rfl, h2⟩
 cases op <;> simp only [vOp, Op.operands] at h he
 case move x => injection h with h; injection h with h1 h2; injection h2 with h2 h3; subst h1; exact pure_ (he x (by simp))
 case assign x => injection h with h; injection h with h1 h2; injection h2 with h2 h3; subst h1; exact pure_ (he x (by simp))
 case pick c x y =>
  have hc := he c (by simp)
  split at h
  ·rename_i t d ht
   injection h with h; injection h with h1 h2; injection h2 with h2 h3; subst h1; subst h2; subst h3
   rw [ht] at hc
   have hcb := (hc.Qa3).1
   subst hq
   simp only [execOp, hcb, asBool, pure_bind]
   exact pure_ (by cases t; exact he y (by simp); exact he x (by simp))
  ·cases h
 case build t ps =>
  have hb0 := Qm h; clear h; obtain ⟨hg, h⟩ := hb0
  obtain ⟨hv, rfl⟩ := Qai h
  obtain ⟨v', h1, h2⟩ := Qr9 hv hg (Qoi (e := e) ps.toList (fun x hx => he x (by simpa using hx)))
  refine val_ ⟨v', (Qql (ps := ps.map fun (i, x) => (i, e x)) ?_ w).1, h2⟩
  rw [Qpd]; exact h1
 case load t p =>
  have hz0 := Qeo h; clear h; obtain ⟨h, rfl⟩ := hz0
  obtain ⟨v', h1, h2⟩ := Qrr h hq hO hM (he p (by simp))
  exact val_ ⟨v', Qo4 h1, h2⟩
 case binOp op t x y yt =>
  have hz0 := Qeo h; clear h; obtain ⟨h, rfl⟩ := hz0
  exact val_ (Qx6 h hq (he x (by simp)) (he y (by simp)) x y)
 case unOp op t x =>
  have hz0 := Qai h; clear h; obtain ⟨h, rfl⟩ := hz0
  exact val_ (Q2i h (he x (by simp)))
 case convert s d x =>
  have hz0 := Qai h; clear h; obtain ⟨h, rfl⟩ := hz0
  exact val_ (Qor h (he x (by simp)))
 case fieldAddr s x f =>
  have hz0 := Qai h; clear h; obtain ⟨h, rfl⟩ := hz0
  exact val_ (Qm2 h (he x (by simp)))
 case field t x f =>
  have hz0 := Qai h; clear h; obtain ⟨h, rfl⟩ := hz0
  exact val_ (Qss h (he x (by simp)))
 case indexAddr t x i =>
  have hz0 := Qeo h; clear h; obtain ⟨h, rfl⟩ := hz0
  exact val_ (Ql8 h hq (he x (by simp)) (he i (by simp)))
 case index t x i =>
  split at h
  ·rename_i s hs
   have hz0 := Qeo h; clear h; obtain ⟨h, rfl⟩ := hz0
   have hx := he x (by simp)
   rw [hs] at hx
   obtain ⟨v', h1, h2⟩ := Qqh (P := P) (w := w) h hq (he i (by simp))
   exact val_ ⟨v', by rw [(hx.Qa3).1]; exact h1, h2⟩
  ·have hz0 := Qeo h; clear h; obtain ⟨h, rfl⟩ := hz0
   exact val_ (Qst h hq (he x (by simp)) (he i (by simp)))
 case extract t i =>
  have hz0 := Qai h; clear h; obtain ⟨h, rfl⟩ := hz0
  exact val_ (Qo8 h (he t (by simp)))
 case call c =>
  obtain ⟨callee, args, argTypes⟩ := c
  cases callee with
  | value f => cases hp
  | invoke f m => cases hp
  | builtin b =>
    cases b <;> simp only [Call.operands] at h he
    case len =>
     split at h
     case h_2 => cases h
     rename_i t x e1 e2
     obtain ⟨argTypes⟩ := argTypes
     obtain ⟨args⟩ := args
     dsimp only at e1 e2
     subst e1; subst e2
     split at h
     ·rename_i r hr
      injection h with h; subst h
      obtain ⟨rfl, v', h1, h2⟩ := Qvz (ty := type) hr hq hO hM (he x (by simp))
      exact ⟨.value v', v', by show ((do Pure.pure (Next.value (<- Builtin.len_ #[t] type (#[x].map e)))) : Sem Next).run P w = _; rw [show (#[x].map e) = #[e x] by simp, Sem.run_bind, h1]; rfl, rfl, h2⟩
     have hz0 := Qai h; clear h; obtain ⟨h, rfl⟩ := hz0
     obtain ⟨v', h1, h2⟩ := Qzf (ty := type) (w := w) h (he x (by simp))
     exact ⟨.value v', v', by show ((do Pure.pure (Next.value (<- Builtin.len_ #[t] type (#[x].map e)))) : Sem Next).run P w = _; rw [show (#[x].map e) = #[e x] by simp, Sem.run_bind, h1]; rfl, rfl, h2⟩
    case min =>
     have hz0 := Qai h; clear h; obtain ⟨h, rfl⟩ := hz0
     obtain ⟨args⟩ := args
     obtain ⟨v', h1, h2⟩ := Qm4 (P := P) (w := w) (f := minI) (g := Builtin.min2) (why := "min: at least one argument expected") (fun _ _ _ _ => rfl) h (Qkt (e := e) args (fun x hx => he x (by simp [hx])))
     refine ⟨.value v', v', ?_, rfl, h2⟩
     show ((do Pure.pure (Next.value (<- Builtin.min_ argTypes type ((⟨args⟩ : Array Operand).map e)))) : Sem Next).run P w = _
     refine Quh ?_
     unfold Builtin.min_
     rw [show ((⟨args⟩ : Array Operand).map e).toList = args.map e by simp]
     exact h1
    case max =>
     have hz0 := Qai h; clear h; obtain ⟨h, rfl⟩ := hz0
     obtain ⟨args⟩ := args
     obtain ⟨v', h1, h2⟩ := Qm4 (P := P) (w := w) (f := maxI) (g := Builtin.max2) (why := "max: at least one argument expected") (fun _ _ _ _ => rfl) h (Qkt (e := e) args (fun x hx => he x (by simp [hx])))
     refine ⟨.value v', v', ?_, rfl, h2⟩
     show ((do Pure.pure (Next.value (<- Builtin.max_ argTypes type ((⟨args⟩ : Array Operand).map e)))) : Sem Next).run P w = _
     refine Quh ?_
     unfold Builtin.max_
     rw [show ((⟨args⟩ : Array Operand).map e).toList = args.map e by simp]
     exact h1
    all_goals (cases hp)
 all_goals (cases hp)
end
theorem Q2a {P : Program} {ops : Array Oper} {m : MM} (hn : Named P) {a : Act} {w : World} {A : Tr VV} {op : Oper} {an : Ans} {v : VV} {eff : Eff} {q : Prop} (hp : Q0i op.op = true) (h : oneV P ops op an ⟨A, [], .nil⟩ = some (v, eff, q)) (hq : q)
 (hM : Qbl m w) (hlook : ∀ t ∈ Qhr ops.toList op, R .no 0 m (Vv.ev A (.tmp t)) (a.tmps.getD t undef)) {K : Act -> World -> Prop} {Q : Exit -> Act -> World -> Prop}
 (k : ∀ v', R .no 0 m v v' -> K (a.put op.dst v') w) :
 if Region.wanted op (yielded ops a.tmps) then op.wpIn (fen none) 0 P a w K Q else (∀ f, op.about P w a.eval = some f -> (fen none).fn f) /\ K (a.put op.dst undef) w := by
 have hO : Own (fun _ => undef) 0 .no m [] w := ⟨fun k oi blk e => (nomatch e), fun k oi e => (nomatch e), fun k k' oi oi' e => (nomatch e)⟩
 have hopd : ∀ x ∈ op.op.operands, R .no 0 m (Vv.ev A x) (a.eval x) := fun x hx => by
  cases x with
  | tmp t => exact hlook t (Qmr hx)
  | const v => exact Qma
  | global g => exact .undef
  | func f => exact .fn (cs := #[]) rfl (fun j v v' h => by simp at h)
 have same_wp : ∀ {v : VV} {eff : Eff} {q : Prop}, Qht P op A [] .nil 0 an = some (v, eff, q) -> q -> (∀ v', R .no 0 m v v' -> K (a.put op.dst v') w) -> op.wpIn (fen none) 0 P a w K Q := fun {v eff q} h hq k => by
  refine ⟨fun _ _ => trivial, ?_⟩
  have hop : vOp P op A [] 0 an = some (v, eff, q) := by
   rcases Qh8 h with ⟨g, args, ts, as, ho, _⟩ | ⟨t, args, ts, g, caps, g', cs, as, ho, _⟩ | ⟨_, _, _, _, _, _, _, _, _, ho, _⟩ | ⟨_, _, _, _, _, _, _, ho, _⟩ | h
   ·rw [ho] at hp; cases hp
   ·rw [ho] at hp; cases hp
   ·rw [ho] at hp; cases hp
   ·rw [ho] at hp; cases hp
   ·exact h
  have hnd : ∀ c, op.op ≠ .defer c := by
   intro c e
   rw [e] at hp
   cases hp
  have hsem : op.semAt none a.eval = execOp a.eval op := Oper.semAt_eq _ _ _ hnd
  show op.uponIn (fen none) 0 P a K Q ((op.semAt none a.eval).run P w)
  rw [hsem]
  obtain ⟨nx, v', g1, g2, g3⟩ := Q19 hp hop hq hO hM hopd
  rw [g1]
  have hk := k v' g3
  cases nx <;> first | (simp [valOf] at g2; done) | (simp only [valOf, Option.some.injEq] at g2; subst g2; exact hk)
 unfold oneV at h
 split at h
 ·rename_i hg
  have hw : Region.wanted op (yielded ops a.tmps) = true := by unfold Region.wanted; rw [hg]
  rw [hw, if_pos rfl]
  split at h
  ·cases h
  ·exact same_wp h hq k
 ·rename_i j want hg
  split at h
  case h_2 => cases h
  rename_i g hj
  split at h
  case h_2 => cases h
  rename_i d hdg
  split at h
  case h_3 => cases h
  case h_2 hbv =>
   split at h
   case h_2 => cases h
   injection h with h; injection h with h1 h2; injection h2 with h2 h3; subst h1; subst h2
   have hbr : a.tmps.getD d undef = undef := by
    have := hlook d (by unfold Qhr; refine List.mem_append_right _ ?_; rw [hg]; dsimp only; rw [hj]; dsimp only; rw [hdg]; simp)
    rw [hbv] at this
    exact Qos this
   rw [Qnk (ops := ops) hg hj hdg hbr, if_neg (by simp)]
   exact ⟨fun _ _ => trivial, k _ Qjd⟩
  rename_i b hbv
  have hbr : a.tmps.getD d undef = .bool b := by
   have := hlook d (by unfold Qhr; refine List.mem_append_right _ ?_; rw [hg]; dsimp only; rw [hj]; dsimp only; rw [hdg]; simp)
   rw [hbv] at this
   exact this.Qa3.1
  have hw := Qje (ops := ops) hg hj hdg hbr
  split at h
  ·injection h with h; injection h with h1 h2; injection h2 with h2 h3; subst h1; subst h2; subst h3
   rw [hw, hq]
   have : ((!want) == want) = false := by cases want <;> rfl
   rw [this, if_neg (by simp)]
   exact ⟨fun _ _ => trivial, k _ Qjd⟩
  ·split at h
   case h_2 => cases h
   rename_i v1 e1 q1 hs
   injection h with h; injection h with h1 h2; injection h2 with h2 h3; subst h1; subst h2; subst h3
   rw [hw, hq.1]
   rw [beq_self_eq_true, if_pos rfl]
   exact same_wp hs hq.2 k
def yv (l : Nat) : Value := .func (.yield l) #[] #[]
structure PA (M : MM) (sz l : Nat) (caps' : List Value) (A : Tr VV) (a : Act) : Prop where
 asz : a.tmps.size = sz
 adf : a.defers = []
 tm : ∀ t : Nat, R .no 0 M (ev A (.tmp t)) (a.tmps.getD t undef)
 cp : ∀ (j : Nat) (v : Value), (yv l :: caps')[j]? = some v -> a.tmps.getD j undef = v
structure Env where
 P : Program
 sz : Nat
 l : Nat
 caps : List VV
 caps' : List Value
 xs : List (List VV)
 M : MM
 J : Nat -> World -> Prop
 R : World -> Prop
def Env.K (E : Env) : Option Nat -> World -> Prop
 | some i => E.J i
 | none => E.R
structure Env.OK (E : Env) : Prop where
 hsz : E.sz < 1000000
 hcap : TL E.M E.caps E.caps'
 hJ : ∀ i w w', E.J i w -> Below w.heap.size w w' -> E.J i w'
 hR : ∀ w w', E.R w -> Below w.heap.size w w' -> E.R w'
 hMJ : ∀ i w, E.J i w -> Qbl E.M w
 hMR : ∀ w, E.R w -> Qbl E.M w
 hy : ∀ i y x w, E.xs[i]? = some y -> TL E.M y x -> E.J i w -> Yields E.P E.l x w fun b w' => match b with | true => E.J (i + 1) w' | false => E.R w'
theorem Env.OK.mem {E : Env} (h : E.OK) {st : Option Nat} {w : World} (k : E.K st w) : Qbl E.M w := by
 cases st with
 | none => exact h.hMR _ k
 | some i => exact h.hMJ _ _ k
def putA (A : Tr VV) (dst : Option Tmp) (v : VV) : Tr VV := match dst with
 | some d => A.set d v
 | none => A
abbrev SP := Tr VV -> Option Nat -> Prop
def POps (E : Env) (ops : Array Oper) (l : List Oper) (A : Tr VV) (st : Option Nat) (Post : SP) : Prop :=
 ∀ a w, PA E.M E.sz E.l E.caps' A a -> E.K st w -> ∀ Q : Exit -> Act -> World -> Prop, (∀ A' st' a' w', Post A' st' -> PA E.M E.sz E.l E.caps' A' a' -> E.K st' w' -> Q .normal a' w') -> wpListIn (fen none) 0 E.P ops Q l a w
def Qde (E : Env) (c : Code) (A : Tr VV) (st : Option Nat) (Post : Exit -> SP) : Prop :=
 ∀ a w, PA E.M E.sz E.l E.caps' A a -> E.K st w -> ∀ Q : Exit -> Act -> World -> Prop, (∀ e A' st' a' w', Post e A' st' -> PA E.M E.sz E.l E.caps' A' a' -> E.K st' w' -> Q e a' w') -> c.wpIn (fen none) 0 E.P Q a w
def Qn6 (E : Env) (c : Code) (A : Tr VV) (st : Option Nat) (Post : Exit -> SP) : Prop :=
 ∀ a w, PA E.M E.sz E.l E.caps' A a -> E.K st w -> ∀ Q : Exit -> Act -> World -> Prop, (∀ e A' st' a' w', Post e A' st' -> PA E.M E.sz E.l E.caps' A' a' -> E.K st' w' -> Q e a' w') -> LoopIn (fen none) 0 E.P c Q a w
section
variable {E : Env} {A : Tr VV} {st : Option Nat} {Post : Exit -> SP} {c x y : Code}
theorem Qde.skip (h : Post .normal A st) : Qde E .skip A st Post := fun a w ha hk Q hQ => wpIn_skip (hQ _ _ _ _ _ h ha hk)
theorem Qde.exit {id : Nat} (h : Post (.exit id) A st) : Qde E (.exit id) A st Post := fun a w ha hk Q hQ => wpIn_exit (hQ _ _ _ _ _ h ha hk)
theorem Qde.ret (h : Post .ret A st) : Qde E .ret A st Post := fun a w ha hk Q hQ => wpIn_ret (hQ _ _ _ _ _ h ha hk)
theorem Qde.seq (h : Qde E x A st (fun e A' st' => match e with | .normal => Qde E y A' st' Post | e => Post e A' st')) : Qde E (.seq x y) A st Post := fun a w ha hk Q hQ =>
 wpIn_seq (h a w ha hk _ (fun e A' st' a' w' h1 h2 h3 => by
  cases e with
  | normal => exact h1 a' w' h2 h3 Q hQ
  | _ => exact hQ _ _ _ _ _ h1 h2 h3))
theorem Qde.cond {cc : Operand} {b : Bool} (hc : ev A cc = .c (.bool b)) (h : Qde E (match b with | true => x | false => y) A st Post) : Qde E (.cond cc x y) A st Post := fun a w ha hk Q hQ => by
 have hv : a.eval cc = .bool b := by
  cases cc with
  | tmp t => have := ha.tm t; rw [hc] at this; exact this.Qa3.1
  | const v =>
    have := @Qma 0 .no E.M v
    simp only [Vv.ev] at hc
    rw [hc] at this; exact this.Qa3.1
  | global g => cases hc
  | func g => cases hc
 cases b with
 | true => exact wpIn_cond_true hv (h a w ha hk Q hQ)
 | false => exact wpIn_cond_false hv (h a w ha hk Q hQ)
theorem Qde.block {id : Nat} (h : Qde E x A st (fun e A' st' => match e with | .exit id' => if id' = id then Post .normal A' st' else Post (.exit id') A' st' | e => Post e A' st')) : Qde E (.block id x) A st Post := fun a w ha hk Q hQ =>
 wpIn_block (h a w ha hk _ (fun e A' st' a' w' h1 h2 h3 => by
  cases e with
  | exit id' =>
    show (if id' = id then Q .normal a' w' else Q (.exit id') a' w')
    by_cases e : id' = id
    ·rw [if_pos e]
     dsimp only at h1
     rw [if_pos e] at h1
     exact hQ _ _ _ _ _ h1 h2 h3
    ·rw [if_neg e]
     dsimp only at h1
     rw [if_neg e] at h1
     exact hQ _ _ _ _ _ h1 h2 h3
  | _ => exact hQ _ _ _ _ _ h1 h2 h3))
theorem Qde.loop (h : Qn6 E c A st Post) : Qde E (.loop c) A st Post := fun a w ha hk Q hQ => Qsy (h a w ha hk Q hQ)
theorem Qn6.step (h : Qde E c A st (fun e A' st' => match e with | .normal => Qn6 E c A' st' Post | e => Post e A' st')) : Qn6 E c A st Post := fun a w ha hk Q hQ =>
 Qmg (h a w ha hk _ (fun e A' st' a' w' h1 h2 h3 => by
  cases e with
  | normal => exact h1 a' w' h2 h3 Q hQ
  | _ => exact hQ _ _ _ _ _ h1 h2 h3))
theorem Qde.region {id : Nat} {ops : Array Oper} (hok : Qpy E.sz ops = true) (h : POps E ops ops.toList A st (fun A' st' => Post .normal A' st')) : Qde E (.region id ops false) A st Post := fun a w ha hk Q hQ =>
 wpIn_region_list (h a w ha hk Q (fun A' st' a' w' h1 h2 h3 => hQ _ _ _ _ _ h1 h2 h3))
theorem POps.nil {ops : Array Oper} {Post : SP} (h : Post A st) : POps E ops [] A st Post := fun a w ha hk Q hQ => hQ _ _ _ _ h ha hk
theorem PA.put {M : MM} {sz l : Nat} {caps' : List Value} {a : Act} (h : PA M sz l caps' A a) (hsz : sz < 1000000) {dst : Option Tmp} (hd : ∀ d : Nat, dst = some d -> d < sz /\ caps'.length < d) {v : VV} {v' : Value} (hv : R .no 0 M v v') : PA M sz l caps' (putA A dst v) (a.put dst v') := by
 cases dst with
 | none => exact h
 | some d =>
   obtain ⟨h1, h2⟩ := hd d rfl
   refine ⟨by simp [Act.put, h.asz], h.adf, fun t => ?_, fun j u hj => ?_⟩
   ·show R .no 0 M (Vv.ev (A.set d v) (.tmp t)) ((a.tmps.setIfInBounds d v').getD t undef)
    have h1' : (d : Nat) < sz := h1
    rw [Qms (by omega), Array.getD_eq_getD_getElem?, Array.getElem?_setIfInBounds]
    by_cases e : t = d
    ·subst e; rw [if_pos rfl, if_pos rfl, if_pos (by rw [h.asz]; exact h1)]; exact hv
    ·rw [if_neg e, if_neg (fun x => e x.symm)]
     have := h.tm t
     rw [Array.getD_eq_getD_getElem?] at this
     exact this
   ·show (a.tmps.setIfInBounds d v').getD j undef = u
    have hjl : j < caps'.length + 1 := by have := (List.getElem?_eq_some_iff.1 hj).1; simpa using this
    have h2' : caps'.length < (d : Nat) := h2
    rw [Array.getD_eq_getD_getElem?, Array.getElem?_setIfInBounds, if_neg (by omega), <- Array.getD_eq_getD_getElem?]
    exact h.cp j u hj
def Qhu (o : Oper) (n : Nat) : Bool := match o.dst with
 | some d => Nat.blt n d
 | none => true
theorem Qwd {o : Oper} {n sz : Nat} (h : Qhu o n = true) (hd : ∀ d : Nat, o.dst = some d -> d < sz) : ∀ d : Nat, o.dst = some d -> d < sz /\ n < d := fun d e => by
 refine ⟨hd d e, ?_⟩
 unfold Qhu at h
 rw [e] at h
 exact Qec h
theorem POps.op (hE : E.OK) (hn : Named E.P) {ops : Array Oper} (hok : Qpy E.sz ops = true) {o : Oper} {rest : List Oper} {Post : SP} {an : Ans} {v : VV} {q : Prop} (ho : o ∈ ops) (hd : Qhu o E.caps'.length = true) (h : oneV E.P ops o an ⟨A, [], .nil⟩ = some (v, .no, q)) (hq : q)
 (k : POps E ops rest (putA A o.dst v) st Post) (hp : Q0i o.op = true := by kernel_rfl) : POps E ops (o :: rest) A st Post := fun a w ha hk Q hQ => by
 obtain ⟨kk, hk1, hko⟩ := Array.mem_iff_getElem.1 ho
 have hok1 : ops[kk]? = some o := by rw [Array.getElem?_eq_getElem hk1, hko]
 obtain ⟨hsz, hdst, _⟩ := Qhd hok hok1
 have hdd := Qwd hd hdst
 refine Q2a hn hp h hq (hE.mem hk) (fun t _ => ha.tm t) (fun v' hv => ?_)
 exact k _ _ (ha.put hsz hdd hv) hk Q hQ
theorem PA.cut {M : MM} {sz l : Nat} {caps' : List Value} {a : Act} (h : PA M sz l caps' A a) {ks : List (Nat × VV)} (hk : ks.all (fun p => Nat.blt p.1 1000000) = true) (he : ∀ p ∈ ks, ev A (.tmp p.1) = p.2) : PA M sz l caps' (mkA ks) a := by
 refine ⟨h.asz, h.adf, fun t => ?_, h.cp⟩
 induction ks with
 | nil => exact .undef
 | cons p ks ih =>
   obtain ⟨d, v⟩ := p
   simp only [List.all_cons, Bool.and_eq_true] at hk
   have hd := Qec hk.1
   show R .no 0 M (Vv.ev ((mkA ks).set d v) (.tmp t)) _
   rw [Qms (by omega)]
   by_cases e : t = d
   ·subst e; rw [if_pos rfl]
    have := he (t, v) (by simp)
    dsimp only at this
    rw [<- this]; exact h.tm t
   ·rw [if_neg e]; exact ih hk.2 (fun p hp => he p (by simp [hp]))
theorem Qn6.cut {ks : List (Nat × VV)} (hk : ks.all (fun p => Nat.blt p.1 1000000) = true) (he : ∀ p ∈ ks, ev A (.tmp p.1) = p.2) (h : Qn6 E c (mkA ks) st Post) : Qn6 E c A st Post := fun a w ha hkk Q hQ => h a w (ha.cut hk he) hkk Q hQ
def tv : VV -> Bool
 | .c _ => true
 | .tr _ _ => true
 | .tp _ _ => true
 | .ag cs => tvs cs
 | _ => false
where tvs : List VV -> Bool
 | [] => true
 | .c _ :: l => tvs l
 | .tr _ _ :: l => tvs l
 | .tp _ _ :: l => tvs l
 | _ :: _ => false
theorem Qrz {M : MM} {v : VV} {v' : Value} (hv : (∃ x, v = .c x) \/ (∃ c n, v = .tr c n) \/ (∃ c n, v = .tp c n)) (h : R .no 0 M v v') : T M v v' := by
 rcases hv with ⟨x, rfl⟩ | ⟨c, n, rfl⟩ | ⟨c, n, rfl⟩ <;> (cases h with | t h => exact h)
theorem Q0j : ∀ {cs : List VV}, tv.tvs cs = true -> ∀ (j : Nat) (v : VV), cs[j]? = some v -> (∃ x, v = .c x) \/ (∃ c n, v = .tr c n) \/ (∃ c n, v = .tp c n)
 | [], _, j, v, h => by simp at h
 | u :: l, ht, j, v, h => by
   have key : tv.tvs l = true /\ ((∃ x, u = .c x) \/ (∃ c n, u = .tr c n) \/ (∃ c n, u = .tp c n)) := by
    cases u <;> first
     | exact ⟨ht, .inl ⟨_, rfl⟩⟩
     | exact ⟨ht, .inr (.inl ⟨_, _, rfl⟩)⟩
     | exact ⟨ht, .inr (.inr ⟨_, _, rfl⟩)⟩
     | cases ht
   cases j with
   | zero => simp only [List.getElem?_cons_zero, Option.some.injEq] at h; subst h; exact key.2
   | succ j => exact Q0j key.1 j v (by simpa using h)
theorem Q8n {M : MM} {v : VV} {v' : Value} (hv : tv v = true) (h : R .no 0 M v v') : T M v v' := by
 cases v with
 | c x => exact Qrz (.inl ⟨_, rfl⟩) h
 | tr c n => exact Qrz (.inr (.inl ⟨_, _, rfl⟩)) h
 | tp c n => exact Qrz (.inr (.inr ⟨_, _, rfl⟩)) h
 | ag cs =>
   have hm := Q0j (cs := cs) hv
   cases h with
   | t h => exact h
   | ag hs h => exact .ag hs (fun j u u' a b => Qrz (hm j u a) (h j u u' a b))
 | _ => cases hv
theorem POps.yield (hE : E.OK) {ops : Array Oper} (hok : Qpy E.sz ops = true) {o : Oper} {rest : List Oper} {Post : SP} {i : Nat} {t : Tmp} {args : Array Operand} {ts : Array TypeId} {x : List VV} (ho : o ∈ ops) (hd : Qhu o E.caps'.length = true) (hlen : E.caps'.length < 1000000)
 (hop : o.op = .call { callee := .value (.tmp t), args := args, argTypes := ts }) (ht : ev A (.tmp t) = .c (yv E.l)) (hx : args.toList.map (ev A) = x) (hxs : E.xs[i]? = some x)
 (hg : (match o.guard with
  | none => true
  | some (j, want) => match getL j ops.toList with
    | some g => match g.dst with
      | some d => match ev A (.tmp d) with
        | .c (.bool b) => b == want
        | _ => false
      | none => false
    | none => false) = true)
 (k1 : POps E ops rest (putA A o.dst (.c (.bool true))) (some (i + 1)) Post)
 (k2 : POps E ops rest (putA A o.dst (.c (.bool false))) none Post) (htv : x.all tv = true := by kernel_rfl) : POps E ops (o :: rest) A (some i) Post := fun a w ha hk Q hQ => by
 obtain ⟨kk, hk1, hko⟩ := Array.mem_iff_getElem.1 ho
 have hok1 : ops[kk]? = some o := by rw [Array.getElem?_eq_getElem hk1, hko]
 obtain ⟨hsz, hdst, _⟩ := Qhd hok hok1
 have hdd := Qwd hd hdst
 have hw : Region.wanted o (yielded ops a.tmps) = true := by
  split at hg
  ·rename_i hgu; unfold Region.wanted; rw [hgu]
  ·rename_i j want hgu
   split at hg
   case h_2 => cases hg
   rename_i g hj
   split at hg
   case h_2 => cases hg
   rename_i d hdg
   split at hg
   case h_2 => cases hg
   rename_i b hb
   have hbv : a.tmps.getD d undef = .bool b := by
    have := ha.tm d
    rw [hb] at this
    exact this.Qa3.1
   rw [Qje (ops := ops) hgu hj hdg hbv]; exact hg
 show (if Region.wanted o (yielded ops a.tmps) = true then _ else _)
 rw [hw, if_pos rfl]
 refine ⟨fun _ _ => trivial, ?_⟩
 have hsem : o.semAt none a.eval = execOp a.eval o := Oper.semAt_eq _ _ _ (fun c => by rw [hop]; intro e; cases e)
 show o.uponIn (fen none) 0 E.P a _ Q ((o.semAt none a.eval).run E.P w)
 rw [hsem]
 have hev : a.eval (.tmp t) = yv E.l := by
  have := ha.tm t
  rw [ht] at this
  exact this.Qa3.1
 have hTL : TL E.M x (args.toList.map a.eval) := by
  subst hx
  refine ⟨by simp, fun j v v' e1 e2 => ?_⟩
  rw [List.getElem?_map] at e1 e2
  cases hj : args.toList[j]? with
  | none => rw [hj] at e1; cases e1
  | some y =>
    rw [hj] at e1 e2
    injection e1 with e1; injection e2 with e2
    subst e1; subst e2
    have hmem : Vv.ev A y ∈ args.toList.map (Vv.ev A) := List.mem_map_of_mem (List.mem_of_getElem? hj)
    refine Q8n (List.all_eq_true.1 htv _ hmem) ?_
    cases y with
    | tmp t => exact ha.tm t
    | const v => exact Qma
    | global g => exact .undef
    | func f => exact .fn (cs := #[]) rfl (fun j v v' h => by simp at h)
 obtain ⟨r, hr, hlx, hround⟩ := hE.hy i x _ w hxs hTL hk
 have hrun : (execOp a.eval o).run E.P w = .ok (.round E.l r.fn ((r.params.zip (args.toList.map a.eval).toArray).foldl (fun tmps (t, a) => tmps.setIfInBounds t a) r.tmps) r.assign r.body) w := by
  obtain ⟨dst, op, type, pos, after, guard⟩ := o
  dsimp only at hop
  subst hop
  show (resolve a.eval { callee := .value (.tmp t), args, argTypes := ts } type >>= fun d => invoke d.target d.args).run E.P w = _
  unfold resolve
  dsimp only
  rw [hev]
  show (Instr.yield E.l (#[] ++ args.map a.eval)).run E.P w = _
  have e : #[] ++ args.map a.eval = (args.toList.map a.eval).toArray := by
   apply Array.ext'
   simp
  rw [e]
  unfold Instr.yield
  rw [Sem.run_bind, Qj2 hr]
  simp only [Result.andThen_ok]
  rw [if_neg (by simp [hlx])]
  rfl
 rw [hrun]
 refine ⟨fun h => by simp [fen, Fence.wide] at h, RoundIn.mono hround ?_⟩
 rintro e w' ⟨b, rfl, hb⟩
 cases b with
 | true =>
   exact k1 _ _ (ha.put hsz hdd (.t (.c rfl))) hb Q hQ
 | false => exact k2 _ _ (ha.put hsz hdd (.t (.c rfl))) hb Q hQ
end
def ranges : Code -> List Code
 | .seq a b => ranges a ++ ranges b
 | .cond _ a b => ranges a ++ ranges b
 | .block _ b => ranges b
 | .loop b => ranges b
 | .rangeFunc f ps a b => .rangeFunc f ps a b :: (ranges a ++ ranges b)
 | .scope b => ranges b
 | _ => []
def rangeAt (fn : Func) (k : Nat) : Code := match fn.body with
 | some c => (match getL k (ranges c) with
   | some b => b
   | none => .skip)
 | none => .skip
def Qla (fn : Func) (k : Nat) : Code := match rangeAt fn k with
 | .rangeFunc _ _ a _ => a
 | _ => .skip
def Qxg (fn : Func) (k : Nat) : Code := match rangeAt fn k with
 | .rangeFunc _ _ _ b => b
 | _ => .skip
def stOf (P : Program) (sz : Nat) (c : Code) (as : List An) (s : VS) : VS := match Qd3 (some 0) P sz c as s with
 | some (_, s1, _, _) => s1
 | none => s
theorem Q2y {P : Program} {sz : Nat} (hmx : P.follows .mixedOrders = true) (hn : Named P) {assign body : Code} {s sa s2 : VS} {ps : List Tmp} {x : List VV} {a1 a2 : List An} {c : Cut} {e : Exit} {q1 : Prop} {q2 : Nat -> Prop} (h1 : ∀ l, Qd3 (some l) P sz assign a1 (s.enter ps x) = some (.normal, sa, q1, [])) (hq1 : q1)
 {s1 : VS} (h2 : ∀ l, Qd3 (some l) P sz body a2 sa = some (e, s1, q2 l, [])) (hq2 : ∀ l, q2 l) {p : Prop} (hc : cutS c s1 = some (s2, p)) (hp : p) : (∀ l, VRun (some l) P sz assign (s.enter ps x) .normal sa) /\ ∀ l, VRun (some l) P sz body sa e s2 :=
 ⟨fun l => Qlu hmx hn _ _ _ _ _ _ _ (h1 l) hq1, fun l => .Qzt (Qlu hmx hn _ _ _ _ _ _ _ (h2 l) (hq2 l)) (Qrp hc hp)⟩
theorem ItOK.intro {P : Program} {g : FuncId} {fn : Func} {c : Code} {caps : List VV} {xs : List (List VV)} (hf : P.funcs[g]? = some fn) (hb : fn.body = some c) (hres : fn.results = #[]) (hsz : 1 + caps.length + (fn.ntmps - (1 + caps.length)) < 1000000)
 (h : ∀ E : Env, E.P = P -> E.sz = 1 + caps.length + (fn.ntmps - (1 + caps.length)) -> E.caps = caps -> E.caps'.length = caps.length -> E.xs = xs -> E.OK -> Qde E c (Qs0 (.c (yv E.l) :: caps) 0 .nil) (some 0) (fun e _ st => (e = .normal \/ e = .ret) /\ (st = none \/ st = some xs.length))) : ItOK P g caps xs := by
 refine ⟨⟨fn, c, hf, hb⟩, fun M w caps' l J R hcap hMJ hMR hJ hR h0 hy hend => ?_⟩
 refine callsIn_of_wp (F := fen none) hf hb trivial ?_ rfl
 have hc0 := (⟨hcap.1, fun j v v' a b => .t (hcap.2 j v v' a b)⟩ : RL .no 0 M caps caps')
 have hlen := hc0.1
 let E : Env := ⟨P, 1 + caps.length + (fn.ntmps - (1 + caps.length)), l, caps, caps', xs, M, J, R⟩
 have hE : E.OK := ⟨hsz, hcap, hJ, hR, hMJ, hMR, hy⟩
 have hsize : (yv l :: caps').toArray.size = 1 + caps.length := by simp [hlen]; omega
 refine h E rfl rfl rfl hlen.symm rfl hE _ w ⟨?_, rfl, fun t => ?_, fun j v hj => ?_⟩ h0 _ ?_
 ·show ((yv l :: caps').toArray ++ Array.replicate (fn.ntmps - (yv l :: caps').toArray.size) undef).size = _
  rw [Array.size_append, Array.size_replicate, hsize]
 ·rw [Qr0 _ _ _ _ (by simp; omega)]
  simp only [Nat.zero_le, true_and, Nat.sub_zero, Nat.zero_add]
  split
  ·rename_i ht
   have ht : t < (VV.c (yv l) :: caps).length := ht
   have hrl : RL .no 0 M (.c (yv l) :: caps) (yv l :: caps') := .cons (.t (.c rfl)) hc0
   have e1 : (VV.c (yv l) :: caps)[t]? = some (VV.c (yv l) :: caps)[t] := List.getElem?_eq_getElem ht
   obtain ⟨v', e2, hr⟩ := hrl.get e1
   have ht' : t < (yv l :: caps').length := (List.getElem?_eq_some_iff.1 e2).1
   rw [List.getD_eq_getElem?_getD, e1, Array.getD_eq_getD_getElem?, Array.getElem?_append_left (by simpa using ht')]
   have : (yv l :: caps').toArray[t]? = some v' := by simpa using e2
   have this2 : (Value.func (Fn.yield l) #[] #[] :: caps').toArray[t]? = some v' := this
   rw [this2]
   exact hr
  ·exact .undef
 ·have ht' : j < (yv l :: caps').length := (List.getElem?_eq_some_iff.1 hj).1
  show ((yv l :: caps').toArray ++ Array.replicate _ undef).getD j undef = v
  rw [Array.getD_eq_getD_getElem?, Array.getElem?_append_left (by simpa using ht')]
  have : (yv l :: caps').toArray[j]? = some v := by simpa using hj
  rw [this]; rfl
 ·rintro e A' st' a' w' ⟨he, hst⟩ ha hk
  have hRw : R w' := by
   rcases hst with rfl | rfl
   ·exact hk
   ·exact hend _ hk
  have hr : (results fn a'.tmps).run P w' = .ok (if h : ([] : List Value).length = 1 then ([] : List Value)[0] else .tuple ([] : List Value).toArray) w' := Qo9 (by rw [hres]; rfl)
  have fin : bodyPost P fn (fun e w' => (∃ v, e = Ending.returned v) /\ R w') .normal a' w' := ⟨ha.adf, _, hr, ⟨_, rfl⟩, hRw⟩
  rcases he with rfl | rfl
  ·exact fin
  ·exact fin
end Go.Proofs.Ytjomicmhnbmhoaa.Vv
