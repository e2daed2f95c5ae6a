/- A calculus of calls over values that are trees. Part 20: functions that yield. -/
import Derived.Test.YtgicjogbpmpjeaaVv17
import Derived.Test.YtgicjogbpmpjeaaVv18
set_option linter.unusedVariables false
set_option linter.unusedSimpArgs false
namespace Go.Proofs.Ytgicjogbpmpjeaa.Vv
open Go Go.Proofs.Ytgicjogbpmpjeaa.Ev
open Go.RowKit (Below)

def yv (l : Nat) : Value := .func (.yield l) #[] #[]
/-- What a function that yields knows: it has no blocks of its own. St: how many have come; none: it was told to stop. -/
structure PA (sz l : Nat) (caps' : List Value) (A : Tr VV) (a : Act) (w : World) : Prop where
  asz : a.tmps.size = sz
  adf : a.defers = []
  tm : ∀ t : Nat, R .no 0 (allM w) (ev A (.tmp t)) (a.tmps.getD t undef)
  cp : ∀ (j : Nat) (v : Value), (yv l :: caps')[j]? = some v → a.tmps.getD j undef = v
/-- the caller's side. -/
structure Env where
  P : Program
  sz : Nat
  l : Nat
  caps : List VV
  caps' : List Value
  xs : List (List Value)
  J : Nat → World → Prop
  R : World → Prop
def Env.K (E : Env) : Option Nat → World → Prop
  | some i => E.J i
  | none => E.R
structure Env.OK (E : Env) : Prop where
  hsz : E.sz < 1000000
  hcap : ∀ i w, E.J i w → RL .no 0 (allM w) E.caps E.caps'
  hJ : ∀ i w w', E.J i w → Below w.heap.size w w' → E.J i w'
  hR : ∀ w w', E.R w → Below w.heap.size w w' → E.R w'
  hy : ∀ i x w, E.xs[i]? = some x → E.J i w → Yields E.P E.l x w fun b w' => match b with | true => E.J (i + 1) w' | false => E.R w'
theorem Env.OK.ext {E : Env} (h : E.OK) {st : Option Nat} {w w' : World} (k : E.K st w) (hb : Below w.heap.size w w') : E.K st w' := by
  cases st with
  | none => exact h.hR _ _ k hb
  | some i => exact h.hJ _ _ _ k hb
theorem allM_le {w w' : World} (hb : Below w.heap.size w w') : (allM w).Le (allM w') := fun b ob e => by
  have hlt : b < w.heap.size := (Array.getElem?_eq_some_iff.1 e).1
  show w'.heap[b]? = some ob
  rw [hb.block b hlt]; exact e
theorem PA.ext {sz l : Nat} {caps' : List Value} {A : Tr VV} {a : Act} {w w' : World} (h : PA sz l caps' A a w) (hb : Below w.heap.size w w') : PA sz l caps' A a w' :=
  ⟨h.asz, h.adf, fun t => (h.tm t).mono (.refl _) (allM_le hb) (Nat.le_refl _), h.cp⟩
def putA (A : Tr VV) (dst : Option Tmp) (v : VV) : Tr VV := match dst with
  | some d => A.set d v
  | none => A
abbrev SP := Tr VV → Option Nat → Prop
/-- operations. -/
def POps (E : Env) (ops : Array Oper) (l : List Oper) (A : Tr VV) (st : Option Nat) (Post : SP) : Prop :=
  ∀ a w, PA E.sz E.l E.caps' A a w → E.K st w → ∀ Q : Exit → Act → World → Prop, (∀ A' st' a' w', Post A' st' → PA E.sz E.l E.caps' A' a' w' → E.K st' w' → Q .normal a' w') → wpListIn (fen none) 0 E.P ops Q l a w
def PCode (E : Env) (c : Code) (A : Tr VV) (st : Option Nat) (Post : Exit → SP) : Prop :=
  ∀ a w, PA E.sz E.l E.caps' A a w → E.K st w → ∀ Q : Exit → Act → World → Prop, (∀ e A' st' a' w', Post e A' st' → PA E.sz E.l E.caps' A' a' w' → E.K st' w' → Q e a' w') → c.wpIn (fen none) 0 E.P Q a w
def PLoop (E : Env) (c : Code) (A : Tr VV) (st : Option Nat) (Post : Exit → SP) : Prop :=
  ∀ a w, PA E.sz E.l E.caps' A a w → E.K st w → ∀ Q : Exit → Act → World → Prop, (∀ e A' st' a' w', Post e A' st' → PA E.sz E.l E.caps' A' a' w' → E.K st' w' → Q e a' w') → LoopIn (fen none) 0 E.P c Q a w
section
variable {E : Env} {A : Tr VV} {st : Option Nat} {Post : Exit → SP} {c x y : Code}
theorem PCode.skip (h : Post .normal A st) : PCode E .skip A st Post := fun a w ha hk Q hQ => wpIn_skip (hQ _ _ _ _ _ h ha hk)
theorem PCode.exit {id : Nat} (h : Post (.exit id) A st) : PCode E (.exit id) A st Post := fun a w ha hk Q hQ => wpIn_exit (hQ _ _ _ _ _ h ha hk)
theorem PCode.ret (h : Post .ret A st) : PCode E .ret A st Post := fun a w ha hk Q hQ => wpIn_ret (hQ _ _ _ _ _ h ha hk)
theorem PCode.mono {Post' : Exit → SP} (h : PCode E c A st Post') (k : ∀ e A' st', Post' e A' st' → Post e A' st') : PCode E c A st Post := fun a w ha hk Q hQ =>
  h a w ha hk Q (fun e A' st' a' w' h1 h2 h3 => hQ e A' st' a' w' (k _ _ _ h1) h2 h3)
theorem PCode.seq (h : PCode E x A st (fun e A' st' => match e with | .normal => PCode E y A' st' Post | e => Post e A' st')) : PCode E (.seq x y) A st Post := fun a w ha hk Q hQ =>
  wpIn_seq (h a w ha hk _ (fun e A' st' a' w' h1 h2 h3 => by
    cases e with
    | normal => exact h1 a' w' h2 h3 Q hQ
    | _ => exact hQ _ _ _ _ _ h1 h2 h3))
theorem PCode.cond {cc : Operand} {b : Bool} (hc : ev A cc = .c (.bool b)) (h : PCode E (match b with | true => x | false => y) A st Post) : PCode E (.cond cc x y) A st Post := fun a w ha hk Q hQ => by
  have hv : a.eval cc = .bool b := by
    cases cc with
    | tmp t => have := ha.tm t; rw [hc] at this; exact this.c_inv.1
    | const v =>
      have := @ofV_rel 0 .no (allM w) v
      simp only [Vv.ev] at hc
      rw [hc] at this; exact this.c_inv.1
    | global g => cases hc
    | func g => cases hc
  cases b with
  | true => exact wpIn_cond_true hv (h a w ha hk Q hQ)
  | false => exact wpIn_cond_false hv (h a w ha hk Q hQ)
theorem PCode.block {id : Nat} (h : PCode E x A st (fun e A' st' => match e with | .exit id' => if id' = id then Post .normal A' st' else Post (.exit id') A' st' | e => Post e A' st')) : PCode E (.block id x) A st Post := fun a w ha hk Q hQ =>
  wpIn_block (h a w ha hk _ (fun e A' st' a' w' h1 h2 h3 => by
    cases e with
    | exit id' =>
      show (if id' = id then Q .normal a' w' else Q (.exit id') a' w')
      by_cases e : id' = id
      · rw [if_pos e]
        dsimp only at h1
        rw [if_pos e] at h1
        exact hQ _ _ _ _ _ h1 h2 h3
      · rw [if_neg e]
        dsimp only at h1
        rw [if_neg e] at h1
        exact hQ _ _ _ _ _ h1 h2 h3
    | _ => exact hQ _ _ _ _ _ h1 h2 h3))
theorem PCode.loop (h : PLoop E c A st Post) : PCode E (.loop c) A st Post := fun a w ha hk Q hQ => loopIn_wp (h a w ha hk Q hQ)
theorem PLoop.step (h : PCode E c A st (fun e A' st' => match e with | .normal => PLoop E c A' st' Post | e => Post e A' st')) : PLoop E c A st Post := fun a w ha hk Q hQ =>
  loopIn_step (h a w ha hk _ (fun e A' st' a' w' h1 h2 h3 => by
    cases e with
    | normal => exact h1 a' w' h2 h3 Q hQ
    | _ => exact hQ _ _ _ _ _ h1 h2 h3))
theorem PCode.region {id : Nat} {ops : Array Oper} (hok : okOps E.sz ops = true) (h : POps E ops ops.toList A st (fun A' st' => Post .normal A' st')) : PCode E (.region id ops false) A st Post := fun a w ha hk Q hQ =>
  wpIn_region_list (h a w ha hk Q (fun A' st' a' w' h1 h2 h3 => hQ _ _ _ _ _ h1 h2 h3))
theorem POps.nil {ops : Array Oper} {Post : SP} (h : Post A st) : POps E ops [] A st Post := fun a w ha hk Q hQ => hQ _ _ _ _ h ha hk
theorem PA.put {sz l : Nat} {caps' : List Value} {a : Act} {w : World} (h : PA sz l caps' A a w) (hsz : sz < 1000000) {dst : Option Tmp} (hd : ∀ d : Nat, dst = some d → d < sz ∧ caps'.length < d) {v : VV} {v' : Value} (hv : R .no 0 (allM w) v v') : PA sz l caps' (putA A dst v) (a.put dst v') w := by
  cases dst with
  | none => exact h
  | some d =>
    obtain ⟨h1, h2⟩ := hd d rfl
    refine ⟨by simp [Act.put, h.asz], h.adf, fun t => ?_, fun j u hj => ?_⟩
    · show R .no 0 (allM w) (Vv.ev (A.set d v) (.tmp t)) ((a.tmps.setIfInBounds d v').getD t undef)
      have h1' : (d : Nat) < sz := h1
      rw [ev_set (by omega), Array.getD_eq_getD_getElem?, Array.getElem?_setIfInBounds]
      by_cases e : t = d
      · subst e; rw [if_pos rfl, if_pos rfl, if_pos (by rw [h.asz]; exact h1)]; exact hv
      · rw [if_neg e, if_neg (fun x => e x.symm)]
        have := h.tm t
        rw [Array.getD_eq_getD_getElem?] at this
        exact this
    · show (a.tmps.setIfInBounds d v').getD j undef = u
      have hjl : j < caps'.length + 1 := by have := (List.getElem?_eq_some_iff.1 hj).1; simpa using this
      have h2' : caps'.length < (d : Nat) := h2
      rw [Array.getD_eq_getD_getElem?, Array.getElem?_setIfInBounds, if_neg (by omega), ← Array.getD_eq_getD_getElem?]
      exact h.cp j u hj
def okDst (o : Oper) (n : Nat) : Bool := match o.dst with
  | some d => Nat.blt n d
  | none => true
theorem okDst_ok {o : Oper} {n sz : Nat} (h : okDst o n = true) (hd : ∀ d : Nat, o.dst = some d → d < sz) : ∀ d : Nat, o.dst = some d → d < sz ∧ n < d := fun d e => by
  refine ⟨hd d e, ?_⟩
  unfold okDst at h
  rw [e] at h
  exact blt_lt h
/-- an operation that writes nothing that is there. -/
theorem POps.op (hE : E.OK) (hn : Named E.P) {ops : Array Oper} (hok : okOps E.sz ops = true) {o : Oper} {rest : List Oper} {Post : SP} {an : Ans} {v : VV} {q : Prop} (ho : o ∈ ops) (hd : okDst o E.caps'.length = true) (h : oneV E.P ops o an ⟨A, [], .nil⟩ = some (v, .no, q)) (hq : q)
    (k : POps E ops rest (putA A o.dst v) st Post) : POps E ops (o :: rest) A st Post := fun a w ha hk Q hQ => by
  obtain ⟨kk, hk1, hko⟩ := Array.mem_iff_getElem.1 ho
  have hok1 : ops[kk]? = some o := by rw [Array.getElem?_eq_getElem hk1, hko]
  obtain ⟨hsz, hdst, _⟩ := okOps_dst hok hok1
  have hdd := okDst_ok hd hdst
  refine one_quiet (gv := fun _ => undef) (base := 0) (o := .no) (mm := allM w) (s := ⟨A, [], .nil⟩) hn h hq rfl ⟨fun k oi blk e => (nomatch e), fun k oi e => (nomatch e), fun k k' oi oi' e => (nomatch e)⟩ (fun k blk e => by simp [gb, getL] at e) (allM_ok w) (Nat.zero_le _) (fun t _ => ha.tm t) (fun v' m' w' hQu => ?_)
  have hb : Below w.heap.size w w' := ⟨hQu.same.os, hQu.same.tape, hQu.same.output, hQu.size, hQu.keep⟩
  have hres := hQu.res
  dsimp only at hres
  exact k _ _ ((ha.ext hb).put hsz hdd (hres.mono (.refl _) hQu.mem (Nat.le_refl _))) (hE.ext hk hb) Q hQ
/-- less is known. -/
theorem PA.cut {sz l : Nat} {caps' : List Value} {a : Act} {w : World} (h : PA sz l caps' A a w) {ks : List (Nat × VV)} (hk : ks.all (fun p => Nat.blt p.1 1000000) = true) (he : ∀ p ∈ ks, ev A (.tmp p.1) = p.2) : PA sz l caps' (mkA ks) a w := by
  refine ⟨h.asz, h.adf, fun t => ?_, h.cp⟩
  induction ks with
  | nil => exact .undef
  | cons p ks ih =>
    obtain ⟨d, v⟩ := p
    simp only [List.all_cons, Bool.and_eq_true] at hk
    have hd := blt_lt hk.1
    show R .no 0 (allM w) (Vv.ev ((mkA ks).set d v) (.tmp t)) _
    rw [ev_set (by omega)]
    by_cases e : t = d
    · subst e; rw [if_pos rfl]
      have := he (t, v) (by simp)
      dsimp only at this
      rw [← this]; exact h.tm t
    · rw [if_neg e]; exact ih hk.2 (fun p hp => he p (by simp [hp]))
theorem PLoop.cut {ks : List (Nat × VV)} (hk : ks.all (fun p => Nat.blt p.1 1000000) = true) (he : ∀ p ∈ ks, ev A (.tmp p.1) = p.2) (h : PLoop E c (mkA ks) st Post) : PLoop E c A st Post := fun a w ha hkk Q hQ => h a w (ha.cut hk he) hkk Q hQ
theorem PCode.cut {ks : List (Nat × VV)} (hk : ks.all (fun p => Nat.blt p.1 1000000) = true) (he : ∀ p ∈ ks, ev A (.tmp p.1) = p.2) (h : PCode E c (mkA ks) st Post) : PCode E c A st Post := fun a w ha hkk Q hQ => h a w (ha.cut hk he) hkk Q hQ
/-- only what needs no memory. -/
def onlyC : VV → VV
  | .c v => .c v
  | .ag cs => bif cs.all VV.isC then .ag cs else .any
  | _ => .any
theorem isC_some {v : VV} (h : v.isC = true) : ∃ x, v = .c x := by cases v <;> first | exact ⟨_, rfl⟩ | cases h
theorem onlyC_ok {v : VV} {v' : Value} {m m' : MM} (h : R .no 0 m v v') : R .no 0 m' (onlyC v) v' := by
  cases v with
  | c v => obtain ⟨rfl, hg⟩ := h.c_inv; exact .t (.c hg)
  | ag cs =>
    show R .no 0 m' (bif cs.all VV.isC then .ag cs else .any) v'
    cases hc : cs.all VV.isC with
    | false => exact .undef
    | true =>
      have one : ∀ {u : VV} {u' : Value} {j : Nat}, cs[j]? = some u → R .no 0 m u u' → R .no 0 m' u u' := fun e hr => by
        obtain ⟨x, rfl⟩ := isC_some (List.all_eq_true.1 hc _ (List.mem_of_getElem? e))
        obtain ⟨rfl, hg⟩ := hr.c_inv
        exact .t (.c hg)
      cases h with
      | t h => cases h with
        | ag hs h => exact .ag hs (fun j u u' a b => one a (.t (h j u u' a b)))
      | ag hs h => exact .ag hs (fun j u u' a b => one a (h j u u' a b))
  | _ => exact .undef
/-- what is yielded is known by its value. -/
theorem enV_inv {o : OM} {fb : Nat} {m : MM} {z v' : Value} (h : R o fb m (enV z) v') : v' = z := by
  cases z with
  | agg cs =>
    have key : ∀ (cs' : Array Value), (cs.toList.map VV.c).length = cs'.size → (∀ (j : Nat) (v : VV) (v' : Value), (cs.toList.map VV.c)[j]? = some v → cs'[j]? = some v' → R o fb m v v') → Value.agg cs' = Value.agg cs := fun cs' hs hr => by
      have hs' : cs'.size = cs.size := by simpa using hs.symm
      congr 1
      refine Array.ext hs' (fun j h1 h2 => ?_)
      have := hr j (.c cs[j]) cs'[j] (by rw [List.getElem?_map, Array.getElem?_toList, Array.getElem?_eq_getElem h2]; rfl) (Array.getElem?_eq_getElem h1)
      exact this.c_inv.1
    cases h with
    | t h => cases h with
      | ag hs h => exact key _ hs (fun j u u' a b => .t (h j u u' a b))
    | ag hs h => exact key _ hs h
  | _ => exact h.c_inv.1
theorem ev_map (f : VV → VV) (hf : f .any = .any) (A : Tr VV) (t : Nat) : Vv.ev (trMap f A) (.tmp t) = f (Vv.ev A (.tmp t)) := by
  simp only [Vv.ev]
  rw [trMap_get]
  cases A.get t with
  | none => exact hf.symm
  | some v => rfl
theorem PA.still {sz l : Nat} {caps' : List Value} {a : Act} {w w' : World} (h : PA sz l caps' A a w) : PA sz l caps' (trMap onlyC A) a w' :=
  ⟨h.asz, h.adf, fun t => by rw [ev_map onlyC rfl]; exact onlyC_ok (h.tm t), h.cp⟩
theorem PA.again {sz l : Nat} {caps : List VV} {caps' : List Value} {a : Act} {w w' : World} (h : PA sz l caps' A a w) (hc : RL .no 0 (allM w') caps caps') (hlen : caps'.length < 1000000) : PA sz l caps' (argTr caps 1 (trMap onlyC A)) a w' := by
  refine ⟨h.asz, h.adf, fun t => ?_, h.cp⟩
  rw [argTr_ev _ _ _ _ (by have := hc.1; omega)]
  split
  · rename_i ht
    have hl : t - 1 < caps.length := by omega
    have e1 : caps[t - 1]? = some caps[t - 1] := List.getElem?_eq_getElem hl
    obtain ⟨v', e2, hr⟩ := hc.get e1
    rw [List.getD_eq_getElem?_getD, e1]
    have e3 : (yv l :: caps')[t]? = some v' := by
      rw [show t = (t - 1) + 1 by omega]; simpa using e2
    rw [h.cp t v' e3]; exact hr
  · rw [ev_map onlyC rfl]; exact onlyC_ok (h.tm t)
/-- yield. -/
theorem POps.yield (hE : E.OK) {ops : Array Oper} (hok : okOps E.sz ops = true) {o : Oper} {rest : List Oper} {Post : SP} {i : Nat} {t : Tmp} {args : Array Operand} {ts : Array TypeId} {x : List Value} (ho : o ∈ ops) (hd : okDst o E.caps'.length = true) (hlen : E.caps'.length < 1000000)
    (hop : o.op = .call { callee := .value (.tmp t), args := args, argTypes := ts }) (ht : ev A (.tmp t) = .c (yv E.l)) (hx : args.toList.map (ev A) = x.map enV) (hxs : E.xs[i]? = some x)
    (hg : (match o.guard with
      | none => true
      | some (j, want) => match getL j ops.toList with
        | some g => match g.dst with
          | some d => match ev A (.tmp d) with
            | .c (.bool b) => b == want
            | _ => false
          | none => false
        | none => false) = true)
    (k1 : POps E ops rest (putA (argTr E.caps 1 (trMap onlyC A)) o.dst (.c (.bool true))) (some (i + 1)) Post)
    (k2 : POps E ops rest (putA (trMap onlyC A) o.dst (.c (.bool false))) none Post) : POps E ops (o :: rest) A (some i) Post := fun a w ha hk Q hQ => by
  obtain ⟨kk, hk1, hko⟩ := Array.mem_iff_getElem.1 ho
  have hok1 : ops[kk]? = some o := by rw [Array.getElem?_eq_getElem hk1, hko]
  obtain ⟨hsz, hdst, _⟩ := okOps_dst hok hok1
  have hdd := okDst_ok hd hdst
  have hw : Region.wanted o (yielded ops a.tmps) = true := by
    split at hg
    · rename_i hgu; unfold Region.wanted; rw [hgu]
    · rename_i j want hgu
      split at hg
      case h_2 => cases hg
      rename_i g hj
      split at hg
      case h_2 => cases hg
      rename_i d hdg
      split at hg
      case h_2 => cases hg
      rename_i b hb
      have hbv : a.tmps.getD d undef = .bool b := by
        have := ha.tm d
        rw [hb] at this
        exact this.c_inv.1
      rw [wanted_of (ops := ops) hgu hj hdg hbv]; exact hg
  show (if Region.wanted o (yielded ops a.tmps) = true then _ else _)
  rw [hw, if_pos rfl]
  refine ⟨fun _ _ => trivial, ?_⟩
  have hsem : o.semAt none a.eval = execOp a.eval o := Oper.semAt_eq _ _ _ (fun c => by rw [hop]; intro e; cases e)
  show o.uponIn (fen none) 0 E.P a _ Q ((o.semAt none a.eval).run E.P w)
  rw [hsem]
  have hev : a.eval (.tmp t) = yv E.l := by
    have := ha.tm t
    rw [ht] at this
    exact this.c_inv.1
  have hval : ∀ (l : List Operand) (x : List Value), l.map (ev A) = x.map enV → l.map a.eval = x := by
    intro l
    induction l with
    | nil => intro x h; cases x with | nil => rfl | cons => cases h
    | cons y l ih =>
      intro x h
      cases x with
      | nil => cases h
      | cons z x =>
        simp only [List.map_cons, List.cons.injEq] at h ⊢
        refine ⟨?_, ih x h.2⟩
        cases y with
        | tmp t => have := ha.tm t; rw [h.1] at this; exact enV_inv this
        | const v =>
          have := @ofV_rel 0 .no (allM w) v
          have h1 := h.1
          simp only [Vv.ev] at h1
          rw [h1] at this; exact enV_inv this
        | global g =>
          have h1 := h.1
          exfalso
          cases z <;> cases h1
        | func g =>
          have h1 := h.1
          exfalso
          cases z <;> cases h1
  obtain ⟨r, hr, hlx, hround⟩ := hE.hy i x w hxs hk
  have hrun : (execOp a.eval o).run E.P w = .ok (.round E.l r.fn ((r.params.zip x.toArray).foldl (fun tmps (t, a) => tmps.setIfInBounds t a) r.tmps) r.assign r.body) w := by
    obtain ⟨dst, op, type, pos, after, guard⟩ := o
    dsimp only at hop
    subst hop
    show (resolve a.eval { callee := .value (.tmp t), args, argTypes := ts } type >>= fun d => invoke d.target d.args).run E.P w = _
    unfold resolve
    dsimp only
    rw [hev]
    show (Instr.yield E.l (#[] ++ args.map a.eval)).run E.P w = _
    have e : #[] ++ args.map a.eval = x.toArray := by
      apply Array.ext'
      have := hval args.toList x hx
      simpa using this
    rw [e]
    unfold Instr.yield
    rw [Sem.run_bind, getLoop_run hr]
    simp only [Result.andThen_ok]
    rw [if_neg (by simp [hlx])]
    rfl
  rw [hrun]
  refine ⟨fun h => by simp [fen, Fence.wide] at h, RoundIn.mono hround ?_⟩
  rintro e w' ⟨b, rfl, hb⟩
  cases b with
  | true =>
    have hc := hE.hcap _ _ hb
    exact k1 _ _ ((ha.again hc hlen).put hsz hdd (.t (.c rfl))) hb Q hQ
  | false => exact k2 _ _ ((PA.still (w' := w') ha).put hsz hdd (.t (.c rfl))) hb Q hQ
end
/-- the ranges over functions, in the text's order. -/
def ranges : Code → List Code
  | .seq a b => ranges a ++ ranges b
  | .cond _ a b => ranges a ++ ranges b
  | .block _ b => ranges b
  | .loop b => ranges b
  | .rangeFunc f ps a b => .rangeFunc f ps a b :: (ranges a ++ ranges b)
  | .scope b => ranges b
  | _ => []
def rangeAt (fn : Func) (k : Nat) : Code := match fn.body with
  | some c => (match getL k (ranges c) with
    | some b => b
    | none => .skip)
  | none => .skip
def rAssign (fn : Func) (k : Nat) : Code := match rangeAt fn k with
  | .rangeFunc _ _ a _ => a
  | _ => .skip
def rBody (fn : Func) (k : Nat) : Code := match rangeAt fn k with
  | .rangeFunc _ _ _ b => b
  | _ => .skip
/-- the states of a round do not depend on the loop's number. -/
def stOf (P : Program) (sz : Nat) (c : Code) (as : List An) (s : VS) : VS := match vCode (some 0) P sz c as s with
  | some (_, s1, _, _) => s1
  | none => s
theorem rd_all {P : Program} {sz : Nat} (hmx : P.follows .mixedOrders = true) (hn : Named P) {assign body : Code} {s sa s2 : VS} {ps : List Tmp} {x : List Value} {a1 a2 : List An} {c : Cut} {e : Exit} {q1 : Prop} {q2 : Nat → Prop} (h1 : ∀ l, vCode (some l) P sz assign a1 (s.enter ps x) = some (.normal, sa, q1, [])) (hq1 : q1)
    {s1 : VS} (h2 : ∀ l, vCode (some l) P sz body a2 sa = some (e, s1, q2 l, [])) (hq2 : ∀ l, q2 l) {p : Prop} (hc : cutS c s1 = some (s2, p)) (hp : p) : (∀ l, VRun (some l) P sz assign (s.enter ps x) .normal sa) ∧ ∀ l, VRun (some l) P sz body sa e s2 :=
  ⟨fun l => vCode_ok hmx hn _ _ _ _ _ _ _ (h1 l) hq1, fun l => .weakR (vCode_ok hmx hn _ _ _ _ _ _ _ (h2 l) (hq2 l)) (cutS_ok hc hp)⟩
/-- a contract of a function that yields, from its body. -/
theorem ItOK.intro {P : Program} {g : FuncId} {fn : Func} {c : Code} {caps : List VV} {xs : List (List Value)} (hf : P.funcs[g]? = some fn) (hb : fn.body = some c) (hres : fn.results = #[]) (hsz : 1 + caps.length + (fn.ntmps - (1 + caps.length)) < 1000000)
    (h : ∀ E : Env, E.P = P → E.sz = 1 + caps.length + (fn.ntmps - (1 + caps.length)) → E.caps = caps → E.caps'.length = caps.length → E.xs = xs → E.OK → PCode E c (argTr (.c (yv E.l) :: caps) 0 .nil) (some 0) (fun e _ st => (e = .normal ∨ e = .ret) ∧ (st = none ∨ st = some xs.length))) : ItOK P g caps xs := by
  refine ⟨⟨fn, c, hf, hb⟩, fun w caps' l J R hcap hJ hR h0 hy hend => ?_⟩
  refine callsIn_of_wp (F := fen none) hf hb trivial ?_ rfl
  have hc0 := hcap 0 w h0
  have hlen := hc0.1
  let E : Env := ⟨P, 1 + caps.length + (fn.ntmps - (1 + caps.length)), l, caps, caps', xs, J, R⟩
  have hE : E.OK := ⟨hsz, hcap, hJ, hR, hy⟩
  have hsize : (yv l :: caps').toArray.size = 1 + caps.length := by simp [hlen]; omega
  refine h E rfl rfl rfl hlen.symm rfl hE _ w ⟨?_, rfl, fun t => ?_, fun j v hj => ?_⟩ h0 _ ?_
  · show ((yv l :: caps').toArray ++ Array.replicate (fn.ntmps - (yv l :: caps').toArray.size) undef).size = _
    rw [Array.size_append, Array.size_replicate, hsize]
  · rw [argTr_ev _ _ _ _ (by simp; omega)]
    simp only [Nat.zero_le, true_and, Nat.sub_zero, Nat.zero_add]
    split
    · rename_i ht
      have ht : t < (VV.c (yv l) :: caps).length := ht
      have hrl : RL .no 0 (allM w) (.c (yv l) :: caps) (yv l :: caps') := .cons (.t (.c rfl)) hc0
      have e1 : (VV.c (yv l) :: caps)[t]? = some (VV.c (yv l) :: caps)[t] := List.getElem?_eq_getElem ht
      obtain ⟨v', e2, hr⟩ := hrl.get e1
      have ht' : t < (yv l :: caps').length := (List.getElem?_eq_some_iff.1 e2).1
      rw [List.getD_eq_getElem?_getD, e1, Array.getD_eq_getD_getElem?, Array.getElem?_append_left (by simpa using ht')]
      have : (yv l :: caps').toArray[t]? = some v' := by simpa using e2
      have this2 : (Value.func (Fn.yield l) #[] #[] :: caps').toArray[t]? = some v' := this
      rw [this2]
      exact hr
    · exact .undef
  · have ht' : j < (yv l :: caps').length := (List.getElem?_eq_some_iff.1 hj).1
    show ((yv l :: caps').toArray ++ Array.replicate _ undef).getD j undef = v
    rw [Array.getD_eq_getD_getElem?, Array.getElem?_append_left (by simpa using ht')]
    have : (yv l :: caps').toArray[j]? = some v := by simpa using hj
    rw [this]; rfl
  · rintro e A' st' a' w' ⟨he, hst⟩ ha hk
    have hRw : R w' := by
      rcases hst with rfl | rfl
      · exact hk
      · exact hend _ hk
    have hr : (results fn a'.tmps).run P w' = .ok (if h : ([] : List Value).length = 1 then ([] : List Value)[0] else .tuple ([] : List Value).toArray) w' := results_run (by rw [hres]; rfl)
    have fin : bodyPost P fn (fun e w' => (∃ v, e = Ending.returned v) ∧ R w') .normal a' w' := ⟨ha.adf, _, hr, ⟨_, rfl⟩, hRw⟩
    rcases he with rfl | rfl
    · exact fin
    · exact fin
end Go.Proofs.Ytgicjogbpmpjeaa.Vv
