import Derived.Test.YtfeedchjdnedjaaEv27
import Derived.TacticsIn
set_option linter.unusedVariables false
set_option linter.unusedSimpArgs false
namespace Go.Proofs.Ytfeedchjdnedjaa.Ev
open Go
def LoopIn (F : Fence) (n : Nat) (P : Program) (c : Code) (Q : Exit -> Act -> World -> Prop) (a : Act) (w : World) : Prop :=
 ∀ (b : Frame) (k : List Item) (cs : List Frame), b.roundOf = F.round -> F.fn b.fn -> F.room (cs.length + 1 + n) ->
   ∃ e a' w', Q e a' w' /\ ArrivesIn (Machine.fenced P F) P (lone (b.atR a (.code c :: .inLoop c :: k)) cs w) b k cs e a' w'
theorem Qmn {F : Fence} {n : Nat} {P : Program} {c : Code} {Q : Exit -> Act -> World -> Prop} {a : Act} {w : World} (h : LoopIn F n P c Q a w) : (Code.loop c).wpIn F n P Q a w := by
 intro b k cs hro hb hr
 obtain ⟨e, a', w', hq, harr⟩ := h b k cs hro hb hr
 exact ⟨e, a', w', hq, .of_steps (.one (fenced_calm hb hr rfl) stepR_loop) harr⟩
theorem Qea {F : Fence} {n : Nat} {P : Program} {c : Code} {Q : Exit -> Act -> World -> Prop} {a : Act} {w : World} (h : c.wpIn F n P (Exit.then (LoopIn F n P c Q) Q) a w) : LoopIn F n P c Q a w := by
 intro b k cs hro hb hr
 obtain ⟨e, a₁, w₁, hq, harr⟩ := h b (.inLoop c :: k) cs hro hb hr
 cases e with
 | normal =>
   obtain ⟨e₂, a₂, w₂, hq₂, harr₂⟩ := hq b k cs hro hb hr
   exact ⟨e₂, a₂, w₂, hq₂, .of_steps (StepsIn.trans harr (.one (fenced_calm hb hr rfl) stepR_inLoop)) harr₂⟩
 | exit id => exact ⟨_, a₁, w₁, hq, .pass (x := .inLoop c) rfl (fun _ _ => .inl (by simp)) harr⟩
 | goto l => exact ⟨_, a₁, w₁, hq, .pass (x := .inLoop c) rfl (fun _ _ => .inl (by simp)) harr⟩
 | ret => exact ⟨_, a₁, w₁, hq, .pass (x := .inLoop c) rfl (fun _ _ => .inl (by simp)) harr⟩
 | panic ch => exact ⟨_, a₁, w₁, hq, .pass (x := .inLoop c) rfl (fun _ _ => .inl (by simp)) harr⟩
 | outgrown => exact ⟨_, a₁, w₁, hq, .pass (x := .inLoop c) rfl (fun _ _ => .inl (by simp)) harr⟩
theorem Qjz (A : Tr Value) : ∀ (n : Nat) (acc : List Value) (i : Nat), (Qdq A n acc)[i]? = if i < n then some (Wh A (.tmp i)) else acc[i - n]?
 | 0, acc, i => by simp [Qdq]
 | n + 1, acc, i => by
   simp only [Qdq]
   rw [Qjz A n]
   by_cases c : i < n
   ·rw [if_pos c, if_pos (by omega)]
   ·rw [if_neg c]
    by_cases e : i = n
    ·subst e
     rw [if_pos (Nat.lt_succ_self _)]
     simp [Wh]
    ·rw [if_neg (by omega), show i - n = (i - (n + 1)) + 1 by omega]
     simp
theorem Qj0 (A : Tr Value) : ∀ (n : Nat) (acc : List Value), (Qdq A n acc).length = n + acc.length
 | 0, acc => by simp [Qdq]
 | n + 1, acc => by simp only [Qdq]; rw [Qj0 A n]; simp; omega
section
variable {P : Program} {O : Orc P} {base fl : Nat} {ρ : Ren}
theorem Qqy {sz : Nat} {A : Tr Value} {M : List Nat} {a : Act} (h : AR ρ sz A M a) : ARel ρ ⟨Qdq A sz []⟩ a.tmps := by
 refine ⟨by simp [Qj0, h.size], fun i v v' h1 h2 => ?_⟩
 have h1 : (Qdq A sz [])[i]? = some v := by simpa using h1
 rw [Qjz] at h1
 split at h1
 ·injection h1 with h1
  subst h1
  have := h.tmps i
  rw [Array.getD_eq_getD_getElem?, h2] at this
  exact this
 ·simp at h1
theorem Qmo {H : Tr Obj} {N : Nat} {wA w : World} (hR : Rep H N wA) (hr : WRel P base ρ wA w) (hf : fl <= N) (hN : N < 1000000000) {o o' : Obj} (ho : ∀ ρ' x, ρ.Le ρ' -> ORel P ρ' x o o') :
 ∃ ρ' wA', Rep (H.set N o) (N + 1) wA' /\ Stp P base fl ρ wA w ρ' wA' (w.alloc o') /\ ∃ x, ρ' N = some x /\ x.blk = w.heap.size := by
 have hs := WRel.new (P := P) (base := base) (fl := fl) (o := o) (o' := o') (x := ⟨w.heap.size, 0, 0, 0⟩) hr (by rw [hR.size]; exact hf) rfl
  (fun ha => ho _ _ (fun b y e => by
   have := (hr.dom b y e).1
   show (if b = wA.heap.size then _ else ρ b) = some y
   rw [if_neg (by omega)]; exact e))
 have hlt : Nat.blt N 1000000000 = true := by
  cases h : Nat.blt N 1000000000 with
  | true => rfl
  | false => exact absurd hN (Qg0 h)
 exact ⟨_, _, hR.upd (fl := fl) (u := .new o) hlt, hs, ⟨_, if_pos hR.size.symm, rfl⟩⟩
theorem Qn5 {w : World} {l : Nat} {r : Loop} (h : w.heap[l]? = some (.loop r)) (hs : r.state ≠ .busy) : (Instr.endLoop l).run P w = .ok r.pending { w with heap := w.heap.setIfInBounds l (.loop { r with state := .exhausted }) } := by
 unfold Instr.endLoop
 rw [Sem.run_bind, Qc0 h]
 simp only [Result.andThen_ok]
 have e : (r.state == LoopState.busy) = false := by
  cases hst : r.state <;> first | rfl | exact absurd hst hs
 rw [e]
 simp only [Bool.false_eq_true, if_false]
 rw [Sem.run_bind, Y3 h (fun _ _ _ h => by cases h)]
 rfl
theorem Qmp {sz : Nat} {A : Tr Value} {M : List Nat} {a : Act} (h : AR ρ sz A M a) {c : Operand} {b : Bool} (hc : Wh A c = .bool b) : a.eval c = .bool b := by
 cases c with
 | tmp t =>
   have := h.tmps t
   rw [hc] at this
   show a.tmps.getD t undef = _
   generalize a.tmps.getD t undef = y at this
   cases this
   rfl
 | const v => exact hc
 | global g => cases hc
 | func f => cases hc
theorem Qn6 {code : Qa8} (hc : Qet P base code) (hn : Named P) {ops : Array Oper} {sz : Nat} (hok : Qhr sz ops = true) {rd : Option Nat} {Q : Exit -> Act -> World -> Prop} :
 ∀ (l : List Oper) (s s' : St), (∀ o ∈ l, o ∈ ops) -> fOps O code fl ops l s = some s' -> ∀ (ρ : Ren) (wA w : World) (a : Act), Rep s.H s.N wA -> WRel P base ρ wA w -> fl <= s.N -> AR ρ sz s.A s.M a ->
   (∀ ρ' wA' w' a', Rep s'.H s'.N wA' -> Stp P base fl ρ wA w ρ' wA' w' -> AR ρ' sz s'.A s'.M a' -> Q .normal a' w') -> wpListIn (fen rd) 0 P ops Q l a w
 | [], s, s', hl, h, ρ, wA, w, a, hR, hr, hf, hA, hQ => by
   simp only [fOps, Option.some.injEq] at h
   subst h
   exact hQ ρ wA w a hR (.refl hr) hA
 | o :: rest, s, s', hl, h, ρ, wA, w, a, hR, hr, hf, hA, hQ => by
   obtain ⟨k, hk, hko⟩ := Array.mem_iff_getElem.1 (hl o (by simp))
   have hok1 : ops[k]? = some o := by rw [Array.getElem?_eq_getElem hk, hko]
   obtain ⟨hsz, hdst, hopd⟩ := Qa1 hok hok1
   have hwant : Region.wanted o (yielded ops a.tmps) = Qa7 ops s.A o := Qiq (fun t _ => hA.tmps t)
   have hl' : ∀ o ∈ rest, o ∈ ops := fun o ho => hl o (by simp [ho])
   simp only [fOps] at h
   show (if Region.wanted o (yielded ops a.tmps) = true then _ else _)
   rw [hwant]
   cases hw : Qa7 ops s.A o with
   | false =>
     rw [hw] at h
     rw [if_neg (by simp)]
     exact ⟨fun _ _ => trivial, Qn6 hc hn hok rest _ s' hl' h ρ wA w _ hR hr hf (hA.put hdst hsz ARel.undef) hQ⟩
   | true =>
     rw [hw] at h
     rw [if_pos rfl]
     simp only [cond_true] at h
     split at h
     case h_2 => cases h
     rename_i v H N hop
     refine Qxg hc hn hop hR hr hf (fun x hx => hA.eval (hopd x hx)) (rd := rd) ?_
     intro ρ2 v' wA2 w2 hR2 hst2 hv2
     have hsA := hst2.sizeA
     rw [hR2.size, hR.size] at hsA
     refine Qn6 hc hn hok rest _ s' hl' h ρ2 wA2 w2 _ hR2 hst2.rel (Nat.le_trans hf hsA) ((hA.mono hst2.le).put hdst hsz hv2) ?_
     intro ρ3 wA3 w3 a3 hR3 hst3 hA3
     exact hQ ρ3 wA3 w3 a3 hR3 (hst2.trans hst3) hA3
theorem Qxh {n : Nat} (ih : ∀ k, k <= n -> Qet P base (Yp O k)) {body : Code} : ∀ k, k <= n -> ∀ fl rd rd' sz s e s', Yp O (k + 1) fl rd sz (.loop body) s = some (e, s') -> ∀ ρ wA w a, Rep s.H s.N wA -> WRel P base ρ wA w -> fl <= s.N -> AR ρ sz s.A s.M a -> Qmq ρ rd rd' -> ∀ Q : Exit -> Act -> World -> Prop,
 (∀ ρ' wA' w' a', Rep s'.H s'.N wA' -> Stp P base fl ρ wA w ρ' wA' w' -> AR ρ' sz s'.A s'.M a' -> Q e a' w') -> LoopIn (fen rd') 0 P body Q a w := by
 intro k
 induction k with
 | zero =>
   intro _ fl rd rd' sz s e s' h
   simp [Yp] at h
 | succ k ihk =>
   intro hk fl rd rd' sz s e s' h ρ wA w a hR hr hf hA hrd Q hQ
   rw [Yp] at h
   split at h
   ·rename_i s1 hs1
    refine Qea (ih (k + 1) hk _ _ _ _ _ _ _ _ hs1 ρ wA w a hR hr hf hA hrd _ ?_)
    intro ρ1 wA1 w1 a1 hR1 hst1 hA1
    have hsA := hst1.sizeA
    rw [hR1.size, hR.size] at hsA
    refine ihk (by omega) _ _ _ _ _ _ _ h ρ1 wA1 w1 a1 hR1 hst1.rel (Nat.le_trans hf hsA) hA1 (hrd.mono hst1.le) Q ?_
    intro ρ2 wA2 w2 a2 hR2 hst2 hA2
    exact hQ ρ2 wA2 w2 a2 hR2 (hst1.trans hst2) hA2
   ·rename_i hno
    refine Qea (ih (k + 1) hk _ _ _ _ _ _ _ _ h ρ wA w a hR hr hf hA hrd _ ?_)
    intro ρ1 wA1 w1 a1 hR1 hst1 hA1
    have hq := hQ ρ1 wA1 w1 a1 hR1 hst1 hA1
    cases e with
    | normal => exact absurd h (hno s')
    | _ => exact hq
theorem Quy {code : Qa8} (hc : Qet P base code) (hn : Named P) {sz : Nat} {rd rd' : Option Nat} {g : FuncId} {first captured : Array Value} {s : St} {f : Operand} {params : Array Tmp} {assign body : Code} {e : Exit} {s' : St}
 {d : Nat} {M : List Nat} {H1 : Tr Obj} {N1 : Nat} (hf0 : Qep f = true) (hfe : Wh s.A f = .func (.func g) first captured)
 (hdr : (match rd with
  | none => bif Nat.blt s.N 1000000000 then some (s.N, s.N :: s.M, s.H.set s.N (.deferred (some [])), s.N + 1) else none
  | some l => match Qat s.H s.N l with
    | some (.loop r) => some (r.defers, s.M, s.H, s.N)
    | _ => none) = some (d, M, H1, N1))
 (hN1 : N1 < 1000000000) {v : Value} {H2 : Tr Obj} {N2 : Nat}
 (hcall : Qih O code fl g (first.toList ++ [.func (.yield N1) #[] #[]] ++ captured.toList) (H1.set N1 (.loop { state := .ready, pending := none, fn := 0, tmps := ⟨Qdq s.A sz []⟩, params, assign, body, defers := d })) (N1 + 1) = some (v, H2, N2))
 {r2 : Loop} (hr2 : Qat H2 N2 N1 = some (.loop r2)) (hbusy : r2.state ≠ .busy)
 (hfin : (match r2.pending with
  | none => some (Exit.normal, (⟨s.A, M, H2.set N1 (.loop { r2 with state := .exhausted }), N2⟩ : St))
  | some c => code fl rd sz c ⟨s.A, M, H2.set N1 (.loop { r2 with state := .exhausted }), N2⟩) = some (e, s'))
 {ρ : Ren} {wA w : World} {a : Act} (hR : Rep s.H s.N wA) (hr : WRel P base ρ wA w) (hf : fl <= s.N) (hA : AR ρ sz s.A s.M a) (hrd : Qmq ρ rd rd') {Q : Exit -> Act -> World -> Prop}
 (hQ : ∀ ρ' wA' w' a', Rep s'.H s'.N wA' -> Stp P base fl ρ wA w ρ' wA' w' -> AR ρ' sz s'.A s'.M a' -> Q e a' w') : (Code.rangeFunc f params assign body).wpIn (fen rd') 0 P Q a w := by
 have hev := hA.eval hf0
 rw [hfe] at hev
 generalize hfv : a.eval f = fv at hev
 cases hev with
 | @func _ _ first' _ captured' hy e1 r1 e2 r2' =>
 have hpre : ∃ ρ1 wA1 w1 mark y, Rep H1 N1 wA1 /\ Stp P base fl ρ wA w ρ1 wA1 w1 /\ ρ1 d = some y /\ MRel ρ1 M (mark ++ a.defers) /\ ∀ fn, (Instr.enterLoop fn a.tmps params assign body rd').run P w =
  (Go.newObj (.loop { state := .ready, pending := none, fn, tmps := a.tmps, params, assign, body, defers := y.blk }) >>= fun l => Pure.pure (l, mark)).run P w1 := by
  cases hrd with
  | none =>
    dsimp only at hdr
    have hb0 := Qe hdr; clear hdr; obtain ⟨hlt, hdr⟩ := hb0
    simp only [Option.some.injEq, Prod.mk.injEq] at hdr
    obtain ⟨rfl, rfl, rfl, rfl⟩ := hdr
    obtain ⟨ρ1, wA1, g1, g2, y, g3, g4⟩ := Qmo (o := .deferred (some [])) (o' := .deferred (some [])) hR hr hf (Z4 hlt) (fun _ _ _ => .deferred)
    refine ⟨ρ1, wA1, _, [{ target := .collected w.heap.size, args := #[] }], y, g1, g2, g3, ?_, fun fn => ?_⟩
    ·rw [<- g4]
     exact .cons g3 (hA.defs.mono g2.le)
    ·rw [g4]
     unfold Instr.enterLoop
     rw [Sem.run_bind]
     dsimp only
     rw [Sem.run_bind, run_newObj_alloc]
     rfl
  | @some l x hx =>
    dsimp only at hdr
    split at hdr
    case h_2 => cases hdr
    rename_i r hmem
    simp only [Option.some.injEq, Prod.mk.injEq] at hdr
    obtain ⟨rfl, rfl, rfl, rfl⟩ := hdr
    obtain ⟨r', hA', hw, _, _, _, _, _, _, y, hy', hd⟩ := Qir hmem hR hr hx
    refine ⟨ρ, wA, w, [], y, hR, .refl hr, hy', by simpa using hA.defs, fun fn => ?_⟩
    unfold Instr.enterLoop
    rw [Sem.run_bind]
    dsimp only
    rw [Sem.run_bind, Qc0 hw]
    rw [<- hd]
    rfl
 obtain ⟨ρ1, wA1, w1, mark, y, hR1, hst1, hy1, hM1, hent⟩ := hpre
 have hsA1 := hst1.sizeA
 rw [hR1.size, hR.size] at hsA1
 refine wpIn_rangeFunc (fun fn _ => ?_)
 obtain ⟨ρ2, wA2, hR2, hst2, x, hx, hxb⟩ := Qmo (fl := fl) (o := .loop { state := .ready, pending := none, fn := 0, tmps := ⟨Qdq s.A sz []⟩, params, assign, body, defers := d })
  (o' := .loop { state := .ready, pending := none, fn, tmps := a.tmps, params, assign, body, defers := y.blk }) hR1 hst1.rel (Nat.le_trans hf hsA1) hN1
  (fun ρ' x hle => .loop ((Qqy hA).mono (hst1.le.trans hle)) (hle _ _ hy1))
 obtain ⟨gn, gc, hgn, hbody⟩ := Qj1 hcall
 generalize hW : w1.alloc (.loop { state := .ready, pending := none, fn, tmps := a.tmps, params, assign, body, defers := y.blk }) = W at hst2
 refine ⟨w1.heap.size, mark, W, { target := .fn (.func g) captured', args := first' ++ #[Value.func (.yield w1.heap.size) #[] #[]] }, W, g, (first'.toList ++ [Value.func (.yield w1.heap.size) #[] #[]] ++ captured'.toList).toArray, W, ?_, ?_, fun _ _ => trivial, ?_, fun h => by simp [fen, Fence.wide] at h, ?_⟩
 ·show (Instr.enterLoop fn a.tmps params assign body rd').run P w = _
  rw [hent fn, Sem.run_bind, run_newObj_alloc, hW]
  rfl
 ·unfold resolve
  dsimp only
  rw [hfv]
  have e : Array.map a.eval #[Operand.const (Value.func (.yield w1.heap.size) #[] #[])] = #[Value.func (.yield w1.heap.size) #[] #[]] := by
   simp only [List.map_toArray, List.map_cons, List.map_nil]
   rfl
  rw [e]
  rfl
 ·show (callFunc g ((first' ++ #[Value.func (.yield w1.heap.size) #[] #[]]) ++ captured')).run P _ = _
  rw [Qdd hn hgn hbody]
  congr 2
  apply Array.ext'; simp
 ·show CallsIn (fen none) 0 P g _ _ _
  have hle2 := hst1.le.trans hst2.le
  have hyl : VRel ρ2 (.func (.yield N1) #[] #[]) (.func (.yield w1.heap.size) #[] #[]) := by
   rw [<- hxb]; exact .yield hx
  have hall : LRel ρ2 (first.toList ++ [.func (.yield N1) #[] #[]] ++ captured.toList) (first'.toList ++ [.func (.yield w1.heap.size) #[] #[]] ++ captured'.toList) :=
   ((LRel.mono hle2 (ARel.list ⟨e1, r1⟩)).app (.cons hyl .nil)).app (LRel.mono hle2 (ARel.list ⟨e2, r2'⟩))
  refine Qn4 hc hcall hR2 hst2.rel (by omega) hall ?_
  intro ρ3 v3 wA3 w3 hR3 hst3 hv3
  have hx3 : ρ3 N1 = some x := hst3.le _ _ hx
  obtain ⟨r3, hA3, hw3, es, ep, epa, eas, ebo, ht, y3, hy3, hd3⟩ := Qir hr2 hR3 hst3.rel hx3
  obtain ⟨wA4, hR4, hset, hst4⟩ := Qk4 (fl := fl) hR3 hst3.rel hx3 (Nat.le_trans hf hsA1) hA3 hw3 { r2 with state := .exhausted } { r3 with state := .exhausted } rfl ep epa eas ebo ht hy3 hd3
  have all := hst1.trans (hst2.trans (hst3.trans hst4))
  have hend := Qn5 (P := P) hw3 (by rw [es]; exact hbusy)
  rw [hxb] at hend
  generalize hW4 : ({ w3 with heap := w3.heap.setIfInBounds x.blk (.loop { r3 with state := .exhausted }) } : World) = W4 at all hst4 hR4
  rw [<- hxb, hW4, hxb] at hend
  have hAR : AR ρ3 sz s.A M { a with defers := mark ++ a.defers } := ⟨hA.size, fun t => (hA.tmps t).mono all.le, hM1.mono (hst2.le.trans hst3.le)⟩
  refine ⟨r3.pending, W4, hend, ?_⟩
  ·rw [ep]
   cases hp : r2.pending with
   | none =>
     rw [hp] at hfin hR4
     simp only [Option.some.injEq, Prod.mk.injEq] at hfin
     obtain ⟨rfl, rfl⟩ := hfin
     exact hQ ρ3 wA4 _ _ hR4 all hAR
   | some c =>
     rw [hp] at hfin hR4
     dsimp only at hfin ⊢
     have hsA4 := all.sizeA
     rw [hR4.size, hR.size] at hsA4
     refine hc _ _ _ _ _ _ _ _ hfin ρ3 wA4 _ _ hR4 hst4.rel (Nat.le_trans hf hsA4) hAR (hrd.mono all.le) Q ?_
     intro ρ5 wA5 w5 a5 hR5 hst5 hA5
     exact hQ ρ5 wA5 w5 a5 hR5 (all.trans hst5) hA5
theorem Qis {ms : List Nat} : ∀ (k m : Nat), k <= m -> Qh0 ms k m <= m
 | 0, m, _ => Nat.le_refl _
 | k + 1, m, h => by
   simp only [Qh0]
   cases Nat.beq (maskAt ms k) (2 ^ k - 1) with
   | true => exact Nat.le_trans (Qis k k (Nat.le_refl _)) (by omega)
   | false => exact Nat.le_refl _
theorem Qmr {ops : Array Oper} {m : Nat} (h : Qii ops = some m) : m <= ops.size := by
 unfold Qii at h
 dsimp only at h
 have hb0 := Qe h; clear h; obtain ⟨_, h⟩ := hb0
 injection h with h
 rw [<- h, <- Array.length_toList]
 exact Qis _ _ (Nat.le_refl _)
theorem Qxf (hm : P.follows .mixedOrders = true) (hn : Named P) : ∀ n, Qet P base (Yp O n) := by
 intro n
 induction n using Nat.strongRecOn with
 | _ n ih =>
 cases n with
 | zero => intro fl rd rd' sz c s e s' h; simp [Yp] at h
 | succ n =>
   have hc := ih n (Nat.lt_succ_self _)
   intro fl rd rd' sz c s e s' h ρ wA w a hR hr hf hA hrd Q hQ
   cases c with
   | skip =>
     simp only [Yp, Option.some.injEq, Prod.mk.injEq] at h; obtain ⟨rfl, rfl⟩ := h
     exact wpIn_skip (hQ ρ wA w a hR (.refl hr) hA)
   | label l =>
     simp only [Yp, Option.some.injEq, Prod.mk.injEq] at h; obtain ⟨rfl, rfl⟩ := h
     exact wpIn_label (hQ ρ wA w a hR (.refl hr) hA)
   | exit id =>
     simp only [Yp, Option.some.injEq, Prod.mk.injEq] at h; obtain ⟨rfl, rfl⟩ := h
     exact wpIn_exit (hQ ρ wA w a hR (.refl hr) hA)
   | ret =>
     simp only [Yp, Option.some.injEq, Prod.mk.injEq] at h; obtain ⟨rfl, rfl⟩ := h
     exact wpIn_ret (hQ ρ wA w a hR (.refl hr) hA)
   | goto l => simp [Yp] at h
   | scope b => simp [Yp] at h
   | refuse w => simp [Yp] at h
   | region id ops draw =>
     simp only [Yp] at h
     have hb0 := Qe h; clear h; obtain ⟨hok, h⟩ := hb0
     cases draw with
     | false =>
       dsimp only at h
       split at h
       ·rename_i s1 hs
        simp only [Option.some.injEq, Prod.mk.injEq] at h; obtain ⟨rfl, rfl⟩ := h
        exact wpIn_region_list (Qn6 hc hn hok ops.toList s s1 (fun o ho => by simpa using ho) hs ρ wA w a hR hr hf hA hQ)
       ·cases h
     | true =>
       dsimp only at h
       split at h
       case h_2 => cases h
       rename_i m hdraw
       have hb0 := Qe h; clear h; obtain ⟨hbs, h⟩ := hb0
       split at h
       case h_2 => cases h
       rename_i s1 hs
       simp only [Option.some.injEq, Prod.mk.injEq] at h; obtain ⟨rfl, rfl⟩ := h
       obtain ⟨st, val, e0, e1, tr⟩ := Qpe _ _ _ _ hs
       have hlen : ops.toList.length = ops.size := Array.length_toList
       rw [hlen] at e1
       subst e0
       have T : Tra O (Yp O n) fl m (masks ops.toList []) (bif Qkx m 0 ops.toList then Qdr O (Yp O n) fl m ops 0 ops.toList (st 0) else []) ops sz st val :=
        ⟨Qit hdraw, hok, fun i o ho => by
         have := tr i o (by rw [J7]; exact ho)
         rw [Nat.zero_add] at this
         exact this, Qpf n, hf, hR.small⟩
       have hms : m <= ops.size := Qmr hdraw
       subst e1
       exact Qxi hm T hms hc hn hA hR hr hQ
   | seq x y =>
     simp only [Yp] at h
     split at h
     ·rename_i s1 hs1
      refine wpIn_seq (hc _ _ _ _ _ _ _ _ hs1 ρ wA w a hR hr hf hA hrd _ ?_)
      intro ρ1 wA1 w1 a1 hR1 hst1 hA1
      have hsA := hst1.sizeA
      rw [hR1.size, hR.size] at hsA
      refine hc _ _ _ _ _ _ _ _ h ρ1 wA1 w1 a1 hR1 hst1.rel (Nat.le_trans hf hsA) hA1 (hrd.mono hst1.le) Q ?_
      intro ρ2 wA2 w2 a2 hR2 hst2 hA2
      exact hQ ρ2 wA2 w2 a2 hR2 (hst1.trans hst2) hA2
     ·rename_i hno
      refine wpIn_seq (hc _ _ _ _ _ _ _ _ h ρ wA w a hR hr hf hA hrd _ ?_)
      intro ρ1 wA1 w1 a1 hR1 hst1 hA1
      have hq := hQ ρ1 wA1 w1 a1 hR1 hst1 hA1
      cases e with
      | normal => exact absurd h (hno s')
      | _ => exact hq
   | cond c x y =>
     simp only [Yp] at h
     split at h
     ·rename_i hcv
      exact wpIn_cond_true (Qmp hA hcv) (hc _ _ _ _ _ _ _ _ h ρ wA w a hR hr hf hA hrd Q hQ)
     ·rename_i hcv
      exact wpIn_cond_false (Qmp hA hcv) (hc _ _ _ _ _ _ _ _ h ρ wA w a hR hr hf hA hrd Q hQ)
     ·cases h
   | block id b =>
     simp only [Yp] at h
     split at h
     ·rename_i id' s1 hs1
      refine wpIn_block (hc _ _ _ _ _ _ _ _ hs1 ρ wA w a hR hr hf hA hrd _ ?_)
      intro ρ1 wA1 w1 a1 hR1 hst1 hA1
      show (if id' = id then Q .normal a1 w1 else Q (.exit id') a1 w1)
      cases hb : Nat.beq id' id with
      | true =>
        rw [hb] at h; simp only [cond_true, Option.some.injEq, Prod.mk.injEq] at h; obtain ⟨rfl, rfl⟩ := h
        rw [if_pos (Nat.eq_of_beq_eq_true hb)]
        exact hQ ρ1 wA1 w1 a1 hR1 hst1 hA1
      | false =>
        rw [hb] at h; simp only [cond_false, Option.some.injEq, Prod.mk.injEq] at h; obtain ⟨rfl, rfl⟩ := h
        rw [if_neg (Nat.ne_of_beq_eq_false hb)]
        exact hQ ρ1 wA1 w1 a1 hR1 hst1 hA1
     ·rename_i hno
      refine wpIn_block (hc _ _ _ _ _ _ _ _ h ρ wA w a hR hr hf hA hrd _ ?_)
      intro ρ1 wA1 w1 a1 hR1 hst1 hA1
      have hq := hQ ρ1 wA1 w1 a1 hR1 hst1 hA1
      cases e with
      | exit id' => exact absurd h (hno id' s')
      | _ => exact hq
   | loop b =>
     exact Qmn (Qxh (fun k hk => ih k (by omega)) n (Nat.le_refl _) _ _ _ _ _ _ _ h ρ wA w a hR hr hf hA hrd Q hQ)
   | rangeFunc f params assign body =>
     simp only [Yp] at h
     have hb1 := Qe h; clear h; obtain ⟨hokf, h⟩ := hb1
     split at h
     case h_2 => cases h
     rename_i g first captured hfe
     split at h
     case h_2 => cases h
     rename_i d M H1 N1 hdr
     have hb0 := Qe h; clear h; obtain ⟨hN1, h⟩ := hb0
     split at h
     case h_2 => cases h
     rename_i v2 H2 N2 hcall
     split at h
     case h_2 => cases h
     rename_i r2 hr2
     have hbusy : r2.state ≠ .busy := fun e => by rw [e] at h; cases h
     refine Quy hc hn hokf hfe hdr (Z4 hN1) hcall hr2 hbusy ?_ hR hr hf hA hrd hQ
     cases hst : r2.state with
     | busy => exact absurd hst hbusy
     | ready => rw [hst] at h; exact h
     | done => rw [hst] at h; exact h
     | exhausted => rw [hst] at h; exact h
end
end Go.Proofs.Ytfeedchjdnedjaa.Ev
