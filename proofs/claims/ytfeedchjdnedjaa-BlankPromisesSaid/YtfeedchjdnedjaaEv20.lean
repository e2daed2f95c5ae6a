import Derived.Test.YtfeedchjdnedjaaEv19
set_option linter.unusedVariables false
set_option linter.unusedSimpArgs false
namespace Go.Proofs.Ytfeedchjdnedjaa.Ev
open Go
section
variable {P : Program} {O : Orc P} {base fl : Nat} {ρ : Ren}
theorem Qwg {sz : Nat} {M : List Nat} (hsz : sz < 1000000) : ∀ (ps : List Nat) (vs vs' : List Value) (A A' : Tr Value) (a : Act), Qnw ps vs A = some A' -> LRel ρ vs vs' -> (ps.all fun p => Nat.blt p sz) = true -> AR ρ sz A M a ->
 AR ρ sz A' M { a with tmps := (ps.zip vs').foldl (fun tmps p => tmps.setIfInBounds p.1 p.2) a.tmps } /\ ps.length = vs'.length
 | [], vs, vs', A, A', a, h, hv, hp, ha => by
   cases vs with
   | nil =>
     cases hv
     simp only [Qnw, Option.some.injEq] at h
     subst h
     exact ⟨ha, rfl⟩
   | cons v vs => simp [Qnw] at h
 | p :: ps, vs, vs', A, A', a, h, hv, hp, ha => by
   cases hv with
   | nil => simp [Qnw] at h
   | @cons v v' vs vs' hv hs =>
     simp only [Qnw] at h
     simp only [List.all_cons, Bool.and_eq_true] at hp
     have h1 := AR.put ha (dst := some p) (fun d hd => by injection hd with hd; subst hd; exact Z4 hp.1) hsz hv
     obtain ⟨h2, h3⟩ := Qwg hsz ps vs vs' (A.set p v) A' _ h hs hp.2 h1
     exact ⟨h2, by simp [h3]⟩
theorem AR.list {ts ts' : Array Value} (h : ARel ρ ts ts') (hs : ts.size < 1000000) : AR ρ ts.size (Qig ts.toList 0 .nil) [] { tmps := ts', defers := [] } := by
 have := AR.start (ρ := ρ) h.list 0 (by simpa using hs)
 simpa using this
theorem Qir {H : Tr Obj} {N l : Nat} {r : Loop} {wA w : World} {x : Img} (h : Qat H N l = some (.loop r)) (hR : Rep H N wA) (hr : WRel P base ρ wA w) (hx : ρ l = some x) :
 ∃ r' : Loop, wA.heap[l]? = some (.loop r) /\ w.heap[x.blk]? = some (.loop r') /\ r'.state = r.state /\ r'.pending = r.pending /\ r'.params = r.params /\ r'.assign = r.assign /\ r'.body = r.body /\ ARel ρ r.tmps r'.tmps /\
   ∃ y, ρ r.defers = some y /\ r'.defers = y.blk := by
 have hA : wA.heap[l]? = some (.loop r) := by rw [hR.at_]; exact h
 obtain ⟨o', h1, h2⟩ := hr.obj l _ x hA rfl hx
 obtain ⟨st, pe, fn, ts, ps, as, bo, d⟩ := r
 cases h2 with
 | loop ht hd => exact ⟨_, hA, h1, rfl, rfl, rfl, rfl, rfl, ht, _, hd, rfl⟩
theorem Qk4 {H : Tr Obj} {N l : Nat} {r : Loop} {wA w : World} {x : Img} (hR : Rep H N wA) (hr : WRel P base ρ wA w) (hx : ρ l = some x) (hf : fl <= l) {r' : Loop} (hA : wA.heap[l]? = some (.loop r)) (hw : w.heap[x.blk]? = some (.loop r'))
 (r1 r1' : Loop) (e1 : r1'.state = r1.state) (e2 : r1'.pending = r1.pending) (e3 : r1'.params = r1.params) (e4 : r1'.assign = r1.assign) (e5 : r1'.body = r1.body) (e6 : ARel ρ r1.tmps r1'.tmps) {y : Img} (e7 : ρ r1.defers = some y) (e8 : r1'.defers = y.blk) :
 ∃ wA', Rep (H.set l (.loop r1)) N wA' /\ (Go.setObj x.blk (.loop r1')).run P w = .ok () { w with heap := w.heap.setIfInBounds x.blk (.loop r1') } /\
   Stp P base fl ρ wA w ρ wA' { w with heap := w.heap.setIfInBounds x.blk (.loop r1') } := by
 have hl : l < N := by
  have := (Array.getElem?_eq_some_iff.1 hA).1
  rw [hR.size] at this; exact this
 refine ⟨World.upd wA (.put l (.loop r1)), hR.upd (fl := fl) (u := .put l (.loop r1)) (by simp only [Qia, Bool.and_eq_true]; exact ⟨Nat.ble_eq_true_of_le hl, Nat.ble_eq_true_of_le hf⟩), Y3 hw (fun _ _ _ h => by cases h), ?_⟩
 refine Stp.put hr hf hx hA rfl (heap_set _ hA) (heap_set _ hw) (by simp [World.upd]) (by simp) rfl rfl rfl ?_
 obtain ⟨st, pe, fn, ts, ps, as, bo, d⟩ := r1
 obtain ⟨st', pe', fn', ts', ps', as', bo', d'⟩ := r1'
 dsimp only at e1 e2 e3 e4 e5 e6 e7 e8
 subst e1; subst e2; subst e3; subst e4; subst e5; subst e8
 exact .loop e6 e7
theorem Qc0 {w : World} {l : Nat} {r : Loop} (h : w.heap[l]? = some (.loop r)) : (Instr.getLoop l).run P w = .ok r w := by
 unfold Instr.getLoop
 rw [Sem.run_bind, J5 h (fun _ _ _ h => by cases h)]; rfl
theorem Qjp {w : World} {l : Nat} {r : Loop} (h : w.heap[l]? = some (.loop r)) (hs : r.state = .ready) : (Instr.beginRound l).run P w = .ok () { w with heap := w.heap.setIfInBounds l (.loop { r with state := .busy }) } := by
 unfold Instr.beginRound
 rw [Sem.run_bind, Qc0 h]
 simp only [Result.andThen_ok]
 rw [Sem.run_bind, Y3 h (fun _ _ _ h => by cases h)]
 simp only [Result.andThen_ok, hs]; rfl
theorem Qne {w : World} {l : Nat} {r : Loop} {j : Option Code} (h : w.heap[l]? = some (.loop r)) :
 (Instr.endRound l j).run P w = .ok (.bool j.isNone) { w with heap := w.heap.setIfInBounds l (.loop { r with state := if j.isNone then .ready else .done, pending := j }) } := by
 unfold Instr.endRound
 rw [Sem.run_bind, Qc0 h]
 simp only [Result.andThen_ok]
 rw [Sem.run_bind, Y3 h (fun _ _ _ h => by cases h)]; rfl
theorem Qvn {code : Qa8} (hc : Qet P base code) {l : Nat} {args args' : List Value} {H H' : Tr Obj} {N N' : Nat} {v : Value} (h : Qjv code fl l args H N = some (v, H', N'))
 {wA w : World} {x : Img} (hR : Rep H N wA) (hr : WRel P base ρ wA w) (hf : fl <= N) (hx : ρ l = some x) (ha : LRel ρ args args') {rd : Option Nat} {R : Ending -> World -> Prop}
 (k : ∀ ρ' v' wA' w', Rep H' N' wA' -> Stp P base fl ρ wA w ρ' wA' w' -> VRel ρ' v v' -> R (.returned v') w') :
 ∃ r' : Loop, (Instr.yield x.blk args'.toArray).run P w = .ok (.round x.blk r'.fn ((r'.params.zip args'.toArray).foldl (fun tmps (t, a) => tmps.setIfInBounds t a) r'.tmps) r'.assign r'.body) w /\
   RoundIn (fen rd) 0 P x.blk r'.fn ((r'.params.zip args'.toArray).foldl (fun tmps (t, a) => tmps.setIfInBounds t a) r'.tmps) r'.assign r'.body w R := by
 unfold Qjv at h
 split at h
 case h_2 => cases h
 rename_i r hmem
 have hb0 := Qe h; clear h; obtain ⟨hcond, h⟩ := hb0
 simp only [Bool.and_eq_true] at hcond
 have hfl := Nat.le_of_ble_eq_true hcond.1.1
 have hsz := Z4 hcond.1.2
 split at h
 case h_2 => cases h
 rename_i A0 hzip
 obtain ⟨r', hA, hw, es, ep, epa, eas, ebo, ht, y, hy, hd⟩ := Qir hmem hR hr hx
 have har := AR.list ht hsz
 obtain ⟨har2, hlen⟩ := Qwg hsz r.params.toList args args' _ A0 _ hzip ha hcond.2 har
 refine ⟨r', ?_, ?_⟩
 ·unfold Instr.yield
  rw [Sem.run_bind, Qc0 hw]
  simp only [Result.andThen_ok]
  rw [if_neg (by rw [epa]; simp; simpa using hlen.symm)]
  rfl
 have etm : ((r'.params.zip args'.toArray).foldl (fun tmps (t, a) => tmps.setIfInBounds t a) r'.tmps) = (r.params.toList.zip args').foldl (fun tmps p => tmps.setIfInBounds p.1 p.2) r'.tmps := by
  rw [epa, <- Array.foldl_toList, Array.toList_zip]
 rw [etm, eas, ebo]
 split at h
 case h_2 => cases h
 rename_i s1 hs1
 refine roundIn_of_wpIn (F := fen rd) trivial ?_
 show r.assign.wpIn (fen (some x.blk)) 0 P _ _ w
 refine hc _ _ _ _ _ _ _ _ hs1 ρ wA w _ hR hr hf har2 (.some hx) _ ?_
 intro ρ1 wA1 w1 a1 hR1 hst1 hA1
 split at h
 case h_2 => cases h
 rename_i r1 hr1
 split at h
 case h_2 => cases h
 rename_i hready
 obtain ⟨r1', hA1', hw1, es1, ep1, epa1, eas1, ebo1, ht1, y1, hy1, hd1⟩ := Qir hr1 hR1 hst1.rel (hst1.le _ _ hx)
 obtain ⟨wA2, hR2, hset, hst2⟩ := Qk4 (fl := fl) hR1 hst1.rel (hst1.le _ _ hx) hfl hA1' hw1 { r1 with state := .busy } { r1' with state := .busy } rfl ep1 epa1 eas1 ebo1 ht1 hy1 hd1
 refine ⟨_, Qjp hw1 (by rw [es1]; exact hready), ?_⟩
 split at h
 case h_2 => cases h
 rename_i e s2 hs2
 have hf1 : fl <= s1.N := by rw [<- hR1.size]; exact Nat.le_trans hf (by rw [<- hR.size]; exact hst1.sizeA)
 show r.body.wpIn (fen (some x.blk)) 0 P _ _ _
 refine hc _ _ _ _ _ _ _ _ hs2 ρ1 wA2 _ a1 hR2 hst2.rel hf1 hA1 (.some (hst1.le _ _ hx)) _ ?_
 intro ρ3 wA3 w3 a3 hR3 hst3 hA3
 have hx3 : ρ3 l = some x := hst3.le _ _ (hst1.le _ _ hx)
 have all := hst1.trans (hst2.trans hst3)
 have fin : ∀ (j : Option Code) (r2 : Loop), Qat s2.H s2.N l = some (.loop r2) -> v = .bool j.isNone -> (H', N') = (s2.H.set l (.loop { r2 with state := if j.isNone then .ready else .done, pending := j }), s2.N) ->
  ∃ u w', (Instr.endRound x.blk j).run P w3 = .ok u w' /\ R (.returned u) w' := by
  intro j r2 hr2 hv hHN
  obtain ⟨r2', hA2', hw2, es2, ep2, epa2, eas2, ebo2, ht2, y2, hy2, hd2⟩ := Qir hr2 hR3 hst3.rel hx3
  obtain ⟨wA4, hR4, hset4, hst4⟩ := Qk4 (fl := fl) hR3 hst3.rel hx3 hfl hA2' hw2 { r2 with state := if j.isNone then .ready else .done, pending := j } { r2' with state := if j.isNone then .ready else .done, pending := j } rfl rfl epa2 eas2 ebo2 ht2 hy2 hd2
  injection hHN with hH hN'
  rw [hH, hN', hv] at k
  exact ⟨_, _, Qne hw2, k ρ3 _ wA4 _ hR4 (all.trans hst4) (.bool _)⟩
 dsimp only at h
 cases e with
 | normal =>
   dsimp only at h
   split at h
   ·rename_i r2 _ hr2
    injection h with h; injection h with h1 h2
    exact fin none r2 hr2 h1.symm h2.symm
   ·rename_i heq _; cases heq
   ·cases h
 | ret =>
   dsimp only at h
   split at h
   ·rename_i heq _; cases heq
   ·rename_i r2 heq hr2
    injection heq with heq; injection heq with heq; subst heq
    injection h with h; injection h with h1 h2
    exact fin (some .ret) r2 hr2 h1.symm h2.symm
   ·cases h
 | exit id =>
   dsimp only at h
   split at h
   ·rename_i heq _; cases heq
   ·rename_i r2 heq hr2
    injection heq with heq; injection heq with heq; subst heq
    injection h with h; injection h with h1 h2
    exact fin (some (.exit id)) r2 hr2 h1.symm h2.symm
   ·cases h
 | _ => dsimp only at h; cases h
def Named (P : Program) : Prop := ∀ (f : Nat) (fn : Func), P.funcs[f]? = some fn -> (fn.name == "runtime.NumGoroutine") = false
theorem Qdd {g : Nat} {fn : Func} {c : Code} (hn : Named P) (hf : P.funcs[g]? = some fn) (hb : fn.body = some c) (args : Array Value) (w : World) : (callFunc g args).run P w = .ok (.enter g args) w := by
 unfold callFunc
 rw [Sem.run_bind, run_program]
 simp only [Result.andThen_ok, hf, hn g fn hf, Bool.false_eq_true, if_false, hb, Option.isNone_some]
 rfl
theorem Qxg {code : Qa8} (hc : Qet P base code) (hn : Named P) {o : Oper} {A : Tr Value} {H H' : Tr Obj} {N N' : Nat} {v : Value} (h : fOp O code fl o A H N = some (v, H', N'))
 {a : Act} {wA w : World} (hR : Rep H N wA) (hr : WRel P base ρ wA w) (hf : fl <= N) (hev : ∀ x ∈ o.op.operands, VRel ρ (Wh A x) (a.eval x)) {rd : Option Nat} {K : Act -> World -> Prop} {Q : Exit -> Act -> World -> Prop}
 (k : ∀ ρ' v' wA' w', Rep H' N' wA' -> Stp P base fl ρ wA w ρ' wA' w' -> VRel ρ' v v' -> K (a.put o.dst v') w') : o.wpIn (fen rd) 0 P a w K Q := by
 refine ⟨fun _ _ => trivial, ?_⟩
 rcases Qmy h with ⟨f, args, ts, g, first, captured, ho, hfe, hcall⟩ | ⟨f, args, ts, l, first, captured, ho, hfe, hround⟩ | ⟨n, u, h1, h2, h3, h4⟩
 ·have hsem : o.semAt rd a.eval = execOp a.eval o := Oper.semAt_eq _ _ _ (fun c => by rw [ho]; intro e; cases e)
  show o.uponIn (fen rd) 0 P a K Q ((o.semAt rd a.eval).run P w)
  rw [hsem]
  have hf1 := hev f (by rw [ho]; simp [Op.operands, Call.operands])
  rw [hfe] at hf1
  have hargs : LRel ρ (args.toList.map (Wh A)) (args.toList.map a.eval) := LRel.map _ fun x hx => hev x (by rw [ho]; simp [Op.operands, Call.operands]; exact .inr (Array.mem_toList_iff.1 hx))
  generalize hfv : a.eval f = fv at hf1
  cases hf1 with
  | @func _ _ first' _ captured' hy e1 r1 e2 r2 =>
    have hall : LRel ρ (first.toList ++ args.toList.map (Wh A) ++ captured.toList) (first'.toList ++ args.toList.map a.eval ++ captured'.toList) :=
     ((ARel.list ⟨e1, r1⟩).app hargs).app (ARel.list ⟨e2, r2⟩)
    obtain ⟨fn, c, hfn, hbody⟩ := Qj1 hcall
    have hrun : (execOp a.eval o).run P w = .ok (.enter g (first'.toList ++ args.toList.map a.eval ++ captured'.toList).toArray) w := by
     have e : (first'.toList ++ args.toList.map a.eval ++ captured'.toList).toArray = first' ++ args.map a.eval ++ captured' := by apply Array.ext'; simp
     rw [e]
     obtain ⟨dst, op, type, pos, after, guard⟩ := o
     dsimp only at ho
     subst ho
     show (resolve a.eval { callee := .value f, args, argTypes := ts } type >>= fun d => invoke d.target d.args).run P w = _
     unfold resolve
     dsimp only
     rw [hfv]
     show (callFunc g (first' ++ args.map a.eval ++ captured')).run P w = _
     exact Qdd hn hfn hbody _ w
    rw [hrun]
    refine ⟨fun h => by simp [fen, Fence.wide] at h, ?_⟩
    show CallsIn (fen none) 0 P g _ w _
    exact Qn4 hc hcall hR hr hf hall (fun ρ' v' wA' w' a1 a2 a3 => k ρ' v' wA' w' a1 a2 a3)
 ·have hsem : o.semAt rd a.eval = execOp a.eval o := Oper.semAt_eq _ _ _ (fun c => by rw [ho]; intro e; cases e)
  show o.uponIn (fen rd) 0 P a K Q ((o.semAt rd a.eval).run P w)
  rw [hsem]
  have hf1 := hev f (by rw [ho]; simp [Op.operands, Call.operands])
  rw [hfe] at hf1
  have hargs : LRel ρ (args.toList.map (Wh A)) (args.toList.map a.eval) := LRel.map _ fun x hx => hev x (by rw [ho]; simp [Op.operands, Call.operands]; exact .inr (Array.mem_toList_iff.1 hx))
  generalize hfv : a.eval f = fv at hf1
  cases hf1 with
  | func hy => simp [Fn.calm] at hy
  | @yield _ x hx =>
    obtain ⟨r', hy, hin⟩ := Qvn hc hround hR hr hf hx hargs (rd := rd) (R := fun e w'' => match e with
     | .returned v => K (a.put o.dst v) w''
     | .panicked chain => Q (.panic chain) a w''
     | .outgrown => LetsOut Q) (fun ρ' v' wA' w' a1 a2 a3 => k ρ' v' wA' w' a1 a2 a3)
    have hrun : (execOp a.eval o).run P w = .ok (.round x.blk r'.fn ((r'.params.zip (args.toList.map a.eval).toArray).foldl (fun tmps (t, a) => tmps.setIfInBounds t a) r'.tmps) r'.assign r'.body) w := by
     rw [<- hy]
     obtain ⟨dst, op, type, pos, after, guard⟩ := o
     dsimp only at ho
     subst ho
     show (resolve a.eval { callee := .value f, args, argTypes := ts } type >>= fun d => invoke d.target d.args).run P w = _
     unfold resolve
     dsimp only
     rw [hfv]
     show (Instr.yield x.blk (#[] ++ args.map a.eval)).run P w = _
     congr 2
     apply Array.ext'; simp
    rw [hrun]
    exact ⟨fun h => by simp [fen, Fence.wide] at h, RoundIn.mono hin (fun e w'' h => by cases e <;> exact h)⟩
 ·have hnd : ∀ c, o.op ≠ .defer c := by
   intro c e
   unfold Qdn at h1
   rw [e] at h1
   cases h1
  have hsem : o.semAt rd a.eval = execOp a.eval o := Oper.semAt_eq _ _ _ hnd
  show o.uponIn (fen rd) 0 P a K Q ((o.semAt rd a.eval).run P w)
  rw [hsem]
  obtain ⟨ρ', n', w', wA', g1, g2, g3, g4⟩ := Qu0 h1 h2 hR hr hf hev
  rw [h4] at g3
  rw [g1]
  cases g2 with
  | value hv =>
    simp only [valOf, Option.some.injEq] at h3
    subst h3
    exact k ρ' _ wA' w' g3 g4 hv
  | skip =>
    simp only [valOf, Option.some.injEq] at h3
    subst h3
    exact k ρ' _ wA' w' g3 g4 ARel.undef
  | enter => simp [valOf] at h3
end
end Go.Proofs.Ytfeedchjdnedjaa.Ev
