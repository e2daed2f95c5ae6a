import Derived.Test.YtfeedchjdnedjaaEv17
set_option linter.unusedVariables false
set_option linter.unusedSimpArgs false
namespace Go.Proofs.Ytfeedchjdnedjaa.Ev
open Go
def fen (r : Option Nat) : Fence := { Fence.wide with round := r }
inductive Qmq (ρ : Ren) : Option Nat -> Option Nat -> Prop
 | none : Qmq ρ none none
 | some {l : Nat} {x : Img} (h : ρ l = some x) : Qmq ρ (some l) (some x.blk)
theorem Qmq.mono {ρ ρ' : Ren} (hρ : ρ.Le ρ') {a b : Option Nat} (h : Qmq ρ a b) : Qmq ρ' a b := by
 cases h with
 | none => exact .none
 | some h => exact .some (hρ _ _ h)
inductive MRel (ρ : Ren) : List Nat -> List Deferred -> Prop
 | nil : MRel ρ [] []
 | cons {r : Nat} {x : Img} {M : List Nat} {ds : List Deferred} (h : ρ r = some x) (k : MRel ρ M ds) : MRel ρ (r :: M) ({ target := .collected x.blk, args := #[] } :: ds)
theorem MRel.mono {ρ ρ' : Ren} (hρ : ρ.Le ρ') {M : List Nat} {ds : List Deferred} (h : MRel ρ M ds) : MRel ρ' M ds := by
 induction h with
 | nil => exact .nil
 | cons h _ ih => exact .cons (hρ _ _ h) ih
structure AR (ρ : Ren) (sz : Nat) (A : Tr Value) (M : List Nat) (a : Act) : Prop where
 size : a.tmps.size = sz
 tmps : ∀ t : Nat, VRel ρ (Wh A (.tmp t)) (a.tmps.getD t undef)
 defs : MRel ρ M a.defers
theorem AR.mono {ρ ρ' : Ren} (hρ : ρ.Le ρ') {sz : Nat} {A : Tr Value} {M : List Nat} {a : Act} (h : AR ρ sz A M a) : AR ρ' sz A M a := ⟨h.size, fun t => (h.tmps t).mono hρ, h.defs.mono hρ⟩
theorem AR.eval {ρ : Ren} {sz : Nat} {A : Tr Value} {M : List Nat} {a : Act} (h : AR ρ sz A M a) {x : Operand} (hx : Qep x = true) : VRel ρ (Wh A x) (a.eval x) := by
 cases x with
 | tmp t => exact h.tmps t
 | const v => exact Qbq hx
 | global g => cases hx
 | func f => exact .func rfl rfl (fun i v v' a => by simp at a) rfl (fun i v v' a => by simp at a)
theorem Qiu {A : Tr Value} {d t : Nat} {v : Value} (hd : d < 1099511627776) : Wh (A.set d v) (.tmp t) = if t = d then v else Wh A (.tmp t) := by
 simp only [Wh]
 rw [Tr.Qns _ _ _ _ (by omega)]
 by_cases e : t = d
 ·rw [if_pos e, if_pos e]
 ·rw [if_neg e, if_neg e]
theorem AR.put {ρ : Ren} {sz : Nat} {A : Tr Value} {M : List Nat} {a : Act} (h : AR ρ sz A M a) {dst : Option Tmp} (hd : ∀ d : Nat, dst = some d -> d < sz) (hsz : sz < 1000000) {v v' : Value} (hv : VRel ρ v v') :
 AR ρ sz (putA A dst v) M (a.put dst v') := by
 cases dst with
 | none => exact h
 | some d =>
   have hlt : (d : Nat) < sz := hd d rfl
   refine ⟨by simp [Act.put, h.size], fun t => ?_, h.defs⟩
   show VRel ρ (Wh (A.set d v) (.tmp t)) ((a.tmps.setIfInBounds d v').getD t undef)
   rw [Qiu (Nat.lt_trans hlt (Nat.lt_trans hsz (by decide))), Array.getD_eq_getD_getElem?, Array.getElem?_setIfInBounds]
   by_cases e : t = d
   ·subst e; rw [if_pos rfl, if_pos rfl, if_pos (by rw [h.size]; exact hlt)]; exact hv
   ·rw [if_neg e, if_neg (fun x => e x.symm)]
    have := h.tmps t
    rw [Array.getD_eq_getD_getElem?] at this
    exact this
theorem Qiv : ∀ (vs : List Value) (i : Nat) (A : Tr Value) (t : Nat), i + vs.length < 1099511627776 -> Wh (Qig vs i A) (.tmp t) = if i <= t /\ t < i + vs.length then vs.getD (t - i) undef else Wh A (.tmp t)
 | [], i, A, t, _ => by rw [if_neg (by simp only [List.length_nil]; omega)]; rfl
 | v :: vs, i, A, t, h => by
   simp only [Qig]
   simp only [List.length_cons] at h
   rw [Qiv vs (i + 1) _ t (by omega), Qiu (by omega)]
   simp only [List.length_cons]
   by_cases e1 : t = i
   ·subst e1
    rw [if_neg (by omega), if_pos rfl, if_pos (by omega)]
    simp
   ·by_cases e2 : i + 1 <= t /\ t < i + 1 + vs.length
    ·rw [if_pos e2, if_pos (by omega), show t - i = (t - (i + 1)) + 1 by omega]
     simp
    ·rw [if_neg e2, if_neg e1, if_neg (by omega)]
section
variable {P : Program} {O : Orc P} {base fl : Nat} {ρ : Ren}
theorem Array.Qst {xs : Array Value} (t : Nat) : xs.getD t undef = xs.toList.getD t undef := by
 rw [Array.getD_eq_getD_getElem?, List.getD_eq_getElem?_getD, Array.getElem?_toList]
theorem LRel.getD {xs ys : List Value} (h : LRel ρ xs ys) (i : Nat) : VRel ρ (xs.getD i undef) (ys.getD i undef) := by
 induction h generalizing i with
 | nil => simp; exact ARel.undef
 | cons hv _ ih => cases i with
   | zero => simpa using hv
   | succ i => simpa using ih i
theorem LRel.len {xs ys : List Value} (h : LRel ρ xs ys) : xs.length = ys.length := by
 induction h with
 | nil => rfl
 | cons _ _ ih => simp [ih]
theorem LRel.app {xs ys xs' ys' : List Value} (h : LRel ρ xs ys) (h' : LRel ρ xs' ys') : LRel ρ (xs ++ xs') (ys ++ ys') := by
 induction h with
 | nil => exact h'
 | cons hv _ ih => exact .cons hv ih
theorem LRel.map {α : Type} {f g : α -> Value} : ∀ (l : List α), (∀ x ∈ l, VRel ρ (f x) (g x)) -> LRel ρ (l.map f) (l.map g)
 | [], _ => .nil
 | x :: l, h => .cons (h x (by simp)) (LRel.map l fun y hy => h y (by simp [hy]))
theorem LRel.arr {xs ys : List Value} (h : LRel ρ xs ys) : ARel ρ xs.toArray ys.toArray := by
 refine ⟨by simpa using h.len, fun i v v' a b => ?_⟩
 have := h.getD i
 simp only [List.getElem?_toArray] at a b
 rw [List.getD_eq_getElem?_getD, List.getD_eq_getElem?_getD, a, b] at this
 exact this
theorem AR.start {args args' : List Value} (h : LRel ρ args args') (k : Nat) (hs : args.length + k < 1000000) : AR ρ (args.length + k) (Qig args 0 .nil) [] { tmps := args'.toArray ++ Array.replicate k undef, defers := [] } := by
 refine ⟨by simp [h.len], fun t => ?_, .nil⟩
 rw [Qiv _ _ _ _ (by omega), Array.Qst]
 have e : (args'.toArray ++ Array.replicate k undef).toList = args' ++ List.replicate k undef := by simp
 show VRel ρ _ ((args'.toArray ++ Array.replicate k undef).toList.getD t undef)
 rw [e]
 by_cases c : 0 <= t /\ t < 0 + args.length
 ·rw [if_pos c]
  have := h.getD t
  rw [List.getD_eq_getElem?_getD (l := args' ++ _), List.getElem?_append_left (by rw [<- h.len]; omega), <- List.getD_eq_getElem?_getD]
  simpa using this
 ·rw [if_neg c, List.getD_eq_getElem?_getD, List.getElem?_append_right (by rw [<- h.len]; omega)]
  have : ((List.replicate k undef)[t - args'.length]?).getD undef = undef := by
   rw [List.getElem?_replicate]; split <;> rfl
  rw [this]
  exact ARel.undef
theorem loadAt_same {t : TypeId} {v r : Value} {w w' : World} (h : (Instr.loadAt t v).run P w = .ok r w') : w' = w := by
 unfold Instr.loadAt at h
 rw [Sem.run_bind] at h
 cases v with
 | pointer a => cases a with
   | none => cases h
   | some a =>
     simp only [Instr.sureAddr, Sem.run_pure, Result.andThen_ok] at h
     unfold Go.loadVar at h
     rw [Sem.run_bind] at h
     rcases Free.isAgg (P := P) t with ⟨b, hb⟩ | hh
     ·rw [hb] at h
      simp only [Result.andThen_ok] at h
      cases b with
      | false => simp only [Bool.false_eq_true, if_false] at h; exact Qgd h
      | true =>
        simp only [if_true] at h
        rw [Sem.run_bind] at h
        rcases Free.sizeOf (P := P) t with ⟨n, hn⟩ | hh
        ·rw [hn] at h
         simp only [Result.andThen_ok] at h
         rw [Sem.run_bind] at h
         cases hl : (Go.loadCells a n).run P w with
         | halt x y => rw [hl] at h; cases h
         | ok cs w1 =>
           rw [hl] at h
           simp only [Result.andThen_ok, Sem.run_pure, Result.ok.injEq] at h
           have := (Qd8 _ _ _ _ _ _ hl).1
           rw [<- h.2]; exact this
        ·obtain ⟨x, y, e⟩ := hh w; rw [e] at h; cases h
     ·obtain ⟨x, y, e⟩ := hh w; rw [e] at h; cases h
 | _ => cases h
theorem Qsu {H : Tr Obj} {N : Nat} {wA w : World} (hR : Rep H N wA) (hr : WRel P base ρ wA w) (hf : fl <= N) {t : TypeId} {v v' r : Value} (hv : VRel ρ v v') (h : Qh6 P (Qat H N) t v = some r) :
 ∃ ρ' r', (Instr.loadAt t v').run P w = .ok r' w /\ VRel ρ' r r' /\ Stp P base fl ρ wA w ρ' wA w := by
 rw [hR.mem] at h
 obtain ⟨ρ', r', w', h1, h2, h3⟩ := Sim.loadAt (P := P) (base := base) (fl := fl) (t := t) hv wA w r wA hr (by rw [hR.size]; exact hf) (Qen h)
 have := loadAt_same h1
 subst this
 exact ⟨ρ', r', h1, h2, h3⟩
def Qem (tmps : Array Value) : ResultVar -> Sem Value
 | .tmp t => Pure.pure (tmps.getD t undef)
 | .cell a t => do Go.loadVar t (<- Go.asAddr (tmps.getD a undef))
theorem Qiw {H : Tr Obj} {N : Nat} {A : Tr Value} {wA w : World} {a : Act} (hR : Rep H N wA) (hf : fl <= N) : ∀ (rs : List ResultVar) (vs : List Value) (ρ : Ren), WRel P base ρ wA w -> (∀ t : Nat, VRel ρ (Wh A (.tmp t)) (a.tmps.getD t undef)) ->
 Qfa P A (Qat H N) rs = some vs -> ∃ ρ' vs', (rs.mapM (Qem a.tmps)).run P w = .ok vs' w /\ LRel ρ' vs vs' /\ Stp P base fl ρ wA w ρ' wA w
 | [], vs, ρ, hr, ht, h => by
   simp only [Qfa, Option.some.injEq] at h
   subst h
   exact ⟨ρ, [], rfl, .nil, .refl hr⟩
 | r :: rs, vs, ρ, hr, ht, h => by
   simp only [Qfa] at h
   split at h
   case h_2 => cases h
   rename_i v vs1 hv hvs
   injection h with h
   subst h
   have hone : ∃ ρ1 v', (Qem a.tmps r).run P w = .ok v' w /\ VRel ρ1 v v' /\ Stp P base fl ρ wA w ρ1 wA w := by
    cases r with
    | tmp t =>
      simp only [Qnv, Option.some.injEq] at hv
      subst hv
      exact ⟨ρ, _, rfl, ht t, .refl hr⟩
    | cell c t =>
      simp only [Qnv] at hv
      split at hv
      case h_2 => cases hv
      rename_i u hu
      have hrel := ht c
      have hev : Wh A (.tmp c) = u := by simp only [Wh, hu]
      rw [hev] at hrel
      obtain ⟨ρ1, r', h1, h2, h3⟩ := Qsu (fl := fl) hR hr hf hrel hv
      refine ⟨ρ1, r', ?_, h2, h3⟩
      show (Go.asAddr (a.tmps.getD c undef) >>= fun ad => Go.loadVar t ad).run P w = _
      generalize hgd : a.tmps.getD c undef = y at hrel h1
      unfold Qh6 at hv
      split at hv
      case h_2 => cases hv
      cases hrel
      exact h1
   obtain ⟨ρ1, v', h1, h2, h3⟩ := hone
   obtain ⟨ρ2, vs', k1, k2, k3⟩ := Qiw hR hf rs vs1 ρ1 h3.rel (fun t => (ht t).mono h3.le) hvs
   refine ⟨ρ2, v' :: vs', ?_, .cons (h2.mono k3.le) k2, h3.trans k3⟩
   rw [List.mapM_cons, Sem.run_bind, h1]
   simp only [Result.andThen_ok]
   rw [Sem.run_bind, k1]; rfl
theorem Qd1 {fn : Func} {tmps : Array Value} {vs : List Value} {w : World} (h : (fn.results.toList.mapM (Qem tmps)).run P w = .ok vs w) :
 (results fn tmps).run P w = .ok (if h : vs.length = 1 then vs[0] else .tuple vs.toArray) w := by
 unfold results
 have e : (fun x : ResultVar => (match x with
  | .tmp t => Pure.pure (tmps.getD t undef)
  | .cell a t => do Go.loadVar t (<- Go.asAddr (tmps.getD a undef)) : Sem Value)) = Qem tmps := by
  funext x; cases x <;> rfl
 rw [Sem.run_bind]
 show ((fn.results.mapM (fun x : ResultVar => (match x with
  | .tmp t => Pure.pure (tmps.getD t undef)
  | .cell a t => do Go.loadVar t (<- Go.asAddr (tmps.getD a undef)) : Sem Value))).run P w).andThen _ = _
 rw [e, Array.mapM_eq_mapM_toList, map_eq_pure_bind, Sem.run_bind, h]
 simp only [Result.andThen_ok, Sem.run_pure]
 congr 1
theorem Stp.bury {wA w w' : World} (h : WRel P base ρ wA w) {b : Nat} {x : Img} {o : Obj} (hfb : fl <= b) (hb : ρ b = some x) (ho : wA.heap[b]? = some o) (ha : alive o = true) {o1 : Obj}
 (hw : ∀ k, w'.heap[k]? = if k = x.blk then some o1 else w.heap[k]?) (hs : w'.heap.size = w.heap.size) (h1 : w'.os = w.os) (h2 : w'.tape = w.tape) (h3 : w'.output = w.output) :
 Stp P base fl ρ wA w ρ (World.kill wA b) w' := by
 have hlt : b < wA.heap.size := (h.dom b x hb).1
 refine ⟨.refl _, ⟨by rw [hs]; exact h.low, fun k y e => by rw [Qb7, hs]; exact h.dom k y e, ?_, ?_⟩, fun _ _ e => .inl e, by rw [Qb7]; exact Nat.le_refl _, by rw [hs]; exact Nat.le_refl _, h1, h2, h3, ?_, ?_⟩
 ·intro k ok y e1 e2 e3
  rw [Qdt _ _ _ hlt] at e1
  by_cases e : k = b
  ·rw [if_pos e] at e1; injection e1 with e1; subst e1; cases e2
  ·rw [if_neg e] at e1
   obtain ⟨o2, p, q⟩ := h.obj k ok y e1 e2 e3
   have hne : y.blk ≠ x.blk := fun he => e (h.inj k b ok o y x e1 e2 ho ha e3 hb he)
   exact ⟨o2, by rw [hw, if_neg hne]; exact p, q⟩
 ·exact (h.kill b).inj
 ·intro k hk
  rw [Qdt _ _ _ hlt, if_neg (by omega)]
 ·intro k hk hn
  rw [hw, if_neg (fun e => hn b x hfb hb e.symm)]
theorem Rep.kill {H : Tr Obj} {N b : Nat} {wA : World} (h : Rep H N wA) (hb : b < N) : Rep (H.set b (.pending #[] 0)) N (World.kill wA b) := by
 have := h.upd (fl := 0) (u := .put b (.pending #[] 0)) (by simp only [Qia, Bool.and_eq_true]; exact ⟨Nat.ble_eq_true_of_le hb, rfl⟩)
 exact this
theorem Qef {w : World} {r : Nat} (h : w.heap[r]? = some (.deferred (some []))) : (Instr.takeDeferred r).run P w = .ok [] { w with heap := w.heap.setIfInBounds r (.deferred none) } := by
 unfold Instr.takeDeferred
 rw [Sem.run_bind, J5 h (fun _ _ _ h => by cases h)]
 simp only [Result.andThen_ok]
 rw [Sem.run_bind, Y3 h (fun _ _ _ h => by cases h)]
 rfl
theorem Qms {n : Nat} {fn : Func} {tmps : Array Value} {R : Ending -> World -> Prop} : ∀ (M : List Nat) (H H1 : Tr Obj) (N : Nat) (ds : List Deferred) (wA w : World), Qhd fl M H N = some H1 -> Rep H N wA -> WRel P base ρ wA w -> MRel ρ M ds ->
 (∀ wA1 w1, Rep H1 N wA1 -> Stp P base fl ρ wA w ρ wA1 w1 -> LeavesIn (fen none) n P fn tmps R [] .returning w1) -> LeavesInM (fen none) n P fn tmps R ds .returning w
 | [], H, H1, N, ds, wA, w, h, hR, hr, hm, k => by
   cases hm
   simp only [Qhd, Option.some.injEq] at h
   subst h
   exact k wA w hR (.refl hr)
 | r :: M, H, H1, N, ds, wA, w, h, hR, hr, hm, k => by
   cases hm with
   | @cons _ x _ ds hx hm =>
     simp only [Qhd] at h
     split at h
     case h_2 => cases h
     rename_i hmem
     have hb0 := Qe h; clear h; obtain ⟨hf, h⟩ := hb0
     have hA : wA.heap[r]? = some (.deferred (some [])) := by rw [hR.at_]; exact hmem
     obtain ⟨o', h1, h2⟩ := hr.obj r _ x hA rfl hx
     cases h2
     have hst := Stp.bury (P := P) (base := base) (fl := fl) (o1 := .deferred none) (w' := { w with heap := w.heap.setIfInBounds x.blk (.deferred none) }) hr (Nat.le_of_ble_eq_true hf) hx hA rfl (heap_set _ h1) (by simp) rfl rfl rfl
     refine ⟨by simp, .inl ⟨x.blk, _, rfl, Qef h1, ?_⟩⟩
     exact Qms M _ H1 N ds _ _ h (hR.kill (Qj2 hmem)) hst.rel hm (fun wA1 w1 a b => k wA1 w1 a (hst.trans b))
end
end Go.Proofs.Ytfeedchjdnedjaa.Ev
