import Derived.Test.YtfeedchjdnedjaaEv18
set_option linter.unusedVariables false
set_option linter.unusedSimpArgs false
namespace Go.Proofs.Ytfeedchjdnedjaa.Ev
open Go
section
variable {P : Program} {O : Orc P} {base fl : Nat} {ρ : Ren}
def cut (ρ : Ren) (N : Nat) : Ren := fun b => if b < N then ρ b else none
theorem Qci {N b : Nat} (h : b < N) : cut ρ N b = ρ b := if_pos h
theorem Jz {N b : Nat} {x : Img} (h : cut ρ N b = some x) : b < N /\ ρ b = some x := by
 unfold cut at h
 split at h
 ·exact ⟨‹_›, h⟩
 ·cases h
theorem Qv3 {N : Nat} : (cut ρ N).Le ρ := fun _ _ h => (Jz h).2
theorem Qnq {N : Nat} : ∀ (d : Nat) (v v' : Value), wv N d v = true -> VRel ρ v v' -> VRel (cut ρ N) v v' := by
 have arr : ∀ (d : Nat) (ih : ∀ v v', wv N d v = true -> VRel ρ v v' -> VRel (cut ρ N) v v') (cs cs' : Array Value), cs.toList.all (wv N d) = true -> (∀ (i : Nat) (v v' : Value), cs[i]? = some v -> cs'[i]? = some v' -> VRel ρ v v') ->
  (∀ (i : Nat) (v v' : Value), cs[i]? = some v -> cs'[i]? = some v' -> VRel (cut ρ N) v v') := by
  intro d ih cs cs' hall h i v v' a b
  exact ih v v' (List.all_eq_true.1 hall v (Array.mem_toList_iff.2 (Array.mem_of_getElem? a))) (h i v v' a b)
 intro d
 induction d with
 | zero =>
   intro v v' hw h
   cases h with
   | bool b => exact .bool b
   | int k n => exact .int k n
   | string s => exact .string s
   | nilPtr => exact .nilPtr
   | ptr h => simp only [wv] at hw; exact .ptr (by rw [Qci (Z4 hw)]; exact h)
   | nilSlice n c => exact .nilSlice n c
   | slice h hc => simp only [wv] at hw; exact .slice (by rw [Qci (Z4 hw)]; exact h) hc
   | loose h hc hn hx ho => simp only [wv] at hw; exact .loose (by rw [Qci (Z4 hw)]; exact h) hc hn hx ho
   | nilMap => exact .nilMap
   | map h => simp only [wv] at hw; exact .map (by rw [Qci (Z4 hw)]; exact h)
   | nilFunc => exact .nilFunc
   | nilIface => exact .nilIface
   | _ => simp [wv] at hw
 | succ d ih =>
   intro v v' hw h
   cases h with
   | bool b => exact .bool b
   | int k n => exact .int k n
   | string s => exact .string s
   | nilPtr => exact .nilPtr
   | ptr h => simp only [wv] at hw; exact .ptr (by rw [Qci (Z4 hw)]; exact h)
   | nilSlice n c => exact .nilSlice n c
   | slice h hc => simp only [wv] at hw; exact .slice (by rw [Qci (Z4 hw)]; exact h) hc
   | loose h hc hn hx ho => simp only [wv] at hw; exact .loose (by rw [Qci (Z4 hw)]; exact h) hc hn hx ho
   | nilMap => exact .nilMap
   | map h => simp only [wv] at hw; exact .map (by rw [Qci (Z4 hw)]; exact h)
   | nilFunc => exact .nilFunc
   | nilIface => exact .nilIface
   | @func fn fs fs' cs cs' hy hf h1 hc h2 =>
     cases fn with
     | func f =>
       simp only [wv, Bool.and_eq_true] at hw
       exact .func hy hf (arr d ih _ _ hw.1 h1) hc (arr d ih _ _ hw.2 h2)
     | _ => simp [wv] at hw
   | agg hc h => simp only [wv] at hw; exact .agg hc (arr d ih _ _ hw h)
   | tuple hc h => simp only [wv] at hw; exact .tuple hc (arr d ih _ _ hw h)
   | yield => simp [wv] at hw
   | iface => simp [wv] at hw
theorem Qzy {N : Nat} {x : Img} {o o' : Obj} (hw : wo N o = true) (h : ORel P ρ x o o') : ORel P (cut ρ N) x o o' := by
 cases h with
 | cells ht hs hz h =>
   simp only [wo] at hw
   refine .cells ht hs hz (fun i v hi => ?_)
   obtain ⟨v', a, b⟩ := h i v hi
   exact ⟨v', a, Qnq 3 _ _ (List.all_eq_true.1 hw v (Array.mem_toList_iff.2 (Array.mem_of_getElem? hi))) b⟩
 | map hs h =>
   simp only [wo] at hw
   refine .map hs (fun i e e' a b => ?_)
   have := List.all_eq_true.1 hw e (Array.mem_toList_iff.2 (Array.mem_of_getElem? a))
   simp only [Bool.and_eq_true] at this
   have hh := h i e e' a b
   exact ⟨Qnq 3 _ _ this.1 hh.key, Qnq 3 _ _ this.2 hh.val, hh.born⟩
 | iter s p h => exact .iter s p h
 | deferred => exact .deferred
 | loop h hd =>
   simp only [wo, Bool.and_eq_true] at hw
   refine .loop ⟨h.1, fun i v v' a b => Qnq 3 _ _ (List.all_eq_true.1 hw.1 v (Array.mem_toList_iff.2 (Array.mem_of_getElem? a))) (h.2 i v v' a b)⟩ (by rw [Qci (Z4 hw.2)]; exact hd)
theorem Qkm {H : Tr Obj} {N : Nat} : ∀ (k : Nat), Qqu H N k = true -> ∀ b, b < k -> alive (Qb2 (H.get b)) = true -> wo N (Qb2 (H.get b)) = true
 | 0, _, b, hb, _ => absurd hb (Nat.not_lt_zero _)
 | k + 1, h, b, hb, ha => by
   simp only [Qqu, Bool.and_eq_true] at h
   by_cases e : b = k
   ·subst e
    cases hg : H.get b with
    | none => rw [hg] at ha; cases ha
    | some o => have := h.1; rw [hg] at this; exact this
   ·exact Qkm k h.2 b (by omega) ha
theorem Qv0 {H1 : Tr Obj} {N N1 : Nat} {wA wA1 w w1 : World} {ρ1 : Ren} {v v' : Value} (hr : WRel P base ρ wA w) (hN : wA.heap.size = N) (hf : fl <= N) (hR : Rep H1 N1 wA1) (hst : Stp P base fl ρ wA w ρ1 wA1 w1) (hv : VRel ρ1 v v') :
 ∃ ρ2 wA2, Rep H1 (Qf5 N v H1 N1) wA2 /\ Stp P base fl ρ wA w ρ2 wA2 w1 /\ VRel ρ2 v v' := by
 unfold Qf5
 cases hb : Nat.ble N1 (N + 24) with
 | true => exact ⟨ρ1, wA1, hR, hst, hv⟩
 | false =>
   simp only [cond_false]
   cases hc : (wv N 3 v && Qqu H1 N N) with
   | false => exact ⟨ρ1, wA1, hR, hst, hv⟩
   | true =>
     simp only [cond_true]
     simp only [Bool.and_eq_true] at hc
     have hle : N <= N1 := by rw [<- hN, <- hR.size]; exact hst.sizeA
     have hsm : N < 1099511627776 := Nat.lt_of_le_of_lt hle hR.small
     have hRw := Rep.Qh9 H1 hsm
     have hat : ∀ b, b < N -> (Qce H1 N).heap[b]? = wA1.heap[b]? := fun b hb => by
      rw [hRw.at_, hR.at_, Xt, Xt, if_pos hb, if_pos (by omega)]
     have hat2 : ∀ b o, (Qce H1 N).heap[b]? = some o -> b < N /\ wA1.heap[b]? = some o /\ o = Qb2 (H1.get b) := fun b o h => by
      have hlt : b < N := by
       have := (Array.getElem?_eq_some_iff.1 h).1
       rw [hRw.size] at this; exact this
      refine ⟨hlt, by rw [<- hat b hlt]; exact h, ?_⟩
      rw [hRw.at_, Xt, if_pos hlt] at h
      injection h with h; exact h.symm
     refine ⟨cut ρ1 N, Qce H1 N, hRw, ?_, Qnq 3 _ _ hc.1 hv⟩
     have hle' : ρ.Le (cut ρ1 N) := fun b x hx => by
      have := (hr.dom b x hx).1
      rw [Qci (by omega)]; exact hst.le _ _ hx
     refine ⟨hle', ⟨hst.rel.low, ?_, ?_, ?_⟩, ?_, by rw [hRw.size]; omega, hst.size, hst.os, hst.tape, hst.output, ?_, hst.keep⟩
     ·intro b x hx
      obtain ⟨h1, h2⟩ := Jz hx
      have := hst.rel.dom b x h2
      exact ⟨by rw [hRw.size]; exact h1, this.2⟩
     ·intro b o x h1 h2 h3
      obtain ⟨g1, g2⟩ := Jz h3
      obtain ⟨k1, k2, k3⟩ := hat2 b o h1
      obtain ⟨o', p, q⟩ := hst.rel.obj b o x k2 h2 g2
      refine ⟨o', p, Qzy ?_ q⟩
      rw [k3]
      exact Qkm N hc.2 b k1 (by rw [<- k3]; exact h2)
     ·intro b b' o o' x x' h1 a1 h2 a2 r1 r2 hx
      obtain ⟨_, k2, _⟩ := hat2 b o h1
      obtain ⟨_, k2', _⟩ := hat2 b' o' h2
      exact hst.rel.inj b b' o o' x x' k2 a1 k2' a2 (Jz r1).2 (Jz r2).2 hx
     ·intro b x hx
      obtain ⟨h1, h2⟩ := Jz hx
      exact hst.new b x h2
     ·intro b hb'
      rw [hat b (by omega)]
      exact hst.keepA b hb'
def Qet (P : Program) (base : Nat) (code : Qa8) : Prop :=
 ∀ fl rd rd' sz c s e s', code fl rd sz c s = some (e, s') -> ∀ ρ wA w a, Rep s.H s.N wA -> WRel P base ρ wA w -> fl <= s.N -> AR ρ sz s.A s.M a -> Qmq ρ rd rd' -> ∀ Q : Exit -> Act -> World -> Prop,
   (∀ ρ' wA' w' a', Rep s'.H s'.N wA' -> Stp P base fl ρ wA w ρ' wA' w' -> AR ρ' sz s'.A s'.M a' -> Q e a' w') -> c.wpIn (fen rd') 0 P Q a w
theorem getElem_one {l : List Value} (h : l.length = 1) : ∃ v, l = [v] := by
 cases l with
 | nil => cases h
 | cons a l => cases l with
   | nil => exact ⟨a, rfl⟩
   | cons b l => simp at h
theorem Qv1 {ρ : Ren} : ∀ {d : Nat} {v v' : Value}, scV d v = true -> VRel ρ v v' -> v' = v := by
 intro d
 induction d with
 | zero => intro v v' h k; cases k <;> first | rfl | cases h
 | succ d ih =>
   have go : ∀ {cs cs' : Array Value}, cs.toList.all (scV d) = true -> cs.size = cs'.size -> (∀ (i : Nat) (v v' : Value), cs[i]? = some v -> cs'[i]? = some v' -> VRel ρ v v') -> cs' = cs := by
    intro cs cs' h hc k
    apply Array.ext hc.symm
    intro i h1 h2
    exact ih (List.all_eq_true.1 h _ (by simp)) (k i cs[i] cs'[i] (by simp) (by simp))
   intro v v' h k
   cases k with
   | agg hc k => rw [go h hc k]
   | tuple hc k => rw [go h hc k]
   | bool b => rfl
   | int k n => rfl
   | _ => cases h
theorem Qyk {ρ : Ren} : ∀ {d : Nat} {v : Value}, scV d v = true -> VRel ρ v v := by
 intro d
 induction d with
 | zero => intro v h; cases v <;> first | (cases h; done) | exact .bool _ | exact .int _ _
 | succ d ih =>
   have go : ∀ {cs : Array Value}, cs.toList.all (scV d) = true -> ∀ (i : Nat) (v v' : Value), cs[i]? = some v -> cs[i]? = some v' -> VRel ρ v v' := by
    intro cs h i v v' a b
    rw [a] at b
    cases b
    exact ih (List.all_eq_true.1 h _ (Array.mem_toList_iff.2 (Array.mem_of_getElem? a)))
   intro v h
   cases v with
   | agg cs => exact .agg rfl (go h)
   | tuple cs => exact .tuple rfl (go h)
   | bool b => exact .bool b
   | int k n => exact .int k n
   | _ => cases h
theorem Qqn {ρ : Ren} {d : Nat} : ∀ {l l' : List Value}, l.all (scV d) = true -> LRel ρ l l' -> l' = l
 | _, _, _, .nil => rfl
 | _, _, h, .cons hv hl => by
   simp only [List.all_cons, Bool.and_eq_true] at h
   rw [Qv1 h.1 hv, Qqn h.2 hl]
theorem WRel.below {wA w w' : World} (h : WRel P base ρ wA w) (k : Go.RowKit.Below w.heap.size w w') : WRel P base ρ wA w' :=
 ⟨Nat.le_trans h.low k.size, fun b x e => ⟨(h.dom b x e).1, (h.dom b x e).2.1, Nat.lt_of_lt_of_le (h.dom b x e).2.2 k.size⟩,
  fun b o x e1 e2 e3 => by rw [k.block _ (h.dom b x e3).2.2]; exact h.obj b o x e1 e2 e3, h.inj⟩
theorem Stp.below {wA w w' : World} {fl : Nat} (h : WRel P base ρ wA w) (k : Go.RowKit.Below w.heap.size w w') : Stp P base fl ρ wA w ρ wA w' :=
 ⟨.refl _, h.below k, fun _ _ h => .inl h, Nat.le_refl _, k.size, k.os, k.tape, k.output, fun _ _ => rfl, fun j hj _ => k.block j hj⟩
theorem Qj1 {code : Qa8} {f : FuncId} {args : List Value} {H : Tr Obj} {N : Nat} {r : Value × Tr Obj × Nat} (h : Qih O code fl f args H N = some r) : ∃ fn c, P.funcs[f]? = some fn /\ fn.body = some c := by
 unfold Qih at h
 split at h
 ·rename_i v hv; exact (O.good hv).body
 split at h
 case h_2 => cases h
 rename_i fn hfn
 split at h
 case h_2 => cases h
 rename_i c hbody
 exact ⟨fn, c, hfn, hbody⟩
theorem Qn4 {code : Qa8} (hc : Qet P base code) {f : FuncId} {args args' : List Value} {H H' : Tr Obj} {N N' : Nat} {v : Value} (h : Qih O code fl f args H N = some (v, H', N'))
 {wA w : World} (hR : Rep H N wA) (hr : WRel P base ρ wA w) (hf : fl <= N) (ha : LRel ρ args args') {R : Ending -> World -> Prop}
 (k : ∀ ρ' v' wA' w', Rep H' N' wA' -> Stp P base fl ρ wA w ρ' wA' w' -> VRel ρ' v v' -> R (.returned v') w') : CallsIn (fen none) 0 P f args'.toArray w R := by
 unfold Qih at h
 split at h
 ·rename_i u hu
  injection h with h; injection h with e1 h; injection h with e2 e3; subst e1; subst e2; subst e3
  have g := O.good hu
  obtain rfl := Qqn g.args ha
  refine CallsIn.mono ((callsIn_wide (n := 0)).2 (g.calls w)) ?_
  rintro e w' ⟨rfl, hb⟩
  exact k ρ _ wA w' hR (.below hr hb) (Qyk g.val)
 split at h
 case h_2 => cases h
 rename_i fn hfn
 split at h
 case h_2 => cases h
 rename_i c hbody
 dsimp only at h
 have hb1 := Qe h; clear h; obtain ⟨hsz, h⟩ := hb1
 have hsz := Z4 hsz
 split at h
 case h_2 => cases h
 rename_i e s hs
 have hb0 := Qe h; clear h; obtain ⟨he, h⟩ := hb0
 split at h
 case h_2 => cases h
 rename_i H1 hm
 refine callsIn_of_wp_marks (F := fen none) hfn hbody trivial ?_ rfl
 have hstart := AR.start ha (fn.ntmps - args.length) hsz
 have hst' : ({ tmps := args'.toArray ++ Array.replicate (fn.ntmps - args'.toArray.size) undef, defers := [] } : Act) = { tmps := args'.toArray ++ Array.replicate (fn.ntmps - args.length) undef, defers := [] } := by
  rw [show args'.toArray.size = args.length by simp [ha.len]]
 rw [hst']
 refine hc _ _ none _ _ _ _ _ hs ρ wA w _ hR hr hf hstart .none _ ?_
 intro ρ1 wA1 w1 a1 hR1 hst1 hA1
 have hf1 : fl <= s.N := by rw [<- hR1.size]; exact Nat.le_trans hf (by rw [<- hR.size]; exact hst1.sizeA)
 have fin : LeavesInM (fen none) 0 P fn a1.tmps R a1.defers .returning w1 := by
  refine Qms (base := base) (fl := fl) s.M s.H H1 s.N a1.defers wA1 w1 hm hR1 hst1.rel hA1.defs ?_
  intro wA2 w2 hR2 hst2
  have both := hst1.trans hst2
  have fin2 : ∀ (vs : List Value) (u : Value), Qfa P s.A (Qat H1 s.N) fn.results.toList = some vs -> u = (if h : vs.length = 1 then vs[0] else .tuple vs.toArray) -> v = u -> (H', N') = (H1, Qf5 N u H1 s.N) ->
   LeavesIn (fen none) 0 P fn a1.tmps R [] .returning w2 := by
   intro vs u hvs hu hvu hHN
   obtain ⟨ρ3, vs', g1, g2, g3⟩ := Qiw (fl := fl) (a := a1) hR2 hf1 fn.results.toList vs ρ1 hst2.rel hA1.tmps hvs
   have hu' : VRel ρ3 u (if h : vs'.length = 1 then vs'[0] else .tuple vs'.toArray) := by
    subst hu
    by_cases e1 : vs.length = 1
    ·obtain ⟨y, rfl⟩ := getElem_one e1
     cases g2 with
     | cons hv hn => cases hn; simpa using hv
    ·have e2 : vs'.length ≠ 1 := by rw [<- g2.len]; exact e1
     rw [dif_neg e1, dif_neg e2]
     have := g2.arr
     exact .tuple this.1 this.2
   injection hHN with hH hN'
   rw [hH, hN', hvu] at k
   obtain ⟨ρ4, wA4, k1, k2, k3⟩ := Qv0 (H1 := H1) (N1 := s.N) hr hR.size hf hR2 (both.trans g3) hu'
   exact ⟨_, Qd1 g1, k ρ4 _ wA4 w2 k1 k2 k3⟩
  split at h
  ·rename_i y hy
   injection h with h
   injection h with h1 h2
   exact fin2 _ y hy (by simp) h1.symm (by rw [<- h2])
  ·rename_i vs hno hvs
   injection h with h
   injection h with h1 h2
   refine fin2 _ (.tuple ⟨vs⟩) hvs ?_ h1.symm (by rw [<- h2])
   rw [dif_neg]
   intro e1
   obtain ⟨y, rfl⟩ := getElem_one e1
   exact hno y rfl
  ·cases h
 cases e with
 | normal => exact fin
 | ret => exact fin
 | _ => cases he
end
end Go.Proofs.Ytfeedchjdnedjaa.Ev
