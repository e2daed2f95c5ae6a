import Derived.Test.YtfeedchjdnedjaaEv23
section
set_option linter.unusedVariables false
set_option linter.unusedSimpArgs false
namespace Go.Proofs.Ytfeedchjdnedjaa.Ev
open Go
section
variable {P : Program} {O : Orc P} {base fl : Nat} {ρ : Ren} {code : Qa8} {ops : Array Oper} {ms : List Nat} {bs : List (Nat × Nat)} {m sz : Nat} {st : Nat -> St} {val : Nat -> Value}
structure InvA (P : Program) (base fl m : Nat) (ms : List Nat) (bs : List (Nat × Nat)) (ops : Array Oper) (sz : Nat) (st : Nat -> St) (val : Nat -> Value) (ρ : Ren) (w0 : World) (a0 : Act) (listed : Array Bool) (a : Act) (w : World) (ρ' : Ren) : Prop where
 lsz : listed.size = ops.size
 lm : ∀ k, listed.getD k false = true -> k < m
 cl : Cl ops listed
 le : ρ.Le ρ'
 new : ∀ b x, ρ' b = some x -> ρ b = some x \/ ((st 0).N <= b /\ w0.heap.size <= x.blk)
 dom : ∀ b x, ρ' b = some x -> (st 0).N <= b -> ∃ k, listed.getD k false = true /\ (st k).N <= b /\ b < (st (k + 1)).N
 img : ∀ b x, ρ' b = some x -> base <= x.blk /\ x.blk < w.heap.size
 asz : a.tmps.size = sz
 adef : a.defers = a0.defers
 tm0 : ∀ t : Nat, (∀ (k : Nat) (o : Oper), listed.getD k false = true -> ops[k]? = some o -> o.dst ≠ some t) -> a.tmps.getD t undef = a0.tmps.getD t undef
 tm1 : ∀ (k : Nat) (o : Oper) (t : Nat), listed.getD k false = true -> ops[k]? = some o -> o.dst = some t -> VRel (cut ρ' (st (k + 1)).N) (val k) (a.tmps.getD t undef)
 mem : ∀ i, i <= m -> (i < m -> listed.getD i false = false) -> ∀ b x, b < (st i).N -> (i < m -> b ∉ Qbl ms i (flt (st i).N bs)) -> alive (Qaf st i b) = true -> ρ' b = some x ->
  (∀ q, q < m -> Qcz q bs = some b -> (i < m -> (maskAt ms i).testBit q = true) -> listed.getD q false = true) -> ∃ o', w.heap[x.blk]? = some o' /\ ORel P (cut ρ' (st i).N) x (Qaf st i b) o'
 inj : ∀ i, i <= m -> (i < m -> listed.getD i false = false) -> ∀ b b' x x', b < (st i).N -> b' < (st i).N -> alive (Qaf st i b) = true -> alive (Qaf st i b') = true -> ρ' b = some x -> ρ' b' = some x' -> x.blk = x'.blk -> b = b'
 os : w.os = w0.os
 tape : w.tape = w0.tape
 output : w.output = w0.output
 size : w0.heap.size <= w.heap.size
 keep : ∀ j, j < w0.heap.size -> (∀ b x, fl <= b -> ρ b = some x -> x.blk ≠ j) -> w.heap[j]? = w0.heap[j]?
theorem Qpp {ρ ρ' : Ren} (h : ρ.Le ρ') (N : Nat) : (cut ρ N).Le (cut ρ' N) := fun b x e => by
 obtain ⟨h1, h2⟩ := Jz e
 rw [Qci h1]; exact h _ _ h2
theorem Qdu {ρ : Ren} {N N' : Nat} (h : N <= N') : (cut ρ N).Le (cut ρ N') := fun b x e => by
 obtain ⟨h1, h2⟩ := Jz e
 rw [Qci (by omega)]; exact h2
theorem InvA.start (T : Tra O code fl m ms bs ops sz st val) (hm : m <= ops.size) {w0 wA : World} {a0 : Act} (hR : Rep (st 0).H (st 0).N wA) (hr : WRel P base ρ wA w0) (hA : AR ρ sz (st 0).A (st 0).M a0) (n : Nat) :
 InvA P base fl m ms bs ops sz st val ρ w0 a0 (Array.replicate ops.size false) a0 { w0 with drawn := n } ρ := by
 have hno : ∀ k, (Array.replicate ops.size false).getD k false = false := by
  intro k; rw [Array.getD_eq_getD_getElem?, Array.getElem?_replicate]; split <;> rfl
 have hnoF : ∀ k, (Array.replicate ops.size false).getD k false = true -> False := fun k h => by rw [hno] at h; cases h
 have hdom : ∀ b x, ρ b = some x -> b < (st 0).N := fun b x h => by rw [<- hR.size]; exact (hr.dom b x h).1
 have hobj : ∀ b, b < (st 0).N -> wA.heap[b]? = some (Qaf st 0 b) := fun b h => by rw [hR.at_, Xt, if_pos h]; rfl
 refine ⟨by simp, fun k h => (hnoF k h).elim, fun k o _ h => (hnoF k h).elim, .refl _, fun b x h => .inl h, fun b x h h0 => absurd (hdom b x h) (by omega), fun b x h => (hr.dom b x h).2, hA.size, rfl, fun t _ => rfl,
  fun k o t h => (hnoF k h).elim, ?_, ?_, rfl, rfl, rfl, Nat.le_refl _, fun _ _ _ => rfl⟩
 ·intro i hi hl b x hb hh ha hx hq
  have hb0 := hdom b x hx
  have hsame : Qaf st i b = Qaf st 0 b := by
   refine T.objs hb0 (Nat.zero_le _) (by omega) hi (fun q _ hqi hbq => ?_)
   have hqm : q < m := by omega
   have hfalse : ∀ h : (i < m -> (maskAt ms i).testBit q = true), False := fun h => by
    have := hq q hqm hbq h
    rw [hno] at this; cases this
   by_cases him : i < m
   ·refine hfalse (fun _ => ?_)
    cases hc : (maskAt ms i).testBit q with
    | true => rfl
    | false =>
      exfalso
      refine hh him (Qc3 (Qdk.2 ⟨Qc4 hbq, hb⟩) (by omega) hc ?_)
      cases hc2 : (maskAt ms q).testBit i with
      | false => rfl
      | true => have := T.stat.lt q _ (T.get (by omega)) i hc2; omega
   ·exact hfalse (fun h => absurd h him)
  rw [hsame] at ha ⊢
  obtain ⟨o', h1, h2⟩ := hr.obj b _ x (hobj b hb0) ha hx
  refine ⟨o', h1, h2.mono (fun c y hc => ?_)⟩
  rw [Qci (Nat.lt_of_lt_of_le (hdom c y hc) (T.n0 (by omega)))]; exact hc
 ·intro i hi hl b b' x x' hb hb' ha ha' hx hx' he
  have h0 := hdom b x hx
  have h0' := hdom b' x' hx'
  exact hr.inj b b' _ _ x x' (hobj b h0) (T.Qto h0 (by omega) hi ha) (hobj b' h0') (T.Qto h0' (by omega) hi ha') hx hx' he
theorem InvA.view (T : Tra O code fl m ms bs ops sz st val) (hm : m <= ops.size) {w0 w : World} {a0 a : Act} {listed : Array Bool} {ρ' : Ren} (I : InvA P base fl m ms bs ops sz st val ρ w0 a0 listed a w ρ') (hlow : base <= w0.heap.size)
 {k : Nat} (hk : k < m) (hl : listed.getD k false = false) (hpre : ∀ j, (maskAt ms k).testBit j = true -> listed.getD j false = true) :
 WRel P base (cut ρ' (st k).N) (Qce (hide (st k).H (Qbl ms k (flt (st k).N bs))) (st k).N) w := by
 have hRw := Rep.Qh9 (hide (st k).H (Qbl ms k (flt (st k).N bs))) (T.sm (i := k) (by omega))
 have hat : ∀ b o, (Qce (hide (st k).H (Qbl ms k (flt (st k).N bs))) (st k).N).heap[b]? = some o -> alive o = true -> b < (st k).N /\ b ∉ Qbl ms k (flt (st k).N bs) /\ o = Qaf st k b := by
  intro b o h ha
  rw [hRw.at_, Qla (T.hid (i := k) (by omega))] at h
  split at h
  case isFalse => cases h
  rename_i hlt
  injection h with h
  split at h
  ·subst h; cases ha
  ·exact ⟨hlt, ‹_›, h.symm⟩
 refine ⟨Nat.le_trans hlow I.size, fun b x h => ?_, fun b o x h1 h2 h3 => ?_, fun b b' o o' x x' h1 a1 h2 a2 r1 r2 hx => ?_⟩
 ·obtain ⟨h1, h2⟩ := Jz h
  exact ⟨by rw [hRw.size]; exact h1, I.img b x h2⟩
 ·obtain ⟨g1, g2, g3⟩ := hat b o h1 h2
  obtain ⟨_, r2⟩ := Jz h3
  subst g3
  exact I.mem k (Nat.le_of_lt hk) (fun _ => hl) b x g1 (fun _ => g2) h2 r2 (fun q _ _ hq => hpre q (hq hk))
 ·obtain ⟨g1, g2, g3⟩ := hat b o h1 a1
  obtain ⟨g1', g2', g3'⟩ := hat b' o' h2 a2
  subst g3; subst g3'
  exact I.inj k (Nat.le_of_lt hk) (fun _ => hl) b b' x x' g1 g1' a1 a2 (Jz r1).2 (Jz r2).2 hx
theorem InvA.tmp (T : Tra O code fl m ms bs ops sz st val) {w0 w : World} {a0 a : Act} {listed : Array Bool} {ρ' : Ren} (I : InvA P base fl m ms bs ops sz st val ρ w0 a0 listed a w ρ') (hA : AR ρ sz (st 0).A (st 0).M a0)
 (hdom : ∀ b x, ρ b = some x -> b < (st 0).N) {k : Nat} (hk : k < ops.size) (hl : listed.getD k false = false) (hpre : ∀ j, (maskAt ms k).testBit j = true -> listed.getD j false = true) {t : Nat} (ht : t ∈ Qb4 ops.toList ops[k]) :
 VRel (cut ρ' (st k).N) (Wh (st k).A (.tmp t)) (a.tmps.getD t undef) := by
 have hev := Qy6 T.stat T.okops (st := st) (val := val) (fun i o ho => (T.one i o ho).2.2.1) k (Nat.le_of_lt hk) t
 have hle0 : ρ.Le (cut ρ' (st k).N) := fun b x h => by
  rw [Qci (Nat.lt_of_lt_of_le (hdom b x h) (T.n0 (by omega)))]; exact I.le _ _ h
 have old : (∀ (j : Nat) (o : Oper), listed.getD j false = true -> ops[j]? = some o -> o.dst ≠ some t) -> VRel (cut ρ' (st k).N) (Wh (st 0).A (.tmp t)) (a.tmps.getD t undef) := by
  intro h
  rw [I.tm0 t h]
  exact (hA.tmps t).mono hle0
 rw [hev]
 cases hf : Qah t 0 ops.toList with
 | none =>
   refine old (fun j o hj ho hd => ?_)
   have := T.stat.dst j o t ho hd
   rw [hf] at this; cases this
 | some j =>
   dsimp only
   have huniq : ∀ (j' : Nat) (o : Oper), ops[j']? = some o -> o.dst = some t -> j' = j := fun j' o ho hd => by
    have := T.stat.dst j' o t ho hd
    rw [hf] at this; injection this with this; exact this.symm
   rcases T.stat.look k _ t j (T.get hk) ht hf with h | ⟨h1, h2⟩ | ⟨h1, h2⟩
   ·subst h
    rw [if_neg (by omega)]
    refine old (fun j' o hj' ho hd => ?_)
    rw [huniq j' o ho hd, hl] at hj'; cases hj'
   ·rw [if_pos h1]
    obtain ⟨i', o', e1, e2, e3⟩ := Y1 _ _ _ hf
    rw [Nat.zero_add] at e1; subst e1
    rw [J7] at e2
    exact (I.tm1 _ o' t (hpre _ h2) e2 e3).mono (Qdu (T.mono (by omega) (by omega)))
   ·rw [if_neg (by omega)]
    refine old (fun j' o hj' ho hd => ?_)
    have e := huniq j' o ho hd
    subst e
    have hlt := (Array.getElem?_eq_some_iff.1 ho).1
    have := T.stat.pre I.cl j' o ho (fun e he => I.cl j' o ho hj' e he) k h2
    rw [hl] at this; cases this
theorem Qgu {ops : Array Oper} {o : Oper} {t : Nat} (h : Operand.tmp t ∈ o.op.operands) : t ∈ Qb4 ops.toList o := by
 unfold Qb4
 refine List.mem_append_left _ (List.mem_filterMap.2 ⟨.tmp t, Array.mem_toList_iff.2 h, rfl⟩)
theorem Qiq {ops : Array Oper} {o : Oper} {A : Tr Value} {a : Act} {ρ : Ren} (h : ∀ t, t ∈ Qb4 ops.toList o -> VRel ρ (Wh A (.tmp t)) (a.tmps.getD t undef)) :
 Region.wanted o (yielded ops a.tmps) = Qa7 ops A o := by
 unfold Region.wanted Qa7
 cases hg : o.guard with
 | none => rfl
 | some jw =>
   obtain ⟨j, want⟩ := jw
   dsimp only
   unfold yielded
   rw [Jj, J7]
   cases hj : ops[j]? with
   | none => simp
   | some g =>
     simp only [Option.bind_some]
     cases hd : g.dst with
     | none => simp
     | some d =>
       simp only [Option.bind_some]
       have hr := h d (by
        unfold Qb4
        refine List.mem_append_right _ ?_
        rw [hg]; dsimp only
        rw [Jj, J7, hj]; dsimp only
        rw [hd]; simp)
       rw [Array.getD_eq_getD_getElem?] at hr
       simp only [Wh] at hr
       cases hA : A.get d with
       | none =>
         rw [hA] at hr
         cases hT : a.tmps[d]? with
         | none => simp
         | some v =>
           rw [hT] at hr
           simp only [Option.getD_some] at hr
           generalize hu : undef = u at hr
           unfold undef at hu
           subst hu
           cases hr
           simp
       | some u =>
         rw [hA] at hr
         dsimp only at hr
         cases hT : a.tmps[d]? with
         | none =>
           rw [hT] at hr
           simp only [Option.getD_none] at hr
           generalize hu : undef = y at hr
           unfold undef at hu
           subst hu
           cases hr
           simp
         | some v =>
           rw [hT] at hr
           simp only [Option.getD_some] at hr
           cases hr <;> simp
end
end Go.Proofs.Ytfeedchjdnedjaa.Ev
end

section
set_option linter.unusedVariables false
set_option linter.unusedSimpArgs false
namespace Go.Proofs.Ytfeedchjdnedjaa.Ev
open Go
section
variable {P : Program} {O : Orc P} {base fl : Nat} {ρ : Ren} {code : Qa8} {ops : Array Oper} {ms : List Nat} {bs : List (Nat × Nat)} {m sz : Nat} {st : Nat -> St} {val : Nat -> Value}
theorem Qgi {listed : Array Bool} {k : Nat} (hk : k < listed.size) (j : Nat) : (listed.setIfInBounds k true).getD j false = if j = k then true else listed.getD j false := by
 rw [Array.getD_eq_getD_getElem?, Array.getElem?_setIfInBounds, Array.getD_eq_getD_getElem?]
 by_cases e : k = j
 ·subst e; rw [if_pos rfl, if_pos hk, if_pos rfl]; rfl
 ·rw [if_neg e, if_neg (fun h => e h.symm)]
theorem Qa1 {sz : Nat} {ops : Array Oper} (h : Qhr sz ops = true) {k : Nat} {o : Oper} (ho : ops[k]? = some o) : sz < 1000000 /\ (∀ d : Nat, o.dst = some d -> d < sz) /\ (∀ x ∈ o.op.operands, Qep x = true) := by
 unfold Qhr at h
 simp only [Bool.and_eq_true] at h
 have := List.all_eq_true.1 h.2 o (Array.mem_toList_iff.2 (Array.mem_of_getElem? ho))
 simp only [Bool.and_eq_true] at this
 refine ⟨Z4 h.1, fun d hd => ?_, fun x hx => List.all_eq_true.1 this.1 x (Array.mem_toList_iff.2 hx)⟩
 have h2 := this.2
 rw [hd] at h2
 exact Z4 h2
theorem InvA.adv (T : Tra O code fl m ms bs ops sz st val) (hm : m <= ops.size) {w0 w w' : World} {a0 a : Act} {listed : Array Bool} {ρ' ρ'' : Ren} (I : InvA P base fl m ms bs ops sz st val ρ w0 a0 listed a w ρ')
 {k : Nat} (hk : k < m) (hl : listed.getD k false = false) (o : Oper) (ho : ops[k]? = some o) (hrdy : ∀ e ∈ Qb3 o, listed.getD e false = true) {v' : Value}
 (hle : ρ'.Le ρ'') (hnew : ∀ b x, ρ'' b = some x -> ρ' b = some x \/ ((st k).N <= b /\ b < (st (k + 1)).N /\ w.heap.size <= x.blk))
 (himg : ∀ b x, ρ'' b = some x -> base <= x.blk /\ x.blk < w'.heap.size) (hval : VRel (cut ρ'' (st (k + 1)).N) (val k) v')
 (hmem : ∀ i, i <= m -> (i < m -> i ≠ k /\ listed.getD i false = false) -> ∀ b x, b < (st i).N -> (i < m -> b ∉ Qbl ms i (flt (st i).N bs)) -> alive (Qaf st i b) = true -> ρ'' b = some x ->
  (∀ q, q < m -> Qcz q bs = some b -> (i < m -> (maskAt ms i).testBit q = true) -> q = k \/ listed.getD q false = true) -> ∃ o', w'.heap[x.blk]? = some o' /\ ORel P (cut ρ'' (st i).N) x (Qaf st i b) o')
 (hinj : ∀ i, i <= m -> (i < m -> i ≠ k /\ listed.getD i false = false) -> ∀ b b' x x', b < (st i).N -> b' < (st i).N -> alive (Qaf st i b) = true -> alive (Qaf st i b') = true -> ρ'' b = some x -> ρ'' b' = some x' -> x.blk = x'.blk -> b = b')
 (h1 : w'.os = w.os) (h2 : w'.tape = w.tape) (h3 : w'.output = w.output) (hsz : w.heap.size <= w'.heap.size)
 (hkeep : ∀ j, j < w0.heap.size -> (∀ b x, fl <= b -> ρ b = some x -> x.blk ≠ j) -> w'.heap[j]? = w.heap[j]?) :
 InvA P base fl m ms bs ops sz st val ρ w0 a0 (listed.setIfInBounds k true) (a.put o.dst v') w' ρ'' := by
 have hks : k < listed.size := by rw [I.lsz]; omega
 have hg := Qgi hks
 obtain ⟨hsz', hdst, _⟩ := Qa1 T.okops ho
 have split : ∀ {i : Nat}, (i < m -> (listed.setIfInBounds k true).getD i false = false) -> (i < m -> i ≠ k /\ listed.getD i false = false) := by
  intro i h him
  have := h him
  rw [hg] at this
  by_cases e : i = k
  ·rw [if_pos e] at this; cases this
  ·rw [if_neg e] at this; exact ⟨e, this⟩
 refine ⟨by simp [I.lsz], fun j hj => ?_, fun j oj hoj hj e he => ?_, I.le.trans hle, fun b x hx => ?_, fun b x hx h0 => ?_, himg, ?_, ?_, fun t ht => ?_, fun j oj t hj hoj hd => ?_, ?_, ?_, h1.trans I.os, h2.trans I.tape, h3.trans I.output, Nat.le_trans I.size hsz, ?_⟩
 ·rw [hg] at hj
  split at hj
  ·omega
  ·exact I.lm j hj
 ·rw [hg] at hj ⊢
  by_cases ee : e = k
  ·rw [if_pos ee]
  ·rw [if_neg ee]
   split at hj
   ·rename_i ejk
    subst ejk
    rw [ho] at hoj; injection hoj with hoj; subst hoj
    exact hrdy e he
   ·exact I.cl j oj hoj hj e he
 ·rcases hnew b x hx with h | ⟨g1, g2, g3⟩
  ·exact I.new b x h
  ·exact .inr ⟨Nat.le_trans (T.n0 (by omega)) g1, Nat.le_trans I.size g3⟩
 ·rcases hnew b x hx with h | ⟨g1, g2, g3⟩
  ·obtain ⟨j, q1, q2⟩ := I.dom b x h h0
   refine ⟨j, ?_, q2⟩
   rw [hg]; split
   ·rfl
   ·exact q1
  ·exact ⟨k, by rw [hg, if_pos rfl], g1, g2⟩
 ·cases hd : o.dst with
  | none => exact I.asz
  | some d => simp [Act.put, I.asz]
 ·cases hd : o.dst with
  | none => exact I.adef
  | some d => exact I.adef
 ·have hne : o.dst ≠ some t := ht k o (by rw [hg, if_pos rfl]) ho
  have e1 : (a.put o.dst v').tmps.getD t undef = a.tmps.getD t undef := by
   cases hd : o.dst with
   | none => rfl
   | some d =>
     show (a.tmps.setIfInBounds d v').getD t undef = _
     rw [Array.getD_eq_getD_getElem?, Array.getElem?_setIfInBounds, if_neg (fun e => hne (by rw [hd, e])), <- Array.getD_eq_getD_getElem?]
  rw [e1]
  refine I.tm0 t (fun j oj hj hoj => ht j oj ?_ hoj)
  rw [hg]; split
  ·rfl
  ·exact hj
 ·rw [hg] at hj
  by_cases ejk : j = k
  ·subst ejk
   rw [ho] at hoj; injection hoj with hoj; subst hoj
   rw [hd]
   show VRel _ _ ((a.tmps.setIfInBounds t v').getD t undef)
   rw [Array.getD_eq_getD_getElem?, Array.getElem?_setIfInBounds, if_pos rfl, if_pos (by rw [I.asz]; exact hdst t hd)]
   exact hval
  ·rw [if_neg ejk] at hj
   have hne : o.dst ≠ some t := fun e => by
    have q1 := T.stat.dst k o t ho e
    have q2 := T.stat.dst j oj t hoj hd
    rw [q1] at q2; injection q2 with q2; exact ejk q2.symm
   have e1 : (a.put o.dst v').tmps.getD t undef = a.tmps.getD t undef := by
    cases hd : o.dst with
    | none => rfl
    | some d =>
      show (a.tmps.setIfInBounds d v').getD t undef = _
      rw [Array.getD_eq_getD_getElem?, Array.getElem?_setIfInBounds, if_neg (fun e => hne (by rw [hd, e])), <- Array.getD_eq_getD_getElem?]
   rw [e1]
   exact (I.tm1 j oj t hj hoj hd).mono (Qpp hle _)
 ·intro i hi hli b x hb hh ha hx hq
  refine hmem i hi (split hli) b x hb hh ha hx (fun q q1 q2 q3 => ?_)
  have := hq q q1 q2 q3
  rw [hg] at this
  split at this
  ·exact .inl ‹_›
  ·exact .inr this
 ·intro i hi hli
  exact hinj i hi (split hli)
 ·intro j hj hc
  rw [hkeep j hj hc]
  exact I.keep j hj hc
theorem InvA.advQ (T : Tra O code fl m ms bs ops sz st val) (hm : m <= ops.size) {w0 w w' : World} {a0 a : Act} {listed : Array Bool} {ρ' ρ'' : Ren} (I : InvA P base fl m ms bs ops sz st val ρ w0 a0 listed a w ρ')
 {k : Nat} (hk : k < m) (hl : listed.getD k false = false) (o : Oper) (ho : ops[k]? = some o) (hrdy : ∀ e ∈ Qb3 o, listed.getD e false = true) (hbk : Qcz k bs = none) {v' : Value}
 (hle : ρ'.Le ρ'') (hnew : ∀ b x, ρ'' b = some x -> ρ' b = some x \/ ((st k).N <= b /\ b < (st (k + 1)).N /\ w.heap.size <= x.blk))
 (himg : ∀ b x, ρ'' b = some x -> base <= x.blk /\ x.blk < w'.heap.size) (hval : VRel (cut ρ'' (st (k + 1)).N) (val k) v')
 (hm2 : ∀ b x, (st k).N <= b -> b < (st (k + 1)).N -> alive (Qaf st (k + 1) b) = true -> ρ'' b = some x -> ∃ o', w'.heap[x.blk]? = some o' /\ ORel P (cut ρ'' (st (k + 1)).N) x (Qaf st (k + 1) b) o')
 (hi2 : ∀ b b' x x', (st k).N <= b -> b < (st (k + 1)).N -> (st k).N <= b' -> b' < (st (k + 1)).N -> alive (Qaf st (k + 1) b) = true -> alive (Qaf st (k + 1) b') = true -> ρ'' b = some x -> ρ'' b' = some x' -> x.blk = x'.blk -> b = b')
 (h1 : w'.os = w.os) (h2 : w'.tape = w.tape) (h3 : w'.output = w.output) (hsz : w.heap.size <= w'.heap.size) (hsame : ∀ j, j < w.heap.size -> w'.heap[j]? = w.heap[j]?) :
 InvA P base fl m ms bs ops sz st val ρ w0 a0 (listed.setIfInBounds k true) (a.put o.dst v') w' ρ'' := by
 have later : ∀ {i b : Nat}, i <= m -> (i < m -> i ≠ k /\ listed.getD i false = false) -> b < (st i).N -> (i < m -> b ∉ Qbl ms i (flt (st i).N bs)) -> (st k).N <= b -> b < (st (k + 1)).N ->
  (∀ q, q < m -> Qcz q bs = some b -> (i < m -> (maskAt ms i).testBit q = true) -> q = k \/ listed.getD q false = true) -> k + 1 <= i /\ Qaf st i b = Qaf st (k + 1) b := by
  intro i b hi hli hb hh g1 g2 hq
  have hki : k + 1 <= i := by
   rcases Nat.lt_or_ge k i with h | h
   ·exact h
   ·have := T.mono (i := i) (j := k) h (by omega); omega
  refine ⟨hki, T.objs g2 hki (by omega) hi (fun q q1 q2 hbq => ?_)⟩
  have hqm : q < m := by omega
  have hown := T.own (q := q) (by omega) hk (Qc4 hbq) g1 g2
  have hno : q = k \/ listed.getD q false = true -> False := by
   rintro (e | e)
   ·omega
   ·have := T.stat.pre I.cl q _ (T.get (by omega)) (I.cl q _ (T.get (by omega)) e) k hown
    rw [hl] at this; cases this
  refine hno (hq q hqm hbq (fun him => ?_))
  cases hc : (maskAt ms i).testBit q with
  | true => rfl
  | false =>
    exfalso
    refine hh him (Qc3 (Qdk.2 ⟨Qc4 hbq, hb⟩) (by omega) hc ?_)
    cases hc2 : (maskAt ms q).testBit i with
    | false => rfl
    | true => have := T.stat.lt q _ (T.get (by omega)) i hc2; omega
 refine I.adv T hm hk hl o ho hrdy hle hnew himg hval ?_ ?_ h1 h2 h3 hsz (fun j hj _ => hsame j (Nat.lt_of_lt_of_le hj I.size))
 ·intro i hi hli b x hb hh ha hx hq
  rcases hnew b x hx with h | ⟨g1, g2, g3⟩
  ·obtain ⟨o', p, q⟩ := I.mem i hi (fun him => (hli him).2) b x hb hh ha h (fun q q1 q2 q3 => by
    rcases hq q q1 q2 q3 with e | e
    ·subst e; rw [hbk] at q2; cases q2
    ·exact e)
   exact ⟨o', by rw [hsame _ (I.img b x h).2]; exact p, q.mono (Qpp hle _)⟩
  ·obtain ⟨hki, hobj⟩ := later hi hli hb hh g1 g2 hq
   rw [hobj] at ha ⊢
   obtain ⟨o', p, q⟩ := hm2 b x g1 g2 ha hx
   exact ⟨o', p, q.mono (Qdu (T.mono hki (by omega)))⟩
 ·intro i hi hli b b' x x' hb hb' ha ha' hx hx' he
  rcases hnew b x hx with h | ⟨g1, g2, g3⟩
  ·rcases hnew b' x' hx' with h' | ⟨g1', g2', g3'⟩
   ·exact I.inj i hi (fun him => (hli him).2) b b' x x' hb hb' ha ha' h h' he
   ·have := (I.img b x h).2; omega
  ·rcases hnew b' x' hx' with h' | ⟨g1', g2', g3'⟩
   ·have := (I.img b' x' h').2; omega
   ·have hki : k + 1 <= i := by
     rcases Nat.lt_or_ge k i with h | h
     ·exact h
     ·have := T.mono (i := i) (j := k) h (by omega); omega
    have ha := T.Qs6 g2 hki (by omega) hi ha
    have ha' := T.Qs6 g2' hki (by omega) hi ha'
    exact hi2 b b' x x' g1 g2 g1' g2' ha ha' hx hx' he
end
end Go.Proofs.Ytfeedchjdnedjaa.Ev
end

section
set_option linter.unusedVariables false
set_option linter.unusedSimpArgs false
namespace Go.Proofs.Ytfeedchjdnedjaa.Ev
open Go
section
variable {P : Program} {O : Orc P} {base fl : Nat} {ρ : Ren} {code : Qa8} {ops : Array Oper} {ms : List Nat} {bs : List (Nat × Nat)} {m sz : Nat} {st : Nat -> St} {val : Nat -> Value}
theorem InvA.step (T : Tra O code fl m ms bs ops sz st val) (hm : m <= ops.size) (hc : Qet P base code) (hn : Named P) {wA0 w0 w : World} {a0 a : Act} {listed : Array Bool} {ρ' : Ren}
 (I : InvA P base fl m ms bs ops sz st val ρ w0 a0 listed a w ρ') (hA : AR ρ sz (st 0).A (st 0).M a0) (hR0 : Rep (st 0).H (st 0).N wA0) (hr0 : WRel P base ρ wA0 w0)
 {k : Nat} (hk : k < m) (hl : listed.getD k false = false) (hrdy : ∀ o, ops[k]? = some o -> ∀ e ∈ Qb3 o, listed.getD e false = true) {rd : Option Nat} {K : Act -> World -> Prop} {Q : Exit -> Act -> World -> Prop}
 (hK : ∀ a' w' ρ'', InvA P base fl m ms bs ops sz st val ρ w0 a0 (listed.setIfInBounds k true) a' w' ρ'' -> K a' w') : wpOpIn (fen rd) 0 P ops Q k K a w := by
 have hks : k < ops.size := by omega
 have ho := T.get hks
 have hrdy := hrdy _ ho
 have hdom : ∀ b x, ρ b = some x -> b < (st 0).N := fun b x h => by rw [<- hR0.size]; exact (hr0.dom b x h).1
 have hpre := T.stat.pre I.cl k _ ho hrdy
 have htmp : ∀ t, t ∈ Qb4 ops.toList ops[k] -> VRel (cut ρ' (st k).N) (Wh (st k).A (.tmp t)) (a.tmps.getD t undef) := fun t ht => I.tmp T hA hdom hks hl hpre ht
 have hwant := Qiq htmp
 have hev : ∀ x ∈ (ops[k]).op.operands, VRel (cut ρ' (st k).N) (Wh (st k).A x) (a.eval x) := by
  intro x hx
  have hok := (Qa1 T.okops ho).2.2 x hx
  cases x with
  | tmp t => exact htmp t (Qgu hx)
  | const v => exact Qbq hok
  | global g => cases hok
  | func f => exact .func rfl rfl (fun i v v' a => by simp at a) rfl (fun i v v' a => by simp at a)
 have hview := I.view T hm hr0.low hk hl hpre
 have hsmk := T.sm (i := k) (by omega)
 have hRw := Rep.Qh9 (hide (st k).H (Qbl ms k (flt (st k).N bs))) hsmk
 have hn0 := T.n0 (i := k) (by omega)
 have hstep := T.step hks
 unfold wpOpIn
 rw [ho]; dsimp only
 rw [hwant]
 obtain ⟨hsm, h1, hA1, hM1⟩ := T.one k _ ho
 have hputs := T.put (b := (Qcz k bs).getD 0) hks hk
 generalize hvi : val k = vi at h1
 generalize hH : (st (k + 1)).H = H' at h1
 generalize hN : (st (k + 1)).N = N' at h1
 cases h1 with
 | no hw hb =>
   rw [hw, if_neg (by simp)]
   refine ⟨fun f _ => trivial, hK _ _ _ (I.advQ T hm hk hl _ ho hrdy hb (.refl _) (fun b x h => .inl h) I.img (by rw [hvi]; exact ARel.undef) ?_ ?_ rfl rfl rfl (Nat.le_refl _) (fun _ _ => rfl))⟩
   ·intro b x h1 h2; omega
   ·intro b b' x x' h1 h2; omega
 | bar hw him => omega
 | @quiet _ H _ hw him hb h hown =>
   rw [hw, if_pos rfl]
   refine Qxg hc hn h hRw hview (Nat.le_refl _) hev (rd := rd) ?_
   intro ρop v' wA' w' hR' hst hv
   have hfix : ∀ b x, ρop b = some x -> b < (st (k + 1)).N /\ (b < (st k).N -> ρ' b = some x) /\ ((st k).N <= b -> w.heap.size <= x.blk) := by
    intro b x hx
    refine ⟨by rw [hN, <- hR'.size]; exact (hst.rel.dom b x hx).1, fun hb => ?_, fun hb => ?_⟩
    ·rcases hst.new b x hx with e | ⟨e, _⟩
     ·exact (Jz e).2
     ·rw [hRw.size] at e; omega
    ·rcases hst.new b x hx with e | ⟨_, e | ⟨b0, x0, e1, e2, _⟩⟩
     ·have := (Jz e).1; omega
     ·exact e
     ·have := (Jz e2).1; omega
   generalize hρ : (fun b => if (st k).N <= b /\ b < (st (k + 1)).N then ρop b else ρ' b : Ren) = ρ''
   have hin : ∀ b, (st k).N <= b -> b < (st (k + 1)).N -> ρ'' b = ρop b := fun b h1 h2 => by rw [<- hρ]; exact if_pos ⟨h1, h2⟩
   have hout : ∀ b, ¬ ((st k).N <= b /\ b < (st (k + 1)).N) -> ρ'' b = ρ' b := fun b h1 => by rw [<- hρ]; exact if_neg h1
   have hople : ρop.Le (cut ρ'' (st (k + 1)).N) := by
    intro b x hx
    obtain ⟨f1, f2, f3⟩ := hfix b x hx
    rw [Qci f1]
    by_cases c : (st k).N <= b
    ·rw [hin b c f1]; exact hx
    ·rw [hout b (by omega)]; exact f2 (by omega)
   have hobj : ∀ b, (st k).N <= b -> b < (st (k + 1)).N -> wA'.heap[b]? = some (Qaf st (k + 1) b) := by
    intro b h1 h2
    have hnh : b ∉ Qbl ms k (flt (st k).N bs) := fun hh => by have := T.hid0 hh; omega
    rw [hR'.at_, Xt, if_pos (by omega)]
    unfold Qaf
    rw [hH, Qg4 _ _ _ (T.hid (i := k) (by omega)), if_neg hnh]
   refine hK _ _ ρ'' (I.advQ T hm hk hl _ ho hrdy hb ?_ ?_ ?_ (by rw [hvi]; exact hv.mono hople) ?_ ?_ hst.os hst.tape hst.output hst.size ?_)
   ·intro b x hx
    by_cases c : (st k).N <= b /\ b < (st (k + 1)).N
    ·exfalso
     obtain ⟨k2, q1, q2, q3⟩ := I.dom b x hx (by omega)
     have hk2 := I.lm k2 q1
     rcases Nat.lt_trichotomy k2 k with c2 | c2 | c2
     ·have := T.mono (i := k2 + 1) (j := k) c2 (by omega); omega
     ·subst c2; rw [hl] at q1; cases q1
     ·have := T.mono (i := k + 1) (j := k2) c2 (by omega); omega
    ·rw [hout b c]; exact hx
   ·intro b x hx
    by_cases c : (st k).N <= b /\ b < (st (k + 1)).N
    ·rw [hin b c.1 c.2] at hx
     exact .inr ⟨c.1, c.2, (hfix b x hx).2.2 c.1⟩
    ·rw [hout b c] at hx; exact .inl hx
   ·intro b x hx
    by_cases c : (st k).N <= b /\ b < (st (k + 1)).N
    ·rw [hin b c.1 c.2] at hx
     exact (hst.rel.dom b x hx).2
    ·rw [hout b c] at hx
     have := I.img b x hx
     exact ⟨this.1, Nat.lt_of_lt_of_le this.2 hst.size⟩
   ·intro b x h1 h2 ha hx
    rw [hin b h1 h2] at hx
    obtain ⟨o', p, q⟩ := hst.rel.obj b _ x (hobj b h1 h2) ha hx
    exact ⟨o', p, q.mono hople⟩
   ·intro b b' x x' h1 h2 h1' h2' ha ha' hx hx' he
    rw [hin b h1 h2] at hx
    rw [hin b' h1' h2'] at hx'
    exact hst.rel.inj b b' _ _ x x' (hobj b h1 h2) ha (hobj b' h1' h2') ha' hx hx' he
   ·intro j hj
    refine hst.keep j hj (fun b x hb hx => ?_)
    have := (Jz hx).1; omega
 | @put n v b ob hw him hs h hv hb hlt hf =>
   rw [hw, if_pos rfl]
   obtain ⟨x, oA, o0, o1, n', hx, hoA, halA, hw0, hrun, hnr, hor⟩ := Qs3 h hs hRw hview hev
   have hx' := (Jz hx).2
   rw [hb] at hputs
   obtain ⟨_, ob', _, _, hfo, _, _, _, hH1, hN1, _, hak, _, hobk⟩ := hputs rfl
   have hob : ob' = ob := by
    have e : some (_, Upd.put b ob') = some (n, Upd.put b ob) := hfo.symm.trans h
    injection e with e; injection e with _ e; injection e
   subst hob
   simp only [Option.getD_some] at hobk hak
   have hxw : x.blk < w.heap.size := (Array.getElem?_eq_some_iff.1 hw0).1
   have hdiff : ∀ i, i <= m -> (i < m -> i ≠ k /\ listed.getD i false = false) -> ∀ b2 x2, b2 < (st i).N -> b2 ≠ b -> alive (Qaf st i b2) = true -> ρ' b2 = some x2 -> x2.blk ≠ x.blk := by
    intro i hi hli b2 x2 hb2 hne ha hx2 he
    rcases Nat.lt_or_ge i k with hik | hik
    ·exact hne (I.inj k (by omega) (fun _ => hl) b2 b x2 x (Nat.lt_of_lt_of_le hb2 (T.mono (by omega) (by omega))) hlt (T.Qtp hb2 ha (by omega) (by omega) (by omega)) hak hx2 hx' he)
    ·exact hne (I.inj i hi (fun him => (hli him).2) b2 b x2 x hb2 (Nat.lt_of_lt_of_le hlt (T.mono hik (by omega))) ha (T.Qtp hlt hak hik (by omega) hi) hx2 hx' he)
   have fin : ∀ v', VRel (cut ρ' (st k).N) vi v' -> K (a.put (ops[k]).dst v') { w with heap := w.heap.setIfInBounds x.blk o1 } := by
    intro v' hvr
    refine hK _ _ ρ' (I.adv T hm hk hl _ ho hrdy (.refl _) (fun b x h => .inl h) ?_ (by rw [hvi]; exact hvr.mono (Qdu hstep)) ?_ (fun i hi hli => I.inj i hi (fun him => (hli him).2)) rfl rfl rfl (by simp) ?_)
    ·intro b2 x2 h2
     have := I.img b2 x2 h2
     exact ⟨this.1, by simpa using this.2⟩
    ·intro i hi hli b2 x2 hb2 hh ha hx2 hq
     by_cases c : b2 = b
     ·subst c
      rw [hx'] at hx2; injection hx2 with hx2; subst hx2
      have hkl : ∀ q, q < m -> (maskAt ms q).testBit k = true -> listed.getD q false = true -> False := by
       intro q hqm hqk hql
       have := T.stat.pre I.cl q _ (T.get (by omega)) (I.cl q _ (T.get (by omega)) hql) k hqk
       rw [hl] at this; cases this
      have hki : k < i := by
       by_cases him2 : i < m
       ·obtain ⟨hne, hli2⟩ := hli him2
        cases hc1 : (maskAt ms i).testBit k with
        | true => exact T.stat.lt i _ (T.get (by omega)) k hc1
        | false =>
          exfalso
          refine hh him2 (Qc3 (Qdk.2 ⟨Qc4 hb, hb2⟩) (fun e => hne e.symm) hc1 ?_)
          cases hc2 : (maskAt ms k).testBit i with
          | false => rfl
          | true => have := hpre i hc2; rw [hli2] at this; cases this
       ·omega
      have hsame : Qaf st i b2 = Qaf st (k + 1) b2 := by
       refine T.objs (Nat.lt_of_lt_of_le hlt hstep) hki (by omega) hi (fun q q1 q2 hbq => ?_)
       have hqm : q < m := by omega
       have hch := T.chain (q := k) (k := q) (b := b2) (by omega) (by omega) hqm hb hbq
       have hlq : q = k \/ listed.getD q false = true := by
        refine hq q hqm hbq (fun him2 => ?_)
        cases hc1 : (maskAt ms i).testBit q with
        | true => rfl
        | false =>
          exfalso
          refine hh him2 (Qc3 (Qdk.2 ⟨Qc4 hbq, hb2⟩) (by omega) hc1 ?_)
          cases hc2 : (maskAt ms q).testBit i with
          | false => rfl
          | true => have := T.stat.lt q _ (T.get (by omega)) i hc2; omega
       rcases hlq with e | e
       ·omega
       ·exact hkl q hqm hch e
      rw [hsame, hobk]
      exact ⟨o1, by show (w.heap.setIfInBounds x.blk o1)[x.blk]? = _; rw [heap_set _ hw0, if_pos rfl], hor.mono (Qdu (T.mono (by omega) (by omega)))⟩
     ·obtain ⟨o', p, q⟩ := I.mem i hi (fun him => (hli him).2) b2 x2 hb2 hh ha hx2 (fun q q1 q2 q3 => by
       rcases hq q q1 q2 q3 with e | e
       ·subst e; rw [hb] at q2; injection q2 with q2; exact absurd q2.symm c
       ·exact e)
      refine ⟨o', ?_, q⟩
      show (w.heap.setIfInBounds x.blk o1)[x2.blk]? = _
      rw [heap_set _ hw0, if_neg (hdiff i hi hli b2 x2 hb2 c ha hx2)]
      exact p
    ·intro j hj hcj
     show (w.heap.setIfInBounds x.blk o1)[j]? = _
     rw [heap_set _ hw0, if_neg (fun e => by
      rcases I.new b x hx' with h | ⟨_, h⟩
      ·exact hcj b x hf h e.symm
      ·omega)]
   have hnd : ∀ c, (ops[k]).op ≠ .defer c := by
    intro c e
    unfold Qdh at hs
    rw [e] at hs
    cases hs
   refine ⟨fun _ _ => trivial, ?_⟩
   have hsem : (ops[k]).semAt rd a.eval = execOp a.eval ops[k] := Oper.semAt_eq _ _ _ hnd
   show (ops[k]).uponIn (fen rd) 0 P a K Q (((ops[k]).semAt rd a.eval).run P w)
   rw [hsem, hrun]
   cases hnr with
   | value hvr =>
     simp only [valOf, Option.some.injEq] at hv
     subst hv
     exact fin _ hvr
   | skip =>
     simp only [valOf, Option.some.injEq] at hv
     subst hv
     exact fin _ ARel.undef
   | enter => simp [valOf] at hv
end
end Go.Proofs.Ytfeedchjdnedjaa.Ev
end
