import Derived.Test.YtodaannbkfmhfaaEv23
set_option linter.unusedVariables false
set_option linter.unusedSimpArgs false
namespace Go.Proofs.Ytodaannbkfmhfaa.Ev
open Go
section
variable {P : Program} {O : Orc P} {base fl : Nat} {ρ : Ren} {code : Coder} {ops : Array Oper} {ms : List Nat} {bs : List (Nat × Nat)} {m sz : Nat} {st : Nat -> St} {val : Nat -> Value}
structure InvA (P : Program) (base fl m : Nat) (ms : List Nat) (bs : List (Nat × Nat)) (ops : Array Oper) (sz : Nat) (st : Nat -> St) (val : Nat -> Value) (ρ : Ren) (w0 : World) (a0 : Act) (listed : Array Bool) (a : Act) (w : World) (ρ' : Ren) : Prop where
 lsz : listed.size = ops.size
 lm : ∀ k, listed.getD k false = true -> k < m
 cl : Cl ops listed
 le : ρ.Le ρ'
 new : ∀ b x, ρ' b = some x -> ρ b = some x \/ ((st 0).N <= b /\ w0.heap.size <= x.blk)
 dom : ∀ b x, ρ' b = some x -> (st 0).N <= b -> ∃ k, listed.getD k false = true /\ (st k).N <= b /\ b < (st (k + 1)).N
 img : ∀ b x, ρ' b = some x -> base <= x.blk /\ x.blk < w.heap.size
 asz : a.tmps.size = sz
 adef : a.defers = a0.defers
 tm0 : ∀ t : Nat, (∀ (k : Nat) (o : Oper), listed.getD k false = true -> ops[k]? = some o -> o.dst ≠ some t) -> a.tmps.getD t undef = a0.tmps.getD t undef
 tm1 : ∀ (k : Nat) (o : Oper) (t : Nat), listed.getD k false = true -> ops[k]? = some o -> o.dst = some t -> VRel (cut ρ' (st (k + 1)).N) (val k) (a.tmps.getD t undef)
 mem : ∀ i, i <= m -> (i < m -> listed.getD i false = false) -> ∀ b x, b < (st i).N -> (i < m -> b ∉ hidAt ms i (flt (st i).N bs)) -> alive (objOf st i b) = true -> ρ' b = some x ->
  (∀ q, q < m -> blkOf q bs = some b -> (i < m -> (maskAt ms i).testBit q = true) -> listed.getD q false = true) -> ∃ o', w.heap[x.blk]? = some o' /\ ORel P (cut ρ' (st i).N) x (objOf st i b) o'
 inj : ∀ i, i <= m -> (i < m -> listed.getD i false = false) -> ∀ b b' x x', b < (st i).N -> b' < (st i).N -> alive (objOf st i b) = true -> alive (objOf st i b') = true -> ρ' b = some x -> ρ' b' = some x' -> x.blk = x'.blk -> b = b'
 os : w.os = w0.os
 tape : w.tape = w0.tape
 output : w.output = w0.output
 size : w0.heap.size <= w.heap.size
 keep : ∀ j, j < w0.heap.size -> (∀ b x, fl <= b -> ρ b = some x -> x.blk ≠ j) -> w.heap[j]? = w0.heap[j]?
theorem cut_mono {ρ ρ' : Ren} (h : ρ.Le ρ') (N : Nat) : (cut ρ N).Le (cut ρ' N) := fun b x e => by
 obtain ⟨h1, h2⟩ := cut_some e
 rw [cut_lt h1]; exact h _ _ h2
theorem cut_le_cut {ρ : Ren} {N N' : Nat} (h : N <= N') : (cut ρ N).Le (cut ρ N') := fun b x e => by
 obtain ⟨h1, h2⟩ := cut_some e
 rw [cut_lt (by omega)]; exact h2
theorem InvA.start (T : Tra O code fl m ms bs ops sz st val) (hm : m <= ops.size) {w0 wA : World} {a0 : Act} (hR : Rep (st 0).H (st 0).N wA) (hr : WRel P base ρ wA w0) (hA : AR ρ sz (st 0).A (st 0).M a0) (n : Nat) :
 InvA P base fl m ms bs ops sz st val ρ w0 a0 (Array.replicate ops.size false) a0 { w0 with drawn := n } ρ := by
 have hno : ∀ k, (Array.replicate ops.size false).getD k false = false := by
  intro k; rw [Array.getD_eq_getD_getElem?, Array.getElem?_replicate]; split <;> rfl
 have hnoF : ∀ k, (Array.replicate ops.size false).getD k false = true -> False := fun k h => by rw [hno] at h; cases h
 have hdom : ∀ b x, ρ b = some x -> b < (st 0).N := fun b x h => by rw [<- hR.size]; exact (hr.dom b x h).1
 have hobj : ∀ b, b < (st 0).N -> wA.heap[b]? = some (objOf st 0 b) := fun b h => by rw [hR.at_, memOf_of, if_pos h]; rfl
 refine ⟨by simp, fun k h => (hnoF k h).elim, fun k o _ h => (hnoF k h).elim, .refl _, fun b x h => .inl h, fun b x h h0 => absurd (hdom b x h) (by omega), fun b x h => (hr.dom b x h).2, hA.size, rfl, fun t _ => rfl,
  fun k o t h => (hnoF k h).elim, ?_, ?_, rfl, rfl, rfl, Nat.le_refl _, fun _ _ _ => rfl⟩
 ·intro i hi hl b x hb hh ha hx hq
  have hb0 := hdom b x hx
  have hsame : objOf st i b = objOf st 0 b := by
   refine T.objs hb0 (Nat.zero_le _) (by omega) hi (fun q _ hqi hbq => ?_)
   have hqm : q < m := by omega
   have hfalse : ∀ h : (i < m -> (maskAt ms i).testBit q = true), False := fun h => by
    have := hq q hqm hbq h
    rw [hno] at this; cases this
   by_cases him : i < m
   ·refine hfalse (fun _ => ?_)
    cases hc : (maskAt ms i).testBit q with
    | true => rfl
    | false =>
      exfalso
      refine hh him (hidAt_sup (flt_mem.2 ⟨blkOf_mem hbq, hb⟩) (by omega) hc ?_)
      cases hc2 : (maskAt ms q).testBit i with
      | false => rfl
      | true => have := T.stat.lt q _ (T.get (by omega)) i hc2; omega
   ·exact hfalse (fun h => absurd h him)
  rw [hsame] at ha ⊢
  obtain ⟨o', h1, h2⟩ := hr.obj b _ x (hobj b hb0) ha hx
  refine ⟨o', h1, h2.mono (fun c y hc => ?_)⟩
  rw [cut_lt (Nat.lt_of_lt_of_le (hdom c y hc) (T.n0 (by omega)))]; exact hc
 ·intro i hi hl b b' x x' hb hb' ha ha' hx hx' he
  have h0 := hdom b x hx
  have h0' := hdom b' x' hx'
  exact hr.inj b b' _ _ x x' (hobj b h0) (T.alive0 h0 (by omega) hi ha) (hobj b' h0') (T.alive0 h0' (by omega) hi ha') hx hx' he
theorem InvA.view (T : Tra O code fl m ms bs ops sz st val) (hm : m <= ops.size) {w0 w : World} {a0 a : Act} {listed : Array Bool} {ρ' : Ren} (I : InvA P base fl m ms bs ops sz st val ρ w0 a0 listed a w ρ') (hlow : base <= w0.heap.size)
 {k : Nat} (hk : k < m) (hl : listed.getD k false = false) (hpre : ∀ j, (maskAt ms k).testBit j = true -> listed.getD j false = true) :
 WRel P base (cut ρ' (st k).N) (worldOf (hide (st k).H (hidAt ms k (flt (st k).N bs))) (st k).N) w := by
 have hRw := Rep.ofWorld (hide (st k).H (hidAt ms k (flt (st k).N bs))) (T.sm (i := k) (by omega))
 have hat : ∀ b o, (worldOf (hide (st k).H (hidAt ms k (flt (st k).N bs))) (st k).N).heap[b]? = some o -> alive o = true -> b < (st k).N /\ b ∉ hidAt ms k (flt (st k).N bs) /\ o = objOf st k b := by
  intro b o h ha
  rw [hRw.at_, mem_hide (T.hid (i := k) (by omega))] at h
  split at h
  case isFalse => cases h
  rename_i hlt
  injection h with h
  split at h
  ·subst h; cases ha
  ·exact ⟨hlt, ‹_›, h.symm⟩
 refine ⟨Nat.le_trans hlow I.size, fun b x h => ?_, fun b o x h1 h2 h3 => ?_, fun b b' o o' x x' h1 a1 h2 a2 r1 r2 hx => ?_⟩
 ·obtain ⟨h1, h2⟩ := cut_some h
  exact ⟨by rw [hRw.size]; exact h1, I.img b x h2⟩
 ·obtain ⟨g1, g2, g3⟩ := hat b o h1 h2
  obtain ⟨_, r2⟩ := cut_some h3
  subst g3
  exact I.mem k (Nat.le_of_lt hk) (fun _ => hl) b x g1 (fun _ => g2) h2 r2 (fun q _ _ hq => hpre q (hq hk))
 ·obtain ⟨g1, g2, g3⟩ := hat b o h1 a1
  obtain ⟨g1', g2', g3'⟩ := hat b' o' h2 a2
  subst g3; subst g3'
  exact I.inj k (Nat.le_of_lt hk) (fun _ => hl) b b' x x' g1 g1' a1 a2 (cut_some r1).2 (cut_some r2).2 hx
theorem InvA.tmp (T : Tra O code fl m ms bs ops sz st val) {w0 w : World} {a0 a : Act} {listed : Array Bool} {ρ' : Ren} (I : InvA P base fl m ms bs ops sz st val ρ w0 a0 listed a w ρ') (hA : AR ρ sz (st 0).A (st 0).M a0)
 (hdom : ∀ b x, ρ b = some x -> b < (st 0).N) {k : Nat} (hk : k < ops.size) (hl : listed.getD k false = false) (hpre : ∀ j, (maskAt ms k).testBit j = true -> listed.getD j false = true) {t : Nat} (ht : t ∈ looksL ops.toList ops[k]) :
 VRel (cut ρ' (st k).N) (fEval (st k).A (.tmp t)) (a.tmps.getD t undef) := by
 have hev := evalA T.stat T.okops (st := st) (val := val) (fun i o ho => (T.one i o ho).2.2.1) k (Nat.le_of_lt hk) t
 have hle0 : ρ.Le (cut ρ' (st k).N) := fun b x h => by
  rw [cut_lt (Nat.lt_of_lt_of_le (hdom b x h) (T.n0 (by omega)))]; exact I.le _ _ h
 have old : (∀ (j : Nat) (o : Oper), listed.getD j false = true -> ops[j]? = some o -> o.dst ≠ some t) -> VRel (cut ρ' (st k).N) (fEval (st 0).A (.tmp t)) (a.tmps.getD t undef) := by
  intro h
  rw [I.tm0 t h]
  exact (hA.tmps t).mono hle0
 rw [hev]
 cases hf : findDst t 0 ops.toList with
 | none =>
   refine old (fun j o hj ho hd => ?_)
   have := T.stat.dst j o t ho hd
   rw [hf] at this; cases this
 | some j =>
   dsimp only
   have huniq : ∀ (j' : Nat) (o : Oper), ops[j']? = some o -> o.dst = some t -> j' = j := fun j' o ho hd => by
    have := T.stat.dst j' o t ho hd
    rw [hf] at this; injection this with this; exact this.symm
   rcases T.stat.look k _ t j (T.get hk) ht hf with h | ⟨h1, h2⟩ | ⟨h1, h2⟩
   ·subst h
    rw [if_neg (by omega)]
    refine old (fun j' o hj' ho hd => ?_)
    rw [huniq j' o ho hd, hl] at hj'; cases hj'
   ·rw [if_pos h1]
    obtain ⟨i', o', e1, e2, e3⟩ := findDst_some _ _ _ hf
    rw [Nat.zero_add] at e1; subst e1
    rw [getL_arr] at e2
    exact (I.tm1 _ o' t (hpre _ h2) e2 e3).mono (cut_le_cut (T.mono (by omega) (by omega)))
   ·rw [if_neg (by omega)]
    refine old (fun j' o hj' ho hd => ?_)
    have e := huniq j' o ho hd
    subst e
    have hlt := (Array.getElem?_eq_some_iff.1 ho).1
    have := T.stat.pre I.cl j' o ho (fun e he => I.cl j' o ho hj' e he) k h2
    rw [hl] at this; cases this
theorem mem_looks {ops : Array Oper} {o : Oper} {t : Nat} (h : Operand.tmp t ∈ o.op.operands) : t ∈ looksL ops.toList o := by
 unfold looksL
 refine List.mem_append_left _ (List.mem_filterMap.2 ⟨.tmp t, Array.mem_toList_iff.2 h, rfl⟩)
theorem wanted_eq {ops : Array Oper} {o : Oper} {A : Tr Value} {a : Act} {ρ : Ren} (h : ∀ t, t ∈ looksL ops.toList o -> VRel ρ (fEval A (.tmp t)) (a.tmps.getD t undef)) :
 Region.wanted o (yielded ops a.tmps) = fWanted ops A o := by
 unfold Region.wanted fWanted
 cases hg : o.guard with
 | none => rfl
 | some jw =>
   obtain ⟨j, want⟩ := jw
   dsimp only
   unfold yielded
   rw [getL_eq, getL_arr]
   cases hj : ops[j]? with
   | none => simp
   | some g =>
     simp only [Option.bind_some]
     cases hd : g.dst with
     | none => simp
     | some d =>
       simp only [Option.bind_some]
       have hr := h d (by
        unfold looksL
        refine List.mem_append_right _ ?_
        rw [hg]; dsimp only
        rw [getL_eq, getL_arr, hj]; dsimp only
        rw [hd]; simp)
       rw [Array.getD_eq_getD_getElem?] at hr
       simp only [fEval] at hr
       cases hA : A.get d with
       | none =>
         rw [hA] at hr
         cases hT : a.tmps[d]? with
         | none => simp
         | some v =>
           rw [hT] at hr
           simp only [Option.getD_some] at hr
           generalize hu : undef = u at hr
           unfold undef at hu
           subst hu
           cases hr
           simp
       | some u =>
         rw [hA] at hr
         dsimp only at hr
         cases hT : a.tmps[d]? with
         | none =>
           rw [hT] at hr
           simp only [Option.getD_none] at hr
           generalize hu : undef = y at hr
           unfold undef at hu
           subst hu
           cases hr
           simp
         | some v =>
           rw [hT] at hr
           simp only [Option.getD_some] at hr
           cases hr <;> simp
end
end Go.Proofs.Ytodaannbkfmhfaa.Ev
