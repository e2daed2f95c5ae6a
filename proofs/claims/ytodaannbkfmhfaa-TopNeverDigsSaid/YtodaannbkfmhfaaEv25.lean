import Derived.Test.YtodaannbkfmhfaaEv24
set_option linter.unusedVariables false
set_option linter.unusedSimpArgs false
namespace Go.Proofs.Ytodaannbkfmhfaa.Ev
open Go
section
variable {P : Program} {O : Orc P} {base fl : Nat} {ρ : Ren} {code : Coder} {ops : Array Oper} {ms : List Nat} {bs : List (Nat × Nat)} {m sz : Nat} {st : Nat -> St} {val : Nat -> Value}
theorem set_get' {listed : Array Bool} {k : Nat} (hk : k < listed.size) (j : Nat) : (listed.setIfInBounds k true).getD j false = if j = k then true else listed.getD j false := by
 rw [Array.getD_eq_getD_getElem?, Array.getElem?_setIfInBounds, Array.getD_eq_getD_getElem?]
 by_cases e : k = j
 ·subst e; rw [if_pos rfl, if_pos hk, if_pos rfl]; rfl
 ·rw [if_neg e, if_neg (fun h => e h.symm)]
theorem okOps_dst {sz : Nat} {ops : Array Oper} (h : okOps sz ops = true) {k : Nat} {o : Oper} (ho : ops[k]? = some o) : sz < 1000000 /\ (∀ d : Nat, o.dst = some d -> d < sz) /\ (∀ x ∈ o.op.operands, okOperand x = true) := by
 unfold okOps at h
 simp only [Bool.and_eq_true] at h
 have := List.all_eq_true.1 h.2 o (Array.mem_toList_iff.2 (Array.mem_of_getElem? ho))
 simp only [Bool.and_eq_true] at this
 refine ⟨blt_lt h.1, fun d hd => ?_, fun x hx => List.all_eq_true.1 this.1 x (Array.mem_toList_iff.2 hx)⟩
 have h2 := this.2
 rw [hd] at h2
 exact blt_lt h2
theorem InvA.adv (T : Tra O code fl m ms bs ops sz st val) (hm : m <= ops.size) {w0 w w' : World} {a0 a : Act} {listed : Array Bool} {ρ' ρ'' : Ren} (I : InvA P base fl m ms bs ops sz st val ρ w0 a0 listed a w ρ')
 {k : Nat} (hk : k < m) (hl : listed.getD k false = false) (o : Oper) (ho : ops[k]? = some o) (hrdy : ∀ e ∈ edgesB o, listed.getD e false = true) {v' : Value}
 (hle : ρ'.Le ρ'') (hnew : ∀ b x, ρ'' b = some x -> ρ' b = some x \/ ((st k).N <= b /\ b < (st (k + 1)).N /\ w.heap.size <= x.blk))
 (himg : ∀ b x, ρ'' b = some x -> base <= x.blk /\ x.blk < w'.heap.size) (hval : VRel (cut ρ'' (st (k + 1)).N) (val k) v')
 (hmem : ∀ i, i <= m -> (i < m -> i ≠ k /\ listed.getD i false = false) -> ∀ b x, b < (st i).N -> (i < m -> b ∉ hidAt ms i (flt (st i).N bs)) -> alive (objOf st i b) = true -> ρ'' b = some x ->
  (∀ q, q < m -> blkOf q bs = some b -> (i < m -> (maskAt ms i).testBit q = true) -> q = k \/ listed.getD q false = true) -> ∃ o', w'.heap[x.blk]? = some o' /\ ORel P (cut ρ'' (st i).N) x (objOf st i b) o')
 (hinj : ∀ i, i <= m -> (i < m -> i ≠ k /\ listed.getD i false = false) -> ∀ b b' x x', b < (st i).N -> b' < (st i).N -> alive (objOf st i b) = true -> alive (objOf st i b') = true -> ρ'' b = some x -> ρ'' b' = some x' -> x.blk = x'.blk -> b = b')
 (h1 : w'.os = w.os) (h2 : w'.tape = w.tape) (h3 : w'.output = w.output) (hsz : w.heap.size <= w'.heap.size)
 (hkeep : ∀ j, j < w0.heap.size -> (∀ b x, fl <= b -> ρ b = some x -> x.blk ≠ j) -> w'.heap[j]? = w.heap[j]?) :
 InvA P base fl m ms bs ops sz st val ρ w0 a0 (listed.setIfInBounds k true) (a.put o.dst v') w' ρ'' := by
 have hks : k < listed.size := by rw [I.lsz]; omega
 have hg := set_get' hks
 obtain ⟨hsz', hdst, _⟩ := okOps_dst T.okops ho
 have split : ∀ {i : Nat}, (i < m -> (listed.setIfInBounds k true).getD i false = false) -> (i < m -> i ≠ k /\ listed.getD i false = false) := by
  intro i h him
  have := h him
  rw [hg] at this
  by_cases e : i = k
  ·rw [if_pos e] at this; cases this
  ·rw [if_neg e] at this; exact ⟨e, this⟩
 refine ⟨by simp [I.lsz], fun j hj => ?_, fun j oj hoj hj e he => ?_, I.le.trans hle, fun b x hx => ?_, fun b x hx h0 => ?_, himg, ?_, ?_, fun t ht => ?_, fun j oj t hj hoj hd => ?_, ?_, ?_, h1.trans I.os, h2.trans I.tape, h3.trans I.output, Nat.le_trans I.size hsz, ?_⟩
 ·rw [hg] at hj
  split at hj
  ·omega
  ·exact I.lm j hj
 ·rw [hg] at hj ⊢
  by_cases ee : e = k
  ·rw [if_pos ee]
  ·rw [if_neg ee]
   split at hj
   ·rename_i ejk
    subst ejk
    rw [ho] at hoj; injection hoj with hoj; subst hoj
    exact hrdy e he
   ·exact I.cl j oj hoj hj e he
 ·rcases hnew b x hx with h | ⟨g1, g2, g3⟩
  ·exact I.new b x h
  ·exact .inr ⟨Nat.le_trans (T.n0 (by omega)) g1, Nat.le_trans I.size g3⟩
 ·rcases hnew b x hx with h | ⟨g1, g2, g3⟩
  ·obtain ⟨j, q1, q2⟩ := I.dom b x h h0
   refine ⟨j, ?_, q2⟩
   rw [hg]; split
   ·rfl
   ·exact q1
  ·exact ⟨k, by rw [hg, if_pos rfl], g1, g2⟩
 ·cases hd : o.dst with
  | none => exact I.asz
  | some d => simp [Act.put, I.asz]
 ·cases hd : o.dst with
  | none => exact I.adef
  | some d => exact I.adef
 ·have hne : o.dst ≠ some t := ht k o (by rw [hg, if_pos rfl]) ho
  have e1 : (a.put o.dst v').tmps.getD t undef = a.tmps.getD t undef := by
   cases hd : o.dst with
   | none => rfl
   | some d =>
     show (a.tmps.setIfInBounds d v').getD t undef = _
     rw [Array.getD_eq_getD_getElem?, Array.getElem?_setIfInBounds, if_neg (fun e => hne (by rw [hd, e])), <- Array.getD_eq_getD_getElem?]
  rw [e1]
  refine I.tm0 t (fun j oj hj hoj => ht j oj ?_ hoj)
  rw [hg]; split
  ·rfl
  ·exact hj
 ·rw [hg] at hj
  by_cases ejk : j = k
  ·subst ejk
   rw [ho] at hoj; injection hoj with hoj; subst hoj
   rw [hd]
   show VRel _ _ ((a.tmps.setIfInBounds t v').getD t undef)
   rw [Array.getD_eq_getD_getElem?, Array.getElem?_setIfInBounds, if_pos rfl, if_pos (by rw [I.asz]; exact hdst t hd)]
   exact hval
  ·rw [if_neg ejk] at hj
   have hne : o.dst ≠ some t := fun e => by
    have q1 := T.stat.dst k o t ho e
    have q2 := T.stat.dst j oj t hoj hd
    rw [q1] at q2; injection q2 with q2; exact ejk q2.symm
   have e1 : (a.put o.dst v').tmps.getD t undef = a.tmps.getD t undef := by
    cases hd : o.dst with
    | none => rfl
    | some d =>
      show (a.tmps.setIfInBounds d v').getD t undef = _
      rw [Array.getD_eq_getD_getElem?, Array.getElem?_setIfInBounds, if_neg (fun e => hne (by rw [hd, e])), <- Array.getD_eq_getD_getElem?]
   rw [e1]
   exact (I.tm1 j oj t hj hoj hd).mono (cut_mono hle _)
 ·intro i hi hli b x hb hh ha hx hq
  refine hmem i hi (split hli) b x hb hh ha hx (fun q q1 q2 q3 => ?_)
  have := hq q q1 q2 q3
  rw [hg] at this
  split at this
  ·exact .inl ‹_›
  ·exact .inr this
 ·intro i hi hli
  exact hinj i hi (split hli)
 ·intro j hj hc
  rw [hkeep j hj hc]
  exact I.keep j hj hc
theorem InvA.advQ (T : Tra O code fl m ms bs ops sz st val) (hm : m <= ops.size) {w0 w w' : World} {a0 a : Act} {listed : Array Bool} {ρ' ρ'' : Ren} (I : InvA P base fl m ms bs ops sz st val ρ w0 a0 listed a w ρ')
 {k : Nat} (hk : k < m) (hl : listed.getD k false = false) (o : Oper) (ho : ops[k]? = some o) (hrdy : ∀ e ∈ edgesB o, listed.getD e false = true) (hbk : blkOf k bs = none) {v' : Value}
 (hle : ρ'.Le ρ'') (hnew : ∀ b x, ρ'' b = some x -> ρ' b = some x \/ ((st k).N <= b /\ b < (st (k + 1)).N /\ w.heap.size <= x.blk))
 (himg : ∀ b x, ρ'' b = some x -> base <= x.blk /\ x.blk < w'.heap.size) (hval : VRel (cut ρ'' (st (k + 1)).N) (val k) v')
 (hm2 : ∀ b x, (st k).N <= b -> b < (st (k + 1)).N -> alive (objOf st (k + 1) b) = true -> ρ'' b = some x -> ∃ o', w'.heap[x.blk]? = some o' /\ ORel P (cut ρ'' (st (k + 1)).N) x (objOf st (k + 1) b) o')
 (hi2 : ∀ b b' x x', (st k).N <= b -> b < (st (k + 1)).N -> (st k).N <= b' -> b' < (st (k + 1)).N -> alive (objOf st (k + 1) b) = true -> alive (objOf st (k + 1) b') = true -> ρ'' b = some x -> ρ'' b' = some x' -> x.blk = x'.blk -> b = b')
 (h1 : w'.os = w.os) (h2 : w'.tape = w.tape) (h3 : w'.output = w.output) (hsz : w.heap.size <= w'.heap.size) (hsame : ∀ j, j < w.heap.size -> w'.heap[j]? = w.heap[j]?) :
 InvA P base fl m ms bs ops sz st val ρ w0 a0 (listed.setIfInBounds k true) (a.put o.dst v') w' ρ'' := by
 have later : ∀ {i b : Nat}, i <= m -> (i < m -> i ≠ k /\ listed.getD i false = false) -> b < (st i).N -> (i < m -> b ∉ hidAt ms i (flt (st i).N bs)) -> (st k).N <= b -> b < (st (k + 1)).N ->
  (∀ q, q < m -> blkOf q bs = some b -> (i < m -> (maskAt ms i).testBit q = true) -> q = k \/ listed.getD q false = true) -> k + 1 <= i /\ objOf st i b = objOf st (k + 1) b := by
  intro i b hi hli hb hh g1 g2 hq
  have hki : k + 1 <= i := by
   rcases Nat.lt_or_ge k i with h | h
   ·exact h
   ·have := T.mono (i := i) (j := k) h (by omega); omega
  refine ⟨hki, T.objs g2 hki (by omega) hi (fun q q1 q2 hbq => ?_)⟩
  have hqm : q < m := by omega
  have hown := T.own (q := q) (by omega) hk (blkOf_mem hbq) g1 g2
  have hno : q = k \/ listed.getD q false = true -> False := by
   rintro (e | e)
   ·omega
   ·have := T.stat.pre I.cl q _ (T.get (by omega)) (I.cl q _ (T.get (by omega)) e) k hown
    rw [hl] at this; cases this
  refine hno (hq q hqm hbq (fun him => ?_))
  cases hc : (maskAt ms i).testBit q with
  | true => rfl
  | false =>
    exfalso
    refine hh him (hidAt_sup (flt_mem.2 ⟨blkOf_mem hbq, hb⟩) (by omega) hc ?_)
    cases hc2 : (maskAt ms q).testBit i with
    | false => rfl
    | true => have := T.stat.lt q _ (T.get (by omega)) i hc2; omega
 refine I.adv T hm hk hl o ho hrdy hle hnew himg hval ?_ ?_ h1 h2 h3 hsz (fun j hj _ => hsame j (Nat.lt_of_lt_of_le hj I.size))
 ·intro i hi hli b x hb hh ha hx hq
  rcases hnew b x hx with h | ⟨g1, g2, g3⟩
  ·obtain ⟨o', p, q⟩ := I.mem i hi (fun him => (hli him).2) b x hb hh ha h (fun q q1 q2 q3 => by
    rcases hq q q1 q2 q3 with e | e
    ·subst e; rw [hbk] at q2; cases q2
    ·exact e)
   exact ⟨o', by rw [hsame _ (I.img b x h).2]; exact p, q.mono (cut_mono hle _)⟩
  ·obtain ⟨hki, hobj⟩ := later hi hli hb hh g1 g2 hq
   rw [hobj] at ha ⊢
   obtain ⟨o', p, q⟩ := hm2 b x g1 g2 ha hx
   exact ⟨o', p, q.mono (cut_le_cut (T.mono hki (by omega)))⟩
 ·intro i hi hli b b' x x' hb hb' ha ha' hx hx' he
  rcases hnew b x hx with h | ⟨g1, g2, g3⟩
  ·rcases hnew b' x' hx' with h' | ⟨g1', g2', g3'⟩
   ·exact I.inj i hi (fun him => (hli him).2) b b' x x' hb hb' ha ha' h h' he
   ·have := (I.img b x h).2; omega
  ·rcases hnew b' x' hx' with h' | ⟨g1', g2', g3'⟩
   ·have := (I.img b' x' h').2; omega
   ·have hki : k + 1 <= i := by
     rcases Nat.lt_or_ge k i with h | h
     ·exact h
     ·have := T.mono (i := i) (j := k) h (by omega); omega
    have ha := T.aliveB g2 hki (by omega) hi ha
    have ha' := T.aliveB g2' hki (by omega) hi ha'
    exact hi2 b b' x x' g1 g2 g1' g2' ha ha' hx hx' he
end
end Go.Proofs.Ytodaannbkfmhfaa.Ev
