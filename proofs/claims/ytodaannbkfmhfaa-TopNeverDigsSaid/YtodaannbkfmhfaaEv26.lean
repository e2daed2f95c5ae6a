import Derived.Test.YtodaannbkfmhfaaEv25
set_option linter.unusedVariables false
set_option linter.unusedSimpArgs false
namespace Go.Proofs.Ytodaannbkfmhfaa.Ev
open Go
section
variable {P : Program} {O : Orc P} {base fl : Nat} {ρ : Ren} {code : Coder} {ops : Array Oper} {ms : List Nat} {bs : List (Nat × Nat)} {m sz : Nat} {st : Nat -> St} {val : Nat -> Value}
theorem InvA.step (T : Tra O code fl m ms bs ops sz st val) (hm : m <= ops.size) (hc : CodeOk P base code) (hn : Named P) {wA0 w0 w : World} {a0 a : Act} {listed : Array Bool} {ρ' : Ren}
 (I : InvA P base fl m ms bs ops sz st val ρ w0 a0 listed a w ρ') (hA : AR ρ sz (st 0).A (st 0).M a0) (hR0 : Rep (st 0).H (st 0).N wA0) (hr0 : WRel P base ρ wA0 w0)
 {k : Nat} (hk : k < m) (hl : listed.getD k false = false) (hrdy : ∀ o, ops[k]? = some o -> ∀ e ∈ edgesB o, listed.getD e false = true) {rd : Option Nat} {K : Act -> World -> Prop} {Q : Exit -> Act -> World -> Prop}
 (hK : ∀ a' w' ρ'', InvA P base fl m ms bs ops sz st val ρ w0 a0 (listed.setIfInBounds k true) a' w' ρ'' -> K a' w') : wpOpIn (fen rd) 0 P ops Q k K a w := by
 have hks : k < ops.size := by omega
 have ho := T.get hks
 have hrdy := hrdy _ ho
 have hdom : ∀ b x, ρ b = some x -> b < (st 0).N := fun b x h => by rw [<- hR0.size]; exact (hr0.dom b x h).1
 have hpre := T.stat.pre I.cl k _ ho hrdy
 have htmp : ∀ t, t ∈ looksL ops.toList ops[k] -> VRel (cut ρ' (st k).N) (fEval (st k).A (.tmp t)) (a.tmps.getD t undef) := fun t ht => I.tmp T hA hdom hks hl hpre ht
 have hwant := wanted_eq htmp
 have hev : ∀ x ∈ (ops[k]).op.operands, VRel (cut ρ' (st k).N) (fEval (st k).A x) (a.eval x) := by
  intro x hx
  have hok := (okOps_dst T.okops ho).2.2 x hx
  cases x with
  | tmp t => exact htmp t (mem_looks hx)
  | const v => exact ground_rel hok
  | global g => cases hok
  | func f => exact .func rfl rfl (fun i v v' a => by simp at a) rfl (fun i v v' a => by simp at a)
 have hview := I.view T hm hr0.low hk hl hpre
 have hsmk := T.sm (i := k) (by omega)
 have hRw := Rep.ofWorld (hide (st k).H (hidAt ms k (flt (st k).N bs))) hsmk
 have hn0 := T.n0 (i := k) (by omega)
 have hstep := T.step hks
 unfold wpOpIn
 rw [ho]; dsimp only
 rw [hwant]
 obtain ⟨hsm, h1, hA1, hM1⟩ := T.one k _ ho
 have hputs := T.put (b := (blkOf k bs).getD 0) hks hk
 generalize hvi : val k = vi at h1
 generalize hH : (st (k + 1)).H = H' at h1
 generalize hN : (st (k + 1)).N = N' at h1
 cases h1 with
 | no hw hb =>
   rw [hw, if_neg (by simp)]
   refine ⟨fun f _ => trivial, hK _ _ _ (I.advQ T hm hk hl _ ho hrdy hb (.refl _) (fun b x h => .inl h) I.img (by rw [hvi]; exact ARel.undef) ?_ ?_ rfl rfl rfl (Nat.le_refl _) (fun _ _ => rfl))⟩
   ·intro b x h1 h2; omega
   ·intro b b' x x' h1 h2; omega
 | bar hw him => omega
 | @quiet _ H _ hw him hb h hown =>
   rw [hw, if_pos rfl]
   refine op_ok hc hn h hRw hview (Nat.le_refl _) hev (rd := rd) ?_
   intro ρop v' wA' w' hR' hst hv
   have hfix : ∀ b x, ρop b = some x -> b < (st (k + 1)).N /\ (b < (st k).N -> ρ' b = some x) /\ ((st k).N <= b -> w.heap.size <= x.blk) := by
    intro b x hx
    refine ⟨by rw [hN, <- hR'.size]; exact (hst.rel.dom b x hx).1, fun hb => ?_, fun hb => ?_⟩
    ·rcases hst.new b x hx with e | ⟨e, _⟩
     ·exact (cut_some e).2
     ·rw [hRw.size] at e; omega
    ·rcases hst.new b x hx with e | ⟨_, e | ⟨b0, x0, e1, e2, _⟩⟩
     ·have := (cut_some e).1; omega
     ·exact e
     ·have := (cut_some e2).1; omega
   generalize hρ : (fun b => if (st k).N <= b /\ b < (st (k + 1)).N then ρop b else ρ' b : Ren) = ρ''
   have hin : ∀ b, (st k).N <= b -> b < (st (k + 1)).N -> ρ'' b = ρop b := fun b h1 h2 => by rw [<- hρ]; exact if_pos ⟨h1, h2⟩
   have hout : ∀ b, ¬ ((st k).N <= b /\ b < (st (k + 1)).N) -> ρ'' b = ρ' b := fun b h1 => by rw [<- hρ]; exact if_neg h1
   have hople : ρop.Le (cut ρ'' (st (k + 1)).N) := by
    intro b x hx
    obtain ⟨f1, f2, f3⟩ := hfix b x hx
    rw [cut_lt f1]
    by_cases c : (st k).N <= b
    ·rw [hin b c f1]; exact hx
    ·rw [hout b (by omega)]; exact f2 (by omega)
   have hobj : ∀ b, (st k).N <= b -> b < (st (k + 1)).N -> wA'.heap[b]? = some (objOf st (k + 1) b) := by
    intro b h1 h2
    have hnh : b ∉ hidAt ms k (flt (st k).N bs) := fun hh => by have := T.hid0 hh; omega
    rw [hR'.at_, memOf_of, if_pos (by omega)]
    unfold objOf
    rw [hH, unhide_get _ _ _ (T.hid (i := k) (by omega)), if_neg hnh]
   refine hK _ _ ρ'' (I.advQ T hm hk hl _ ho hrdy hb ?_ ?_ ?_ (by rw [hvi]; exact hv.mono hople) ?_ ?_ hst.os hst.tape hst.output hst.size ?_)
   ·intro b x hx
    by_cases c : (st k).N <= b /\ b < (st (k + 1)).N
    ·exfalso
     obtain ⟨k2, q1, q2, q3⟩ := I.dom b x hx (by omega)
     have hk2 := I.lm k2 q1
     rcases Nat.lt_trichotomy k2 k with c2 | c2 | c2
     ·have := T.mono (i := k2 + 1) (j := k) c2 (by omega); omega
     ·subst c2; rw [hl] at q1; cases q1
     ·have := T.mono (i := k + 1) (j := k2) c2 (by omega); omega
    ·rw [hout b c]; exact hx
   ·intro b x hx
    by_cases c : (st k).N <= b /\ b < (st (k + 1)).N
    ·rw [hin b c.1 c.2] at hx
     exact .inr ⟨c.1, c.2, (hfix b x hx).2.2 c.1⟩
    ·rw [hout b c] at hx; exact .inl hx
   ·intro b x hx
    by_cases c : (st k).N <= b /\ b < (st (k + 1)).N
    ·rw [hin b c.1 c.2] at hx
     exact (hst.rel.dom b x hx).2
    ·rw [hout b c] at hx
     have := I.img b x hx
     exact ⟨this.1, Nat.lt_of_lt_of_le this.2 hst.size⟩
   ·intro b x h1 h2 ha hx
    rw [hin b h1 h2] at hx
    obtain ⟨o', p, q⟩ := hst.rel.obj b _ x (hobj b h1 h2) ha hx
    exact ⟨o', p, q.mono hople⟩
   ·intro b b' x x' h1 h2 h1' h2' ha ha' hx hx' he
    rw [hin b h1 h2] at hx
    rw [hin b' h1' h2'] at hx'
    exact hst.rel.inj b b' _ _ x x' (hobj b h1 h2) ha (hobj b' h1' h2') ha' hx hx' he
   ·intro j hj
    refine hst.keep j hj (fun b x hb hx => ?_)
    have := (cut_some hx).1; omega
 | @put n v b ob hw him hs h hv hb hlt hf =>
   rw [hw, if_pos rfl]
   obtain ⟨x, oA, o0, o1, n', hx, hoA, halA, hw0, hrun, hnr, hor⟩ := put_exact h hs hRw hview hev
   have hx' := (cut_some hx).2
   rw [hb] at hputs
   obtain ⟨_, ob', _, _, hfo, _, _, _, hH1, hN1, _, hak, _, hobk⟩ := hputs rfl
   have hob : ob' = ob := by
    have e : some (_, Upd.put b ob') = some (n, Upd.put b ob) := hfo.symm.trans h
    injection e with e; injection e with _ e; injection e
   subst hob
   simp only [Option.getD_some] at hobk hak
   have hxw : x.blk < w.heap.size := (Array.getElem?_eq_some_iff.1 hw0).1
   have hdiff : ∀ i, i <= m -> (i < m -> i ≠ k /\ listed.getD i false = false) -> ∀ b2 x2, b2 < (st i).N -> b2 ≠ b -> alive (objOf st i b2) = true -> ρ' b2 = some x2 -> x2.blk ≠ x.blk := by
    intro i hi hli b2 x2 hb2 hne ha hx2 he
    rcases Nat.lt_or_ge i k with hik | hik
    ·exact hne (I.inj k (by omega) (fun _ => hl) b2 b x2 x (Nat.lt_of_lt_of_le hb2 (T.mono (by omega) (by omega))) hlt (T.aliveF hb2 ha (by omega) (by omega) (by omega)) hak hx2 hx' he)
    ·exact hne (I.inj i hi (fun him => (hli him).2) b2 b x2 x hb2 (Nat.lt_of_lt_of_le hlt (T.mono hik (by omega))) ha (T.aliveF hlt hak hik (by omega) hi) hx2 hx' he)
   have fin : ∀ v', VRel (cut ρ' (st k).N) vi v' -> K (a.put (ops[k]).dst v') { w with heap := w.heap.setIfInBounds x.blk o1 } := by
    intro v' hvr
    refine hK _ _ ρ' (I.adv T hm hk hl _ ho hrdy (.refl _) (fun b x h => .inl h) ?_ (by rw [hvi]; exact hvr.mono (cut_le_cut hstep)) ?_ (fun i hi hli => I.inj i hi (fun him => (hli him).2)) rfl rfl rfl (by simp) ?_)
    ·intro b2 x2 h2
     have := I.img b2 x2 h2
     exact ⟨this.1, by simpa using this.2⟩
    ·intro i hi hli b2 x2 hb2 hh ha hx2 hq
     by_cases c : b2 = b
     ·subst c
      rw [hx'] at hx2; injection hx2 with hx2; subst hx2
      have hkl : ∀ q, q < m -> (maskAt ms q).testBit k = true -> listed.getD q false = true -> False := by
       intro q hqm hqk hql
       have := T.stat.pre I.cl q _ (T.get (by omega)) (I.cl q _ (T.get (by omega)) hql) k hqk
       rw [hl] at this; cases this
      have hki : k < i := by
       by_cases him2 : i < m
       ·obtain ⟨hne, hli2⟩ := hli him2
        cases hc1 : (maskAt ms i).testBit k with
        | true => exact T.stat.lt i _ (T.get (by omega)) k hc1
        | false =>
          exfalso
          refine hh him2 (hidAt_sup (flt_mem.2 ⟨blkOf_mem hb, hb2⟩) (fun e => hne e.symm) hc1 ?_)
          cases hc2 : (maskAt ms k).testBit i with
          | false => rfl
          | true => have := hpre i hc2; rw [hli2] at this; cases this
       ·omega
      have hsame : objOf st i b2 = objOf st (k + 1) b2 := by
       refine T.objs (Nat.lt_of_lt_of_le hlt hstep) hki (by omega) hi (fun q q1 q2 hbq => ?_)
       have hqm : q < m := by omega
       have hch := T.chain (q := k) (k := q) (b := b2) (by omega) (by omega) hqm hb hbq
       have hlq : q = k \/ listed.getD q false = true := by
        refine hq q hqm hbq (fun him2 => ?_)
        cases hc1 : (maskAt ms i).testBit q with
        | true => rfl
        | false =>
          exfalso
          refine hh him2 (hidAt_sup (flt_mem.2 ⟨blkOf_mem hbq, hb2⟩) (by omega) hc1 ?_)
          cases hc2 : (maskAt ms q).testBit i with
          | false => rfl
          | true => have := T.stat.lt q _ (T.get (by omega)) i hc2; omega
       rcases hlq with e | e
       ·omega
       ·exact hkl q hqm hch e
      rw [hsame, hobk]
      exact ⟨o1, by show (w.heap.setIfInBounds x.blk o1)[x.blk]? = _; rw [heap_set _ hw0, if_pos rfl], hor.mono (cut_le_cut (T.mono (by omega) (by omega)))⟩
     ·obtain ⟨o', p, q⟩ := I.mem i hi (fun him => (hli him).2) b2 x2 hb2 hh ha hx2 (fun q q1 q2 q3 => by
       rcases hq q q1 q2 q3 with e | e
       ·subst e; rw [hb] at q2; injection q2 with q2; exact absurd q2.symm c
       ·exact e)
      refine ⟨o', ?_, q⟩
      show (w.heap.setIfInBounds x.blk o1)[x2.blk]? = _
      rw [heap_set _ hw0, if_neg (hdiff i hi hli b2 x2 hb2 c ha hx2)]
      exact p
    ·intro j hj hcj
     show (w.heap.setIfInBounds x.blk o1)[j]? = _
     rw [heap_set _ hw0, if_neg (fun e => by
      rcases I.new b x hx' with h | ⟨_, h⟩
      ·exact hcj b x hf h e.symm
      ·omega)]
   have hnd : ∀ c, (ops[k]).op ≠ .defer c := by
    intro c e
    unfold isStore at hs
    rw [e] at hs
    cases hs
   refine ⟨fun _ _ => trivial, ?_⟩
   have hsem : (ops[k]).semAt rd a.eval = execOp a.eval ops[k] := Oper.semAt_eq _ _ _ hnd
   show (ops[k]).uponIn (fen rd) 0 P a K Q (((ops[k]).semAt rd a.eval).run P w)
   rw [hsem, hrun]
   cases hnr with
   | value hvr =>
     simp only [valOf, Option.some.injEq] at hv
     subst hv
     exact fin _ hvr
   | skip =>
     simp only [valOf, Option.some.injEq] at hv
     subst hv
     exact fin _ ARel.undef
   | enter => simp [valOf] at hv
end
end Go.Proofs.Ytodaannbkfmhfaa.Ev
