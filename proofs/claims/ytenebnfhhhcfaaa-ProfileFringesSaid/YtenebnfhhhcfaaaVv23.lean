import Derived.Test.YtenebnfhhhcfaaaVv20
set_option linter.unusedVariables false
set_option linter.unusedSimpArgs false
namespace Go.Proofs.Ytenebnfhhhcfaaa.Vv
open Go Go.Proofs.Ytenebnfhhhcfaaa.Ev
open Go.RowKit (Below)
inductive Qql (E : Env) (ops : Array Oper) : List Oper -> Tr VV -> Tr VV -> Prop
 | nil {A : Tr VV} : Qql E ops [] A A
 | cons {o : Oper} {l : List Oper} {A A' : Tr VV} {an : Ans} {v : VV} {q : Prop} (h : oneV E.P ops o an ⟨A, [], .nil⟩ = some (v, .no, q)) (hq : q) (hs : Qhw o.op = true) (hd : Yc o E.caps'.length = true) (k : Qql E ops l (putA A o.dst v) A') : Qql E ops (o :: l) A A'
structure OTr (E : Env) (ops : Array Oper) (m : Nat) (st : Nat -> Tr VV) (val : Nat -> VV) : Prop where
 stat : Go.Proofs.Ytenebnfhhhcfaaa.Ev.Stat ops (masks ops.toList []) m
 okops : Qcc E.sz ops = true
 one : ∀ (i : Nat) (o : Oper), i < m -> ops[i]? = some o -> (∃ an q, oneV E.P ops o an ⟨st i, [], .nil⟩ = some (val i, .no, q) /\ q) /\ Qhw o.op = true /\ Yc o E.caps'.length = true /\ st (i + 1) = putA (st i) o.dst (val i)
theorem Ql0 {E : Env} {ops : Array Oper} {l : List Oper} {A A' : Tr VV} (h : Qql E ops l A A') : ∀ i : Nat, ∃ (st : Nat -> Tr VV) (val : Nat -> VV), st i = A /\ st (i + l.length) = A' /\
 ∀ (j : Nat) (o : Oper), l[j]? = some o -> (∃ an q, oneV E.P ops o an ⟨st (i + j), [], .nil⟩ = some (val (i + j), .no, q) /\ q) /\ Qhw o.op = true /\ Yc o E.caps'.length = true /\ st (i + j + 1) = putA (st (i + j)) o.dst (val (i + j)) := by
 induction h with
 | @nil A => intro i; exact ⟨fun _ => A, fun _ => .any, rfl, rfl, fun j o h => by simp at h⟩
 | @cons o l A A' an v q h1 hq hs hd k ih =>
   intro i
   obtain ⟨st, val, g1, g2, g3⟩ := ih (i + 1)
   refine ⟨fun x => if x = i then A else st x, fun x => if x = i then v else val x, if_pos rfl, ?_, fun j o' hj => ?_⟩
   ·show (if i + (o :: l).length = i then A else st _) = _
    rw [if_neg (by simp), <- g2]; congr 1; simp; omega
   ·cases j with
    | zero =>
      simp only [List.getElem?_cons_zero, Option.some.injEq] at hj
      subst hj
      simp only [Nat.add_zero, if_pos]
      refine ⟨⟨an, q, h1, hq⟩, hs, hd, ?_⟩
      rw [if_neg (by omega)]; exact g1
    | succ j =>
      simp only [List.getElem?_cons_succ] at hj
      have := g3 j o' hj
      rw [show i + 1 + j = i + (j + 1) by omega] at this
      simp only [if_neg (show ¬ (i + (j + 1) = i) by omega), if_neg (show ¬ (i + (j + 1) + 1 = i) by omega)]
      exact this
section
variable {E : Env} {ops : Array Oper} {m : Nat} {st : Nat -> Tr VV} {val : Nat -> VV}
theorem OTr.get (_ : OTr E ops m st val) {i : Nat} (hi : i < ops.size) : ops[i]? = some ops[i] := Array.getElem?_eq_getElem hi
theorem OTr.ev (T : OTr E ops m st val) (hE : E.OK) (t : Nat) : ∀ i, i <= m -> m <= ops.size -> Vv.ev (st i) (.tmp t) = (match X9 t 0 ops.toList with
 | some j => if j < i then val j else Vv.ev (st 0) (.tmp t)
 | none => Vv.ev (st 0) (.tmp t))
 | 0, _, _ => by
   split
   ·rw [if_neg (Nat.not_lt_zero _)]
   ·rfl
 | i + 1, hi, hm => by
   have hlt : i < ops.size := by omega
   obtain ⟨_, _, _, hst⟩ := T.one i _ (show i < m by omega) (T.get hlt)
   have ih := T.ev hE t i (by omega) hm
   obtain ⟨hsz, hdst, _⟩ := Jj T.okops (T.get hlt)
   rw [hst]
   cases hd : ops[i].dst with
   | none =>
     rw [show putA (st i) none (val i) = st i from rfl, ih]
     cases hf : X9 t 0 ops.toList with
     | none => rfl
     | some j =>
       dsimp only
       have hne : j ≠ i := by
        rintro rfl
        obtain ⟨i', o', e1, e2, e3⟩ := Zt _ _ _ hf
        rw [Nat.zero_add] at e1; subst e1
        rw [Zu, T.get hlt] at e2
        injection e2 with e2; subst e2
        rw [hd] at e3; cases e3
       by_cases c : j < i
       ·rw [if_pos c, if_pos (by omega)]
       ·rw [if_neg c, if_neg (by omega)]
   | some d =>
     have hds := hdst d hd
     have hfd := T.stat.dst i _ d (T.get hlt) hd
     show Vv.ev ((st i).set d (val i)) (.tmp t) = _
     have hsz2 := hE.hsz
     rw [Qci (by omega)]
     by_cases c : t = d
     ·subst c
      rw [if_pos rfl, hfd]
      dsimp only
      rw [if_pos (by omega)]
     ·rw [if_neg c, ih]
      cases hf : X9 t 0 ops.toList with
      | none => rfl
      | some j =>
        dsimp only
        have hne : j ≠ i := by
         rintro rfl
         obtain ⟨i', o', e1, e2, e3⟩ := Zt _ _ _ hf
         rw [Nat.zero_add] at e1; subst e1
         rw [Zu, T.get hlt] at e2
         injection e2 with e2; subst e2
         rw [hd] at e3; injection e3 with e3
         exact c e3.symm
        by_cases c2 : j < i
        ·rw [if_pos c2, if_pos (by omega)]
        ·rw [if_neg c2, if_neg (by omega)]
structure JV (E : Env) (ops : Array Oper) (m : Nat) (val : Nat -> VV) (a0 : Act) (listed : Array Bool) (a : Act) : Prop where
 lsz : listed.size = ops.size
 lm : ∀ j, listed.getD j false = true -> j < m
 cl : Cl ops listed
 asz : a.tmps.size = E.sz
 adf : a.defers = []
 tm0 : ∀ t : Nat, (∀ (j : Nat) (o : Oper), listed.getD j false = true -> ops[j]? = some o -> o.dst ≠ some t) -> a.tmps.getD t undef = a0.tmps.getD t undef
 tm1 : ∀ (j : Nat) (op : Oper) (d : Nat), listed.getD j false = true -> ops[j]? = some op -> op.dst = some d -> R .no 0 E.M (val j) (a.tmps.getD d undef)
 cp : ∀ (j : Nat) (v : Value), (yv E.l :: E.caps')[j]? = some v -> a.tmps.getD j undef = v
theorem JV.tmp (T : OTr E ops m st val) (hE : E.OK) (hm : m <= ops.size) {a0 a : Act} {listed : Array Bool} (h0 : ∀ t : Nat, R .no 0 E.M (Vv.ev (st 0) (.tmp t)) (a0.tmps.getD t undef)) (I : JV E ops m val a0 listed a)
 {k : Nat} (hk : k < m) (hl : listed.getD k false = false) {op : Oper} (ho : ops[k]? = some op) (hrdy : ∀ e ∈ Yp op, listed.getD e false = true) {t : Nat} (ht : t ∈ Ya ops.toList op) : R .no 0 E.M (Vv.ev (st k) (.tmp t)) (a.tmps.getD t undef) := by
 have hpre := T.stat.pre I.cl k op ho hrdy
 rw [T.ev hE t k (by omega) hm]
 have old : (∀ (j : Nat) (o : Oper), listed.getD j false = true -> ops[j]? = some o -> o.dst ≠ some t) -> R .no 0 E.M (Vv.ev (st 0) (.tmp t)) (a.tmps.getD t undef) := fun h => by
  rw [I.tm0 t h]; exact h0 t
 cases hf : X9 t 0 ops.toList with
 | none =>
   refine old (fun j o hj ho hd => ?_)
   have := T.stat.dst j o t ho hd
   rw [hf] at this; cases this
 | some j =>
   dsimp only
   obtain ⟨i', o', e1, e2, e3⟩ := Zt _ _ _ hf
   rw [Nat.zero_add] at e1; subst e1
   rw [Zu] at e2
   have nol : j ≠ k -> ¬ (j < k) -> ∀ (j' : Nat) (o : Oper), listed.getD j' false = true -> ops[j']? = some o -> o.dst ≠ some t := by
    intro h1 h2 j' o hj' ho' hd
    have := T.stat.dst j' o t ho' hd
    rw [hf] at this; injection this with this; subst this
    rcases T.stat.look k op t j ho ht hf with h | ⟨h, _⟩ | ⟨h, hb⟩
    ·exact h1 h
    ·exact h2 h
    ·have := T.stat.pre I.cl j o' e2 (I.cl j o' e2 hj') k hb
     rw [hl] at this; cases this
   rcases T.stat.look k op t j ho ht hf with h | ⟨h, hb⟩ | ⟨h, hb⟩
   ·subst h
    rw [if_neg (Nat.lt_irrefl _)]
    refine old (fun j' o hj' ho' hd => ?_)
    have := T.stat.dst j' o t ho' hd
    rw [hf] at this; injection this with this; subst this
    rw [hl] at hj'; cases hj'
   ·rw [if_pos h]
    exact I.tm1 j o' t (hpre j hb) e2 e3
   ·rw [if_neg (by omega)]
    exact old (nol (by omega) (by omega))
theorem JV.step (T : OTr E ops m st val) (hE : E.OK) (hn : Named E.P) (hm : m <= ops.size) {a0 a : Act} {w : World} {listed : Array Bool} (hM : Xi E.M w) (h0 : ∀ t : Nat, R .no 0 E.M (Vv.ev (st 0) (.tmp t)) (a0.tmps.getD t undef)) (I : JV E ops m val a0 listed a)
 {k : Nat} (hk : k < m) (hl : listed.getD k false = false) {op : Oper} (ho : ops[k]? = some op) (hrdy : ∀ e ∈ Yp op, listed.getD e false = true) {K : Act -> World -> Prop} {Q : Exit -> Act -> World -> Prop}
 (hK : ∀ a', JV E ops m val a0 (listed.setIfInBounds k true) a' -> K a' w) : wpOpIn (fen none) 0 E.P ops Q k K a w := by
 unfold wpOpIn
 rw [ho]; dsimp only
 obtain ⟨⟨an, q, h1, h2⟩, hs, hdo, _⟩ := T.one k op hk ho
 obtain ⟨hsz, hdst, _⟩ := Jj T.okops ho
 have hks : k < listed.size := by rw [I.lsz]; omega
 have hdd := Qiv hdo hdst
 refine Qm4 hn hs h1 h2 hM (fun t ht => I.tmp T hE hm h0 hk hl ho hrdy ht) (fun v' hv => hK _ ?_)
 have hput : ∀ t : Nat, (a.put op.dst v').tmps.getD t undef = if op.dst = some t then v' else a.tmps.getD t undef := fun t => Qby (fun d hd => by rw [I.asz]; exact hdst d hd)
 refine ⟨by rw [Array.size_setIfInBounds]; exact I.lsz, fun j hj => ?_, fun j o hj hlj e he => ?_, ?_, ?_, fun t hno => ?_, fun j o d hlj hj hd => ?_, fun j v hj => ?_⟩
 ·rw [Yq hks] at hj
  by_cases c : j = k
  ·omega
  ·rw [if_neg c] at hj; exact I.lm j hj
 ·rw [Yq hks] at hlj ⊢
  by_cases c : j = k
  ·subst c
   rw [ho] at hj; injection hj with hj; subst hj
   have := hrdy e he
   by_cases c2 : e = j
   ·rw [if_pos c2]
   ·rw [if_neg c2]; exact this
  ·rw [if_neg c] at hlj
   by_cases c2 : e = k
   ·rw [if_pos c2]
   ·rw [if_neg c2]; exact I.cl j o hj hlj e he
 ·cases hd : op.dst with
  | none => exact I.asz
  | some d => show (a.tmps.setIfInBounds d v').size = _; rw [Array.size_setIfInBounds]; exact I.asz
 ·cases hd : op.dst with
  | none => exact I.adf
  | some d => exact I.adf
 ·rw [hput]
  have hne : op.dst ≠ some t := hno k op (by rw [Yq hks, if_pos rfl]) ho
  rw [if_neg hne]
  refine I.tm0 t (fun j o hj hjo => hno j o ?_ hjo)
  rw [Yq hks]
  by_cases c : j = k
  ·rw [if_pos c]
  ·rw [if_neg c]; exact hj
 ·rw [hput]
  rw [Yq hks] at hlj
  by_cases c : j = k
  ·subst c
   rw [ho] at hj; injection hj with hj; subst hj
   rw [if_pos hd]; exact hv
  ·rw [if_neg c] at hlj
   have hne : op.dst ≠ some d := fun e => by
    have h3 := T.stat.dst k op d ho e
    have h4 := T.stat.dst j o d hj hd
    rw [h3] at h4; injection h4 with h4; exact c h4.symm
   rw [if_neg hne]
   exact I.tm1 j o d hlj hj hd
 ·rw [hput]
  have hjl : j < E.caps'.length + 1 := by have := (List.getElem?_eq_some_iff.1 hj).1; simpa using this
  have hne : op.dst ≠ some j := fun e => by have := (hdd j e).2; omega
  rw [if_neg hne]
  exact I.cp j v hj
theorem Qr9 (T : OTr E ops m st val) {Q : Exit -> Act -> World -> Prop} : ∀ (fuel i : Nat) (listed : Array Bool) (a : Act) (w : World), m <= i -> i <= ops.size -> ops.size <= fuel + i -> listed.size = ops.size -> (∀ j, listed.getD j false = decide (j < i)) ->
 wpListIn (fen none) 0 E.P ops Q (ops.toList.drop i) a w -> wpAnyIn (fen none) 0 E.P .any ops Q fuel listed a w := by
 intro fuel
 induction fuel with
 | zero =>
   intro i listed a w hmi hi hfu hls hl h
   have e : i = ops.size := by omega
   subst e
   rw [List.drop_eq_nil_of_le (by simp)] at h
   refine ⟨?_, h⟩
   refine List.eq_nil_iff_forall_not_mem.2 (fun j hj => ?_)
   obtain ⟨h1, h2, _⟩ := (Jt hls).1 hj
   rw [hl] at h2
   simp at h2; omega
 | succ fuel ih =>
   intro i listed a w hmi hi hfu hls hl h
   refine ⟨fun hnil => ?_, fun j hj => ?_⟩
   ·have e : i = ops.size := by
     rcases Nat.lt_or_ge i ops.size with h | h
     ·exfalso
      have : i ∈ Region.ready .any ops listed := (Jt hls).2 ⟨h, by rw [hl]; simp, fun o ho e he => by rw [hl]; simpa using T.stat.edge i o ho e he⟩
      rw [hnil] at this; cases this
     ·omega
    subst e
    rw [List.drop_eq_nil_of_le (by simp)] at h
    exact h
   ·obtain ⟨h1, h2, h3⟩ := (Jt hls).1 hj
    rw [hl] at h2
    have hij : i <= j := by simpa using h2
    have e : j = i := by
     rcases Nat.eq_or_lt_of_le hij with h | h
     ·exact h.symm
     ·exfalso
      have hcl : Cl ops listed := fun k o ho hk e he => by
       rw [hl] at hk ⊢
       have := T.stat.edge k o ho e he
       simp at hk ⊢; omega
      have := T.stat.pre hcl j _ (T.get h1) (h3 _ (T.get h1)) i (by rw [T.stat.bar j (by omega) h1]; exact Qen h)
      rw [hl] at this
      simp at this
    subst e
    have hnext : ∀ (a' : Act) (w' : World), wpListIn (fen none) 0 E.P ops Q (ops.toList.drop (j + 1)) a' w' -> wpAnyIn (fen none) 0 E.P .any ops Q fuel (listed.setIfInBounds j true) a' w' := by
     intro a' w' h'
     refine ih (j + 1) _ a' w' (by omega) h1 (by omega) (by simp [hls]) (fun q => ?_) h'
     rw [Yq (by omega), hl]
     by_cases c : q = j
     ·rw [if_pos c]; subst c; simp
     ·rw [if_neg c]
      by_cases c2 : q < j
      ·simp [c2, show q < j + 1 by omega]
      ·simp [c2, show ¬ q < j + 1 by omega]
    have hd : ops.toList.drop j = ops[j] :: ops.toList.drop (j + 1) := by
     rw [List.drop_eq_getElem_cons (by simpa using h1)]; rfl
    rw [hd] at h
    unfold wpOpIn
    rw [T.get h1]; dsimp only
    simp only [wpListIn] at h
    split at h
    ·rename_i c; rw [if_pos c]; exact Oper.wpIn_mono hnext h
    ·rename_i c; rw [if_neg c]; exact ⟨h.1, hnext _ _ h.2⟩
theorem Env.OK.ext {E : Env} (h : E.OK) {st : Option Nat} {w w' : World} (k : E.K st w) (hb : Below w.heap.size w w') : E.K st w' := by
 cases st with
 | none => exact h.hR _ _ k hb
 | some i => exact h.hJ _ _ _ k hb
theorem Xm.Qt7 {A A' : Tr VV} {st0 : Option Nat} {Post : Exit -> SP} {id : Nat} (hmx : E.P.follows .mixedOrders = true) (hn : Named E.P) (hE : E.OK) (hok : Qcc E.sz ops = true) (hd : Qe2 ops = some m) (ho : Qql E ops (ops.toList.take m) A A')
 (h : POps E ops (ops.toList.drop m) A' st0 (fun A' st' => Post .normal A' st')) : Xm E (.region id ops true) A st0 Post := fun a w ha hk Q hQ => by
 have hms : m <= ops.size := Qfz hd
 obtain ⟨st, val, e0, e1, e2⟩ := Ql0 ho 0
 have hlen : (ops.toList.take m).length = m := by rw [List.length_take, Array.length_toList]; omega
 rw [hlen, Nat.zero_add] at e1
 have T : OTr E ops m st val := ⟨Qdp hd, hok, fun i o hi hio => by
  have := e2 i o (by rw [List.getElem?_take, if_pos hi, Zu]; exact hio)
  rw [Nat.zero_add] at this; exact this⟩
 have hb : Below w.heap.size w { w with drawn := w.drawn + 1 } := ⟨rfl, rfl, rfl, Nat.le_refl _, fun _ _ => rfl⟩
 have hk' := hE.ext hk hb
 have hM := hE.mem hk'
 generalize hw : ({ w with drawn := w.drawn + 1 } : World) = w1 at hk' hM
 have h0 : ∀ t : Nat, R .no 0 E.M (Vv.ev (st 0) (.tmp t)) (a.tmps.getD t undef) := fun t => by rw [e0]; exact ha.tm t
 have fin : ∀ (fuel : Nat) (listed : Array Bool) (a' : Act), ops.size <= fuel + cnt listed ops.size -> JV E ops m val a listed a' -> (∀ k, k < m -> listed.getD k false = true) -> wpAnyIn (fen none) 0 E.P .any ops Q fuel listed a' w1 := by
  intro fuel listed a' hfu I hall
  have := (cnt_le listed m I.lm ops.size).1
  refine Qr9 T fuel m listed a' w1 (Nat.le_refl _) hms (by omega) I.lsz (fun j => ?_) ?_
  ·by_cases c : j < m
   ·rw [hall j c]; simp [c]
   ·cases hj : listed.getD j false with
    | true => exact absurd (I.lm j hj) c
    | false => simp [c]
  ·refine h a' w1 ⟨I.asz, I.adf, fun t => ?_, I.cp⟩ hk' Q (fun A2 st2 a2 w2 h1 h2 h3 => hQ _ _ _ _ _ h1 h2 h3)
   rw [<- e1, T.ev hE t m (Nat.le_refl _) hms]
   have old : (∀ (j : Nat) (o : Oper), listed.getD j false = true -> ops[j]? = some o -> o.dst ≠ some t) -> R .no 0 E.M (Vv.ev (st 0) (.tmp t)) (a'.tmps.getD t undef) := fun hno => by
    rw [I.tm0 t hno]; exact h0 t
   cases hf : X9 t 0 ops.toList with
   | none =>
     refine old (fun j o hj ho hd => ?_)
     have := T.stat.dst j o t ho hd
     rw [hf] at this; cases this
   | some j =>
     dsimp only
     obtain ⟨i', o', g1, g2, g3⟩ := Zt _ _ _ hf
     rw [Nat.zero_add] at g1; subst g1
     rw [Zu] at g2
     by_cases c : j < m
     ·rw [if_pos c]; exact I.tm1 j o' t (hall j c) g2 g3
     ·rw [if_neg c]
      refine old (fun j' o hj' ho' hd => ?_)
      have := T.stat.dst j' o t ho' hd
      rw [hf] at this; injection this with this; subst this
      exact c (I.lm j hj')
 have least : ∀ (listed : Array Bool), (∃ k, k < m /\ listed.getD k false = false) -> ∃ k, k < m /\ listed.getD k false = false /\ ∀ j, j < k -> listed.getD j false = true := by
  intro listed h
  obtain ⟨k, hk⟩ := h
  induction k using Nat.strongRecOn with
  | _ k ih =>
    by_cases c : ∃ j, j < k /\ listed.getD j false = false
    ·obtain ⟨j, hj, hl⟩ := c
     exact ih j hj ⟨by omega, hl⟩
    ·refine ⟨k, hk.1, hk.2, fun j hj => ?_⟩
     cases hl : listed.getD j false with
     | true => rfl
     | false => exact absurd ⟨j, hj, hl⟩ c
 have all_or : ∀ (listed : Array Bool), (∀ k, k < m -> listed.getD k false = true) \/ ∃ k, k < m /\ listed.getD k false = false := by
  intro listed
  by_cases c : ∃ k, k < m /\ listed.getD k false = false
  ·exact .inr c
  ·refine .inl (fun k hk => ?_)
   cases hl : listed.getD k false with
   | true => rfl
   | false => exact absurd ⟨k, hk, hl⟩ c
 have main : ∀ (fuel : Nat) (listed : Array Bool) (a' : Act), ops.size <= fuel + cnt listed ops.size -> JV E ops m val a listed a' -> wpAnyIn (fen none) 0 E.P .any ops Q fuel listed a' w1 := by
  intro fuel
  induction fuel with
  | zero =>
    intro listed a' hfu I
    rcases all_or listed with hall | ⟨k, hk, hl⟩
    ·exact fin 0 listed a' hfu I hall
    ·have := cnt_lt hl ops.size (by omega); omega
  | succ fuel ih =>
    intro listed a' hfu I
    rcases all_or listed with hall | hex
    ·exact fin _ listed a' hfu I hall
    ·refine ⟨fun hnil => ?_, fun j hj => ?_⟩
     ·obtain ⟨k, hk, hl, hlow⟩ := least listed hex
      have : k ∈ Region.ready .any ops listed := (Jt I.lsz).2 ⟨by omega, hl, fun o ho e he => hlow e (T.stat.edge k o ho e he)⟩
      rw [hnil] at this; cases this
     ·obtain ⟨h1, h2, h3⟩ := (Jt I.lsz).1 hj
      have hjm : j < m := by
       rcases Nat.lt_or_ge j m with h | h
       ·exact h
       ·exfalso
        obtain ⟨k, hk, hl⟩ := hex
        have := T.stat.pre I.cl j _ (T.get h1) (h3 _ (T.get h1)) k (by rw [T.stat.bar j h h1]; exact Qen (by omega))
        rw [hl] at this; cases this
      refine I.step T hE hn hms hM h0 hjm h2 (T.get h1) (h3 _ (T.get h1)) (fun a2 I' => ih _ a2 ?_ I')
      rw [Qid (by rw [I.lsz]; exact h1) h2, if_pos h1]
      omega
 refine wpIn_region_any hmx ?_
 rw [hw]
 have hf : ∀ j, (Array.replicate ops.size false).getD j false = false := fun j => by
  rw [Array.getD_eq_getD_getElem?, Array.getElem?_replicate]; split <;> rfl
 exact main _ _ a (by omega) ⟨by simp, fun j h => (by rw [hf] at h; cases h), fun k o ho h => (by rw [hf] at h; cases h), ha.asz, ha.adf, fun t _ => rfl, fun j op d h => (by rw [hf] at h; cases h), ha.cp⟩
end
end Go.Proofs.Ytenebnfhhhcfaaa.Vv
