import Derived.Test.YtfeedchjdnedjaaEv22
set_option linter.unusedVariables false
set_option linter.unusedSimpArgs false
namespace Go.Proofs.Ytfeedchjdnedjaa.Ev
open Go
def Qaf (st : Nat -> St) (i b : Nat) : Obj := Qb2 ((st i).H.get b)
structure Tra {P : Program} (O : Orc P) (code : Qa8) (fl m : Nat) (ms : List Nat) (bs : List (Nat × Nat)) (ops : Array Oper) (sz : Nat) (st : Nat -> St) (val : Nat -> Value) : Prop where
 stat : Stat ops ms m
 okops : Qhr sz ops = true
 one : ∀ (i : Nat) (o : Oper), ops[i]? = some o -> (st i).N < 1000000000 /\ OneD O code fl (st 0).N m ms bs ops i o (st i) (val i) (st (i + 1)).H (st (i + 1)).N /\ (st (i + 1)).A = putA (st i).A o.dst (val i) /\ (st (i + 1)).M = (st i).M
 kp : Qhi P code
 fl0 : fl <= (st 0).N
 small : (st 0).N < 1099511627776
theorem Qc4 {i b : Nat} : ∀ {bs : List (Nat × Nat)}, Qcz i bs = some b -> (i, b) ∈ bs
 | [], h => by simp [Qcz] at h
 | (k, b') :: bs, h => by
   simp only [Qcz] at h
   cases hc : Nat.beq k i with
   | true =>
     rw [hc] at h
     simp only [cond_true, Option.some.injEq] at h
     rw [Nat.eq_of_beq_eq_true hc, h]; simp
   | false =>
     rw [hc] at h
     exact List.mem_cons_of_mem _ (Qc4 h)
theorem put_mem {P : Program} {fl : Nat} {o : Oper} {ev : Operand -> Value} {mem : Mem} {N : Nat} {n : Next} {b : Nat} {ob : Obj} (h : Qdn P fl o ev mem N = some (n, .put b ob)) (hs : Qdh o = true) :
 (∃ o0, mem b = some o0 /\ alive o0 = true) /\ alive ob = true := by
 obtain ⟨dst, op, type, pos, after, guard⟩ := o
 unfold Qdh at hs
 dsimp only at hs
 split at hs
 ·rename_i t a v
  simp only [Qdn] at h
  split at h
  case h_2 => cases h
  rename_i up hup
  injection h with h; injection h with h1 h2
  subst h1; subst h2
  unfold Qic at hup
  split at hup
  case h_2 => cases hup
  have hb0 := Qe hup; clear hup; obtain ⟨_, hup⟩ := hb0
  split at hup
  case h_2 => cases hup
  rename_i c ct hb
  split at hup
  case h_2 => cases hup
  dsimp only at hup
  have hb0 := Qe hup; clear hup; obtain ⟨_, hup⟩ := hb0
  split at hup
  case h_2 => cases hup
  injection hup with hup
  injection hup with e1 e2
  subst e1; subst e2
  exact ⟨⟨_, hb, rfl⟩, rfl⟩
 ·simp only [Qdn] at h
  split at h
  case h_2 => cases h
  split at h
  case h_2 => cases h
  rename_i val up hup
  injection h with h; injection h with h1 h2
  subst h1; subst h2
  unfold fCopy at hup
  split at hup
  case h_2 => cases hup
  split at hup
  case h_2 => cases hup
  split at hup
  case h_2 => cases hup
  split at hup
  ·injection hup with hup; injection hup with _ hup; cases hup
  ·have hb0 := Qe hup; clear hup; obtain ⟨_, hup⟩ := hb0
   split at hup
   ·injection hup with hup; injection hup with _ hup; cases hup
   ·split at hup
    case h_2 => cases hup
    rename_i c ct hb
    split at hup
    case h_2 => cases hup
    injection hup with hup; injection hup with e1 e2; injection e2 with e2 e3
    subst e2; subst e3
    exact ⟨⟨_, hb, rfl⟩, rfl⟩
  ·cases hup
 ·rename_i t mm k v
  simp only [Qdn] at h
  have hb0 := Qe h; clear h; obtain ⟨_, h⟩ := hb0
  split at h
  case h_2 => cases h
  rename_i r ob' hup
  injection h with h; injection h with h1 h2
  injection h2 with e1 e2
  subst e1; subst e2
  unfold Qbw at hup
  split at hup
  case h_2 => cases hup
  split at hup
  case h_2 => cases hup
  rename_i kd es clock _ hA
  split at hup
  case isFalse => cases hup
  split at hup
  ·injection hup with hup; injection hup with g1 g2; subst g1; subst g2; exact ⟨⟨_, hA, rfl⟩, rfl⟩
  ·injection hup with hup; injection hup with g1 g2; subst g1; subst g2; exact ⟨⟨_, hA, rfl⟩, rfl⟩
  ·cases hup
 ·rename_i t mm k v
  simp only [Qdn] at h
  have hb0 := Qe h; clear h; obtain ⟨_, h⟩ := hb0
  split at h
  case h_2 => cases h
  rename_i r ob' hup
  injection h with h; injection h with h1 h2
  injection h2 with e1 e2
  subst e1; subst e2
  unfold Qbw at hup
  split at hup
  case h_2 => cases hup
  split at hup
  case h_2 => cases hup
  rename_i kd es clock _ hA
  split at hup
  case isFalse => cases hup
  split at hup
  ·injection hup with hup; injection hup with g1 g2; subst g1; subst g2; exact ⟨⟨_, hA, rfl⟩, rfl⟩
  ·injection hup with hup; injection hup with g1 g2; subst g1; subst g2; exact ⟨⟨_, hA, rfl⟩, rfl⟩
  ·cases hup
 ·cases hs
section
variable {P : Program} {O : Orc P} {base fl : Nat} {ρ : Ren} {code : Qa8} {ops : Array Oper} {ms : List Nat} {bs : List (Nat × Nat)} {m sz : Nat} {st : Nat -> St} {val : Nat -> Value}
theorem Tra.get (T : Tra O code fl m ms bs ops sz st val) {i : Nat} (hi : i < ops.size) : ops[i]? = some ops[i] := Array.getElem?_eq_getElem hi
theorem Tra.kpAt (T : Tra O code fl m ms bs ops sz st val) : ∀ i, i <= ops.size -> Kp fl (st 0).H (st 0).N (st i).H (st i).N
 | 0, _ => .refl T.small
 | i + 1, h => by
   have ih := T.kpAt i (by omega)
   obtain ⟨_, h1, _⟩ := T.one i _ (T.get (by omega))
   exact ih.trans (h1.kp T.kp (Nat.le_trans T.fl0 ih.le) ih.small)
theorem Tra.step (T : Tra O code fl m ms bs ops sz st val) {i : Nat} (h : i < ops.size) : (st i).N <= (st (i + 1)).N := by
 have ih := T.kpAt i (by omega)
 obtain ⟨_, h1, _⟩ := T.one i _ (T.get h)
 exact (h1.kp T.kp (Nat.le_trans T.fl0 ih.le) ih.small).le
theorem Tra.mono (T : Tra O code fl m ms bs ops sz st val) {i : Nat} : ∀ {j : Nat}, i <= j -> j <= ops.size -> (st i).N <= (st j).N
 | 0, h, _ => by have : i = 0 := by omega
                 subst this; exact Nat.le_refl _
 | j + 1, h, hj => by
   by_cases e : i = j + 1
   ·subst e; exact Nat.le_refl _
   ·exact Nat.le_trans (T.mono (by omega) (by omega)) (T.step (by omega))
theorem Tra.sm (T : Tra O code fl m ms bs ops sz st val) {i : Nat} (h : i <= ops.size) : (st i).N < 1099511627776 := (T.kpAt i h).small
theorem Tra.n0 (T : Tra O code fl m ms bs ops sz st val) {i : Nat} (h : i <= ops.size) : (st 0).N <= (st i).N := (T.kpAt i h).le
theorem Tra.hid (T : Tra O code fl m ms bs ops sz st val) {i : Nat} (hi : i <= ops.size) : ∀ b ∈ Qbl ms i (flt (st i).N bs), b < 1099511627776 := fun b hb => by
 obtain ⟨k, h1, _⟩ := Qeu hb; exact Nat.lt_trans (Qdk.1 h1).2 (T.sm hi)
theorem Tra.hid0 (T : Tra O code fl m ms bs ops sz st val) {i b : Nat} (hb : b ∈ Qbl ms i (flt (st i).N bs)) : b < (st i).N := by
 obtain ⟨k, h1, _⟩ := Qeu hb; exact (Qdk.1 h1).2
theorem Tra.obj1 (T : Tra O code fl m ms bs ops sz st val) {i b : Nat} (hi : i < ops.size) (him : i < m) (hb : b < (st i).N) (hno : Qcz i bs ≠ some b) : Qaf st (i + 1) b = Qaf st i b := by
 obtain ⟨_, h1, _⟩ := T.one i _ (T.get hi)
 have hsm := T.sm (i := i) (by omega)
 unfold Qaf
 generalize val i = vi at h1
 generalize hH : (st (i + 1)).H = H' at h1 ⊢
 generalize hN : (st (i + 1)).N = N' at h1
 cases h1 with
 | no => rfl
 | put _ _ _ _ _ hbk hlt _ =>
   have hne : b ≠ _ := fun e => hno (by rw [hbk, e])
   rw [Qdg _ _ _ _ (Nat.lt_trans hlt hsm), if_neg hne]
 | quiet _ _ _ h _ =>
   have k1 := (Qpm T.kp h (Nat.le_refl _) hsm).Qeq (T.hid (i := i) (by omega))
   have hk := k1.keep b hb
   have := k1.le
   rw [Xt, Xt, if_pos (by omega), if_pos hb] at hk
   injection hk
 | bar _ h => omega
theorem Tra.objs (T : Tra O code fl m ms bs ops sz st val) {i b : Nat} (hb : b < (st i).N) : ∀ {j : Nat}, i <= j -> j <= ops.size -> j <= m -> (∀ q, i <= q -> q < j -> Qcz q bs ≠ some b) -> Qaf st j b = Qaf st i b
 | 0, h, _, _, _ => by have : i = 0 := by omega
                       subst this; rfl
 | j + 1, h, hj, hm, hno => by
   by_cases e : i = j + 1
   ·subst e; rfl
   ·have hm1 := T.mono (i := i) (j := j) (by omega) (by omega)
    rw [T.obj1 (by omega) (by omega) (by omega) (hno j (by omega) (by omega))]
    exact T.objs hb (by omega) (by omega) (by omega) (fun q h1 h2 => hno q h1 (by omega))
theorem Tra.put (T : Tra O code fl m ms bs ops sz st val) {i b : Nat} (hi : i < ops.size) (him : i < m) (hb : Qcz i bs = some b) :
 ∃ n ob, Qa7 ops (st i).A ops[i] = true /\ Qdh ops[i] = true /\ Qdn P fl ops[i] (Wh (st i).A) (Qat (hide (st i).H (Qbl ms i (flt (st i).N bs))) (st i).N) (st i).N = some (n, .put b ob) /\ valOf n = some (val i) /\ b < (st i).N /\ fl <= b /\
   (st (i + 1)).H = (st i).H.set b ob /\ (st (i + 1)).N = (st i).N /\ b ∉ Qbl ms i (flt (st i).N bs) /\ alive (Qaf st i b) = true /\ alive ob = true /\ Qaf st (i + 1) b = ob := by
 obtain ⟨_, h1, _⟩ := T.one i _ (T.get hi)
 generalize hH : (st (i + 1)).H = H' at h1
 generalize hN : (st (i + 1)).N = N' at h1
 generalize hvi : val i = vi at h1 ⊢
 cases h1 with
 | no _ h => rw [hb] at h; cases h
 | quiet _ _ h => rw [hb] at h; cases h
 | bar _ h => omega
 | @put n v b' ob hw _ hs h hv hbk hlt hf =>
   rw [hb] at hbk; injection hbk with hbk; subst hbk
   obtain ⟨⟨o9, hm, ha9⟩, hal⟩ := put_mem h hs
   rw [Qla (T.hid (i := i) (by omega)), if_pos hlt] at hm
   injection hm with hm
   by_cases hnh : b ∈ Qbl ms i (flt (st i).N bs)
   ·rw [if_pos hnh] at hm; subst hm; cases ha9
   ·rw [if_neg hnh] at hm
    refine ⟨n, ob, hw, hs, h, hv, hlt, hf, rfl, rfl, hnh, ?_, hal, ?_⟩
    ·unfold Qaf; rw [hm]; exact ha9
    ·unfold Qaf; rw [hH, Qdg _ _ _ _ (Nat.lt_trans hlt (T.sm (by omega))), if_pos rfl]; rfl
theorem Tra.Qwc (T : Tra O code fl m ms bs ops sz st val) {i b : Nat} (hi : i < ops.size) (him : i < m) (hb : b < (st i).N) (ha : alive (Qaf st (i + 1) b) = true) : alive (Qaf st i b) = true := by
 by_cases hc : Qcz i bs = some b
 ·obtain ⟨_, _, _, _, _, _, _, _, _, _, _, h, _⟩ := T.put hi him hc; exact h
 ·rw [<- T.obj1 hi him hb hc]; exact ha
theorem Tra.Qto (T : Tra O code fl m ms bs ops sz st val) {b : Nat} (hb : b < (st 0).N) : ∀ {i : Nat}, i <= ops.size -> i <= m -> alive (Qaf st i b) = true -> alive (Qaf st 0 b) = true
 | 0, _, _, h => h
 | i + 1, hi, hm, h => T.Qto hb (by omega) (by omega) (T.Qwc (by omega) (by omega) (Nat.lt_of_lt_of_le hb (T.n0 (by omega))) h)
theorem Tra.chain (T : Tra O code fl m ms bs ops sz st val) {q k b : Nat} (hqk : q < k) (hk : k < ops.size) (hkm : k < m) (hq : Qcz q bs = some b) (hb : Qcz k bs = some b) : (maskAt ms k).testBit q = true := by
 obtain ⟨_, _, _, _, _, _, hlt, _, _, _, hnh, _⟩ := T.put hk hkm hb
 cases hc : (maskAt ms k).testBit q with
 | true => rfl
 | false =>
   exfalso
   refine hnh (Qc3 (Qdk.2 ⟨Qc4 hq, hlt⟩) (by omega) hc ?_)
   cases hc2 : (maskAt ms q).testBit k with
   | false => rfl
   | true => have := T.stat.lt q _ (T.get (by omega)) k hc2; omega
theorem Tra.Qs6 (T : Tra O code fl m ms bs ops sz st val) {i b : Nat} (hb : b < (st i).N) : ∀ {j : Nat}, i <= j -> j <= ops.size -> j <= m -> alive (Qaf st j b) = true -> alive (Qaf st i b) = true
 | 0, h, _, _, ha => by have : i = 0 := by omega
                        subst this; exact ha
 | j + 1, h, hj, hm, ha => by
   by_cases e : i = j + 1
   ·subst e; exact ha
   ·have hm1 := T.mono (i := i) (j := j) (by omega) (by omega)
    exact T.Qs6 hb (by omega) (by omega) (by omega) (T.Qwc (by omega) (by omega) (by omega) ha)
theorem Tra.Qtp (T : Tra O code fl m ms bs ops sz st val) {i b : Nat} (hb : b < (st i).N) (ha : alive (Qaf st i b) = true) : ∀ {j : Nat}, i <= j -> j <= ops.size -> j <= m -> alive (Qaf st j b) = true
 | 0, h, _, _ => by have : i = 0 := by omega
                    subst this; exact ha
 | j + 1, h, hj, hm => by
   by_cases e : i = j + 1
   ·subst e; exact ha
   ·have ih := T.Qtp hb ha (j := j) (by omega) (by omega) (by omega)
    have hm1 := T.mono (i := i) (j := j) (by omega) (by omega)
    by_cases hc : Qcz j bs = some b
    ·obtain ⟨_, ob, _, _, _, _, _, _, _, _, _, _, h1, h2⟩ := T.put (by omega) (by omega) hc
     rw [h2]; exact h1
    ·rw [T.obj1 (by omega) (by omega) (by omega) hc]; exact ih
theorem Tra.own (T : Tra O code fl m ms bs ops sz st val) {k q b : Nat} (hk : k < ops.size) (hkm : k < m) (hq : (q, b) ∈ bs) (h1 : (st k).N <= b) (h2 : b < (st (k + 1)).N) : (maskAt ms q).testBit k = true := by
 obtain ⟨_, h, _⟩ := T.one k _ (T.get hk)
 generalize val k = vi at h
 generalize hH : (st (k + 1)).H = H' at h
 generalize hN : (st (k + 1)).N = N' at h h2
 cases h with
 | no => omega
 | put => omega
 | quiet _ _ _ _ hown => exact Qj7 hown q b hq h1 h2
 | bar _ h => omega
end
end Go.Proofs.Ytfeedchjdnedjaa.Ev
