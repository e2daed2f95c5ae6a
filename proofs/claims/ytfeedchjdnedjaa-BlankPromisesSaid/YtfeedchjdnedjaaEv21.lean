import Derived.Test.YtfeedchjdnedjaaEv20
set_option linter.unusedVariables false
set_option linter.unusedSimpArgs false
namespace Go.Proofs.Ytfeedchjdnedjaa.Ev
open Go
section
variable {P : Program} {O : Orc P} {base fl : Nat} {ρ : Ren}
theorem Qg7 {ms : List Nat} : ∀ (l : List Nat) (j : Nat), (Qhe ms l).testBit j = true -> ∃ e ∈ l, j = e \/ (maskAt ms e).testBit j = true
 | [], j, h => by simp [Qhe] at h
 | e :: l, j, h => by
   simp only [Qhe, Nat.testBit_or, Bool.or_eq_true, Nat.testBit_two_pow] at h
   rcases h with (h | h) | h
   ·exact ⟨e, by simp, .inl (by simpa using (of_decide_eq_true h).symm)⟩
   ·exact ⟨e, by simp, .inr h⟩
   ·obtain ⟨e', h1, h2⟩ := Qg7 l j h
    exact ⟨e', by simp [h1], h2⟩
structure Stat (ops : Array Oper) (ms : List Nat) (m : Nat) : Prop where
 edge : ∀ (k : Nat) (o : Oper), ops[k]? = some o -> ∀ e ∈ Qb3 o, e < k
 mask : ∀ (k : Nat) (o : Oper), ops[k]? = some o -> maskAt ms k = Qhe ms (Qb3 o)
 look : ∀ (k : Nat) (o : Oper) (t j : Nat), ops[k]? = some o -> t ∈ Qb4 ops.toList o -> Qah t 0 ops.toList = some j -> j = k \/ (j < k /\ (maskAt ms k).testBit j = true) \/ (k < j /\ (maskAt ms j).testBit k = true)
 dst : ∀ (k : Nat) (o : Oper) (d : Nat), ops[k]? = some o -> o.dst = some d -> Qah d 0 ops.toList = some k
 bar : ∀ k, m <= k -> k < ops.size -> maskAt ms k = 2 ^ k - 1
theorem J7 {ops : Array Oper} (k : Nat) : ops.toList[k]? = ops[k]? := by simp
theorem Qex {ms : List Nat} : ∀ (l : List Oper) (k : Nat), Qkv ms k l = true -> ∀ (j : Nat) (o : Oper), l[j]? = some o -> (∀ e ∈ Qb3 o, e < k + j) /\ maskAt ms (k + j) = Qhe ms (Qb3 o)
 | [], k, h, j, o, hj => by simp at hj
 | o' :: l, k, h, j, o, hj => by
   simp only [Qkv, Bool.and_eq_true] at h
   cases j with
   | zero =>
     simp at hj; subst hj
     exact ⟨fun e he => by have := List.all_eq_true.1 h.1.1 e he; exact Z4 this, Nat.eq_of_beq_eq_true h.1.2⟩
   | succ j =>
     simp at hj
     have := Qex l (k + 1) h.2 j o hj
     rw [show k + 1 + j = k + (j + 1) by omega] at this
     exact this
theorem Qhl {ms : List Nat} {ops : List Oper} : ∀ (l : List Oper) (k : Nat), Qkw ms ops k l = true -> ∀ (i : Nat) (o : Oper), l[i]? = some o -> ∀ t ∈ Qb4 ops o, ∀ j, Qah t 0 ops = some j ->
 j = k + i \/ (j < k + i /\ (maskAt ms (k + i)).testBit j = true) \/ (k + i < j /\ (maskAt ms j).testBit (k + i) = true)
 | [], k, h, i, o, hi => by simp at hi
 | o' :: l, k, h, i, o, hi => by
   simp only [Qkw, Bool.and_eq_true] at h
   cases i with
   | zero =>
     simp at hi; subst hi
     intro t ht j hj
     have := List.all_eq_true.1 h.1 t ht
     rw [hj] at this
     simp only [Bool.or_eq_true, Bool.and_eq_true] at this
     rcases this with (h1 | h1) | h1
     ·exact .inl (Nat.eq_of_beq_eq_true h1)
     ·exact .inr (.inl ⟨Z4 h1.1, h1.2⟩)
     ·exact .inr (.inr ⟨Z4 h1.1, h1.2⟩)
   | succ i =>
     simp at hi
     intro t ht j hj
     have := Qhl l (k + 1) h.2 i o hi t ht j hj
     rw [show k + 1 + i = k + (i + 1) by omega] at this
     exact this
theorem Qi2 {ops : List Oper} : ∀ (l : List Oper) (k : Nat), Qo5 ops k l = true -> ∀ (i : Nat) (o : Oper), l[i]? = some o -> ∀ d, o.dst = some d -> Qah d 0 ops = some (k + i)
 | [], k, h, i, o, hi => by simp at hi
 | o' :: l, k, h, i, o, hi => by
   simp only [Qo5, Bool.and_eq_true] at h
   cases i with
   | zero =>
     simp at hi; subst hi
     intro d hd
     have := h.1
     rw [hd] at this
     dsimp only at this
     split at this
     ·rename_i j hj; rw [hj, Nat.eq_of_beq_eq_true this]; rfl
     ·cases this
   | succ i =>
     simp at hi
     intro d hd
     have := Qi2 l (k + 1) h.2 i o hi d hd
     rw [show k + 1 + i = k + (i + 1) by omega] at this
     exact this
theorem Qi3 {ms : List Nat} {m : Nat} : ∀ (l : List Oper) (k : Nat), Qo6 ms m k l = true -> ∀ i, i < l.length -> m <= k + i -> maskAt ms (k + i) = 2 ^ (k + i) - 1
 | [], k, h, i, hi => by simp at hi
 | o' :: l, k, h, i, hi => by
   simp only [Qo6, Bool.and_eq_true] at h
   cases i with
   | zero =>
     intro hm
     have := h.1
     simp only [Bool.or_eq_true] at this
     rcases this with h1 | h1
     ·have := Z4 h1; omega
     ·exact Nat.eq_of_beq_eq_true h1
   | succ i =>
     intro hm
     have := Qi3 l (k + 1) h.2 i (by simpa using hi) (by omega)
     rw [show k + 1 + i = k + (i + 1) by omega] at this
     exact this
theorem Qit {ops : Array Oper} {m : Nat} (h : Qii ops = some m) : Stat ops (masks ops.toList []) m := by
 unfold Qii at h
 dsimp only at h
 have hb0 := Qe h; clear h; obtain ⟨hc, h⟩ := hb0
 injection h with h
 rw [h] at hc
 simp only [Bool.and_eq_true] at hc
 obtain ⟨⟨⟨h1, h2⟩, h3⟩, h4⟩ := hc
 refine ⟨fun k o hk e he => ?_, fun k o hk => ?_, fun k o t j hk ht hj => ?_, fun k o d hk hd => ?_, fun k hm hk => ?_⟩
 ·have := (Qex _ 0 h1 k o (by rw [J7]; exact hk)).1 e he; omega
 ·have := (Qex _ 0 h1 k o (by rw [J7]; exact hk)).2; rwa [Nat.zero_add] at this
 ·have := Qhl _ 0 h2 k o (by rw [J7]; exact hk) t ht j hj; rwa [Nat.zero_add] at this
 ·have := Qi2 _ 0 h3 k o (by rw [J7]; exact hk) d hd; rwa [Nat.zero_add] at this
 ·have := Qi3 _ 0 h4 k (by simpa using hk) (by omega); rwa [Nat.zero_add] at this
theorem Stat.lt {ops : Array Oper} {ms : List Nat} {m : Nat} (h : Stat ops ms m) : ∀ (k : Nat) (o : Oper), ops[k]? = some o -> ∀ j, (maskAt ms k).testBit j = true -> j < k := by
 intro k
 induction k using Nat.strongRecOn with
 | _ k ih =>
   intro o ho j hj
   rw [h.mask k o ho] at hj
   obtain ⟨e, he, h1⟩ := Qg7 _ _ hj
   have hlt := h.edge k o ho e he
   rcases h1 with rfl | h1
   ·exact hlt
   ·have hes : e < ops.size := Nat.lt_trans hlt (Array.getElem?_eq_some_iff.1 ho).1
    exact Nat.lt_trans (ih e hlt _ (Array.getElem?_eq_getElem hes) j h1) hlt
def Cl (ops : Array Oper) (listed : Array Bool) : Prop := ∀ (k : Nat) (o : Oper), ops[k]? = some o -> listed.getD k false = true -> ∀ e ∈ Qb3 o, listed.getD e false = true
theorem Stat.pre {ops : Array Oper} {ms : List Nat} {m : Nat} (h : Stat ops ms m) {listed : Array Bool} (hc : Cl ops listed) : ∀ (k : Nat) (o : Oper), ops[k]? = some o -> (∀ e ∈ Qb3 o, listed.getD e false = true) ->
 ∀ j, (maskAt ms k).testBit j = true -> listed.getD j false = true := by
 intro k
 induction k using Nat.strongRecOn with
 | _ k ih =>
   intro o ho hr j hj
   rw [h.mask k o ho] at hj
   obtain ⟨e, he, h1⟩ := Qg7 _ _ hj
   rcases h1 with rfl | h1
   ·exact hr _ he
   ·have hlt := h.edge k o ho e he
    have hes : e < ops.size := Nat.lt_trans hlt (Array.getElem?_eq_some_iff.1 ho).1
    have hoe : ops[e]? = some ops[e] := Array.getElem?_eq_getElem hes
    exact ih e hlt _ hoe (hc e _ hoe (hr e he)) j h1
theorem Qm3 {o : Oper} {e : Nat} : e ∈ Qb3 o ↔ ∃ x ∈ o.after, Region.binds .any x = true /\ x.on = e := by
 unfold Qb3
 rw [List.mem_filterMap]
 constructor
 ·rintro ⟨x, hx, h⟩
  refine ⟨x, Array.mem_toList_iff.1 hx, ?_⟩
  unfold Region.binds
  cases hg : x.ground <;> rw [hg] at h <;> simp at h ⊢ <;> exact h
 ·rintro ⟨x, hx, hb, rfl⟩
  refine ⟨x, Array.mem_toList_iff.2 hx, ?_⟩
  unfold Region.binds at hb
  cases hg : x.ground <;> rw [hg] at hb <;> simp at hb ⊢
theorem Y1 {t : Nat} : ∀ (l : List Oper) (k j : Nat), Qah t k l = some j -> ∃ i o, j = k + i /\ l[i]? = some o /\ o.dst = some t
 | [], k, j, h => by simp [Qah] at h
 | o :: l, k, j, h => by
   simp only [Qah] at h
   split at h
   ·rename_i d hd
    cases hb : Nat.beq d t with
    | true =>
      rw [hb] at h
      simp only [cond_true, Option.some.injEq] at h
      exact ⟨0, o, by omega, rfl, by rw [hd, Nat.eq_of_beq_eq_true hb]⟩
    | false =>
      rw [hb] at h
      obtain ⟨i, o', h1, h2, h3⟩ := Y1 l (k + 1) j h
      exact ⟨i + 1, o', by omega, by simpa using h2, h3⟩
   ·obtain ⟨i, o', h1, h2, h3⟩ := Y1 l (k + 1) j h
    exact ⟨i + 1, o', by omega, by simpa using h2, h3⟩
theorem Qy6 {ops : Array Oper} {ms : List Nat} {m sz : Nat} (hs : Stat ops ms m) (hops : Qhr sz ops = true) {st : Nat -> St} {val : Nat -> Value}
 (htr : ∀ (i : Nat) (o : Oper), ops[i]? = some o -> (st (i + 1)).A = putA (st i).A o.dst (val i)) : ∀ (i : Nat), i <= ops.size -> ∀ t : Nat,
 Wh (st i).A (.tmp t) = match Qah t 0 ops.toList with
  | some j => if j < i then val j else Wh (st 0).A (.tmp t)
  | none => Wh (st 0).A (.tmp t) := by
 intro i
 induction i with
 | zero => intro _ t; split <;> rfl
 | succ i ih =>
   intro hi t
   have hlt : i < ops.size := by omega
   have ho : ops[i]? = some ops[i] := Array.getElem?_eq_getElem hlt
   rw [htr i _ ho]
   have hsz : sz < 1000000 /\ ∀ d, (ops[i]).dst = some d -> d < sz := by
    unfold Qhr at hops
    simp only [Bool.and_eq_true] at hops
    refine ⟨Z4 hops.1, fun d hd => ?_⟩
    have := List.all_eq_true.1 hops.2 ops[i] (by simp)
    simp only [Bool.and_eq_true, hd] at this
    exact Z4 this.2
   have base := ih (by omega) t
   cases hd : (ops[i]).dst with
   | none =>
     show Wh (st i).A (.tmp t) = _
     rw [base]
     split
     ·rename_i j hj
      have hne : j ≠ i := by
       intro e
       subst e
       obtain ⟨i', o', e1, e2, e3⟩ := Y1 _ _ _ hj
       rw [Nat.zero_add] at e1; subst e1
       rw [J7, ho] at e2; injection e2 with e2; subst e2
       rw [hd] at e3; cases e3
      by_cases c : j < i
      ·rw [if_pos c, if_pos (by omega)]
      ·rw [if_neg c, if_neg (by omega)]
     ·rfl
   | some d =>
     show Wh ((st i).A.set d (val i)) (.tmp t) = _
     rw [Qiu (Nat.lt_trans (hsz.2 d hd) (Nat.lt_trans hsz.1 (by decide)))]
     by_cases e : t = d
     ·subst e
      rw [if_pos rfl, hs.dst i _ t ho hd]
      dsimp only
      rw [if_pos (by omega)]
     ·rw [if_neg e, base]
      split
      ·rename_i j hj
       have hne : j ≠ i := by
        intro e'
        subst e'
        obtain ⟨i', o', e1, e2, e3⟩ := Y1 _ _ _ hj
        rw [Nat.zero_add] at e1; subst e1
        rw [J7, ho] at e2; injection e2 with e2; subst e2
        rw [hd] at e3; injection e3 with e3; exact e e3.symm
       by_cases c : j < i
       ·rw [if_pos c, if_pos (by omega)]
       ·rw [if_neg c, if_neg (by omega)]
      ·rfl
theorem Qpe {code : Qa8} {N0 m : Nat} {ms : List Nat} {bs : List (Nat × Nat)} {ops : Array Oper} : ∀ (l : List Oper) (i : Nat) (s s' : St), Qhs O code fl N0 m ms bs ops i l s = some s' ->
 ∃ (st : Nat -> St) (val : Nat -> Value), st 0 = s /\ st l.length = s' /\ ∀ (j : Nat) (o : Oper), l[j]? = some o ->
   (st j).N < 1000000000 /\ OneD O code fl N0 m ms bs ops (i + j) o (st j) (val j) (st (j + 1)).H (st (j + 1)).N /\ (st (j + 1)).A = putA (st j).A o.dst (val j) /\ (st (j + 1)).M = (st j).M
 | [], i, s, s', h => by
   simp only [Qhs, Option.some.injEq] at h
   subst h
   exact ⟨fun _ => s, fun _ => undef, rfl, rfl, fun j o hj => by simp at hj⟩
 | o :: rest, i, s, s', h => by
   obtain ⟨hN, v, H, N, h1, h2⟩ := Qj8 h
   obtain ⟨st, val, e1, e2, e3⟩ := Qpe rest (i + 1) _ s' h2
   refine ⟨fun k => match k with | 0 => s | k + 1 => st k, fun k => match k with | 0 => v | k + 1 => val k, rfl, e2, fun j o' hj => ?_⟩
   cases j with
   | zero =>
     simp at hj; subst hj
     dsimp only
     rw [e1]
     exact ⟨hN, h1, rfl, rfl⟩
   | succ j =>
     simp at hj
     have := e3 j o' hj
     rw [show i + 1 + j = i + (j + 1) by omega] at this
     exact this
end
end Go.Proofs.Ytfeedchjdnedjaa.Ev
