import Derived.Test.YtfeedchjdnedjaaEv26
set_option linter.unusedVariables false
set_option linter.unusedSimpArgs false
namespace Go.Proofs.Ytfeedchjdnedjaa.Ev
open Go
def cnt (listed : Array Bool) : Nat -> Nat
 | 0 => 0
 | n + 1 => (if listed.getD n false = true then 1 else 0) + cnt listed n
theorem cnt_le (listed : Array Bool) (m : Nat) (h : ∀ j, listed.getD j false = true -> j < m) : ∀ n, cnt listed n <= m /\ cnt listed n <= n
 | 0 => ⟨Nat.zero_le _, Nat.le_refl _⟩
 | n + 1 => by
   have h1 : ∀ m n, (∀ j, listed.getD j false = true -> j < n -> j < m) -> cnt listed n <= m /\ cnt listed n <= n := by
    intro m n
    induction n generalizing m with
    | zero => intro _; exact ⟨Nat.zero_le _, Nat.le_refl _⟩
    | succ n ih =>
      intro h
      simp only [cnt]
      by_cases c : listed.getD n false = true
      ·rw [if_pos c]
       have h0 := h n c (Nat.lt_succ_self _)
       have := ih n (fun j _ hj => hj)
       have h2 := ih (m - 1) (fun j hj hjn => by have := h j hj (by omega); omega)
       omega
      ·rw [if_neg c]
       have := ih m (fun j hj hjn => h j hj (by omega))
       omega
   exact h1 m (n + 1) (fun j hj _ => h j hj)
theorem Qoj {listed : Array Bool} {k : Nat} (hk : k < listed.size) (hl : listed.getD k false = false) : ∀ n, cnt (listed.setIfInBounds k true) n = cnt listed n + if k < n then 1 else 0
 | 0 => rfl
 | n + 1 => by
   simp only [cnt]
   rw [Qoj hk hl n, Qgi hk]
   by_cases c : n = k
   ·subst c
    rw [if_pos rfl, if_pos rfl, if_neg (Nat.lt_irrefl _), if_pos (Nat.lt_succ_self _), hl, if_neg (by simp)]
    omega
   ·rw [if_neg c]
    by_cases c2 : k < n
    ·rw [if_pos c2, if_pos (show k < n + 1 by omega)]; omega
    ·rw [if_neg c2, if_neg (show ¬ k < n + 1 by omega)]; omega
theorem cnt_lt {listed : Array Bool} {k : Nat} (hl : listed.getD k false = false) : ∀ n, k < n -> cnt listed n < n
 | 0, h => by omega
 | n + 1, h => by
   have hle : cnt listed n <= n := (cnt_le listed (listed.size) (fun j hj => by
    rcases Nat.lt_or_ge j listed.size with h | h
    ·exact h
    ·rw [Array.getD_eq_getD_getElem?, Array.getElem?_eq_none h] at hj; cases hj) n).2
   simp only [cnt]
   by_cases c : k = n
   ·subst c; rw [hl, if_neg (by simp)]; omega
   ·have := cnt_lt hl n (by omega)
    split <;> omega
theorem Qb0 {ops : Array Oper} {listed : Array Bool} (hs : listed.size = ops.size) {j : Nat} : j ∈ Region.ready .any ops listed ↔ j < ops.size /\ listed.getD j false = false /\ ∀ o, ops[j]? = some o -> ∀ e ∈ Qb3 o, listed.getD e false = true := by
 unfold Region.ready
 rw [List.mem_filter, List.mem_range]
 constructor
 ·rintro ⟨h1, h2⟩
  simp only [Bool.and_eq_true, Bool.not_eq_true'] at h2
  refine ⟨h1, ?_, fun o ho e he => ?_⟩
  ·have := h2.1
   rw [Array.getD_eq_getD_getElem?, Array.getElem?_eq_getElem (by omega)] at this ⊢
   exact this
  ·have := h2.2
   rw [ho] at this
   simp only [Option.map_some, Option.getD_some] at this
   obtain ⟨x, hx, hb, rfl⟩ := Qm3.1 he
   have := (Array.all_eq_true_iff_forall_mem.1 this) x hx
   rw [hb] at this
   simpa using this
 ·rintro ⟨h1, h2, h3⟩
  refine ⟨h1, ?_⟩
  simp only [Bool.and_eq_true, Bool.not_eq_true']
  refine ⟨?_, ?_⟩
  ·rw [Array.getD_eq_getD_getElem?, Array.getElem?_eq_getElem (by omega)] at h2 ⊢
   exact h2
  ·rw [Array.getElem?_eq_getElem h1]
   simp only [Option.map_some, Option.getD_some]
   rw [Array.all_eq_true_iff_forall_mem]
   intro x hx
   cases hb : Region.binds .any x with
   | false => rfl
   | true =>
     simp only [Bool.not_true, Bool.false_or]
     exact h3 _ (Array.getElem?_eq_getElem h1) _ (Qm3.2 ⟨x, hx, hb, rfl⟩)
section
variable {P : Program} {O : Orc P} {base fl : Nat} {ρ : Ren} {code : Qa8} {ops : Array Oper} {ms : List Nat} {bs : List (Nat × Nat)} {m sz : Nat} {st : Nat -> St} {val : Nat -> Value}
theorem Tra.marks (T : Tra O code fl m ms bs ops sz st val) : ∀ i, i <= ops.size -> (st i).M = (st 0).M
 | 0, _ => rfl
 | i + 1, h => by
   rw [(T.one i _ (T.get (by omega))).2.2.2]
   exact T.marks i (by omega)
theorem Qlv {k j : Nat} (h : j < k) : (2 ^ k - 1).testBit j = true := by
 rw [Nat.testBit_two_pow_sub_one]; simpa using h
theorem InvA.done (T : Tra O code fl m ms bs ops sz st val) (hm : m <= ops.size) {wA0 w0 w : World} {a0 a : Act} {listed : Array Bool} {ρ' : Ren}
 (I : InvA P base fl m ms bs ops sz st val ρ w0 a0 listed a w ρ') (hA : AR ρ sz (st 0).A (st 0).M a0) (hR0 : Rep (st 0).H (st 0).N wA0) (hr0 : WRel P base ρ wA0 w0)
 (hall : ∀ k, k < m -> listed.getD k false = true) :
 Rep (st m).H (st m).N (Qce (st m).H (st m).N) /\ Stp P base fl ρ wA0 w0 (cut ρ' (st m).N) (Qce (st m).H (st m).N) w /\ AR (cut ρ' (st m).N) sz (st m).A (st m).M a := by
 have hsm := T.sm (i := m) hm
 have hRw := Rep.Qh9 (st m).H hsm
 have hn0 := T.n0 (i := m) hm
 have hdom : ∀ b x, ρ b = some x -> b < (st 0).N := fun b x h => by rw [<- hR0.size]; exact (hr0.dom b x h).1
 have hat : ∀ b o, (Qce (st m).H (st m).N).heap[b]? = some o -> b < (st m).N /\ o = Qaf st m b := by
  intro b o h
  rw [hRw.at_, Xt] at h
  split at h
  case isFalse => cases h
  injection h with h
  exact ⟨‹_›, h.symm⟩
 have hle : ρ.Le (cut ρ' (st m).N) := fun b x h => by
  rw [Qci (Nat.lt_of_lt_of_le (hdom b x h) hn0)]; exact I.le _ _ h
 refine ⟨hRw, ⟨hle, ⟨Nat.le_trans hr0.low I.size, fun b x h => ?_, fun b o x h1 h2 h3 => ?_, fun b b' o o' x x' h1 a1 h2 a2 r1 r2 hx => ?_⟩, fun b x h => ?_, by rw [hR0.size, hRw.size]; exact hn0, I.size, I.os, I.tape, I.output, fun b hb => ?_, I.keep⟩, I.asz, fun t => ?_, ?_⟩
 ·obtain ⟨h1, h2⟩ := Jz h
  exact ⟨by rw [hRw.size]; exact h1, I.img b x h2⟩
 ·obtain ⟨g1, g2⟩ := hat b o h1
  subst g2
  exact I.mem m (Nat.le_refl _) (fun h => absurd h (Nat.lt_irrefl _)) b x g1 (fun h => absurd h (Nat.lt_irrefl _)) h2 (Jz h3).2 (fun q hq _ _ => hall q hq)
 ·obtain ⟨g1, g2⟩ := hat b o h1
  obtain ⟨g1', g2'⟩ := hat b' o' h2
  subst g2; subst g2'
  exact I.inj m (Nat.le_refl _) (fun h => absurd h (Nat.lt_irrefl _)) b b' x x' g1 g1' a1 a2 (Jz r1).2 (Jz r2).2 hx
 ·rcases I.new b x (Jz h).2 with e | ⟨e1, e2⟩
  ·exact .inl e
  ·exact .inr ⟨by rw [hR0.size]; exact e1, .inl e2⟩
 ·rw [hRw.at_, hR0.at_]
  exact (T.kpAt m hm).keep b hb
 ·have hev := Qy6 T.stat T.okops (st := st) (val := val) (fun i o ho => (T.one i o ho).2.2.1) m hm t
  have old : (∀ (j : Nat) (o : Oper), listed.getD j false = true -> ops[j]? = some o -> o.dst ≠ some t) -> VRel (cut ρ' (st m).N) (Wh (st 0).A (.tmp t)) (a.tmps.getD t undef) := by
   intro h
   rw [I.tm0 t h]
   exact (hA.tmps t).mono hle
  rw [hev]
  cases hf : Qah t 0 ops.toList with
  | none =>
    refine old (fun j o hj ho hd => ?_)
    have := T.stat.dst j o t ho hd
    rw [hf] at this; cases this
  | some j =>
    dsimp only
    obtain ⟨i', o', e1, e2, e3⟩ := Y1 _ _ _ hf
    rw [Nat.zero_add] at e1; subst e1
    rw [J7] at e2
    by_cases c : j < m
    ·rw [if_pos c]
     exact (I.tm1 _ o' t (hall j c) e2 e3).mono (Qdu (T.mono (by omega) hm))
    ·rw [if_neg c]
     refine old (fun j' o hj' ho hd => ?_)
     have := T.stat.dst j' o t ho hd
     rw [hf] at this; injection this with this
     have := I.lm j' hj'
     omega
 ·rw [T.marks m hm, I.adef]
  exact hA.defs.mono hle
theorem Qzi (T : Tra O code fl m ms bs ops sz st val) (hc : Qet P base code) (hn : Named P) {wA0 w0 : World} {rd : Option Nat} {Q : Exit -> Act -> World -> Prop}
 (hQ : ∀ ρ' wA' w' a', Rep (st ops.size).H (st ops.size).N wA' -> Stp P base fl ρ wA0 w0 ρ' wA' w' -> AR ρ' sz (st ops.size).A (st ops.size).M a' -> Q .normal a' w') :
 ∀ (fuel i : Nat) (listed : Array Bool) (a : Act) (w : World) (ρ' : Ren) (wA' : World), m <= i -> i <= ops.size -> ops.size <= fuel + i -> listed.size = ops.size -> (∀ j, listed.getD j false = decide (j < i)) ->
   Rep (st i).H (st i).N wA' -> Stp P base fl ρ wA0 w0 ρ' wA' w -> AR ρ' sz (st i).A (st i).M a -> wpAnyIn (fen rd) 0 P .any ops Q fuel listed a w := by
 intro fuel
 induction fuel with
 | zero =>
   intro i listed a w ρ' wA' hmi hi hfu hls hl hR hst hA
   have e : i = ops.size := by omega
   subst e
   refine ⟨?_, hQ _ _ _ _ hR hst hA⟩
   refine List.eq_nil_iff_forall_not_mem.2 (fun j hj => ?_)
   obtain ⟨h1, h2, _⟩ := (Qb0 hls).1 hj
   rw [hl] at h2
   simp at h2; omega
 | succ fuel ih =>
   intro i listed a w ρ' wA' hmi hi hfu hls hl hR hst hA
   refine ⟨fun hnil => ?_, fun j hj => ?_⟩
   ·have e : i = ops.size := by
     rcases Nat.lt_or_ge i ops.size with h | h
     ·exfalso
      have : i ∈ Region.ready .any ops listed := (Qb0 hls).2 ⟨h, by rw [hl]; simp, fun o ho e he => by rw [hl]; simpa using T.stat.edge i o ho e he⟩
      rw [hnil] at this; cases this
     ·omega
    subst e
    exact hQ _ _ _ _ hR hst hA
   ·obtain ⟨h1, h2, h3⟩ := (Qb0 hls).1 hj
    rw [hl] at h2
    have hij : i <= j := by simpa using h2
    have e : j = i := by
     rcases Nat.eq_or_lt_of_le hij with h | h
     ·exact h.symm
     ·exfalso
      have hcl : Cl ops listed := fun k o ho hk e he => by
       rw [hl] at hk ⊢
       have := T.stat.edge k o ho e he
       simp at hk ⊢; omega
      have := T.stat.pre hcl j _ (T.get h1) (h3 _ (T.get h1)) i (by rw [T.stat.bar j (by omega) h1]; exact Qlv h)
      rw [hl] at this
      simp at this
    subst e
    have ho := T.get h1
    obtain ⟨hsz, hdst, hopd⟩ := Qa1 T.okops ho
    have hnext : ∀ (a' : Act) (w' : World) (ρ2 : Ren) (wA2 : World), Rep (st (j + 1)).H (st (j + 1)).N wA2 -> Stp P base fl ρ wA0 w0 ρ2 wA2 w' -> AR ρ2 sz (st (j + 1)).A (st (j + 1)).M a' -> wpAnyIn (fen rd) 0 P .any ops Q fuel (listed.setIfInBounds j true) a' w' := by
     intro a' w' ρ2 wA2 hR2 hst2 hA2
     refine ih (j + 1) _ a' w' ρ2 wA2 (by omega) h1 (by omega) (by simp [hls]) (fun q => ?_) hR2 hst2 hA2
     rw [Qgi (by omega), hl]
     by_cases c : q = j
     ·rw [if_pos c]; subst c; simp
     ·rw [if_neg c]
      by_cases c2 : q < j
      ·simp [c2, show q < j + 1 by omega]
      ·simp [c2, show ¬ q < j + 1 by omega]
    obtain ⟨hsm, hone, hA1, hM1⟩ := T.one j _ ho
    have hwant : Region.wanted ops[j] (yielded ops a.tmps) = Qa7 ops (st j).A ops[j] := Qiq (fun t _ => hA.tmps t)
    unfold wpOpIn
    rw [ho]; dsimp only
    rw [hwant]
    have hfl : fl <= (st j).N := Nat.le_trans T.fl0 (T.n0 (by omega))
    generalize hvi : val j = vi at hone
    generalize hH : (st (j + 1)).H = H' at hone
    generalize hN : (st (j + 1)).N = N' at hone
    cases hone with
    | no hw hb =>
      rw [hw, if_neg (by simp)]
      refine ⟨fun f _ => trivial, hnext _ _ ρ' wA' (by rw [hH, hN]; exact hR) hst ?_⟩
      rw [hA1, hM1, hvi]
      exact hA.put hdst hsz ARel.undef
    | put hw him => omega
    | quiet hw him => omega
    | bar hw him h =>
      rw [hw, if_pos rfl]
      refine Qxg hc hn h hR hst.rel hfl (fun x hx => hA.eval (hopd x hx)) (rd := rd) ?_
      intro ρ2 v' wA2 w2 hR2 hst2 hv2
      refine hnext _ _ ρ2 wA2 (by rw [hH, hN]; exact hR2) (hst.trans hst2) ?_
      rw [hA1, hM1, hvi]
      exact (hA.mono hst2.le).put hdst hsz hv2
theorem Qzj (T : Tra O code fl m ms bs ops sz st val) (hm : m <= ops.size) (hc : Qet P base code) (hn : Named P) {wA0 w0 : World} {a0 : Act} (hA : AR ρ sz (st 0).A (st 0).M a0) (hR0 : Rep (st 0).H (st 0).N wA0) (hr0 : WRel P base ρ wA0 w0)
 {rd : Option Nat} {Q : Exit -> Act -> World -> Prop}
 (hQ : ∀ ρ' wA' w' a', Rep (st ops.size).H (st ops.size).N wA' -> Stp P base fl ρ wA0 w0 ρ' wA' w' -> AR ρ' sz (st ops.size).A (st ops.size).M a' -> Q .normal a' w') :
 ∀ (fuel : Nat) (listed : Array Bool) (a : Act) (w : World) (ρ' : Ren), ops.size <= fuel + cnt listed ops.size -> InvA P base fl m ms bs ops sz st val ρ w0 a0 listed a w ρ' -> wpAnyIn (fen rd) 0 P .any ops Q fuel listed a w := by
 intro fuel
 have fin : ∀ (fuel : Nat) (listed : Array Bool) (a : Act) (w : World) (ρ' : Ren), ops.size <= fuel + cnt listed ops.size -> InvA P base fl m ms bs ops sz st val ρ w0 a0 listed a w ρ' -> (∀ k, k < m -> listed.getD k false = true) -> wpAnyIn (fen rd) 0 P .any ops Q fuel listed a w := by
  intro fuel listed a w ρ' hfu I hall
  obtain ⟨g1, g2, g3⟩ := I.done T hm hA hR0 hr0 hall
  have := (cnt_le listed m I.lm ops.size).1
  refine Qzi T hc hn hQ fuel m listed a w _ _ (Nat.le_refl _) hm (by omega) I.lsz (fun j => ?_) g1 g2 g3
  by_cases c : j < m
  ·rw [hall j c]; simp [c]
  ·cases hj : listed.getD j false with
   | true => exact absurd (I.lm j hj) c
   | false => simp [c]
 have least : ∀ (listed : Array Bool), (∃ k, k < m /\ listed.getD k false = false) -> ∃ k, k < m /\ listed.getD k false = false /\ ∀ j, j < k -> listed.getD j false = true := by
  intro listed h
  obtain ⟨k, hk⟩ := h
  induction k using Nat.strongRecOn with
  | _ k ih =>
    by_cases c : ∃ j, j < k /\ listed.getD j false = false
    ·obtain ⟨j, hj, hl⟩ := c
     exact ih j hj ⟨by omega, hl⟩
    ·refine ⟨k, hk.1, hk.2, fun j hj => ?_⟩
     cases hl : listed.getD j false with
     | true => rfl
     | false => exact absurd ⟨j, hj, hl⟩ c
 have all_or : ∀ (listed : Array Bool), (∀ k, k < m -> listed.getD k false = true) \/ ∃ k, k < m /\ listed.getD k false = false := by
  intro listed
  by_cases c : ∃ k, k < m /\ listed.getD k false = false
  ·exact .inr c
  ·refine .inl (fun k hk => ?_)
   cases hl : listed.getD k false with
   | true => rfl
   | false => exact absurd ⟨k, hk, hl⟩ c
 induction fuel with
 | zero =>
   intro listed a w ρ' hfu I
   rcases all_or listed with hall | ⟨k, hk, hl⟩
   ·exact fin 0 listed a w ρ' hfu I hall
   ·have := cnt_lt hl ops.size (by omega); omega
 | succ fuel ih =>
   intro listed a w ρ' hfu I
   rcases all_or listed with hall | hex
   ·exact fin _ listed a w ρ' hfu I hall
   ·refine ⟨fun hnil => ?_, fun j hj => ?_⟩
    ·obtain ⟨k, hk, hl, hlow⟩ := least listed hex
     have : k ∈ Region.ready .any ops listed := (Qb0 I.lsz).2 ⟨by omega, hl, fun o ho e he => hlow e (T.stat.edge k o ho e he)⟩
     rw [hnil] at this; cases this
    ·obtain ⟨h1, h2, h3⟩ := (Qb0 I.lsz).1 hj
     have hjm : j < m := by
      rcases Nat.lt_or_ge j m with h | h
      ·exact h
      ·exfalso
       obtain ⟨k, hk, hl⟩ := hex
       have := T.stat.pre I.cl j _ (T.get h1) (h3 _ (T.get h1)) k (by rw [T.stat.bar j h h1]; exact Qlv (by omega))
       rw [hl] at this; cases this
     refine I.step T hm hc hn hA hR0 hr0 hjm h2 h3 (fun a' w' ρ'' I' => ih _ a' w' ρ'' ?_ I')
     rw [Qoj (by rw [I.lsz]; exact h1) h2, if_pos h1]
     omega
theorem Qxi (hm' : P.follows .mixedOrders = true) (T : Tra O code fl m ms bs ops sz st val) (hm : m <= ops.size) (hc : Qet P base code) (hn : Named P) {wA0 w0 : World} {a0 : Act} (hA : AR ρ sz (st 0).A (st 0).M a0) (hR0 : Rep (st 0).H (st 0).N wA0) (hr0 : WRel P base ρ wA0 w0)
 {rd : Option Nat} {Q : Exit -> Act -> World -> Prop} {id : Nat}
 (hQ : ∀ ρ' wA' w' a', Rep (st ops.size).H (st ops.size).N wA' -> Stp P base fl ρ wA0 w0 ρ' wA' w' -> AR ρ' sz (st ops.size).A (st ops.size).M a' -> Q .normal a' w') :
 (Code.region id ops true).wpIn (fen rd) 0 P Q a0 w0 :=
 wpIn_region_any hm' (Qzj T hm hc hn hA hR0 hr0 hQ _ _ _ _ ρ (by omega) (InvA.start T hm hR0 hr0 hA _))
end
end Go.Proofs.Ytfeedchjdnedjaa.Ev
