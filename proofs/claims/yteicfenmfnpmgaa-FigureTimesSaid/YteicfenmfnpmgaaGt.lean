/- Law of the most times: the plain functions of the text G2 agree, for all lists. -/
import Derived.Test.YteicfenmfnpmgaaGs
set_option linter.unusedVariables false
set_option linter.unusedSimpArgs false
namespace Go.Proofs.Yteicfenmfnpmgaa.Vg
open Go Go.Proofs.Yteicfenmfnpmgaa.Ev Go.Proofs.Yteicfenmfnpmgaa.Vv

/-- The quotient at a place. -/
def quo (a b w : Int) : Int := w64 ((w64 (a - b)).tdiv w)
/-- One more place. -/
def stepM (q w : Int) (r : Option Int) : Option Int := if w = 0 then r else match r with | none => some q | some p => if q < p then some q else some p
theorem stepM_z {q w : Int} {r : Option Int} (h : w = 0) : stepM q w r = r := by unfold stepM; rw [if_pos h]
theorem stepM_n {q w : Int} (h : ¬ w = 0) : stepM q w none = some q := by unfold stepM; rw [if_neg h]
theorem stepM_l {q w p : Int} (h : ¬ w = 0) (h2 : q < p) : stepM q w (some p) = some q := by unfold stepM; rw [if_neg h]; exact if_pos h2
theorem stepM_g {q w p : Int} (h : ¬ w = 0) (h2 : ¬ q < p) : stepM q w (some p) = some p := by unfold stepM; rw [if_neg h]; exact if_neg h2
/-- The least quotient of the places with wear, if there is one. -/
def mostM : List Int → List Int → List Int → Option Int → Option Int
  | a :: l, b :: m, w :: v, r => mostM l m v (stepM (quo a b w) w r)
  | [], _, _, r => r
  | _ :: _, [], _, r => r
  | _ :: _, _ :: _, [], r => r
def optI (r : Option Int) : Int := match r with | none => 0 | some q => q
def optR (r : Option Int) : Int := match r with | none => -1 | some q => q
theorem most_l (k : Nat) (a b w : List Int) (hb : b.length = a.length) (hw : w.length = a.length) (hl : a.length < 1000000000000) : ∀ (d fuel i : Nat) (r : Option Int), a.length = i + d → d < fuel →
    nfigure_MostTimes_l0_0 k a b w fuel (optI r) r.isSome (i : Int) = some (optI (mostM (a.drop i) (b.drop i) (w.drop i) r), (mostM (a.drop i) (b.drop i) (w.drop i) r).isSome) := by
  intro d
  induction d with
  | zero =>
    intro fuel i r h hf
    obtain ⟨g, rfl⟩ : ∃ g, fuel = g + 1 := ⟨fuel - 1, by omega⟩
    rw [nfigure_MostTimes_l0_0.eq_2, if_neg (by omega), List.drop_eq_nil_of_le (by omega)]; rfl
  | succ d ih =>
    intro fuel i r h hf
    obtain ⟨g, rfl⟩ : ∃ g, fuel = g + 1 := ⟨fuel - 1, by omega⟩
    have i1 := fun r => ih g (i + 1) r (by omega) (by omega)
    rw [nfigure_MostTimes_l0_0.eq_2, if_pos (by omega), if_pos (by omega), w64_succ (by omega), drop_get (y := a) (i := i) (by omega) 0, drop_get (y := b) (i := i) (by omega) 0, drop_get (y := w) (i := i) (by omega) 0, Int.toNat_natCast, mostM]
    by_cases h1 : w.getD i 0 = 0
    · rw [if_pos h1, stepM_z h1]; exact i1 r
    · rw [if_neg h1, if_pos (by omega), if_pos (by omega), if_pos h1]
      change (if r.isSome = true then (if quo (a.getD i 0) (b.getD i 0) (w.getD i 0) < optI r then nfigure_MostTimes_l0_0 k a b w g (quo (a.getD i 0) (b.getD i 0) (w.getD i 0)) true _ else _) else nfigure_MostTimes_l0_0 k a b w g (quo (a.getD i 0) (b.getD i 0) (w.getD i 0)) true _) = _
      generalize quo (a.getD i 0) (b.getD i 0) (w.getD i 0) = q
      cases r with
      | none => rw [if_neg (by simp), stepM_n h1]; exact i1 (some q)
      | some p =>
        rw [if_pos (by rfl)]
        change (if q < p then _ else _) = _
        by_cases h2 : q < p
        · rw [if_pos h2, stepM_l h1 h2]; exact i1 (some q)
        · rw [if_neg h2, stepM_g h1 h2]; exact i1 (some p)
theorem mostR_l (k : Nat) (a b w : List Int) (hb : b.length = a.length) (hw : w.length = a.length) (hl : a.length < 1000000000000) (hW : ∀ i : Nat, 0 ≤ w.getD i 0) (hQ : ∀ i : Nat, w.getD i 0 ≠ 0 → 0 ≤ quo (a.getD i 0) (b.getD i 0) (w.getD i 0)) :
    ∀ (d fuel i : Nat) (r : Option Int), a.length = i + d → d < fuel → (∀ q, r = some q → 0 ≤ q) →
    nspeculumref06_MostTimes_l0_0 k a b w fuel (optR r) (i : Int) = some (optR (mostM (a.drop i) (b.drop i) (w.drop i) r)) ∧ ∀ q, mostM (a.drop i) (b.drop i) (w.drop i) r = some q → 0 ≤ q := by
  intro d
  induction d with
  | zero =>
    intro fuel i r h hf hr
    obtain ⟨g, rfl⟩ : ∃ g, fuel = g + 1 := ⟨fuel - 1, by omega⟩
    rw [nspeculumref06_MostTimes_l0_0.eq_2, if_neg (by omega), List.drop_eq_nil_of_le (by omega)]; exact ⟨rfl, hr⟩
  | succ d ih =>
    intro fuel i r h hf hr
    obtain ⟨g, rfl⟩ : ∃ g, fuel = g + 1 := ⟨fuel - 1, by omega⟩
    have i1 := fun r => ih g (i + 1) r (by omega) (by omega)
    have hWi := hW i
    have hQi := hQ i
    rw [nspeculumref06_MostTimes_l0_0.eq_2, if_pos (by omega), if_pos (by omega), w64_succ (by omega), drop_get (y := a) (i := i) (by omega) 0, drop_get (y := b) (i := i) (by omega) 0, drop_get (y := w) (i := i) (by omega) 0, Int.toNat_natCast, mostM]
    by_cases h1 : w.getD i 0 = 0
    · rw [if_neg (by omega), stepM_z h1]; exact i1 r hr
    · rw [if_pos (by omega), if_pos (by omega), if_pos (by omega), if_pos h1]
      have hq := hQi h1
      change (if optR r < 0 then nspeculumref06_MostTimes_l0_0 k a b w g (quo (a.getD i 0) (b.getD i 0) (w.getD i 0)) _ else (if quo (a.getD i 0) (b.getD i 0) (w.getD i 0) < optR r then nspeculumref06_MostTimes_l0_0 k a b w g (quo (a.getD i 0) (b.getD i 0) (w.getD i 0)) _ else _)) = _ ∧ _
      revert hq
      generalize quo (a.getD i 0) (b.getD i 0) (w.getD i 0) = q
      intro hq
      have hs : ∀ p, some q = some p → 0 ≤ p := fun p e => by injection e with e; omega
      cases r with
      | none => rw [if_pos (by decide), stepM_n h1]; exact i1 (some q) hs
      | some p =>
        have hp := hr p rfl
        rw [if_neg (by show ¬ (p < 0); omega)]
        change (if q < p then _ else _) = _ ∧ _
        by_cases h2 : q < p
        · rw [if_pos h2, stepM_l h1 h2]; exact i1 (some q) hs
        · rw [if_neg h2, stepM_g h1 h2]; exact i1 (some p) hr

/-- What passes the checks. -/
structure Okay (a b w : List Int) : Prop where
  la : a.length ≤ 40
  lb : b.length = a.length
  lw : w.length = a.length
  ha : ∀ i : Nat, -100000 ≤ a.getD i 0 ∧ a.getD i 0 ≤ 100000
  hb : ∀ i : Nat, -100000 ≤ b.getD i 0 ∧ b.getD i 0 ≤ 100000
  hw : ∀ i : Nat, 0 ≤ w.getD i 0 ∧ w.getD i 0 ≤ 100000
  le : ∀ i : Nat, b.getD i 0 ≤ a.getD i 0
theorem getD_all {p : Int → Bool} {l : List Int} (h : l.all p = true) (h0 : p 0 = true) (i : Nat) : p (l.getD i 0) = true := by
  rw [List.getD_eq_getElem?_getD]
  cases e : l[i]? with
  | none => exact h0
  | some x =>
    rw [List.all_eq_true] at h
    exact h x (List.mem_of_getElem? e)
theorem belowB_cons (x y : Int) (a b : List Int) : belowB (x :: a) (y :: b) = (blw x y || belowB a b) := rfl
theorem belowB_iff : ∀ (a b : List Int), a.length = b.length → (belowB a b = false ↔ ∀ i : Nat, b.getD i 0 ≤ a.getD i 0)
  | [], b, h => by
    obtain rfl : b = [] := by cases b with | nil => rfl | cons _ _ => cases h
    exact ⟨fun _ i => by simp, fun _ => rfl⟩
  | x :: a, [], h => by cases h
  | x :: a, y :: b, h => by
    have ih := belowB_iff a b (by simpa using h)
    rw [belowB_cons, Bool.or_eq_false_iff, ih]
    constructor
    · rintro ⟨h1, h2⟩ i
      have h1' : ¬ x < y := of_decide_eq_false h1
      cases i with
      | zero => show y ≤ x; omega
      | succ i => exact h2 i
    · intro h2
      refine ⟨decide_eq_false ?_, fun i => h2 (i + 1)⟩
      have : y ≤ x := h2 0
      omega
theorem okay_of {a b w : List Int} (h1 : twoE a b = 0) (h2 : wearE a.length w = 0) (h3 : belowB a b = false) : Okay a b w := by
  obtain ⟨z1, z2, z3⟩ := twoE_zero h1
  obtain ⟨y1, y2, y3⟩ := hE_zero z1
  obtain ⟨_, _, x3⟩ := hE_zero z3
  obtain ⟨w1, w2⟩ := wearE_zero h2
  exact ⟨y2, z2, w1, fun i => of_decide_eq_true (getD_all y3 rfl i), fun i => of_decide_eq_true (getD_all x3 rfl i), fun i => of_decide_eq_true (getD_all w2 rfl i), (belowB_iff a b (by omega)).1 h3⟩
theorem quo_eq {a b w : List Int} (h : Okay a b w) (i : Nat) (hz : w.getD i 0 ≠ 0) : quo (a.getD i 0) (b.getD i 0) (w.getD i 0) = (a.getD i 0 - b.getD i 0) / w.getD i 0 ∧ 0 ≤ quo (a.getD i 0) (b.getD i 0) (w.getD i 0) := by
  have h1 := h.ha i; have h2 := h.hb i; have h3 := h.hw i; have h4 := h.le i
  have e1 : w64 (a.getD i 0 - b.getD i 0) = a.getD i 0 - b.getD i 0 := w64_id (by omega) (by omega)
  have e2 : (a.getD i 0 - b.getD i 0).tdiv (w.getD i 0) = (a.getD i 0 - b.getD i 0) / w.getD i 0 := Int.tdiv_eq_ediv_of_nonneg (by omega)
  have e3 : 0 ≤ (a.getD i 0 - b.getD i 0) / w.getD i 0 := Int.ediv_nonneg (by omega) (by omega)
  have e4 : (a.getD i 0 - b.getD i 0) / w.getD i 0 ≤ a.getD i 0 - b.getD i 0 := Int.ediv_le_self _ (by omega)
  unfold quo
  rw [e1, e2, w64_id (by omega) (by omega)]
  exact ⟨rfl, e3⟩
/-- The answer of the most times. -/
def mostS (a b w : List Int) : Int × Int :=
  if twoE a b = 0 then (if wearE a.length w = 0 then (if belowB a b then (0, 26) else (match mostM a b w none with | none => (0, 12) | some q => (q, 0))) else (0, wearE a.length w)) else (0, twoE a b)
theorem mostTimes_any (k : Nat) (a b w : List Int) (hl : a.length < k) (hk : k ≤ 1000000000) : nfigure_MostTimes k a b w = some (mostS a b w) ∧ nspeculumref06_MostTimes k a b w = some (mostS a b w) := by
  unfold nfigure_MostTimes nspeculumref06_MostTimes mostS
  rw [checkWanted_any k a b hl hk, twoErr_any k a b hl hk, Option.bind_some, Option.bind_some]
  by_cases h0 : twoE a b = 0
  · rw [if_pos h0, if_pos h0, if_pos h0, checkWear_any k a w hl hk, wearErr_any k a.length w hl hk, Option.bind_some, Option.bind_some]
    by_cases h1 : wearE a.length w = 0
    · have hb := (twoE_zero h0).2.1
      have hw := (wearE_zero h1).1
      rw [if_pos h1, if_pos h1, if_pos h1, isBelow_any k a b hb hl hk, below_any k a b hb hl hk, Option.bind_some, Option.bind_some]
      by_cases h2 : belowB a b = true
      · rw [if_pos h2, if_pos h2, if_pos h2]; exact ⟨rfl, rfl⟩
      · rw [if_neg h2, if_neg h2, if_neg h2]
        have ok := okay_of h0 h1 (by simpa using h2)
        have e1 : nfigure_MostTimes_l0_0 k a b w k 0 false 0 = some (optI (mostM a b w none), (mostM a b w none).isSome) := most_l k a b w hb hw (by omega) a.length k 0 none (by omega) hl
        obtain ⟨e2, e3⟩ := mostR_l k a b w hb hw (by omega) (fun i => (ok.hw i).1) (fun i hz => (quo_eq ok i hz).2) a.length k 0 none (by omega) hl (fun q e => by cases e)
        have e2' : nspeculumref06_MostTimes_l0_0 k a b w k (-1) 0 = some (optR (mostM a b w none)) := e2
        have e3' : ∀ q, mostM a b w none = some q → 0 ≤ q := e3
        rw [e1, e2', Option.bind_some, Option.bind_some]
        cases hm : mostM a b w none with
        | none => exact ⟨rfl, rfl⟩
        | some q =>
          have := e3' q hm
          refine ⟨rfl, ?_⟩
          show (if q < 0 then _ else some (q, 0)) = _
          rw [if_neg (by omega)]
    · rw [if_neg h1, if_neg h1, if_neg h1]; exact ⟨rfl, rfl⟩
  · rw [if_neg h0, if_neg h0, if_neg h0]; exact ⟨rfl, rfl⟩

theorem mostM_spec : ∀ (l m v : List Int) (r : Option Int) (q : Int), m.length = l.length → v.length = l.length → mostM l m v r = some q →
    (∀ i : Nat, v.getD i 0 ≠ 0 → q ≤ quo (l.getD i 0) (m.getD i 0) (v.getD i 0)) ∧ (∀ p, r = some p → q ≤ p) ∧ ((∃ i : Nat, v.getD i 0 ≠ 0 ∧ q = quo (l.getD i 0) (m.getD i 0) (v.getD i 0)) ∨ r = some q)
  | [], m, v, r, q, h1, h2, h => by
    obtain rfl : v = [] := by cases v with | nil => rfl | cons _ _ => cases h2
    have h' : r = some q := h
    subst h'
    exact ⟨fun i hi => absurd (by simp) hi, fun p e => by injection e with e; omega, .inr rfl⟩
  | _ :: _, [], _, _, _, h1, _, _ => by cases h1
  | _ :: _, _ :: _, [], _, _, _, h2, _ => by cases h2
  | a :: l, b :: m, w :: v, r, q, h1, h2, h => by
    rw [mostM] at h
    obtain ⟨i1, i2, i3⟩ := mostM_spec l m v _ q (by simpa using h1) (by simpa using h2) h
    have key : (w ≠ 0 → q ≤ quo a b w) ∧ (∀ p, r = some p → q ≤ p) ∧ (stepM (quo a b w) w r = some q → (w ≠ 0 ∧ q = quo a b w) ∨ r = some q) := by
      by_cases hw : w = 0
      · rw [stepM_z hw] at i2 ⊢
        exact ⟨fun e => absurd hw e, i2, .inr⟩
      · cases r with
        | none =>
          rw [stepM_n hw] at i2 ⊢
          exact ⟨fun _ => i2 _ rfl, fun p e => (by cases e), fun e => .inl ⟨hw, by injection e with e; exact e.symm⟩⟩
        | some p =>
          by_cases hq : quo a b w < p
          · rw [stepM_l hw hq] at i2 ⊢
            have := i2 _ rfl
            exact ⟨fun _ => this, fun p' e => by injection e with e; omega, fun e => .inl ⟨hw, by injection e with e; exact e.symm⟩⟩
          · rw [stepM_g hw hq] at i2 ⊢
            have := i2 _ rfl
            exact ⟨fun _ => by omega, fun p' e => by injection e with e; omega, .inr⟩
    refine ⟨fun i hi => ?_, key.2.1, ?_⟩
    · cases i with
      | zero => exact key.1 hi
      | succ i => exact i1 i hi
    · rcases i3 with ⟨i, x1, x2⟩ | e
      · exact .inl ⟨i + 1, x1, x2⟩
      · rcases key.2.2 e with h | h
        · exact .inl ⟨0, h⟩
        · exact .inr h

/-- Heights after t sessions. -/
def After (a w : List Int) (t : Nat) (x : List Int) : Prop := x.length = a.length ∧ ∀ i : Nat, x.getD i 0 = a.getD i 0 - (t : Int) * w.getD i 0
def Above (a b w : List Int) (t : Nat) : Prop := ∀ i : Nat, b.getD i 0 ≤ a.getD i 0 - (t : Int) * w.getD i 0
theorem getD_sub {x w : List Int} (h : w.length = x.length) (i : Nat) : (List.zipWith subW x w).getD i 0 = subW (x.getD i 0) (w.getD i 0) := by
  rw [List.getD_eq_getElem?_getD, List.getD_eq_getElem?_getD, List.getD_eq_getElem?_getD, List.getElem?_zipWith]
  rcases Nat.lt_or_ge i x.length with hi | hi
  · rw [List.getElem?_eq_getElem hi, List.getElem?_eq_getElem (by omega)]; rfl
  · rw [List.getElem?_eq_none hi, List.getElem?_eq_none (by omega)]; rfl
theorem After.next {a b w : List Int} (ok : Okay a b w) {t : Nat} (ht : t ≤ 50) {x : List Int} (h : After a w t x) : After a w (t + 1) (List.zipWith subW x w) := by
  refine ⟨by rw [List.length_zipWith, h.1, ok.lw]; omega, fun i => ?_⟩
  have h1 := ok.ha i; have h2 := ok.hw i
  rw [getD_sub (by rw [h.1, ok.lw]), h.2 i]
  have h3 : 0 ≤ (t : Int) * w.getD i 0 := Int.mul_nonneg (by omega) h2.1
  have h4 : (t : Int) * w.getD i 0 ≤ 50 * 100000 := Int.mul_le_mul (by omega) h2.2 h2.1 (by omega)
  unfold subW
  rw [w64_id (by omega) (by omega), show ((t + 1 : Nat) : Int) = (t : Int) + 1 by omega, Int.add_mul]
  omega
theorem After.below {a b w : List Int} (ok : Okay a b w) {t : Nat} {x : List Int} (h : After a w t x) : belowB x b = false ↔ Above a b w t := by
  rw [belowB_iff x b (by rw [h.1, ok.lb])]
  constructor
  · intro g i; rw [← h.2 i]; exact g i
  · intro g i; rw [h.2 i]; exact g i
theorem sess_rep {a b w : List Int} (ok : Okay a b w) (hz : wearE a.length w = 0) (rest : List (List Int)) : ∀ (m j : Nat) (x : List Int), After a w j x → j + m ≤ 50 → (∀ t, j < t → t ≤ j + m → Above a b w t) →
    ∃ x', After a w (j + m) x' ∧ sessS a.length b (List.replicate m w ++ rest) (j : Int) x = sessS a.length b rest ((j + m : Nat) : Int) x' := by
  intro m
  induction m with
  | zero => intro j x h _ _; exact ⟨x, h, rfl⟩
  | succ m ih =>
    intro j x h hm hA
    have hn := h.next ok (by omega)
    have hb := (hn.below ok).2 (hA (j + 1) (by omega) (by omega))
    obtain ⟨x', e1, e2⟩ := ih (j + 1) _ hn (by omega) (fun t h1 h2 => hA t (by omega) (by omega))
    refine ⟨x', by rw [show j + (m + 1) = j + 1 + m by omega]; exact e1, ?_⟩
    rw [List.replicate_succ, List.cons_append, sessS, if_pos hz, hb, if_neg (by decide), show (j : Int) + 1 = ((j + 1 : Nat) : Int) by omega, e2, show j + (m + 1) = j + 1 + m by omega]
theorem above_of {a b w : List Int} (ok : Okay a b w) {q : Nat} (hq : ∀ i : Nat, w.getD i 0 ≠ 0 → (q : Int) ≤ quo (a.getD i 0) (b.getD i 0) (w.getD i 0)) (t : Nat) (ht : t ≤ q) : Above a b w t := by
  intro i
  have h2 := ok.hw i; have h4 := ok.le i
  by_cases hz : w.getD i 0 = 0
  · rw [hz]; omega
  · have := hq i hz
    rw [(quo_eq ok i hz).1] at this
    have := (Int.le_ediv_iff_mul_le (by omega : 0 < w.getD i 0)).1 (show (t : Int) ≤ (a.getD i 0 - b.getD i 0) / w.getD i 0 by omega)
    omega
theorem not_above {a b w : List Int} (ok : Okay a b w) {q : Nat} (hq : ∃ i : Nat, w.getD i 0 ≠ 0 ∧ (q : Int) = quo (a.getD i 0) (b.getD i 0) (w.getD i 0)) : ¬ Above a b w (q + 1) := by
  obtain ⟨i, hz, e⟩ := hq
  intro h
  have h2 := ok.hw i
  rw [(quo_eq ok i hz).1] at e
  have h3 := h i
  have := (Int.le_ediv_iff_mul_le (by omega : 0 < w.getD i 0)).2 (show ((q + 1 : Nat) : Int) * w.getD i 0 ≤ a.getD i 0 - b.getD i 0 by omega)
  omega
theorem mostS_zero {a b w : List Int} {q : Int} (h : mostS a b w = (q, 0)) : twoE a b = 0 ∧ wearE a.length w = 0 ∧ belowB a b = false ∧ mostM a b w none = some q := by
  unfold mostS at h
  by_cases h0 : twoE a b = 0
  · rw [if_pos h0] at h
    by_cases h1 : wearE a.length w = 0
    · rw [if_pos h1] at h
      by_cases h2 : belowB a b = true
      · rw [if_pos h2] at h; injection h with _ h; cases h
      · rw [if_neg h2] at h
        refine ⟨h0, h1, by simpa using h2, ?_⟩
        cases hm : mostM a b w none with
        | none => rw [hm] at h; injection h with _ h; cases h
        | some p => rw [hm] at h; injection h with h _; rw [h]
    · rw [if_neg h1] at h; injection h with _ h; exact absurd h h1
  · rw [if_neg h0] at h; injection h with _ h; exact absurd h h0
theorem times_check {a b w : List Int} {q : Int} (h : mostS a b w = (q, 0)) (h20 : q ≤ 20) : ∃ m : Nat, q = (m : Int) ∧ (checkS a b (List.replicate m w)).2 = 0 ∧ checkS a b (List.replicate m w ++ [w]) = ((m : Int), 26) := by
  obtain ⟨z0, z1, z2, z3⟩ := mostS_zero h
  have ok := okay_of z0 z1 z2
  obtain ⟨s1, _, s3⟩ := mostM_spec a b w none q ok.lb ok.lw z3
  have hex : ∃ i : Nat, w.getD i 0 ≠ 0 ∧ q = quo (a.getD i 0) (b.getD i 0) (w.getD i 0) := by
    rcases s3 with h | h
    · exact h
    · cases h
  have hq0 : 0 ≤ q := by
    obtain ⟨i, hi, e⟩ := hex
    rw [e]; exact (quo_eq ok i hi).2
  obtain ⟨m, rfl⟩ : ∃ m : Nat, q = (m : Int) := ⟨q.toNat, by omega⟩
  have ha0 : After a w 0 a := ⟨rfl, fun i => by simp⟩
  have hab : ∀ t, 0 < t → t ≤ 0 + m → Above a b w t := fun t _ ht => above_of ok s1 t (by omega)
  refine ⟨m, rfl, ?_, ?_⟩
  · obtain ⟨x', _, e2⟩ := sess_rep ok z1 [] m 0 a ha0 (by omega) hab
    rw [List.append_nil] at e2
    have e2' : sessS a.length b (List.replicate m w) 0 a = .inr () := e2
    unfold checkS
    rw [if_pos z0, if_neg (by rw [List.length_replicate]; omega), z2, if_neg (by decide), e2']; rfl
  · obtain ⟨x', e1, e2⟩ := sess_rep ok z1 [w] m 0 a ha0 (by omega) hab
    have hn := e1.next ok (by omega)
    have hb : belowB (List.zipWith subW x' w) b = true := by
      cases hbb : belowB (List.zipWith subW x' w) b with
      | true => rfl
      | false => exact absurd ((hn.below ok).1 hbb) (by rw [Nat.zero_add]; exact not_above ok hex)
    have e3 : sessS a.length b (List.replicate m w ++ [w]) 0 a = .inl ((m : Int), 26) := by
      have : sessS a.length b (List.replicate m w ++ [w]) 0 a = _ := e2
      rw [this, sessS, if_pos z1, if_pos hb, Nat.zero_add]
    unfold checkS
    rw [if_pos z0, if_neg (by rw [List.length_append, List.length_replicate, List.length_singleton]; omega), z2, if_neg (by decide), e3]; rfl

theorem times_l (k : Nat) (a b w : List Int) (m : Nat) (e : Int) (hm : m ≤ 20) (hw : w.length ≤ 45) : ∀ (d fuel i : Nat), m = i + d → d < fuel →
    nspeculumlaw06_FigureTimes_l0_0 k a b w ((m : Int), e) fuel (List.replicate i w) (i : Int) = some (List.replicate m w) := by
  intro d
  induction d with
  | zero =>
    intro fuel i h hf
    obtain ⟨g, rfl⟩ : ∃ g, fuel = g + 1 := ⟨fuel - 1, by omega⟩
    obtain rfl : m = i := by omega
    rw [nspeculumlaw06_FigureTimes_l0_0.eq_2, if_neg (by show ¬ ((m : Int) < (m : Int)); omega)]
  | succ d ih =>
    intro fuel i h hf
    obtain ⟨g, rfl⟩ : ∃ g, fuel = g + 1 := ⟨fuel - 1, by omega⟩
    rw [nspeculumlaw06_FigureTimes_l0_0.eq_2, if_pos (by show (i : Int) < (m : Int); omega), copyInts_any k w (by omega), Option.bind_some, if_pos (by simp; omega), w64_succ (by omega)]
    have e1 : List.replicate i w ++ [w] = List.replicate (i + 1) w := by rw [List.replicate_succ']
    rw [e1]
    exact ih g (i + 1) (by omega) (by omega)

theorem law_times (a b w : List Int) : nspeculumlaw06_FigureTimes 1000 a b w = some true := by
  unfold nspeculumlaw06_FigureTimes nawake
  rw [Option.bind_some, if_pos rfl]
  by_cases h : (45 : Int) < (a.length : Int)
  · rw [if_pos h]
  rw [if_neg h]
  by_cases h' : (45 : Int) < (b.length : Int)
  · rw [if_pos h']
  rw [if_neg h']
  by_cases h'' : (45 : Int) < (w.length : Int)
  · rw [if_pos h'']
  obtain ⟨f1, f2⟩ := mostTimes_any 1000 a b w (by omega) (by omega)
  rw [if_neg h'', copyInts_any 1000 a (by omega), Option.bind_some, copyInts_any 1000 b (by omega), Option.bind_some, copyInts_any 1000 w (by omega), Option.bind_some, f1, f2, Option.bind_some, Option.bind_some, if_pos rfl, if_pos rfl]
  by_cases h0 : (mostS a b w).2 = 0
  · rw [if_pos h0]
    by_cases h1 : (20 : Int) < (mostS a b w).1
    · rw [if_pos h1]
    rw [if_neg h1]
    have hs : mostS a b w = ((mostS a b w).1, 0) := by rw [← h0]
    obtain ⟨m, e1, e2, e3⟩ := times_check hs (by omega)
    rw [hs, e1]
    have hl : nspeculumlaw06_FigureTimes_l0_0 1000 a b w ((m : Int), 0) 1000 [] 0 = some (List.replicate m w) := times_l 1000 a b w m 0 (by omega) (by omega) m 1000 0 (by omega) (by omega)
    have hc1 := (checkSessions_any 1000 a b (List.replicate m w) (by omega) (by omega) (by rw [List.length_replicate]; omega)).1
    have hc2 := (checkSessions_any 1000 a b (List.replicate m w ++ [w]) (by omega) (by omega) (by rw [List.length_append, List.length_replicate, List.length_singleton]; omega)).1
    rw [hl, Option.bind_some, hc1, Option.bind_some]
    first
      | rw [if_pos (by simp; omega), hc2, Option.bind_some, if_pos e2, e3, if_pos rfl]; simp
      | rw [copyInts_any 1000 w (by omega), Option.bind_some, if_pos (by simp; omega), hc2, Option.bind_some, if_pos e2, e3, if_pos rfl]; simp
  · rw [if_neg h0]
theorem vc_times (a b w : List Int) : VC Go.Proofs.Try.prog 6 [.tr (a.map vi) a.length, .tr (b.map vi) b.length, .tr (w.map vi) w.length] (vb true) :=
  nspeculumlaw06_FigureTimes_ok 1000 a b w true (law_times a b w)
end Go.Proofs.Yteicfenmfnpmgaa.Vg
