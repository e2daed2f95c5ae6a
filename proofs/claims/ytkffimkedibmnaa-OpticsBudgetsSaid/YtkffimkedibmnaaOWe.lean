/- Chapter 2, plain: budgets. -/
import Derived.Test.YtkffimkedibmnaaOWd
import Derived.Test.YtkffimkedibmnaaWB
set_option linter.unusedVariables false
set_option linter.unusedSimpArgs false
namespace Go.Proofs.Ytkffimkedibmnaa.Vg
open Go Go.Proofs.Ytkffimkedibmnaa.Ev Go.Proofs.Ytkffimkedibmnaa.Vv
/-- the square of what an effect and an amount make. -/
def sqE (e a : Int) : Int := (e * a) * (e * a)
theorem small_mul {e a : Int} (he : 0 ≤ e ∧ e ≤ 10000) (ha : 0 ≤ a ∧ a ≤ 10000) : 0 ≤ e * a ∧ e * a ≤ 100000000 := by
  have h1 := Int.mul_nonneg he.1 ha.1
  have h2 := Int.mul_le_mul he.2 ha.2 ha.1 (by decide)
  omega
theorem sqE_bd {e a : Int} (he : 0 ≤ e ∧ e ≤ 10000) (ha : 0 ≤ a ∧ a ≤ 10000) : 0 ≤ sqE e a ∧ sqE e a ≤ 10000000000000000 := by
  obtain ⟨h1, h2⟩ := small_mul he ha
  have h3 := Int.mul_nonneg h1 h1
  have h4 := Int.mul_le_mul h2 h2 h1 (by decide)
  unfold sqE; omega
theorem w_sq1 {e a : Int} (he : 0 ≤ e ∧ e ≤ 10000) (ha : 0 ≤ a ∧ a ≤ 10000) : w64 ((w64 ((w64 (e * a)) * e)) * a) = sqE e a := by
  obtain ⟨h1, h2⟩ := small_mul he ha
  have h3 := Int.mul_nonneg h1 he.1
  have h4 := Int.mul_le_mul h2 he.2 he.1 (by decide)
  have e1 : e * a * e * a = sqE e a := by unfold sqE; rw [Int.mul_assoc (e * a)]
  have h5 := sqE_bd he ha
  rw [w64_id (n := e * a) (by omega) (by omega), w64_id (n := e * a * e) (by omega) (by omega), e1, w64_id (by omega) (by omega)]
theorem w_sq2 {e a : Int} (he : 0 ≤ e ∧ e ≤ 10000) (ha : 0 ≤ a ∧ a ≤ 10000) : w64 ((w64 (e * a)) * (w64 (e * a))) = sqE e a := by
  obtain ⟨h1, h2⟩ := small_mul he ha
  have h5 := sqE_bd he ha
  rw [w64_id (n := e * a) (by omega) (by omega)]
  exact w64_id (by unfold sqE at h5; omega) (by unfold sqE at h5; omega)
def okP : List Int → List Int → Bool
  | [], _ => true
  | _, [] => true
  | e :: l, a :: m => inR 0 10000 e && (inR 0 10000 a && okP l m)
def suP : List Int → List Int → Int
  | [], _ => 0
  | _, [] => 0
  | e :: l, a :: m => sqE e a + suP l m
theorem getD_at {xs : List Int} {i : Nat} (h : i < xs.length) : xs.getD ((i : Int)).toNat 0 = xs[i] := by
  rw [Int.toNat_natCast, List.getD_eq_getElem?_getD, List.getElem?_eq_getElem h]; rfl
def sumR (b : Bool) (y : Int) : Sum Unit Int := if b = true then .inr y else .inl ()
theorem bud_opt (k : Nat) (t : Int) (E A : List Int) (hl : A.length = E.length) (hE : E.length ≤ 30) : ∀ (d fuel i : Nat) (x : Int), E.length = i + d → d < fuel → -(10000000000000000 * (i : Int)) ≤ x → x ≤ 10000000000000000 →
    noptics_CheckBudget_l0_0 k ⟨t, E, A⟩ fuel (i : Int) x = some (sumR (okP (E.drop i) (A.drop i)) (x - suP (E.drop i) (A.drop i))) := by
  intro d
  induction d with
  | zero =>
    intro fuel i x h hf h1 h2
    obtain ⟨g, rfl⟩ : ∃ g, fuel = g + 1 := ⟨fuel - 1, by omega⟩
    rw [noptics_CheckBudget_l0_0.eq_2]
    dsimp only
    rw [if_neg (by omega), List.drop_eq_nil_of_le (by omega)]
    show _ = some (Sum.inr (x - 0))
    rw [Int.sub_zero]
  | succ d ih =>
    intro fuel i x h hf h1 h2
    obtain ⟨g, rfl⟩ : ∃ g, fuel = g + 1 := ⟨fuel - 1, by omega⟩
    have hi : i < E.length := by omega
    have hj : i < A.length := by omega
    rw [noptics_CheckBudget_l0_0.eq_2]
    dsimp only
    rw [if_pos (show (i : Int) < E.length by omega), if_pos (show (0 : Int) ≤ (i : Int) ∧ (i : Int) < E.length by omega), if_pos (show (0 : Int) ≤ (i : Int) ∧ (i : Int) < A.length by omega), within_opt, Option.bind_some, within_opt, getD_at hi, getD_at hj, List.drop_eq_getElem_cons hi, List.drop_eq_getElem_cons hj, w64_succ (by omega)]
    generalize E[i] = e
    generalize A[i] = a
    simp only [okP, suP]
    cases he : inR 0 10000 e with
    | false => rfl
    | true =>
      rw [if_pos rfl, Option.bind_some]
      cases ha : inR 0 10000 a with
      | false => rfl
      | true =>
        have he' := inR_t.1 he; have ha' := inR_t.1 ha
        have b := sqE_bd he' ha'
        rw [if_pos rfl, w_sq1 he' ha', w64_id (n := x - sqE e a) (by omega) (by omega), ih g (i + 1) _ (by omega) (by omega) (by omega) (by omega)]
        congr 2; omega
theorem bud_ref (k : Nat) (t : Int) (E A : List Int) (hl : A.length = E.length) (hE : E.length ≤ 30) : ∀ (d fuel i : Nat) (x : Int), E.length = i + d → d < fuel → -(10000000000000000 * (i : Int)) ≤ x → x ≤ 10000000000000000 →
    nspeculumref02_CheckBudget_l0_0 k ⟨t, E, A⟩ fuel x (i : Int) = some (sumR (okP (E.drop i) (A.drop i)) (x - suP (E.drop i) (A.drop i))) := by
  intro d
  induction d with
  | zero =>
    intro fuel i x h hf h1 h2
    obtain ⟨g, rfl⟩ : ∃ g, fuel = g + 1 := ⟨fuel - 1, by omega⟩
    rw [nspeculumref02_CheckBudget_l0_0.eq_2]
    dsimp only
    rw [if_neg (by omega), List.drop_eq_nil_of_le (by omega)]
    show _ = some (Sum.inr (x - 0))
    rw [Int.sub_zero]
  | succ d ih =>
    intro fuel i x h hf h1 h2
    obtain ⟨g, rfl⟩ : ∃ g, fuel = g + 1 := ⟨fuel - 1, by omega⟩
    have hi : i < E.length := by omega
    have hj : i < A.length := by omega
    rw [nspeculumref02_CheckBudget_l0_0.eq_2]
    dsimp only
    rw [if_pos (show (i : Int) < E.length by omega), if_pos (show (0 : Int) ≤ (i : Int) ∧ (i : Int) < E.length by omega), if_pos (show (0 : Int) ≤ (i : Int) ∧ (i : Int) < A.length by omega), within_base, Option.bind_some, within_base, getD_at hi, getD_at hj, List.drop_eq_getElem_cons hi, List.drop_eq_getElem_cons hj, w64_succ (by omega)]
    generalize E[i] = e
    generalize A[i] = a
    simp only [okP, suP]
    cases he : inR 0 10000 e with
    | false => rfl
    | true =>
      rw [if_pos rfl, Option.bind_some]
      cases ha : inR 0 10000 a with
      | false => rfl
      | true =>
        have he' := inR_t.1 he; have ha' := inR_t.1 ha
        have b := sqE_bd he' ha'
        rw [if_pos rfl, w_sq2 he' ha', w64_id (n := x - sqE e a) (by omega) (by omega), ih g (i + 1) _ (by omega) (by omega) (by omega) (by omega)]
        congr 2; omega
def toE (t : Int) (n : Int) : Int := if inR 0 100000000 t = true then (if 30 < n then 8 else 0) else 2
theorem eff_opt (k : Nat) (t : Int) (E : List Int) : noptics_checkEffects k t E = some (toE t E.length) := by
  unfold noptics_checkEffects toE
  rw [within_opt, Option.bind_some]
  split
  · split <;> rfl
  · rfl
theorem eff_ref (k : Nat) (t n : Int) : nspeculumref02_CheckTotal k t n = some (toE t n) := by
  unfold nspeculumref02_CheckTotal toE
  rw [within_base, Option.bind_some]
  split
  · split <;> rfl
  · rfl
theorem toE_zero {t n : Int} (h : toE t n = 0) : (0 ≤ t ∧ t ≤ 100000000) ∧ n ≤ 30 := by
  unfold toE at h
  split at h
  · rename_i c
    split at h
    · cases h
    · exact ⟨inR_t.1 c, by omega⟩
  · cases h
theorem tot_sq {t : Int} (h : 0 ≤ t ∧ t ≤ 100000000) : 0 ≤ t * t ∧ t * t ≤ 10000000000000000 := by
  have h1 := Int.mul_nonneg h.1 h.1
  have h2 := Int.mul_le_mul h.2 h.2 h.1 (by decide)
  omega
def buE (t : Int) (E A : List Int) : Int × Int := if toE t E.length = 0 then (if (A.length : Int) = E.length then (if okP E A = true then (if t * t - suP E A < 0 then (0, 26) else (t * t - suP E A, 0)) else (0, 2)) else (0, 10)) else (0, toE t E.length)
theorem budget_opt (k : Nat) (hk : 100000000000000000000 ≤ k) (t : Int) (E A : List Int) : noptics_CheckBudget k ⟨t, E, A⟩ = some (buE t E A) := by
  unfold noptics_CheckBudget buE
  dsimp only
  rw [eff_opt, Option.bind_some]
  by_cases c : toE t E.length = 0
  · obtain ⟨ht, hn⟩ := toE_zero c
    have hs := tot_sq ht
    rw [if_pos c, if_pos c]
    by_cases c2 : (A.length : Int) = E.length
    · rw [if_pos c2, if_pos c2, w64_id (by omega) (by omega), show noptics_CheckBudget_l0_0 k ⟨t, E, A⟩ k 0 (t * t) = _ from bud_opt k t E A (by omega) (by omega) E.length k 0 (t * t) (by omega) (by omega) (by omega) (by omega), Option.bind_some, List.drop_zero, List.drop_zero]
      unfold sumR
      cases okP E A with
      | false => rfl
      | true =>
        rw [if_pos rfl, if_pos rfl]
        dsimp only
        split <;> rfl
    · rw [if_neg c2, if_neg c2]
  · rw [if_neg c, if_neg c]
theorem budget_ref (k : Nat) (hk : 100000000000000000000 ≤ k) (t : Int) (E A : List Int) : nspeculumref02_CheckBudget k ⟨t, E, A⟩ = some (buE t E A) := by
  unfold nspeculumref02_CheckBudget buE
  dsimp only
  rw [eff_ref, Option.bind_some]
  by_cases c : toE t E.length = 0
  · obtain ⟨ht, hn⟩ := toE_zero c
    have hs := tot_sq ht
    rw [if_pos c, if_pos c]
    by_cases c2 : (A.length : Int) = E.length
    · rw [if_pos c2, if_pos c2, w64_id (by omega) (by omega), show nspeculumref02_CheckBudget_l0_0 k ⟨t, E, A⟩ k (t * t) 0 = _ from bud_ref k t E A (by omega) (by omega) E.length k 0 (t * t) (by omega) (by omega) (by omega) (by omega), Option.bind_some, List.drop_zero, List.drop_zero]
      unfold sumR
      cases okP E A with
      | false => rfl
      | true =>
        rw [if_pos rfl, if_pos rfl]
        dsimp only
        split <;> rfl
    · rw [if_neg c2, if_neg c2]
  · rw [if_neg c, if_neg c]
/-- effects that are not zero. -/
def cnt : List Int → Int
  | [] => 0
  | e :: l => (if e = 0 then 0 else 1) + cnt l
def okL : List Int → Bool
  | [] => true
  | e :: l => inR 0 10000 e && okL l
theorem cnt_bd : ∀ l : List Int, 0 ≤ cnt l ∧ cnt l ≤ l.length
  | [] => ⟨by decide, by decide⟩
  | e :: l => by
    have := cnt_bd l
    simp only [cnt, List.length_cons]
    split <;> omega
theorem cnt_opt (k : Nat) (t : Int) (E : List Int) (hE : E.length ≤ 30) : ∀ (d fuel i : Nat) (x : Int), E.length = i + d → d < fuel → 0 ≤ x → x ≤ (i : Int) →
    noptics_SplitBudget_l0_0 k t E fuel (i : Int) x = some (sumR (okL (E.drop i)) (x + cnt (E.drop i))) := by
  intro d
  induction d with
  | zero =>
    intro fuel i x h hf h1 h2
    obtain ⟨g, rfl⟩ : ∃ g, fuel = g + 1 := ⟨fuel - 1, by omega⟩
    rw [noptics_SplitBudget_l0_0.eq_2, if_neg (by omega), List.drop_eq_nil_of_le (by omega)]
    show _ = some (Sum.inr (x + 0))
    rw [Int.add_zero]
  | succ d ih =>
    intro fuel i x h hf h1 h2
    obtain ⟨g, rfl⟩ : ∃ g, fuel = g + 1 := ⟨fuel - 1, by omega⟩
    have hi : i < E.length := by omega
    rw [noptics_SplitBudget_l0_0.eq_2, if_pos (show (i : Int) < E.length by omega), if_pos (show (0 : Int) ≤ (i : Int) ∧ (i : Int) < E.length by omega), within_opt, Option.bind_some, getD_at hi, List.drop_eq_getElem_cons hi, w64_succ (by omega)]
    generalize E[i] = e
    simp only [okL, cnt]
    cases he : inR 0 10000 e with
    | false => rfl
    | true =>
      rw [if_pos rfl]
      by_cases c : e = 0
      · rw [if_pos c, if_pos c, ih g (i + 1) x (by omega) (by omega) h1 (by omega)]
        congr 2; omega
      · rw [if_neg c, if_neg c, w64_id (n := x + 1) (by omega) (by omega), ih g (i + 1) (x + 1) (by omega) (by omega) (by omega) (by omega)]
        congr 2; omega
theorem cnt_ref (k : Nat) (t : Int) (E : List Int) (hE : E.length ≤ 30) : ∀ (d fuel i : Nat) (x : Int), E.length = i + d → d < fuel → 0 ≤ x → x ≤ (i : Int) →
    nspeculumref02_SplitBudget_l0_0 k t E fuel x (i : Int) = some (sumR (okL (E.drop i)) (x + cnt (E.drop i))) := by
  intro d
  induction d with
  | zero =>
    intro fuel i x h hf h1 h2
    obtain ⟨g, rfl⟩ : ∃ g, fuel = g + 1 := ⟨fuel - 1, by omega⟩
    rw [nspeculumref02_SplitBudget_l0_0.eq_2, if_neg (by omega), List.drop_eq_nil_of_le (by omega)]
    show _ = some (Sum.inr (x + 0))
    rw [Int.add_zero]
  | succ d ih =>
    intro fuel i x h hf h1 h2
    obtain ⟨g, rfl⟩ : ∃ g, fuel = g + 1 := ⟨fuel - 1, by omega⟩
    have hi : i < E.length := by omega
    rw [nspeculumref02_SplitBudget_l0_0.eq_2, if_pos (show (i : Int) < E.length by omega), if_pos (show (0 : Int) ≤ (i : Int) ∧ (i : Int) < E.length by omega), within_base, Option.bind_some, getD_at hi, List.drop_eq_getElem_cons hi, w64_succ (by omega)]
    generalize E[i] = e
    simp only [okL, cnt]
    cases he : inR 0 10000 e with
    | false => rfl
    | true =>
      have he' := inR_t.1 he
      rw [if_pos rfl]
      by_cases c : e = 0
      · rw [if_neg (show ¬ 0 < e by omega), if_pos c, ih g (i + 1) x (by omega) (by omega) h1 (by omega)]
        congr 2; omega
      · rw [if_pos (show 0 < e by omega), if_neg c, w64_id (n := x + 1) (by omega) (by omega), ih g (i + 1) (x + 1) (by omega) (by omega) (by omega) (by omega)]
        congr 2; omega
/-- the amount of an effect. -/
noncomputable def amt (t n e : Int) : Int := if e = 0 then 10000 else minI (rtI (t * t / n) / e) 10000
/-- an amount is the greatest that fits. -/
theorem amt_fits {t n e a : Int} (ht : 0 ≤ t ∧ t ≤ 100000000) (hn : 0 ≤ n ∧ n ≤ 30) (he : 0 ≤ e ∧ e ≤ 10000) (h0 : e ≠ 0 → 1 ≤ n) (ha : 0 ≤ a ∧ a ≤ 10000) : n * sqE e a ≤ t * t ↔ a ≤ amt t n e := by
  have hs := tot_sq ht
  unfold amt
  by_cases c : e = 0
  · rw [if_pos c, c]
    constructor
    · intro _; omega
    · intro _; unfold sqE; rw [Int.zero_mul, Int.zero_mul, Int.mul_zero]; omega
  · have hn1 := h0 c
    rw [if_neg c]
    have hq := div_le (n := t * t) (d := n) hs.1 (by omega)
    obtain ⟨r0, r1, r2⟩ := rtI_is (n := t * t / n) hq.1 (by omega)
    generalize rtI (t * t / n) = r at *
    have h1 : n * sqE e a ≤ t * t ↔ sqE e a ≤ t * t / n := by
      rw [Int.le_ediv_iff_mul_le (by omega), Int.mul_comm]
    have h2 : sqE e a ≤ t * t / n ↔ e * a ≤ r := by
      have m0 := (small_mul he ha).1
      constructor
      · intro h
        have : e * a < r + 1 := sq_lt (by omega) (by unfold sqE at h; omega)
        omega
      · intro h
        have := sq_le m0 h
        unfold sqE; omega
    have h3 : e * a ≤ r ↔ a ≤ r / e := by
      rw [Int.le_ediv_iff_mul_le (by omega), Int.mul_comm]
    rw [h1, h2, h3]
    unfold minI
    split <;> omega
theorem amt_bd {t n e : Int} (ht : 0 ≤ t ∧ t ≤ 100000000) (hn : 0 ≤ n ∧ n ≤ 30) (he : 0 ≤ e ∧ e ≤ 10000) (h0 : e ≠ 0 → 1 ≤ n) : 0 ≤ amt t n e ∧ amt t n e ≤ 10000 := by
  have hs := tot_sq ht
  constructor
  · apply (amt_fits ht hn he h0 (by decide)).1
    unfold sqE; rw [Int.mul_zero, Int.mul_zero, Int.mul_zero]; omega
  · unfold amt
    by_cases c : e = 0
    · rw [if_pos c]; decide
    · rw [if_neg c]; unfold minI; split <;> omega
theorem cnt_pos : ∀ {l : List Int} {e : Int}, e ∈ l → e ≠ 0 → 1 ≤ cnt l
  | x :: l, e, h, h0 => by
    have := cnt_bd l
    simp only [cnt]
    rcases List.mem_cons.1 h with rfl | h
    · rw [if_neg h0]; omega
    · have := cnt_pos h h0
      split <;> omega
theorem okL_in : ∀ {l : List Int}, okL l = true → ∀ e ∈ l, 0 ≤ e ∧ e ≤ 10000
  | x :: l, h, e, he => by
    simp only [okL, Bool.and_eq_true] at h
    rcases List.mem_cons.1 he with rfl | he
    · exact inR_t.1 h.1
    · exact okL_in h.2 e he
theorem bis_ref (k : Nat) {t n : Int} (E y0 : List Int) {i : Nat} (hi : i < E.length) (ht : 0 ≤ t ∧ t ≤ 100000000) (hn : 0 ≤ n ∧ n ≤ 30) (he : 0 ≤ E[i] ∧ E[i] ≤ 10000) (h0 : E[i] ≠ 0 → 1 ≤ n) : ∀ (m fuel : Nat) (x y : Int), 0 ≤ x → y ≤ 10000 → x ≤ amt t n E[i] → amt t n E[i] ≤ y → y - x < (m : Int) → m ≤ fuel → nspeculumref02_SplitBudget_l2_0 k t E n y0 (i : Int) fuel x y = some (amt t n E[i]) := by
  have hs := tot_sq ht
  intro m
  induction m with
  | zero => intro fuel x y h1 h2 h3 h4 h; omega
  | succ m ih =>
    intro fuel x y h1 h2 h3 h4 h hf
    obtain ⟨g, rfl⟩ : ∃ g, fuel = g + 1 := ⟨fuel - 1, by omega⟩
    rw [nspeculumref02_SplitBudget_l2_0.eq_2]
    by_cases c : x < y
    · have e : w64 ((w64 ((w64 (x + y)) + 1)).tdiv 2) = (x + y + 1) / 2 := by
        rw [w64_id (n := x + y) (by omega) (by omega), w64_id (n := x + y + 1) (by omega) (by omega), tdiv_pos (by omega), w64_id (by omega) (by omega)]
      rw [if_pos c, if_pos (by omega), e, getD_at hi]
      generalize hm : (x + y + 1) / 2 = z
      have hz : 0 ≤ z ∧ z ≤ 10000 := by omega
      have p := small_mul he hz
      have q := sqE_bd he hz
      have p1 := Int.mul_le_mul hn.2 p.2 p.1 (by decide)
      have p0 := Int.mul_nonneg hn.1 p.1
      have q1 := Int.mul_le_mul hn.2 q.2 q.1 (by decide)
      have q0 := Int.mul_nonneg hn.1 q.1
      have e2 : n * (E[i] * z) * (E[i] * z) = n * sqE E[i] z := by unfold sqE; rw [Int.mul_assoc n]
      rw [w64_id (n := E[i] * z) (by omega) (by omega), w64_id (n := n * (E[i] * z)) (by omega) (by omega), e2, w64_id (n := n * sqE E[i] z) (by omega) (by omega), w64_id (n := t * t) (by omega) (by omega)]
      have f := amt_fits ht hn he h0 hz
      by_cases d : n * sqE E[i] z ≤ t * t
      · have := f.1 d
        rw [if_pos d]
        exact ih g z y (by omega) h2 this h4 (by omega) (by omega)
      · have : ¬ z ≤ amt t n E[i] := fun h => d (f.2 h)
        rw [if_neg d, w64_id (n := z - 1) (by omega) (by omega)]
        exact ih g x (z - 1) h1 (by omega) h3 (by omega) (by omega) (by omega)
    · rw [if_neg c]; congr 1; omega
theorem split_ref_l (k : Nat) (hk : 100000000000000000000 ≤ k) {t n : Int} (E : List Int) (hE : E.length ≤ 30) (ht : 0 ≤ t ∧ t ≤ 100000000) (hn : 0 ≤ n ∧ n ≤ 30) (he : ∀ e ∈ E, 0 ≤ e ∧ e ≤ 10000) (h0 : ∀ e ∈ E, e ≠ 0 → 1 ≤ n) : ∀ (d fuel i : Nat) (y : List Int), E.length = i + d → d < fuel → y.length = i →
    nspeculumref02_SplitBudget_l1_0 k t E n fuel y (i : Int) = some (y ++ (E.drop i).map (amt t n)) := by
  intro d
  induction d with
  | zero =>
    intro fuel i y h hf hy
    obtain ⟨g, rfl⟩ : ∃ g, fuel = g + 1 := ⟨fuel - 1, by omega⟩
    rw [nspeculumref02_SplitBudget_l1_0.eq_2, if_neg (by omega), List.drop_eq_nil_of_le (by omega)]
    simp
  | succ d ih =>
    intro fuel i y h hf hy
    obtain ⟨g, rfl⟩ : ∃ g, fuel = g + 1 := ⟨fuel - 1, by omega⟩
    have hi : i < E.length := by omega
    have m := List.getElem_mem hi
    have b := amt_bd ht hn (he _ m) (h0 _ m)
    rw [nspeculumref02_SplitBudget_l1_0.eq_2, if_pos (by omega), bis_ref k E y hi ht hn (he _ m) (h0 _ m) 10001 k 0 10000 (by decide) (by decide) b.1 b.2 (by decide) (by omega), Option.bind_some, if_pos (by simp; omega), w64_succ (by omega), ih g (i + 1) _ (by omega) (by omega) (by simp; omega), List.drop_eq_getElem_cons hi, List.map_cons, List.append_assoc]
    rfl
theorem split_opt_l (k : Nat) (hk : 100000000000000000000 ≤ k) {t n : Int} (E : List Int) (hE : E.length ≤ 30) (ht : 0 ≤ t ∧ t ≤ 100000000) (hn : 0 ≤ n ∧ n ≤ 30) (he : ∀ e ∈ E, 0 ≤ e ∧ e ≤ 10000) (h0 : ∀ e ∈ E, e ≠ 0 → 1 ≤ n) : ∀ (d fuel i : Nat) (y : List Int), E.length = i + d → d < fuel → y.length = E.length →
    noptics_SplitBudget_l1_0 k t E n fuel y (i : Int) = some (y.take i ++ (E.drop i).map (amt t n)) := by
  have hs := tot_sq ht
  intro d
  induction d with
  | zero =>
    intro fuel i y h hf hy
    obtain ⟨g, rfl⟩ : ∃ g, fuel = g + 1 := ⟨fuel - 1, by omega⟩
    rw [noptics_SplitBudget_l1_0.eq_2, if_neg (by omega), List.drop_eq_nil_of_le (by omega), List.take_of_length_le (by omega)]
    simp
  | succ d ih =>
    intro fuel i y h hf hy
    obtain ⟨g, rfl⟩ : ∃ g, fuel = g + 1 := ⟨fuel - 1, by omega⟩
    have hi : i < E.length := by omega
    have hj : i < y.length := by omega
    have m := List.getElem_mem hi
    have key : ∀ v, (y.set i v).take (i + 1) = y.take i ++ [v] := by
      intro v
      have e : y = y.take i ++ y[i] :: y.drop (i + 1) := by rw [← List.drop_eq_getElem_cons hj, List.take_append_drop]
      have l : (y.take i).length = i := by rw [List.length_take]; omega
      have e2 : y.set i v = y.take i ++ v :: y.drop (i + 1) := by
        apply List.ext_getElem?
        intro j
        rw [List.getElem?_set]
        by_cases c : i = j
        · subst c
          rw [if_pos rfl, if_pos hj, List.getElem?_append_right (by omega), l, Nat.sub_self]; rfl
        · rw [if_neg c]
          rcases Nat.lt_or_gt_of_ne c with h | h
          · rw [List.getElem?_append_right (by omega), l]
            obtain ⟨q, rfl⟩ : ∃ q, j = i + 1 + q := ⟨j - (i + 1), by omega⟩
            rw [show i + 1 + q - i = q + 1 by omega, List.getElem?_cons_succ, List.getElem?_drop]
          · rw [List.getElem?_append_left (by omega), List.getElem?_take_of_lt h]
      rw [e2, List.take_append, l, List.take_of_length_le (by omega)]
      simp
    rw [noptics_SplitBudget_l1_0.eq_2, if_pos (show (i : Int) < E.length by omega), if_pos (show (0 : Int) ≤ (i : Int) ∧ (i : Int) < E.length by omega), if_pos (show (0 : Int) ≤ (i : Int) ∧ (i : Int) < y.length by omega), getD_at hi, List.drop_eq_getElem_cons hi, List.map_cons, w64_succ (by omega), Int.toNat_natCast]
    have b := amt_bd ht hn (he _ m) (h0 _ m)
    by_cases c : E[i] = 0
    · rw [if_pos c, ih g (i + 1) _ (by omega) (by omega) (by rw [List.length_set]; omega), key]
      unfold amt
      rw [if_pos c]; simp
    · have n1 := h0 _ m c
      have hq := div_le (n := t * t) (d := n) hs.1 (by omega)
      have hr := rtI_le hq.1 (by omega)
      have he' := he _ m
      have hr2 := div_le (n := rtI (t * t / n)) (d := E[i]) hr.1 (by omega)
      rw [if_neg c, if_pos (by omega), w64_id (n := t * t) (by omega) (by omega), tdiv_pos hs.1, w64_id (n := t * t / n) (by omega) (by omega), rootDown_any k hk hq.1 (by omega), Option.bind_some, if_pos c, if_pos (by rw [List.length_set]; omega), if_pos (by omega), tdiv_pos hr.1, w64_id (by omega) (by omega), List.set_set, ih g (i + 1) _ (by omega) (by omega) (by rw [List.length_set]; omega), key]
      have e : amt t n E[i] = minI (rtI (t * t / n) / E[i]) 10000 := by unfold amt; rw [if_neg c]
      rw [e]; simp
noncomputable def spR (t : Int) (E : List Int) : List Int × Int := if toE t E.length = 0 then (if okL E = true then (E.map (amt t (cnt E)), 0) else ([], 2)) else ([], toE t E.length)
theorem split_opt (k : Nat) (hk : 100000000000000000000 ≤ k) (t : Int) (E : List Int) : noptics_SplitBudget k t E = some (spR t E) := by
  unfold noptics_SplitBudget spR
  rw [eff_opt, Option.bind_some]
  by_cases c : toE t E.length = 0
  · obtain ⟨ht, hn⟩ := toE_zero c
    rw [if_pos c, if_pos c, show noptics_SplitBudget_l0_0 k t E k 0 0 = _ from cnt_opt k t E (by omega) E.length k 0 0 (by omega) (by omega) (by omega) (by omega), Option.bind_some, List.drop_zero]
    have hc := cnt_bd E
    unfold sumR
    cases ho : okL E with
    | false => rfl
    | true =>
      have hin := okL_in ho
      rw [if_pos rfl, if_pos rfl]
      dsimp only
      rw [Int.zero_add, if_pos (by omega), show noptics_SplitBudget_l1_0 k t E (cnt E) k _ 0 = _ from split_opt_l k hk E (by omega) ht (by omega) hin (fun e h h' => cnt_pos h h') E.length k 0 (List.replicate (E.length : Int).toNat 0) (by omega) (by omega) (by simp), Option.bind_some]
      rfl
  · rw [if_neg c, if_neg c]
theorem split_ref (k : Nat) (hk : 100000000000000000000 ≤ k) (t : Int) (E : List Int) : nspeculumref02_SplitBudget k t E = some (spR t E) := by
  unfold nspeculumref02_SplitBudget spR
  rw [eff_ref, Option.bind_some]
  by_cases c : toE t E.length = 0
  · obtain ⟨ht, hn⟩ := toE_zero c
    rw [if_pos c, if_pos c, show nspeculumref02_SplitBudget_l0_0 k t E k 0 0 = _ from cnt_ref k t E (by omega) E.length k 0 0 (by omega) (by omega) (by omega) (by omega), Option.bind_some, List.drop_zero]
    have hc := cnt_bd E
    unfold sumR
    cases ho : okL E with
    | false => rfl
    | true =>
      have hin := okL_in ho
      rw [if_pos rfl, if_pos rfl]
      dsimp only
      rw [Int.zero_add, show nspeculumref02_SplitBudget_l1_0 k t E (cnt E) k [] 0 = _ from split_ref_l k hk E (by omega) ht (by omega) hin (fun e h h' => cnt_pos h h') E.length k 0 [] (by omega) (by omega) rfl, Option.bind_some]
      rfl
  · rw [if_neg c, if_neg c]
theorem okP_amt {t n : Int} (ht : 0 ≤ t ∧ t ≤ 100000000) (hn : 0 ≤ n ∧ n ≤ 30) : ∀ (l : List Int), okL l = true → (∀ e ∈ l, e ≠ 0 → 1 ≤ n) → okP l (l.map (amt t n)) = true ∧ n * suP l (l.map (amt t n)) ≤ cnt l * (t * t) ∧ (cnt l = 0 → suP l (l.map (amt t n)) = 0)
  | [], _, _ => ⟨rfl, by simp [suP, cnt], fun _ => rfl⟩
  | e :: l, h, h0 => by
    have he := okL_in h e (List.mem_cons_self ..)
    simp only [okL, Bool.and_eq_true] at h
    obtain ⟨r1, r2, r3⟩ := okP_amt ht hn l h.2 (fun e he => h0 e (List.mem_cons_of_mem _ he))
    have b := amt_bd ht hn he (h0 e (List.mem_cons_self ..))
    have f := (amt_fits ht hn he (h0 e (List.mem_cons_self ..)) b).2 (Int.le_refl _)
    have c := cnt_bd l
    simp only [List.map_cons, okP, suP, cnt]
    refine ⟨by rw [h.1, inR_t.2 b, r1]; rfl, ?_, ?_⟩
    · rw [Int.mul_add, Int.add_mul]
      by_cases z : e = 0
      · have : sqE e (amt t n e) = 0 := by rw [z]; unfold sqE; rw [Int.zero_mul, Int.zero_mul]
        rw [if_pos z, this, Int.mul_zero, Int.zero_mul]; omega
      · rw [if_neg z, Int.one_mul]; omega
    · intro h
      by_cases z : e = 0
      · rw [if_pos z] at h
        have : sqE e (amt t n e) = 0 := by rw [z]; unfold sqE; rw [Int.zero_mul, Int.zero_mul]
        rw [this, r3 (by omega)]; rfl
      · rw [if_neg z] at h; omega
theorem ints_l (k : Nat) (xs : List Int) (hl : xs.length < 1000000000000) : ∀ (d fuel i : Nat), xs.length = i + d → d < fuel → nspeculumbase_Ints_l0_0 k xs xs fuel (i : Int) = some (.inr ()) := by
  intro d
  induction d with
  | zero =>
    intro fuel i h hf
    obtain ⟨g, rfl⟩ : ∃ g, fuel = g + 1 := ⟨fuel - 1, by omega⟩
    rw [nspeculumbase_Ints_l0_0.eq_2, if_neg (by omega)]
  | succ d ih =>
    intro fuel i h hf
    obtain ⟨g, rfl⟩ : ∃ g, fuel = g + 1 := ⟨fuel - 1, by omega⟩
    rw [nspeculumbase_Ints_l0_0.eq_2, if_pos (by omega), if_pos (by omega), if_pos (by omega), if_pos rfl, w64_succ (by omega)]
    exact ih g (i + 1) (by omega) (by omega)
theorem ints_same (k : Nat) (hk : 100000000000000000000 ≤ k) (xs : List Int) (hl : xs.length < 1000000000000) : nspeculumbase_Ints k xs xs = some true := by
  unfold nspeculumbase_Ints
  rw [if_pos rfl, show nspeculumbase_Ints_l0_0 k xs xs k 0 = _ from ints_l k xs hl xs.length k 0 (by omega) (by omega)]; rfl
theorem law_budgets (b : SBudget) : nspeculumlaw02_OpticsBudgets big b = some true := by
  have hk : 100000000000000000000 ≤ big := by decide
  obtain ⟨t, E, A⟩ := b
  unfold nspeculumlaw02_OpticsBudgets nspeculumbase_CopyInts
  dsimp only
  rw [awake_big, Option.bind_some, if_pos rfl]
  by_cases c1 : 33 < (E.length : Int)
  · rw [if_pos c1]
  · by_cases c2 : 33 < (A.length : Int)
    · rw [if_neg c1, if_pos c2]
    · have hz : ([] : List Int).length = 0 := rfl
      rw [if_neg c1, if_neg c2, if_pos (by omega), if_pos (by omega), Option.bind_some, Option.bind_some, List.nil_append, List.nil_append, budget_opt _ hk, Option.bind_some, budget_ref _ hk, Option.bind_some, if_pos rfl, if_pos rfl, split_opt _ hk, Option.bind_some, split_ref _ hk, Option.bind_some, if_pos rfl]
      have hlen : (spR t E).1.length < 1000000000000 := by
        unfold spR
        split
        · split
          · simp; omega
          · simp
        · simp
      rw [ints_same _ hk _ hlen, Option.bind_some, if_pos rfl]
      by_cases c3 : (spR t E).2 = 0
      · rw [if_pos c3, budget_opt _ hk, Option.bind_some]
        have e : toE t E.length = 0 ∧ okL E = true := by
          unfold spR at c3
          split at c3
          · split at c3
            · exact ⟨by assumption, by assumption⟩
            · cases c3
          · rename_i h; exact absurd c3 h
        obtain ⟨ht, hn⟩ := toE_zero e.1
        have hc := cnt_bd E
        have hs := tot_sq ht
        obtain ⟨r1, r2, r3⟩ := okP_amt (t := t) (n := cnt E) ht (by omega) E e.2 (fun e h h' => cnt_pos h h')
        have hsp : (spR t E).1 = E.map (amt t (cnt E)) := by unfold spR; rw [if_pos e.1, if_pos e.2]
        have le : suP E (E.map (amt t (cnt E))) ≤ t * t := by
          rcases Int.lt_or_le 0 (cnt E) with h | h
          · exact Int.le_of_mul_le_mul_left r2 h
          · rw [r3 (by omega)]; omega
        rw [hsp]
        unfold buE
        rw [if_pos e.1, if_pos (by rw [List.length_map]), if_pos r1, if_neg (by omega)]
        rfl
      · rw [if_neg c3]
theorem vc_budgets (b : SBudget) : VC Go.Proofs.Try.prog 10 [VV.ag (c_SBudget b)] (vb true) := nspeculumlaw02_OpticsBudgets_ok _ _ _ (law_budgets b)
end Go.Proofs.Ytkffimkedibmnaa.Vg
