/- Least variance of heights within ranges. Plain; no generated text. -/
import Derived.Test.YtggggonmlmondaaWb
set_option linter.unusedVariables false
set_option linter.unusedSimpArgs false
namespace Go.Proofs.Ytggggonmlmondaa.Vg.Sq
section
variable {α : Type}
def sm (f : α → Int) : List α → Int
  | [] => 0
  | a :: l => f a + sm f l
theorem sm_add (f g : α → Int) : ∀ l, sm (fun a => f a + g a) l = sm f l + sm g l
  | [] => rfl
  | a :: l => by simp only [sm]; rw [sm_add f g l]; omega
theorem sm_mul (c : Int) (f : α → Int) : ∀ l, sm (fun a => c * f a) l = c * sm f l
  | [] => by simp [sm]
  | a :: l => by simp only [sm]; rw [sm_mul c f l, Int.mul_add]
theorem sm_const (c : Int) : ∀ l : List α, sm (fun _ => c) l = (l.length : Int) * c
  | [] => by simp [sm]
  | a :: l => by simp only [sm, List.length_cons]; rw [sm_const c l, Int.natCast_add, Int.add_mul]; simp; omega
theorem sm_congr {f g : α → Int} : ∀ l, (∀ a ∈ l, f a = g a) → sm f l = sm g l
  | [], _ => rfl
  | a :: l, h => by simp only [sm]; rw [h a (by simp), sm_congr l (fun b hb => h b (by simp [hb]))]
theorem sm_nonneg {f : α → Int} : ∀ l, (∀ a ∈ l, 0 ≤ f a) → 0 ≤ sm f l
  | [], _ => Int.le_refl _
  | a :: l, h => by
    have h1 := h a (by simp)
    have h2 := sm_nonneg l (fun b hb => h b (by simp [hb]))
    simp only [sm]; omega
def vr (f : α → Int) (l : List α) : Int := (l.length : Int) * sm (fun a => f a * f a) l - sm f l * sm f l
theorem sq_nonneg (x : Int) : 0 ≤ x * x := by
  rcases Int.le_total 0 x with h | h
  · exact Int.mul_nonneg h h
  · have := Int.mul_nonneg (show 0 ≤ -x by omega) (show 0 ≤ -x by omega)
    rwa [Int.neg_mul_neg] at this
theorem vr_nonneg (d : α → Int) (l : List α) : 0 ≤ vr d l := by
  rcases Nat.eq_zero_or_pos l.length with h | h
  · rw [List.length_eq_zero_iff.1 h]; simp [vr, sm]
  · have e : sm (fun a => (sm d l - (l.length : Int) * d a) * (sm d l - (l.length : Int) * d a)) l = (l.length : Int) * vr d l := by
      rw [sm_congr (g := fun a => (sm d l * sm d l + (-2 * sm d l * (l.length : Int)) * d a) + ((l.length : Int) * (l.length : Int)) * (d a * d a)) l (fun a _ => by grind), sm_add, sm_add, sm_const, sm_mul, sm_mul]
      unfold vr; grind
    have h1 := sm_nonneg (f := fun a => (sm d l - (l.length : Int) * d a) * (sm d l - (l.length : Int) * d a)) l (fun a _ => sq_nonneg _)
    rw [e] at h1
    rcases Int.lt_or_le (vr d l) 0 with h2 | h2
    · have := Int.mul_neg_of_pos_of_neg (show (0 : Int) < (l.length : Int) by omega) h2
      omega
    · exact h2
theorem vr_shift (f : α → Int) (c : Int) (l : List α) : vr (fun a => f a + c) l = vr f l := by
  unfold vr
  rw [sm_congr (g := fun a => (f a * f a + (2 * c) * f a) + c * c) l (fun a _ => by grind), sm_add, sm_add, sm_const, sm_mul, sm_add, sm_const]
  grind
theorem vr_scale (f : α → Int) (c : Int) (l : List α) : vr (fun a => c * f a) l = c * c * vr f l := by
  unfold vr
  rw [sm_congr (g := fun a => (c * c) * (f a * f a)) l (fun a _ => by grind), sm_mul, sm_mul]
  grind
theorem vr_congr {f g : α → Int} (l : List α) (h : ∀ a ∈ l, f a = g a) : vr f l = vr g l := by
  unfold vr
  rw [sm_congr l h, sm_congr (f := fun a => f a * f a) (g := fun a => g a * g a) l (fun a ha => by rw [h a ha])]
theorem vr_zero {r : α → Int} {l : List α} (hr : sm r l = 0) : vr r l = (l.length : Int) * sm (fun a => r a * r a) l := by
  unfold vr; rw [hr]; simp
theorem vr_best {r d : α → Int} {l : List α} (hr : sm r l = 0) (hd : ∀ a ∈ l, 0 ≤ r a * d a) : vr r l ≤ vr (fun a => r a + d a) l := by
  have h1 := vr_nonneg d l
  have h2 := sm_nonneg (f := fun a => r a * d a) l hd
  have e : vr (fun a => r a + d a) l = vr r l + 2 * ((l.length : Int) * sm (fun a => r a * d a) l) + vr d l := by
    unfold vr
    rw [sm_congr (g := fun a => (r a * r a + 2 * (r a * d a)) + d a * d a) l (fun a _ => by grind), sm_add, sm_add, sm_mul, sm_add, hr]
    grind
  have h3 := Int.mul_nonneg (show (0 : Int) ≤ (l.length : Int) by omega) h2
  rw [e]; omega
variable {lo hi : α → Int}
/-- of the heights of a range, the nearest to p / q, times q. -/
def cl (lo hi : α → Int) (p q : Int) (a : α) : Int := if p < lo a * q then lo a * q else if hi a * q < p then hi a * q else p
theorem cl_in {p q : Int} {a : α} (hq : 0 < q) (h : lo a ≤ hi a) : lo a * q ≤ cl lo hi p q a ∧ cl lo hi p q a ≤ hi a * q := by
  have := Int.mul_le_mul_of_nonneg_right h (Int.le_of_lt hq)
  unfold cl; split
  · omega
  · split <;> omega
/-- no heights within the ranges have a smaller variance than those nearest to their own mean. -/
theorem best {l : List α} {p q p' : Int} {h : α → Int} (hq : 0 < q) (hq' : 0 < p') (hr : sm (fun a => cl lo hi p q a - p) l = 0) (hh : ∀ a ∈ l, lo a * p' ≤ h a ∧ h a ≤ hi a * p') : p' * p' * vr (cl lo hi p q) l ≤ q * q * vr h l := by
  have e1 : vr (cl lo hi p q) l = vr (fun a => cl lo hi p q a - p) l := by
    rw [← vr_shift (fun a => cl lo hi p q a - p) p]
    exact vr_congr l (fun a _ => by omega)
  rw [e1, ← vr_scale, ← vr_scale]
  have hr' : sm (fun a => p' * (cl lo hi p q a - p)) l = 0 := by rw [sm_mul, hr, Int.mul_zero]
  have hb := vr_best (r := fun a => p' * (cl lo hi p q a - p)) (d := fun a => q * h a - p' * cl lo hi p q a) hr' (fun a ha => by
    have ⟨h1, h2⟩ := hh a ha
    have h1' := Int.mul_le_mul_of_nonneg_left h1 (Int.le_of_lt hq)
    have h2' := Int.mul_le_mul_of_nonneg_left h2 (Int.le_of_lt hq)
    unfold cl
    split
    · rename_i c
      exact Int.mul_nonneg (Int.mul_nonneg (Int.le_of_lt hq') (by omega)) (by
        have : p' * (lo a * q) = q * (lo a * p') := by grind
        omega)
    · split
      · rename_i c1 c2
        have h5 := Int.mul_nonneg (Int.mul_nonneg (Int.le_of_lt hq') (show 0 ≤ p - hi a * q by omega)) (show 0 ≤ p' * (hi a * q) - q * h a by
          have : p' * (hi a * q) = q * (hi a * p') := by grind
          omega)
        have : p' * (hi a * q - p) * (q * h a - p' * (hi a * q)) = p' * (p - hi a * q) * (p' * (hi a * q) - q * h a) := by grind
        omega
      · rw [Int.sub_self, Int.mul_zero, Int.zero_mul]; exact Int.le_refl _)
  have e2 : vr (fun a => p' * (cl lo hi p q a - p) + (q * h a - p' * cl lo hi p q a)) l = vr (fun a => q * h a) l := by
    rw [← vr_shift (fun a => q * h a) (-(p' * p))]
    exact vr_congr l (fun a _ => by grind)
  rw [e2] at hb
  exact hb
/-! the level that is the mean of the heights nearest to it -/
def cnt (lo hi : α → Int) (e : Int) (a : α) : Int := if e < lo a then 1 else if hi a ≤ e then 1 else 0
def en (lo hi : α → Int) (e : Int) (a : α) : Int := if e < lo a then lo a else if hi a ≤ e then hi a else 0
theorem ex_max (f : Int → Int) (P : Int → Prop) : ∀ E : List Int, (∃ x ∈ E, P x) → ∃ x ∈ E, P x ∧ ∀ y ∈ E, P y → f y ≤ f x
  | [], h => by obtain ⟨x, hx, _⟩ := h; cases hx
  | b :: E, h => by
    by_cases c : ∃ x ∈ E, P x
    · obtain ⟨x, hx, px, hm⟩ := ex_max f P E c
      by_cases cb : P b ∧ f x < f b
      · refine ⟨b, by simp, cb.1, fun y hy py => ?_⟩
        rcases List.mem_cons.1 hy with rfl | hy
        · exact Int.le_refl _
        · have := hm y hy py; omega
      · refine ⟨x, by simp [hx], px, fun y hy py => ?_⟩
        rcases List.mem_cons.1 hy with rfl | hy
        · have : ¬ f x < f y := fun h => cb ⟨py, h⟩
          omega
        · exact hm y hy py
    · obtain ⟨x, hx, px⟩ := h
      rcases List.mem_cons.1 hx with rfl | hx
      · refine ⟨x, by simp, px, fun y hy py => ?_⟩
        rcases List.mem_cons.1 hy with rfl | hy
        · exact Int.le_refl _
        · exact absurd ⟨y, hy, py⟩ c
      · exact absurd ⟨x, hx, px⟩ c
def ends (lo hi : α → Int) (l : List α) : List Int := l.map lo ++ l.map hi
theorem lo_end {a : α} {l : List α} (h : a ∈ l) : lo a ∈ ends lo hi l := List.mem_append_left _ (List.mem_map_of_mem h)
theorem hi_end {a : α} {l : List α} (h : a ∈ l) : hi a ∈ ends lo hi l := List.mem_append_right _ (List.mem_map_of_mem h)
def sl (lo hi : α → Int) (l : List α) (e x : Int) : Int := sm (cnt lo hi e) l * x - sm (en lo hi e) l
theorem sl_eq (l : List α) (e x : Int) : sl lo hi l e x = sm (fun a => cnt lo hi e a * x - en lo hi e a) l := by
  unfold sl
  rw [sm_congr (f := fun a => cnt lo hi e a * x - en lo hi e a) (g := fun a => x * cnt lo hi e a + (-1) * en lo hi e a) l (fun a _ => by grind), sm_add, sm_mul, sm_mul]
  grind
theorem opt_ex {l : List α} (hne : l ≠ []) (hlh : ∀ a ∈ l, lo a ≤ hi a) : ∃ e ∈ ends lo hi l, 0 < sm (cnt lo hi e) l ∧ ∀ p q, 0 < q → p * sm (cnt lo hi e) l = q * sm (en lo hi e) l → sm (fun a => cl lo hi p q a - p) l = 0 := by
  have hc0 : ∀ e a, 0 ≤ cnt lo hi e a := fun e a => by unfold cnt; split; omega; split <;> omega
  obtain ⟨e0, he0, -, hmin⟩ := ex_max (fun x => -x) (fun _ => True) (ends lo hi l) (by
    obtain ⟨a, l', rfl⟩ := List.exists_cons_of_ne_nil hne
    exact ⟨lo a, lo_end (by simp), trivial⟩)
  have hg0 : sl lo hi l e0 e0 ≤ 0 := by
    rw [sl_eq]
    have := sm_nonneg (f := fun a => -(cnt lo hi e0 a * e0 - en lo hi e0 a)) l (fun a ha => by
      have h1 := hmin _ (lo_end ha) trivial
      have h2 := hlh a ha
      unfold cnt en
      split
      · omega
      · split <;> omega)
    rw [sm_congr (g := fun a => (-1) * (cnt lo hi e0 a * e0 - en lo hi e0 a)) l (fun a _ => by omega), sm_mul] at this
    omega
  obtain ⟨e, he, hge, hmax⟩ := ex_max id (fun x => sl lo hi l x x ≤ 0) (ends lo hi l) ⟨e0, he0, hg0⟩
  have T2 : ∀ x ∈ ends lo hi l, e < x → 0 < sl lo hi l e x := fun x hx hex => by
    obtain ⟨e', he', h1, h2⟩ := ex_max (fun x => -x) (fun x => e < x) (ends lo hi l) ⟨x, hx, hex⟩
    have h3 := h2 x hx hex
    have h4 : sl lo hi l e' e' = sl lo hi l e e' := by
      rw [sl_eq, sl_eq]
      refine sm_congr l (fun a ha => ?_)
      have a1 := hlh a ha
      have a2 : e < lo a → e' ≤ lo a := fun h => by have := h2 _ (lo_end ha) h; omega
      have a3 : e < hi a → e' ≤ hi a := fun h => by have := h2 _ (hi_end ha) h; omega
      unfold cnt en
      by_cases c1 : e < lo a
      · have := a2 c1
        simp only [if_pos c1]
        by_cases c2 : e' < lo a
        · simp only [if_pos c2]
        · simp only [if_neg c2]
          split <;> omega
      · have n1 : ¬ e' < lo a := by omega
        simp only [if_neg c1, if_neg n1]
        by_cases c2 : hi a ≤ e
        · have n2 : hi a ≤ e' := by omega
          simp only [if_pos c2, if_pos n2]
        · have := a3 (by omega)
          simp only [if_neg c2]
          split <;> omega
    have h5 : 0 < sl lo hi l e' e' := by
      rcases Int.lt_or_le 0 (sl lo hi l e' e') with h | h
      · exact h
      · have : e' ≤ e := hmax e' he' h
        omega
    rw [h4] at h5
    have h6 := Int.mul_le_mul_of_nonneg_left (show e' ≤ x by omega) (sm_nonneg (f := cnt lo hi e) l (fun a _ => hc0 e a))
    unfold sl at h5 ⊢
    omega
  have hN : 0 < sm (cnt lo hi e) l := by
    have h0 := sm_nonneg (f := cnt lo hi e) l (fun a _ => hc0 e a)
    rcases Int.lt_or_eq_of_le h0 with h | h
    · exact h
    · exfalso
      obtain ⟨a, l', hl⟩ := List.exists_cons_of_ne_nil hne
      have hm : a ∈ l := by rw [hl]; simp
      have hz : cnt lo hi e a = 0 := by
        rw [hl] at h
        have h1 := sm_nonneg (f := cnt lo hi e) l' (fun a _ => hc0 e a)
        have h2 := hc0 e a
        simp only [sm] at h
        omega
      have hS : ∀ m : List α, sm (cnt lo hi e) m = 0 → sm (en lo hi e) m = 0 := fun m => by
        induction m with
        | nil => intro _; rfl
        | cons b m ih =>
          intro hb
          have h1 := sm_nonneg (f := cnt lo hi e) m (fun a _ => hc0 e a)
          have h2 := hc0 e b
          simp only [sm] at hb ⊢
          rw [ih (by omega)]
          have : cnt lo hi e b = 0 := by omega
          unfold cnt at this
          unfold en
          split at this
          · omega
          · rw [if_neg (by assumption)]
            split at this
            · omega
            · rw [if_neg (by assumption)]; rfl
      have hx : e < hi a := by
        unfold cnt at hz
        split at hz
        · omega
        · split at hz <;> omega
      have := T2 _ (hi_end hm) hx
      unfold sl at this
      rw [← h, hS l h.symm] at this
      simp at this
  refine ⟨e, he, hN, fun p q hq hpq => ?_⟩
  have up : ∀ x, 0 < sl lo hi l e x → p < x * q := fun x hx => by
    rcases Int.lt_or_le p (x * q) with h | h
    · exact h
    · exfalso
      unfold sl at hx
      have h1 := Int.mul_le_mul_of_nonneg_right h (Int.le_of_lt hN)
      have h2 := Int.mul_lt_mul_of_pos_left (show sm (en lo hi e) l < sm (cnt lo hi e) l * x by omega) hq
      have h3 : x * q * sm (cnt lo hi e) l = q * (sm (cnt lo hi e) l * x) := by grind
      omega
  have dn : ∀ x, x ≤ e → x * q ≤ p := fun x hx => by
    rcases Int.lt_or_le p (x * q) with h | h
    · exfalso
      unfold sl at hge
      have h0 := Int.mul_le_mul_of_nonneg_left hx (Int.le_of_lt hN)
      have h1 := Int.mul_lt_mul_of_pos_right h hN
      have h2 := Int.mul_le_mul_of_nonneg_left (show sm (cnt lo hi e) l * x ≤ sm (en lo hi e) l by omega) (Int.le_of_lt hq)
      have h3 : x * q * sm (cnt lo hi e) l = q * (sm (cnt lo hi e) l * x) := by grind
      omega
    · exact h
  rw [sm_congr (g := fun a => q * en lo hi e a + (-p) * cnt lo hi e a) l (fun a ha => ?_), sm_add, sm_mul, sm_mul, ← hpq]
  · grind
  · have a1 := hlh a ha
    unfold cl cnt en
    by_cases c1 : e < lo a
    · have := up _ (T2 _ (lo_end ha) c1)
      rw [if_pos this, if_pos c1, if_pos c1]; grind
    · rw [if_neg c1, if_neg c1]
      have d1 := dn (lo a) (by omega)
      rw [if_neg (by omega)]
      by_cases c2 : hi a ≤ e
      · have d2 := dn (hi a) c2
        rw [if_pos c2, if_pos c2]
        split
        · grind
        · have : hi a * q = p := by omega
          grind
      · have := up _ (T2 _ (hi_end ha) (by omega))
        rw [if_neg c2, if_neg c2, if_neg (by omega)]; simp
end
end Go.Proofs.Ytggggonmlmondaa.Vg.Sq
