/- No model has less squares. -/
import Derived.Test.YtmjmggkllmfmlaaMC
set_option linter.unusedVariables false
set_option linter.unusedSimpArgs false
namespace Go.Proofs.Ytmjmggkllmfmlaa.Vg
open Go Go.Proofs.Ytmjmggkllmfmlaa.Ev Go.Proofs.Ytmjmggkllmfmlaa.Vv
open Mdl (S D3 M3 X0 X1 X2)
section
variable {k : Nat} {l : List SSkyStar} {t : List Int} {T : Nat}
theorem S3 (hT : 1 ≤ T ∧ T ≤ 3) (f : Nat → Int) (hz : ∀ i, T ≤ i → f i = 0) : S f T = f 0 + f 1 + f 2 := by
  have hc : T = 1 ∨ T = 2 ∨ T = 3 := by omega
  rcases hc with rfl | rfl | rfl
  · rw [hz 1 (by omega), hz 2 (by omega)]; simp [S]
  · rw [hz 2 (by omega)]; simp [S]
  · simp [S]
def h0 (l : List SSkyStar) : Int := hs l 0 l.length
def h1 (l : List SSkyStar) : Int := hs l 1 l.length
def h2 (l : List SSkyStar) : Int := hs l 2 l.length
def XX (l : List SSkyStar) (T : Nat) : Nat → Int
  | 0 => X0 (gm l T) (h0 l) (h1 l) (h2 l)
  | 1 => X1 (gm l T) (h0 l) (h1 l) (h2 l)
  | _ => X2 (gm l T) (h0 l) (h1 l) (h2 l)
def hv (l : List SSkyStar) : Svector := ⟨h0 l, h1 l, h2 l⟩
theorem sv_h (O : OKS l t T) : SV (hv l) := by
  have a := hs_bd O 0 (Nat.le_refl l.length)
  have b := hs_bd O 1 (Nat.le_refl l.length)
  have c := hs_bd O 2 (Nat.le_refl l.length)
  exact ⟨by show (hs l 0 l.length).natAbs ≤ _; omega, by show (hs l 1 l.length).natAbs ≤ _; omega, by show (hs l 2 l.length).natAbs ≤ _; omega⟩
theorem sv_c (O : OKS l t T) : SV (cols (gm l T)).e0 ∧ SV (cols (gm l T)).e1 ∧ SV (cols (gm l T)).e2 := by
  have a := gs_bd O 0 0 (Nat.le_refl l.length)
  have b := gs_bd O 0 1 (Nat.le_refl l.length)
  have c := gs_bd O 0 2 (Nat.le_refl l.length)
  have d := gs_bd O 1 1 (Nat.le_refl l.length)
  have e := gs_bd O 1 2 (Nat.le_refl l.length)
  have f := gs_bd O 2 2 (Nat.le_refl l.length)
  have x := dl_bd T 0
  have y := dl_bd T 1
  have z := dl_bd T 2
  have A : (gm l T).a.natAbs ≤ 1000 := by show (dl T 0 + gs l 0 0 l.length).natAbs ≤ _; omega
  have B : (gm l T).b.natAbs ≤ 1000 := by show (gs l 0 1 l.length).natAbs ≤ _; omega
  have C : (gm l T).c.natAbs ≤ 1000 := by show (gs l 0 2 l.length).natAbs ≤ _; omega
  have D : (gm l T).d.natAbs ≤ 1000 := by show (dl T 1 + gs l 1 1 l.length).natAbs ≤ _; omega
  have E : (gm l T).e.natAbs ≤ 1000 := by show (gs l 1 2 l.length).natAbs ≤ _; omega
  have F : (gm l T).f.natAbs ≤ 1000 := by show (dl T 2 + gs l 2 2 l.length).natAbs ≤ _; omega
  exact ⟨⟨A, B, C⟩, ⟨B, D, E⟩, ⟨C, E, F⟩⟩
theorem detD (O : OKS l t T) : npoint_determinant k (cols (gm l T)) = some (D3 (gm l T)) ∧ (D3 (gm l T)).natAbs ≤ 6000000000 := det_p (sv_c O).1 (sv_c O).2.1 (sv_c O).2.2
theorem det0 (O : OKS l t T) : npoint_determinant k ⟨hv l, (cols (gm l T)).e1, (cols (gm l T)).e2⟩ = some (XX l T 0) ∧ (XX l T 0).natAbs ≤ 6000000000 := det_p (A := ⟨hv l, (cols (gm l T)).e1, (cols (gm l T)).e2⟩) (sv_h O) (sv_c O).2.1 (sv_c O).2.2
theorem det1 (O : OKS l t T) : npoint_determinant k ⟨(cols (gm l T)).e0, hv l, (cols (gm l T)).e2⟩ = some (XX l T 1) ∧ (XX l T 1).natAbs ≤ 6000000000 := det_p (A := ⟨(cols (gm l T)).e0, hv l, (cols (gm l T)).e2⟩) (sv_c O).1 (sv_h O) (sv_c O).2.2
theorem det2 (O : OKS l t T) : npoint_determinant k ⟨(cols (gm l T)).e0, (cols (gm l T)).e1, hv l⟩ = some (XX l T 2) ∧ (XX l T 2).natAbs ≤ 6000000000 := det_p (A := ⟨(cols (gm l T)).e0, (cols (gm l T)).e1, hv l⟩) (sv_c O).1 (sv_c O).2.1 (sv_h O)
def nums (l : List SSkyStar) (T i : Nat) : List Int := D3 (gm l T) :: (List.range i).map (XX l T)
theorem nums_len (i : Nat) : (nums l T i).length = i + 1 := by simp [nums]
theorem nums_0 (i : Nat) : (nums l T i).getD 0 0 = D3 (gm l T) := rfl
theorem nums_s {i j : Nat} (h : j < i) : (nums l T i).getD (j + 1) 0 = XX l T j := by
  simp [nums, List.getD_eq_getElem?_getD, List.getElem?_map, List.getElem?_range h]
theorem fit0 (O : OKS l t T) : ∀ (d fuel i : Nat), T = i + d → d < fuel → npoint_Fit_l0_0 k ((T : Int), 0) (cols (gm l T), hv l) fuel (nums l T i) (i : Int) = some (nums l T T) := by
  have hT := O.TT
  intro d
  induction d with
  | zero =>
    intro fuel i he hf
    obtain ⟨f, rfl⟩ : ∃ f, fuel = f + 1 := ⟨fuel - 1, by omega⟩
    rw [npoint_Fit_l0_0.eq_2, if_neg (show ¬ (i : Int) < (T : Int) by omega), show i = T by omega]
  | succ d ih =>
    intro fuel i he hf
    obtain ⟨f, rfl⟩ : ∃ f, fuel = f + 1 := ⟨fuel - 1, by omega⟩
    have ea : nums l T i ++ [XX l T i] = nums l T (i + 1) := by simp [nums, List.range_succ]
    have hlen : (nums l T i).length + ([XX l T i] : List Int).length ≤ 1000000000 := by rw [nums_len]; simp; omega
    have go := ih f (i + 1) (by omega) (by omega)
    rw [← ea] at go
    rw [npoint_Fit_l0_0.eq_2, if_pos (show (i : Int) < (T : Int) by omega), w64_succ (by omega)]
    have hc : i = 0 ∨ i = 1 ∨ i = 2 := by omega
    rcases hc with rfl | rfl | rfl
    · rw [if_pos (by omega)]
      dsimp only
      rw [(det0 O).1, Option.bind_some, if_pos hlen]; exact go
    · rw [if_neg (by omega), if_pos (by omega)]
      dsimp only
      rw [(det1 O).1, Option.bind_some, if_pos hlen]; exact go
    · rw [if_neg (by omega), if_neg (by omega), if_pos (by omega)]
      dsimp only
      rw [(det2 O).1, Option.bind_some, if_pos hlen]; exact go
theorem xx_bd (O : OKS l t T) (i : Nat) : (XX l T i).natAbs ≤ 6000000000 := match i with
  | 0 => (det0 (k := 0) O).2
  | 1 => (det1 (k := 0) O).2
  | _ + 2 => (det2 (k := 0) O).2
theorem nums_bd (O : OKS l t T) : ∀ j, j < (nums l T T).length → ((nums l T T).getD j 0).natAbs ≤ 6000000000 := fun j hj => by
  rw [nums_len] at hj
  cases j with
  | zero => exact (detD (k := 0) O).2
  | succ j => rw [nums_s (by omega)]; exact xx_bd O j
theorem getD_set {α : Type} {y : List α} {i : Nat} (h : i < y.length) (v d : α) (j : Nat) : (y.set i v).getD j d = if j = i then v else y.getD j d := by
  rw [List.getD_eq_getElem?_getD, List.getD_eq_getElem?_getD, List.getElem?_set]
  by_cases e : j = i
  · subst e; rw [if_pos rfl, if_pos rfl, if_pos h]; rfl
  · rw [if_neg (fun h => e h.symm), if_neg e]
theorem fit1 (r : A98 × Svector) (L : List Int) (hL : L.length ≤ 1000) (hb : ∀ j, j < L.length → (L.getD j 0).natAbs ≤ 6000000000) {d : Int} (hd : d ≠ 0) : ∀ (n fuel i : Nat) (y : List Int), L.length = i + n → n < fuel → y.length = L.length → (∀ j, j < L.length → y.getD j 0 = if j < i then (L.getD j 0).tdiv d else L.getD j 0) →
    ∃ y', npoint_Fit_l1_0 k r L d fuel y (i : Int) = some y' ∧ y'.length = L.length ∧ ∀ j, j < L.length → y'.getD j 0 = (L.getD j 0).tdiv d := by
  intro n
  induction n with
  | zero =>
    intro fuel i y he hf hy hj
    obtain ⟨f, rfl⟩ : ∃ f, fuel = f + 1 := ⟨fuel - 1, by omega⟩
    exact ⟨y, by rw [npoint_Fit_l1_0.eq_2, if_neg (by omega)], hy, fun j hjl => by rw [hj j hjl, if_pos (by omega)]⟩
  | succ n ih =>
    intro fuel i y he hf hy hj
    obtain ⟨f, rfl⟩ : ∃ f, fuel = f + 1 := ⟨fuel - 1, by omega⟩
    have h1 := hb i (by omega)
    have h2 : ((L.getD i 0).tdiv d).natAbs ≤ (L.getD i 0).natAbs := by rw [Int.natAbs_tdiv]; exact Nat.div_le_self _ _
    rw [npoint_Fit_l1_0.eq_2, if_pos (by omega), if_pos (by omega), if_pos hd, Int.toNat_natCast, hj i (by omega), if_neg (by omega), w64_id (n := (L.getD i 0).tdiv d) (by omega) (by omega), w64_succ (by omega)]
    refine ih f (i + 1) _ (by omega) (by omega) (by rw [List.length_set]; exact hy) (fun j hjl => ?_)
    rw [getD_set (by omega)]
    by_cases e : j = i
    · rw [if_pos e, if_pos (by omega), e]
    · rw [if_neg e, hj j hjl]
      by_cases e2 : j < i
      · rw [if_pos e2, if_pos (by omega)]
      · rw [if_neg e2, if_neg (by omega)]
/-- a model that the program finds. -/
structure Fitted (l : List SSkyStar) (T : Nat) (m : SSkyModel) : Prop where
  len : m.Terms.length = T
  pos : 0 < m.Den
  bd : m.Den ≤ 6000000000
  bt : ∀ i, (m.Terms.getD i 0).natAbs ≤ 6000000000
  eq : ∃ d : Int, 0 < d ∧ m.Den * d = D3 (gm l T) ∧ ∀ i, i < T → m.Terms.getD i 0 * d = XX l T i
  one : fg 0 (m.Terms ++ [m.Den]) ≤ 1
theorem drop1 (y : List Int) (i : Nat) : (y.drop 1).getD i 0 = y.getD (i + 1) 0 := by
  simp only [List.getD_eq_getElem?_getD, List.getElem?_drop]
  rw [Nat.add_comm]
theorem fit_p (O : OKS l t T) (hk : 10000000000000 < k) (hs : npoint_CheckStars k l = some ((T : Int), 0)) : ∃ m e, npoint_Fit k l = some (m, e) ∧ (e = 11 ∨ (e = 0 ∧ Fitted l T m)) := by
  have hT := O.TT
  have hq : npoint_equations k l (T : Int) = some (cols (gm l T), hv l) := equations_p O (by omega)
  unfold npoint_Fit
  rw [hs, Option.bind_some]
  dsimp only
  rw [if_pos rfl, hq, Option.bind_some]
  dsimp only
  rw [(detD O).1, Option.bind_some]
  by_cases c : D3 (gm l T) = 0
  · rw [if_pos c]; exact ⟨_, _, rfl, .inl rfl⟩
  rw [if_neg c]
  have hD := (gm_psd l T).d
  have hDb := (detD (k := k) O).2
  have e0 : npoint_Fit_l0_0 k ((T : Int), 0) (cols (gm l T), hv l) k [D3 (gm l T)] 0 = _ := fit0 O T k 0 (by omega) (by omega)
  have hnl := nums_len (l := l) (T := T) T
  have hmem : D3 (gm l T) ∈ nums l T T := by simp [nums]
  obtain ⟨d1, d2⟩ := divisor_p hk (nums l T T) (by omega) (fun j hj => by have := nums_bd O j hj; omega) hmem c (by omega)
  rw [e0, Option.bind_some, d1, Option.bind_some]
  obtain ⟨y, e2, e3, e4⟩ := fit1 (k := k) (cols (gm l T), hv l) (nums l T T) (by omega) (nums_bd O) (show (fg 0 (nums l T T) : Int) ≠ 0 by omega) (nums l T T).length k 0 (nums l T T) (by omega) (by omega) rfl (fun j hj => by rw [if_neg (by omega)])
  rw [show npoint_Fit_l1_0 k (cols (gm l T), hv l) (nums l T T) (fg 0 (nums l T T) : Int) k (nums l T T) 0 = _ from e2, Option.bind_some]
  have hy : ∀ j, j < T + 1 → (y.getD j 0).natAbs ≤ 6000000000 := fun j hj => by
    rw [e4 j (by omega), Int.natAbs_tdiv]
    exact Nat.le_trans (Nat.div_le_self _ _) (nums_bd O j (by omega))
  obtain ⟨r, e5, e6⟩ := areS_p (k := k) (by omega) (a := 1000000000000) (by omega) y (by omega)
  rw [e5, Option.bind_some, if_pos (e6.2 (fun j hj => by have := hy j (by omega); omega)), if_pos (by simp; omega)]
  have hcl : nslices_Clone_int_int_ k (y.drop ((1 : Int)).toNat) = some (y.drop 1) := by
    unfold nslices_Clone_int_int_
    rw [if_pos (by simp; omega)]; rfl
  rw [hcl, Option.bind_some, if_pos (by omega)]
  refine ⟨_, _, rfl, .inr ⟨rfl, ?_⟩⟩
  have dv := fg_dvd (nums l T T) 0
  have fx : ∀ j, j < T + 1 → y.getD j 0 * (fg 0 (nums l T T) : Int) = (nums l T T).getD j 0 := fun j hj => by
    rw [e4 j (by omega)]
    refine Int.tdiv_mul_cancel (dv.2 _ ?_)
    rw [List.getD_eq_getElem?_getD, List.getElem?_eq_getElem (show j < (nums l T T).length by omega)]
    exact List.getElem_mem _
  have fx0 := fx 0 (by omega)
  rw [nums_0] at fx0
  have hlen : (y.drop 1).length = T := by simp; omega
  refine ⟨hlen, ?_, ?_, fun i => ?_, ⟨(fg 0 (nums l T T) : Int), by omega, fx0, fun i hi => ?_⟩, ?_⟩
  · show 0 < y.getD 0 0
    rcases Int.lt_or_le 0 (y.getD 0 0) with h | h
    · exact h
    · have := Int.mul_le_mul_of_nonneg_right h (show (0 : Int) ≤ (fg 0 (nums l T T) : Int) by omega)
      rw [fx0] at this; omega
  · show y.getD 0 0 ≤ _
    have := hy 0 (by omega); omega
  · rw [drop1]
    rcases Nat.lt_or_ge i T with h | h
    · exact hy (i + 1) (by omega)
    · rw [List.getD_eq_getElem?_getD, List.getElem?_eq_none (by omega)]; simp
  · show (y.drop 1).getD i 0 * _ = _
    rw [drop1, fx (i + 1) (by omega), nums_s hi]
  · show fg 0 (y.drop 1 ++ [y.getD 0 0]) ≤ 1
    have gd := (fg_dvd (y.drop 1 ++ [y.getD 0 0]) 0).2
    have ge : ∀ j, j < T + 1 → (fg 0 (y.drop 1 ++ [y.getD 0 0]) : Int) ∣ y.getD j 0 := fun j hj => by
      cases j with
      | zero => exact gd _ (by simp)
      | succ j =>
        refine gd _ (List.mem_append_left _ ?_)
        rw [← drop1, List.getD_eq_getElem?_getD, List.getElem?_eq_getElem (show j < (y.drop 1).length by omega)]
        exact List.getElem_mem _
    have key : fg 0 (y.drop 1 ++ [y.getD 0 0]) * fg 0 (nums l T T) ∣ fg 0 (nums l T T) := by
      refine dvd_fg _ _ (Nat.dvd_zero _) fun x hx => ?_
      obtain ⟨j, hj, rfl⟩ := List.getElem_of_mem hx
      have h1 := fx j (by omega)
      rw [List.getD_eq_getElem?_getD (l := nums l T T), List.getElem?_eq_getElem hj] at h1
      have h1 : y.getD j 0 * (fg 0 (nums l T T) : Int) = (nums l T T)[j] := h1
      rw [← h1, Int.natCast_mul]
      exact Int.mul_dvd_mul (ge j (by omega)) (Int.dvd_refl _)
    have := Nat.le_of_dvd d2 key
    generalize fg 0 (y.drop 1 ++ [y.getD 0 0]) = a at *
    generalize fg 0 (nums l T T) = b at *
    rcases Nat.lt_or_ge 1 a with h | h
    · have := Nat.mul_le_mul_right b (show 2 ≤ a from h)
      omega
    · exact h
/-! the check of a model -/
variable {m : SSkyModel}
theorem model_p (F : Fitted l T m) (hT : 1 ≤ T ∧ T ≤ 3) (hk : 10000000000000 < k) : npoint_CheckModel k m = some 0 := by
  have hl := F.len
  have hp := F.pos
  have hb := F.bd
  unfold npoint_CheckModel
  rw [areW_t (by omega) (by simp) (fun j hj => by
    have : j = 0 := by simp at hj; omega
    subst this; simp only [List.getD_cons_zero]; omega), Option.bind_some, if_pos rfl, areW_t (by omega) (by simp) (fun j hj => by
    have : j = 0 := by simp at hj; omega
    subst this; simp only [List.getD_cons_zero]; omega), Option.bind_some, if_pos rfl]
  obtain ⟨r, e5, e6⟩ := areS_p (k := k) (by omega) (a := 1000000000000) (by omega) m.Terms (by omega)
  rw [e5, Option.bind_some, if_pos (e6.2 (fun j hj => by have := F.bt j; omega))]
  have hcl : nslices_Clone_int_int_ k m.Terms = some m.Terms := by
    unfold nslices_Clone_int_int_
    rw [if_pos (by simp; omega)]; rfl
  rw [hcl, Option.bind_some, if_pos (by simp; omega)]
  obtain ⟨d1, _⟩ := divisor_p hk (m.Terms ++ [m.Den]) (by simp; omega) (fun j hj => by
    rcases Nat.lt_or_ge j T with h | h
    · rw [List.getD_eq_getElem?_getD, List.getElem?_append_left (by omega), ← List.getD_eq_getElem?_getD]
      have := F.bt j; omega
    · rw [List.getD_eq_getElem?_getD, List.getElem?_append_right (by omega)]
      have : j - m.Terms.length = 0 := by simp at hj; omega
      rw [this]; simp; omega) (x := m.Den) (by simp) (by omega) (by omega)
  have := F.one
  rw [d1, Option.bind_some, if_neg (by omega)]
def pd (m : SSkyModel) (l : List SSkyStar) (p : Nat) : Int := S (fun i => m.Terms.getD i 0 * sh l p i) m.Terms.length
def rs (m : SSkyModel) (l : List SSkyStar) (p : Nat) : Int := er l p * m.Den - pd m l p
theorem ms_bd (O : OKS l t T) (F : Fitted l T m) {p : Nat} (hp : p < l.length) (i : Nat) : -60000000000 ≤ m.Terms.getD i 0 * sh l p i ∧ m.Terms.getD i 0 * sh l p i ≤ 60000000000 := by
  have h1 := O.s hp i
  have := abs_mul (x := m.Terms.getD i 0) (y := sh l p i) (a := 6000000000) (b := 10) (F.bt i) (by omega)
  omega
theorem pd_bd (O : OKS l t T) (F : Fitted l T m) {p : Nat} (hp : p < l.length) {i : Nat} (hi : i ≤ T) : -180000000000 ≤ S (fun i => m.Terms.getD i 0 * sh l p i) i ∧ S (fun i => m.Terms.getD i 0 * sh l p i) i ≤ 180000000000 := by
  have := Mdl.S_bd (f := fun i => m.Terms.getD i 0 * sh l p i) (a := 60000000000) i (fun j _ => ms_bd O F hp j)
  have := O.TT
  omega
theorem ed_bd (O : OKS l t T) (F : Fitted l T m) {p : Nat} (hp : p < l.length) : -60000000000 ≤ er l p * m.Den ∧ er l p * m.Den ≤ 60000000000 := by
  have h1 := (O.p p hp).2.1
  have h2 := F.pos
  have h3 := F.bd
  have := abs_mul (x := er l p) (y := m.Den) (a := 10) (b := 6000000000) (by omega) (by omega)
  omega
theorem rs_bd (O : OKS l t T) (F : Fitted l T m) {p : Nat} (hp : p < l.length) : -240000000000 ≤ rs m l p ∧ rs m l p ≤ 240000000000 := by
  have h1 := ed_bd O F hp
  have h2 := pd_bd O F hp (i := T) (Nat.le_refl _)
  have h3 := F.len
  unfold rs pd; rw [h3]; omega
theorem product_l (O : OKS l t T) (F : Fitted l T m) {p : Nat} (hp : p < l.length) : ∀ (d fuel i : Nat), T = i + d → d < fuel → npoint_product_l0_0 k m.Terms (l.getD p default).Shapes fuel (i : Int) (S (fun i => m.Terms.getD i 0 * sh l p i) i) = some (pd m l p) := by
  have hT := O.TT
  have hl := F.len
  have hn := (O.p p hp).1
  have hns : ns l p = (l.getD p default).Shapes.length := rfl
  intro d
  induction d with
  | zero =>
    intro fuel i he hf
    obtain ⟨f, rfl⟩ : ∃ f, fuel = f + 1 := ⟨fuel - 1, by omega⟩
    rw [npoint_product_l0_0.eq_2, if_neg (by omega)]
    unfold pd; rw [show i = m.Terms.length by omega]
  | succ d ih =>
    intro fuel i he hf
    obtain ⟨f, rfl⟩ : ∃ f, fuel = f + 1 := ⟨fuel - 1, by omega⟩
    have b1 := ms_bd O F hp i
    have b2 := pd_bd O F hp (i := i) (by omega)
    rw [npoint_product_l0_0.eq_2, if_pos (by omega), if_pos (by omega), if_pos (by omega), Int.toNat_natCast, w64_succ (by omega)]
    show npoint_product_l0_0 k m.Terms (l.getD p default).Shapes f _ (w64 (_ + w64 (m.Terms.getD i 0 * sh l p i))) = _
    rw [w64_id (n := m.Terms.getD i 0 * sh l p i) (by omega) (by omega), w64_id (n := _ + m.Terms.getD i 0 * sh l p i) (by omega) (by omega)]
    exact ih f (i + 1) (by omega) (by omega)
theorem chk1 (O : OKS l t T) (F : Fitted l T m) {p : Nat} (hp : p < l.length) (b : Nat → Int) (hb : ∀ j, -100000000000000 ≤ b j ∧ b j ≤ 100000000000000) : ∀ (d fuel i : Nat) (y : List Int), T = i + d → d < fuel → y.length = T → (∀ j, j < T → y.getD j 0 = if j < i then b j + sh l p j * rs m l p else b j) →
    ∃ y', npoint_CheckFit_l1_0 k l m (p : Int) (pd m l p) fuel y (i : Int) = some y' ∧ y'.length = T ∧ ∀ j, j < T → y'.getD j 0 = b j + sh l p j * rs m l p := by
  have hT := O.TT
  have hn := (O.p p hp).1
  have hns : ns l p = (l.getD p default).Shapes.length := rfl
  intro d
  induction d with
  | zero =>
    intro fuel i y he hf hy hj
    obtain ⟨f, rfl⟩ : ∃ f, fuel = f + 1 := ⟨fuel - 1, by omega⟩
    exact ⟨y, by rw [npoint_CheckFit_l1_0.eq_2, Int.toNat_natCast, if_neg (by omega)], hy, fun j hjl => by rw [hj j hjl, if_pos (by omega)]⟩
  | succ d ih =>
    intro fuel i y he hf hy hj
    obtain ⟨f, rfl⟩ : ∃ f, fuel = f + 1 := ⟨fuel - 1, by omega⟩
    have b1 := ed_bd O F hp
    have b2 := rs_bd O F hp
    have b3 := O.s hp i
    have b4 := hb i
    have b5 := abs_mul (x := sh l p i) (y := rs m l p) (a := 10) (b := 240000000000) (by omega) (by omega)
    rw [npoint_CheckFit_l1_0.eq_2, Int.toNat_natCast, if_pos (by omega), if_pos (by omega), if_pos (by omega), Int.toNat_natCast, hj i (by omega), if_neg (by omega)]
    rw [show (l.getD p default).Error = er l p from rfl, show (l.getD p default).Shapes.getD i 0 = sh l p i from rfl, w64_id (n := er l p * m.Den) (by omega) (by omega), show er l p * m.Den - pd m l p = rs m l p from rfl, w64_id (n := rs m l p) (by omega) (by omega), w64_id (n := sh l p i * rs m l p) (by omega) (by omega), w64_id (n := b i + _) (by omega) (by omega), w64_succ (by omega)]
    refine ih f (i + 1) _ (by omega) (by omega) (by rw [List.length_set]; exact hy) (fun j hjl => ?_)
    rw [getD_set (by omega)]
    by_cases e : j = i
    · rw [if_pos e, if_pos (by omega), e]
    · rw [if_neg e, hj j hjl]
      by_cases e2 : j < i
      · rw [if_pos e2, if_pos (by omega)]
      · rw [if_neg e2, if_neg (by omega)]
def rsum (m : SSkyModel) (l : List SSkyStar) (j p : Nat) : Int := S (fun p => sh l p j * rs m l p) p
theorem rsum_bd (O : OKS l t T) (F : Fitted l T m) (j : Nat) {p : Nat} (hp : p ≤ l.length) : -100000000000000 ≤ rsum m l j p ∧ rsum m l j p ≤ 100000000000000 := by
  have := Mdl.S_bd (f := fun p => sh l p j * rs m l p) (a := 2400000000000) p (fun q hq => by
    have b2 := rs_bd O F (p := q) (by omega)
    have b3 := O.s (p := q) (by omega) j
    have b5 := abs_mul (x := sh l q j) (y := rs m l q) (a := 10) (b := 240000000000) (by omega) (by omega)
    omega)
  have := O.n
  unfold rsum; omega
theorem chk0 (O : OKS l t T) (F : Fitted l T m) (hk : 2000 < k) : ∀ (d fuel p : Nat) (y : List Int), l.length = p + d → d < fuel → y.length = T → (∀ j, j < T → y.getD j 0 = rsum m l j p) →
    ∃ y', npoint_CheckFit_l0_0 k l m fuel y (p : Int) = some y' ∧ y'.length = T ∧ ∀ j, j < T → y'.getD j 0 = rsum m l j l.length := by
  have hn := O.n
  have hT := O.TT
  intro d
  induction d with
  | zero =>
    intro fuel p y he hf hy hj
    obtain ⟨f, rfl⟩ : ∃ f, fuel = f + 1 := ⟨fuel - 1, by omega⟩
    exact ⟨y, by rw [npoint_CheckFit_l0_0.eq_2, if_neg (by omega)], hy, fun j hjl => by rw [hj j hjl, show l.length = p by omega]⟩
  | succ d ih =>
    intro fuel p y he hf hy hj
    obtain ⟨f, rfl⟩ : ∃ f, fuel = f + 1 := ⟨fuel - 1, by omega⟩
    have hp : npoint_product k m.Terms (l.getD p default).Shapes = some (pd m l p) := by
      unfold npoint_product
      rw [show npoint_product_l0_0 k m.Terms (l.getD p default).Shapes k 0 0 = _ from product_l O F (p := p) (by omega) T k 0 (by omega) (by omega)]; rfl
    obtain ⟨y', e1, e2, e3⟩ := chk1 (k := k) O F (p := p) (by omega) (fun j => rsum m l j p) (fun j => rsum_bd O F j (by omega)) T k 0 y (by omega) (by omega) hy (fun j hjl => by rw [if_neg (by omega)]; exact hj j hjl)
    have e1' : npoint_CheckFit_l1_0 k l m (p : Int) (pd m l p) k y 0 = some y' := e1
    rw [npoint_CheckFit_l0_0.eq_2, if_pos (by omega), if_pos (by omega), Int.toNat_natCast, hp, Option.bind_some, e1', Option.bind_some, w64_succ (by omega)]
    exact ih f (p + 1) y' (by omega) (by omega) e2 (fun j hjl => e3 j hjl)
theorem rs3 (O : OKS l t T) (F : Fitted l T m) {p : Nat} (hp : p < l.length) : rs m l p = er l p * m.Den - (m.Terms.getD 0 0 * sh l p 0 + m.Terms.getD 1 0 * sh l p 1 + m.Terms.getD 2 0 * sh l p 2) := by
  unfold rs pd
  rw [F.len, S3 O.TT _ (fun i hi => by show _ * sh l p i = 0; rw [O.z hp hi, Int.mul_zero])]
theorem rsum3 (O : OKS l t T) (F : Fitted l T m) (j : Nat) : ∀ p, p ≤ l.length → rsum m l j p = hs l j p * m.Den - (m.Terms.getD 0 0 * gs l j 0 p + m.Terms.getD 1 0 * gs l j 1 p + m.Terms.getD 2 0 * gs l j 2 p)
  | 0, _ => by simp [rsum, hs, gs, S]
  | p + 1, hp => by
    have ih := rsum3 O F j p (by omega)
    have h := rs3 O F (p := p) (by omega)
    unfold rsum hs gs at *
    simp only [S]
    rw [ih, h]; grind
theorem alg {d D h a b c m0 m1 m2 x0 x1 x2 : Int} (g0 : m0 * d * a = x0 * a) (g1 : m1 * d * b = x1 * b) (g2 : m2 * d * c = x2 * c) (e : a * x0 + b * x1 + c * x2 = D * d * h) : d * (h * D - (m0 * a + m1 * b + m2 * c)) = 0 := by
  have e1 : d * (h * D - (m0 * a + m1 * b + m2 * c)) = D * d * h - (m0 * d * a + m1 * d * b + m2 * d * c) := by grind
  have e2 : x0 * a + x1 * b + x2 * c = a * x0 + b * x1 + c * x2 := by grind
  rw [e1, g0, g1, g2, e2, e, Int.sub_self]
theorem normal (O : OKS l t T) (F : Fitted l T m) {j : Nat} (hj : j < T) : rsum m l j l.length = 0 := by
  obtain ⟨d, d0, d1, d2⟩ := F.eq
  have hT := O.TT
  have h3 := rsum3 O F j l.length (Nat.le_refl _)
  have tg : ∀ i, m.Terms.getD i 0 * d * gs l j i l.length = XX l T i * gs l j i l.length := fun i => by
    rcases Nat.lt_or_ge i T with c | c
    · rw [d2 i c]
    · rw [gs_sym, gs_z O c j (Nat.le_refl _), Int.mul_zero, Int.mul_zero]
  have g0 := tg 0
  have g1 := tg 1
  have g2 := tg 2
  have hc := Mdl.cramer (gm l T) (h0 l) (h1 l) (h2 l)
  have hx0 : XX l T 0 = X0 (gm l T) (h0 l) (h1 l) (h2 l) := rfl
  have hx1 : XX l T 1 = X1 (gm l T) (h0 l) (h1 l) (h2 l) := rfl
  have hx2 : XX l T 2 = X2 (gm l T) (h0 l) (h1 l) (h2 l) := rfl
  rw [← hx0, ← hx1, ← hx2, ← d1] at hc
  have dz : ∀ i, i < T → dl T i = 0 := fun i hi => if_neg (by omega)
  have key : d * rsum m l j l.length = 0 := by
    rw [h3]
    have hcase : j = 0 ∨ j = 1 ∨ j = 2 := by omega
    rcases hcase with rfl | rfl | rfl
    · have := hc.1
      rw [show (gm l T).a = dl T 0 + gs l 0 0 l.length from rfl, dz 0 hj, show (gm l T).b = gs l 0 1 l.length from rfl, show (gm l T).c = gs l 0 2 l.length from rfl, show h0 l = hs l 0 l.length from rfl] at this
      rw [Int.zero_add] at this
      exact alg g0 g1 g2 this
    · have := hc.2.1
      rw [show (gm l T).b = gs l 0 1 l.length from rfl, show (gm l T).d = dl T 1 + gs l 1 1 l.length from rfl, dz 1 hj, show (gm l T).e = gs l 1 2 l.length from rfl, show h1 l = hs l 1 l.length from rfl, gs_sym 0 1] at this
      rw [Int.zero_add] at this
      exact alg g0 g1 g2 this
    · have := hc.2.2
      rw [show (gm l T).c = gs l 0 2 l.length from rfl, show (gm l T).e = gs l 1 2 l.length from rfl, show (gm l T).f = dl T 2 + gs l 2 2 l.length from rfl, dz 2 hj, show h2 l = hs l 2 l.length from rfl, gs_sym 0 2, gs_sym 1 2] at this
      rw [Int.zero_add] at this
      exact alg g0 g1 g2 this
  rcases Int.mul_eq_zero.1 key with h | h
  · omega
  · exact h
theorem idx_l (a : List Int) (ha : a.length ≤ 1000) (hz : ∀ j, j < a.length → a.getD j 0 = 0) : ∀ (d fuel i : Nat), a.length = i + d → d < fuel → nslices_IndexFunc_int_int__c1_point_CheckFit_1_l0_0 k a fuel (i : Int) = some (.inr ()) := by
  intro d
  induction d with
  | zero =>
    intro fuel i he hf
    obtain ⟨f, rfl⟩ : ∃ f, fuel = f + 1 := ⟨fuel - 1, by omega⟩
    rw [nslices_IndexFunc_int_int__c1_point_CheckFit_1_l0_0.eq_2, if_neg (by omega)]
  | succ d ih =>
    intro fuel i he hf
    obtain ⟨f, rfl⟩ : ∃ f, fuel = f + 1 := ⟨fuel - 1, by omega⟩
    rw [nslices_IndexFunc_int_int__c1_point_CheckFit_1_l0_0.eq_2, if_pos (by omega), if_pos (by omega), Int.toNat_natCast, hz i (by omega)]
    unfold npoint_CheckFit_1
    rw [Option.bind_some, if_neg (by decide), w64_succ (by omega)]
    exact ih f (i + 1) (by omega) (by omega)
theorem checkFit_p (O : OKS l t T) (F : Fitted l T m) (hk : 10000000000000 < k) (hs : npoint_CheckStars k l = some ((T : Int), 0)) : npoint_CheckFit k l m = some 0 := by
  have hT := O.TT
  have hl := F.len
  unfold npoint_CheckFit
  rw [hs, Option.bind_some]
  dsimp only
  rw [if_pos rfl, model_p F hT hk, Option.bind_some, if_pos rfl, if_pos (by omega), if_pos (by omega), Int.toNat_natCast]
  obtain ⟨y, e1, e2, e3⟩ := chk0 O F (k := k) (by omega) l.length k 0 (List.replicate T 0) (by omega) (by have := O.n; omega) (by simp) (fun j hj => by
    rw [List.getD_eq_getElem?_getD, List.getElem?_replicate, if_pos hj]; rfl)
  have e1' : npoint_CheckFit_l0_0 k l m k (List.replicate T 0) 0 = some y := e1
  have hc : nslices_ContainsFunc_int_int__c1_point_CheckFit_1 k y () = some false := by
    unfold nslices_ContainsFunc_int_int__c1_point_CheckFit_1 nslices_IndexFunc_int_int__c1_point_CheckFit_1
    rw [show nslices_IndexFunc_int_int__c1_point_CheckFit_1_l0_0 k y k 0 = _ from idx_l y (by omega) (fun j hj => by rw [e3 j (by omega), normal O F (by omega)]) y.length k 0 (by omega) (by omega)]
    rfl
  rw [e1', Option.bind_some, hc, Option.bind_some, if_neg (by decide)]
/-! the law's sums -/
def yp (t : List Int) (l : List SSkyStar) (T p : Nat) : Int := er l p - S (fun i => t.getD i 0 * sh l p i) T
theorem ts_bd (O : OKS l t T) {p : Nat} (hp : p < l.length) {i : Nat} (hi : i < T) : -1000 ≤ t.getD i 0 * sh l p i ∧ t.getD i 0 * sh l p i ≤ 1000 := by
  have h1 := (O.p p hp).2.2 i hi
  have := abs_mul (x := t.getD i 0) (y := sh l p i) (a := 100) (b := 10) (by omega) (by omega)
  omega
theorem ty_bd (O : OKS l t T) {p : Nat} (hp : p < l.length) {i : Nat} (hi : i ≤ T) : -3000 ≤ S (fun i => t.getD i 0 * sh l p i) i ∧ S (fun i => t.getD i 0 * sh l p i) i ≤ 3000 := by
  have := Mdl.S_bd (f := fun i => t.getD i 0 * sh l p i) (a := 1000) i (fun j hj => ts_bd O hp (by omega))
  have := O.TT
  omega
theorem l3_l (O : OKS l t T) (F : Fitted l T m) {p : Nat} (hp : p < l.length) (e e' x11 x12 : Int) : ∀ (d fuel i : Nat), T = i + d → d < fuel →
    ∃ r, nspeculumtop_TopModelLeast_l3_0 k l t ((T : Int), e) (m, e') x11 x12 (p : Int) fuel (er l p * m.Den - S (fun i => m.Terms.getD i 0 * sh l p i) i) (er l p - S (fun i => t.getD i 0 * sh l p i) i) (i : Int) = some r ∧ (r = .inl () ∨ r = .inr (rs m l p, yp t l T p)) := by
  have hT := O.TT
  have hl := F.len
  have htl := O.tl
  have hn := (O.p p hp).1
  have hns : ns l p = (l.getD p default).Shapes.length := rfl
  intro d
  induction d with
  | zero =>
    intro fuel i he hf
    obtain ⟨f, rfl⟩ : ∃ f, fuel = f + 1 := ⟨fuel - 1, by omega⟩
    refine ⟨_, by rw [nspeculumtop_TopModelLeast_l3_0.eq_2, if_neg (show ¬ (i : Int) < (T : Int) by omega)], .inr ?_⟩
    unfold rs pd yp
    rw [hl, show i = T by omega]
  | succ d ih =>
    intro fuel i he hf
    obtain ⟨f, rfl⟩ : ∃ f, fuel = f + 1 := ⟨fuel - 1, by omega⟩
    have b1 := ed_bd O F hp
    have b2 := pd_bd O F hp (i := i) (by omega)
    have b3 := ms_bd O F hp i
    have b4 := ty_bd O hp (i := i) (by omega)
    have b5 := ts_bd O hp (i := i) (by omega)
    have b6 := (O.p p hp).2.1
    rw [nspeculumtop_TopModelLeast_l3_0.eq_2, if_pos (show (i : Int) < (T : Int) by omega), if_pos (show 0 ≤ (i : Int) ∧ (i : Int) < (m.Terms.length : Int) by omega), within_base, Option.bind_some]
    by_cases c : inR (-10000000) 10000000 (m.Terms.getD ((i : Int)).toNat 0) = true
    case neg => rw [if_neg c]; exact ⟨_, rfl, .inl rfl⟩
    rw [if_pos c, if_pos (by omega), Int.toNat_natCast, if_pos (by omega), if_pos (by omega), Int.toNat_natCast]
    dsimp only
    rw [show (l.getD p default).Shapes.getD i 0 = sh l p i from rfl, w64_id (n := m.Terms.getD i 0 * sh l p i) (by omega) (by omega), w64_id (n := t.getD i 0 * sh l p i) (by omega) (by omega), w64_id (n := er l p * m.Den - _ - _) (by omega) (by omega), w64_id (n := er l p - _ - _) (by omega) (by omega), w64_succ (by omega)]
    have ex : er l p * m.Den - S (fun i => m.Terms.getD i 0 * sh l p i) i - m.Terms.getD i 0 * sh l p i = er l p * m.Den - S (fun i => m.Terms.getD i 0 * sh l p i) (i + 1) := by simp only [S]; omega
    have ey : er l p - S (fun i => t.getD i 0 * sh l p i) i - t.getD i 0 * sh l p i = er l p - S (fun i => t.getD i 0 * sh l p i) (i + 1) := by simp only [S]; omega
    rw [ex, ey]
    exact ih f (i + 1) (by omega) (by omega)
theorem yp_bd (O : OKS l t T) {p : Nat} (hp : p < l.length) : -3010 ≤ yp t l T p ∧ yp t l T p ≤ 3010 := by
  have b4 := ty_bd O hp (i := T) (Nat.le_refl _)
  have b6 := (O.p p hp).2.1
  unfold yp; omega
theorem l2_l (O : OKS l t T) (F : Fitted l T m) (hk : 2000 < k) (hd : m.Den ≤ 10000) (e e' : Int) : ∀ (d fuel p : Nat), l.length = p + d → d < fuel → (∀ q, q < p → -100000000 ≤ rs m l q ∧ rs m l q ≤ 100000000) →
    ∃ r, nspeculumtop_TopModelLeast_l2_0 k l t ((T : Int), e) (m, e') fuel (S (fun p => rs m l p * rs m l p) p) (S (fun p => yp t l T p * yp t l T p) p) (p : Int) = some r ∧ (r = .inl () ∨ r = .inr (S (fun p => rs m l p * rs m l p) l.length, S (fun p => yp t l T p * yp t l T p) l.length)) := by
  have hn := O.n
  have hT := O.TT
  intro d
  induction d with
  | zero =>
    intro fuel p he hf hq
    obtain ⟨f, rfl⟩ : ∃ f, fuel = f + 1 := ⟨fuel - 1, by omega⟩
    refine ⟨_, by rw [nspeculumtop_TopModelLeast_l2_0.eq_2, if_neg (by omega)], .inr ?_⟩
    rw [show l.length = p by omega]
  | succ d ih =>
    intro fuel p he hf hq
    obtain ⟨f, rfl⟩ : ∃ f, fuel = f + 1 := ⟨fuel - 1, by omega⟩
    have b1 := ed_bd O F (p := p) (by omega)
    obtain ⟨r, e1, e2⟩ := l3_l (k := k) O F (p := p) (by omega) e e' (S (fun p => rs m l p * rs m l p) p) (S (fun p => yp t l T p * yp t l T p) p) T k 0 (by omega) (by omega)
    have e1' : nspeculumtop_TopModelLeast_l3_0 k l t ((T : Int), e) (m, e') (S (fun p => rs m l p * rs m l p) p) (S (fun p => yp t l T p * yp t l T p) p) (p : Int) k (er l p * m.Den) (er l p) 0 = some r := by
      have z1 : er l p * m.Den - S (fun i => m.Terms.getD i 0 * sh l p i) 0 = er l p * m.Den := by simp [S]
      have z2 : er l p - S (fun i => t.getD i 0 * sh l p i) 0 = er l p := by simp [S]
      rw [z1, z2] at e1; exact e1
    rw [nspeculumtop_TopModelLeast_l2_0.eq_2, if_pos (by omega), if_pos (by omega), Int.toNat_natCast]
    dsimp only
    rw [show (l.getD p default).Error = er l p from rfl, w64_id (n := er l p * m.Den) (by omega) (by omega), e1', Option.bind_some]
    rcases e2 with rfl | rfl
    · exact ⟨_, rfl, .inl rfl⟩
    dsimp only
    rw [within_base, Option.bind_some]
    by_cases c : inR (-100000000) 100000000 (rs m l p) = true
    case neg => rw [if_neg c]; exact ⟨_, rfl, .inl rfl⟩
    rw [if_pos c]
    rw [inR_t] at c
    have s1 := abs_mul (x := rs m l p) (y := rs m l p) (a := 100000000) (b := 100000000) (by omega) (by omega)
    have y0 := yp_bd O (p := p) (by omega)
    have s2 := abs_mul (x := yp t l T p) (y := yp t l T p) (a := 3010) (b := 3010) (by omega) (by omega)
    have t1 := Mdl.S_bd (f := fun p => rs m l p * rs m l p) (a := 10000000000000000) p (fun q hq' => by
      have h := hq q hq'
      have s1 := abs_mul (x := rs m l q) (y := rs m l q) (a := 100000000) (b := 100000000) (by omega) (by omega)
      omega)
    have t2 := Mdl.S_bd (f := fun p => yp t l T p * yp t l T p) (a := 10000000) p (fun q hq' => by
      have y0 := yp_bd O (p := q) (by omega)
      have s2 := abs_mul (x := yp t l T q) (y := yp t l T q) (a := 3010) (b := 3010) (by omega) (by omega)
      omega)
    rw [w64_id (n := rs m l p * rs m l p) (by omega) (by omega), w64_id (n := yp t l T p * yp t l T p) (by omega) (by omega), w64_id (n := S (fun p => rs m l p * rs m l p) p + _) (by omega) (by omega), w64_id (n := S (fun p => yp t l T p * yp t l T p) p + _) (by omega) (by omega), w64_succ (by omega)]
    exact ih f (p + 1) (by omega) (by omega) (fun q hq' => by
      by_cases e : q = p
      · rw [e]; exact c
      · exact hq q (by omega))
theorem squares (O : OKS l t T) (F : Fitted l T m) : S (fun p => rs m l p * rs m l p) l.length ≤ S (fun p => yp t l T p * yp t l T p) l.length * m.Den * m.Den := by
  have z : ∀ j, rsum m l j l.length = 0 := fun j => by
    rcases Nat.lt_or_ge j T with c | c
    · exact normal O F c
    · have : rsum m l j l.length = S (fun _ => 0) l.length := Mdl.S_congr l.length fun q hq => by show sh l q j * _ = 0; rw [O.z hq c, Int.zero_mul]
      rw [this]
      generalize l.length = n
      induction n with
      | zero => rfl
      | succ p ih => simp only [S]; omega
  refine Mdl.least (e := er l) (s := sh l) (x := rs m l) (y := yp t l T) (u := m.Terms.getD 0 0 - t.getD 0 0 * m.Den) (v := m.Terms.getD 1 0 - t.getD 1 0 * m.Den) (w := m.Terms.getD 2 0 - t.getD 2 0 * m.Den) (fun p hp => ?_) (z 0) (z 1) (z 2)
  rw [rs3 O F hp]
  unfold yp
  rw [S3 O.TT _ (fun i hi => by show _ * sh l p i = 0; rw [O.z hp hi, Int.mul_zero])]
  grind
end
theorem law_model (k : Nat) (hk : 10000000000000 < k) (l : List SSkyStar) (t : List Int) : nspeculumtop_TopModelLeast k l t = some true := by
  unfold nspeculumtop_TopModelLeast nawake
  obtain ⟨r, e1, e2⟩ := stars_p (k := k) (by omega) l
  rw [Option.bind_some, if_pos rfl, e1, Option.bind_some]
  by_cases c1 : r.2 = 0
  case neg => rw [if_neg c1]
  obtain ⟨rfl, hn, hT, hp⟩ := e2 c1
  generalize ns l 0 = T at *
  dsimp only
  rw [if_pos rfl]
  by_cases c2 : 6 < (l.length : Int)
  · rw [if_pos c2]
  rw [if_neg c2]
  by_cases c3 : (t.length : Int) = (T : Int)
  case neg => rw [if_neg c3]
  rw [if_pos c3]
  obtain ⟨b, e3⟩ := few_p (k := k) (by omega) l (by omega)
  rw [e3, Option.bind_some]
  by_cases c4 : b = true
  case neg => rw [if_neg c4]
  rw [if_pos c4]
  obtain ⟨r, e4, e5⟩ := lawp_l (k := k) (by omega) l t (T := T) (by omega) (by omega) 0 (by omega) l.length k 0 (by omega) (by omega)
  rw [show nspeculumtop_TopModelLeast_l0_0 k l t ((T : Int), 0) k 0 = _ from e4, Option.bind_some]
  rcases e5 with rfl | ⟨rfl, e5⟩
  · rfl
  dsimp only
  have O : OKS l t T := ⟨by omega, hT, by omega, fun p hp => e5 p (by omega) hp⟩
  obtain ⟨m, e, e6, e7⟩ := fit_p O hk e1
  rw [e6, Option.bind_some]
  dsimp only
  rcases e7 with rfl | ⟨rfl, F⟩
  · rfl
  have hl := F.len
  have hpos := F.pos
  rw [if_pos rfl, if_pos (by omega), checkFit_p O F hk e1, Option.bind_some, if_pos rfl, within_base, Option.bind_some]
  by_cases c5 : inR 1 10000 m.Den = true
  case neg => rw [if_neg c5, decide_eq_true hpos]
  rw [if_pos c5]
  rw [inR_t] at c5
  obtain ⟨r, e8, e9⟩ := l2_l (k := k) O F (by omega) c5.2 0 0 l.length k 0 (by omega) (by omega) (fun q hq => by omega)
  rw [show nspeculumtop_TopModelLeast_l2_0 k l t ((T : Int), 0) (m, 0) k 0 0 0 = _ from e8, Option.bind_some]
  rcases e9 with rfl | rfl
  · rfl
  dsimp only
  have t2 := Mdl.S_bd (f := fun p => yp t l T p * yp t l T p) (a := 10000000) l.length (fun q hq' => by
      have y0 := yp_bd O (p := q) (by omega)
      have s2 := abs_mul (x := yp t l T q) (y := yp t l T q) (a := 3010) (b := 3010) (by omega) (by omega)
      omega)
  have s3 := abs_mul (x := S (fun p => yp t l T p * yp t l T p) l.length) (y := m.Den) (a := 60000000) (b := 10000) (by omega) (by omega)
  have s4 := abs_mul (x := S (fun p => yp t l T p * yp t l T p) l.length * m.Den) (y := m.Den) (a := 600000000000) (b := 10000) (by omega) (by omega)
  rw [w64_id (n := S (fun p => yp t l T p * yp t l T p) l.length * m.Den) (by omega) (by omega), w64_id (n := S (fun p => yp t l T p * yp t l T p) l.length * m.Den * m.Den) (by omega) (by omega), decide_eq_true (squares O F)]
theorem vc_model (l : List SSkyStar) (t : List Int) : VC Go.Proofs.Try.prog 11 [VV.tr (List.flatMap c_SSkyStar l) l.length, VV.tr (List.map vi t) t.length] (vb true) :=
  nspeculumtop_TopModelLeast_ok 20000000000000 l t true (law_model 20000000000000 (by omega) l t)
end Go.Proofs.Ytmjmggkllmfmlaa.Vg
