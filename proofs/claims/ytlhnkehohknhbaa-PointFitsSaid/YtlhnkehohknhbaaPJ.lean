/- PointFits, plain: models, predictions, the fit, the law. -/
import Derived.Test.YtlhnkehohknhbaaPI
set_option linter.unusedVariables false
set_option linter.unusedSimpArgs false
namespace Go.Proofs.Ytlhnkehohknhbaa.Vg
open Go Go.Proofs.Ytlhnkehohknhbaa.Ev Go.Proofs.Ytlhnkehohknhbaa.Vv
/- Divisors. -/
def gL : Nat → List Int → Nat
  | g, [] => g
  | g, x :: xs => gL (Nat.gcd g x.natAbs) xs
theorem gcd_step (x y : Int) : Nat.gcd y.natAbs (x.tmod y).natAbs = Nat.gcd x.natAbs y.natAbs := by
  rw [Int.natAbs_tmod, Nat.gcd_comm x.natAbs, Nat.gcd_rec y.natAbs x.natAbs, Nat.gcd_comm]
theorem gl (k : Nat) (a : List Int) (z : Int) : ∀ (n fuel : Nat) (x y : Int), y.natAbs < n → n ≤ fuel →
    ∃ r, npoint_divisor_l1_0 k a z fuel x y = some r ∧ nspeculumbase_Gcd_l0_0 k fuel x y = some r ∧ r.natAbs = Nat.gcd x.natAbs y.natAbs := by
  intro n
  induction n with
  | zero => intro fuel x y h; omega
  | succ n ih =>
    intro fuel x y h hf
    obtain ⟨g, rfl⟩ : ∃ g, fuel = g + 1 := ⟨fuel - 1, by omega⟩
    rw [npoint_divisor_l1_0.eq_2, nspeculumbase_Gcd_l0_0.eq_2]
    by_cases h0 : y = 0
    · rw [if_pos h0, if_pos h0]
      exact ⟨x, rfl, rfl, by rw [h0]; simp⟩
    · rw [if_neg h0, if_neg h0, if_pos h0, if_pos h0]
      have hy : 0 < y.natAbs := by omega
      obtain ⟨r, e1, e2, e3⟩ := ih g y (x.tmod y) (by rw [Int.natAbs_tmod]; have := Nat.mod_lt x.natAbs hy; omega) (by omega)
      exact ⟨r, e1, e2, by rw [e3, gcd_step]⟩
theorem gcd_le {g B : Nat} {x : Int} (h1 : g ≤ B) (h2 : x.natAbs ≤ B) : Nat.gcd g x.natAbs ≤ B := by
  rcases Nat.eq_zero_or_pos g with h | h
  · rw [h, Nat.gcd_zero_left]; exact h2
  · exact Nat.le_trans (Nat.gcd_le_left _ h) h1
theorem div_l (k : Nat) (a : List Int) (hl : a.length ≤ 10) (hk : 100000000000000 ≤ k) (ha : ∀ i, i < a.length → (a.getD i 0).natAbs ≤ 10000000000000) : ∀ (d fuel i : Nat) (x : Int), a.length = i + d → d < fuel → x.natAbs ≤ 10000000000000 →
    ∃ r, npoint_divisor_l0_0 k a fuel x (i : Int) = some r ∧ r.natAbs = gL x.natAbs (a.drop i) ∧ r.natAbs ≤ 10000000000000 := by
  intro d
  induction d with
  | zero =>
    intro fuel i x h hf hx
    obtain ⟨g, rfl⟩ : ∃ g, fuel = g + 1 := ⟨fuel - 1, by omega⟩
    rw [npoint_divisor_l0_0.eq_2, if_neg (by omega), List.drop_eq_nil_of_le (by omega)]
    exact ⟨x, rfl, rfl, hx⟩
  | succ d ih =>
    intro fuel i x h hf hx
    obtain ⟨g, rfl⟩ : ∃ g, fuel = g + 1 := ⟨fuel - 1, by omega⟩
    have hai := ha i (by omega)
    obtain ⟨r, e1, _, e3⟩ := gl k a (i : Int) k k x (a.getD i 0) (by omega) (Nat.le_refl _)
    have hr : r.natAbs ≤ 10000000000000 := by rw [e3]; exact gcd_le hx hai
    obtain ⟨q, f1, f2, f3⟩ := ih g (i + 1) r (by omega) (by omega) hr
    rw [npoint_divisor_l0_0.eq_2, if_pos (by omega), if_pos (by omega), Int.toNat_natCast, e1, Option.bind_some, w64_succ (by omega), f1, drop_get (y := a) (i := i) (by omega) 0, gL, ← e3]
    exact ⟨q, rfl, f2, f3⟩
theorem maxI_abs (r : Int) (h : r.natAbs ≤ 10000000000000) : maxI r (w64 (0 - r)) = (r.natAbs : Int) := by
  rw [w64_id (by omega) (by omega)]; unfold maxI; split <;> omega
theorem div_any (k : Nat) (a : List Int) (hl : a.length ≤ 10) (hk : 100000000000000 ≤ k) (ha : ∀ i, i < a.length → (a.getD i 0).natAbs ≤ 10000000000000) : npoint_divisor k a = some (gL 0 a : Int) := by
  obtain ⟨r, e1, e2, e3⟩ := div_l k a hl hk ha a.length k 0 0 (by omega) (by omega) (by simp)
  unfold npoint_divisor
  rw [show ((0 : Nat) : Int) = 0 from rfl] at e1
  rw [e1, Option.bind_some, maxI_abs r e3, e2]; rfl
theorem gcd_ref (k : Nat) (x y : Int) (hx : x.natAbs ≤ 10000000000000) (hy : y.natAbs ≤ 10000000000000) (hk : 100000000000000 ≤ k) : nspeculumbase_Gcd k x y = some (Nat.gcd x.natAbs y.natAbs : Int) := by
  obtain ⟨r, _, e2, e3⟩ := gl k [] 0 k k x y (by omega) (Nat.le_refl _)
  have hr : r.natAbs ≤ 10000000000000 := by rw [e3]; exact gcd_le hx hy
  unfold nspeculumbase_Gcd nspeculumbase_Abs
  rw [e2, Option.bind_some, ← e3]
  by_cases h : r < 0
  · rw [if_pos h, w64_id (by omega) (by omega), Option.bind_some]; congr 1; omega
  · rw [if_neg h, Option.bind_some]; congr 1; omega
theorem gL_app (d : Int) : ∀ (xs : List Int) (g : Nat), gL g (xs ++ [d]) = Nat.gcd (gL g xs) d.natAbs
  | [], g => rfl
  | x :: xs, g => gL_app d xs _
theorem gL_start (a : Nat) : ∀ (xs : List Int) (b : Nat), gL (Nat.gcd a b) xs = Nat.gcd a (gL b xs)
  | [], b => rfl
  | x :: xs, b => by rw [gL, gL, Nat.gcd_assoc, gL_start a xs]
theorem gL_both (d : Int) (xs : List Int) : gL 0 (xs ++ [d]) = gL d.natAbs xs := by
  rw [gL_app, Nat.gcd_comm, ← gL_start, Nat.gcd_zero_right]
theorem gL_pos (d : Int) (hd : 0 < d) (xs : List Int) : 0 < gL d.natAbs xs := by
  rw [← gL_both, gL_app]; exact Nat.gcd_pos_of_pos_right _ (by omega)

/- Models. -/
def isM (n : Int) : Bool := inR (-1000000000000) 1000000000000 n
theorem isM_bd {n : Int} (h : isM n = true) : n.natAbs ≤ 1000000000000 := by have := inR_t.1 h; omega
def modE (m : SSkyModel) : Int := match inR 1 3 m.Terms.length with
  | false => 10
  | true => match inR 1 1000000000000 m.Den with
    | false => 2
    | true => match m.Terms.all isM with
      | false => 2
      | true => if 1 < (gL 0 (m.Terms ++ [m.Den]) : Int) then 3 else 0
theorem model_point (k : Nat) (hk : 100000000000000 ≤ k) (hk2 : k ≤ 100000000000000000000) (m : SSkyModel) (hm : m.Terms.length ≤ 6) : npoint_CheckModel k m = some (modE m) := by
  unfold npoint_CheckModel modE
  rw [areWithin_1 k _ _ _ (by omega) hk2, areWithin_1 k _ _ _ (by omega) hk2, areSmall_any k _ _ (by decide) (by omega) (by omega)]
  simp only [Option.bind_some]
  cases h1 : inR 1 3 (m.Terms.length : Int) with
  | false => rfl
  | true =>
    rw [if_pos rfl]
    cases h2 : inR 1 1000000000000 m.Den with
    | false => rfl
    | true =>
      rw [if_pos rfl]
      cases h3 : m.Terms.all (inR (-1000000000000) 1000000000000) with
      | false => rw [if_neg (by decide), show m.Terms.all isM = false from h3]
      | true =>
        rw [if_pos rfl, show m.Terms.all isM = true from h3]
        have b1 := inR_t.1 h1
        have b2 := inR_t.1 h2
        unfold nslices_Clone_int_int_
        rw [if_pos (by omega), if_pos (by simp; omega), Option.bind_some, if_pos (by simp; omega), List.nil_append]
        rw [div_any k _ (by simp; omega) hk ?_, Option.bind_some]
        · by_cases h4 : 1 < (gL 0 (m.Terms ++ [m.Den]) : Int)
          · rw [if_pos h4]; exact congrArg some (if_pos h4).symm
          · rw [if_neg h4]; exact congrArg some (if_neg h4).symm
        · intro i hi
          have hmem : (m.Terms ++ [m.Den]).getD i 0 ∈ m.Terms ++ [m.Den] := by
            rw [List.getD_eq_getElem?_getD, List.getElem?_eq_getElem hi]; exact List.getElem_mem hi
          rcases List.mem_append.1 hmem with h | h
          · have := isM_bd (List.all_eq_true.1 h3 _ h); omega
          · rw [List.mem_singleton.1 h]; omega
def sumG (b : Bool) (g : Nat) : Sum Unit Int := match b with | true => .inr (g : Int) | false => .inl ()
theorem modelR_l (k : Nat) (hk : 100000000000000 ≤ k) (m : SSkyModel) (hm : m.Terms.length ≤ 6) : ∀ (d fuel i G : Nat), m.Terms.length = i + d → d < fuel → G ≤ 1000000000000 →
    nspeculumref09_CheckModel_l0_0 k m fuel (G : Int) (i : Int) = some (sumG ((m.Terms.drop i).all isM) (gL G (m.Terms.drop i))) := by
  intro d
  induction d with
  | zero =>
    intro fuel i G h hf hG
    obtain ⟨g, rfl⟩ : ∃ g, fuel = g + 1 := ⟨fuel - 1, by omega⟩
    rw [nspeculumref09_CheckModel_l0_0.eq_2, if_neg (by omega), List.drop_eq_nil_of_le (by omega)]; rfl
  | succ d ih =>
    intro fuel i G h hf hG
    obtain ⟨g, rfl⟩ : ∃ g, fuel = g + 1 := ⟨fuel - 1, by omega⟩
    rw [nspeculumref09_CheckModel_l0_0.eq_2, if_pos (by omega), if_pos (by omega), within_base, Option.bind_some, Int.toNat_natCast, drop_get (y := m.Terms) (i := i) (by omega) 0, List.all_cons]
    change (if isM (m.Terms.getD i 0) = true then _ else _) = _
    cases h1 : isM (m.Terms.getD i 0) with
    | false => rfl
    | true =>
      have hb := isM_bd h1
      rw [if_pos rfl, gcd_ref k _ _ (by omega) (by omega) hk, Option.bind_some, w64_succ (by omega), Int.natAbs_natCast, Nat.gcd_comm, ih g (i + 1) _ (by omega) (by omega) (gcd_le hG hb), Bool.true_and, gL]
theorem model_ref (k : Nat) (hk : 100000000000000 ≤ k) (m : SSkyModel) (hm : m.Terms.length ≤ 6) : nspeculumref09_CheckModel k m = some (modE m) := by
  unfold nspeculumref09_CheckModel modE
  rw [within_base, within_base]
  simp only [Option.bind_some]
  cases h1 : inR 1 3 (m.Terms.length : Int) with
  | false => rfl
  | true =>
    rw [if_pos rfl]
    cases h2 : inR 1 1000000000000 m.Den with
    | false => rfl
    | true =>
      have b2 := inR_t.1 h2
      have e := modelR_l k hk m hm m.Terms.length k 0 m.Den.natAbs (by omega) (by omega) (by omega)
      rw [show ((m.Den.natAbs : Nat) : Int) = m.Den by omega, List.drop_zero] at e
      rw [if_pos rfl, show nspeculumref09_CheckModel_l0_0 k m k m.Den 0 = _ from e, Option.bind_some]
      cases h3 : m.Terms.all isM with
      | false => rfl
      | true =>
        change (if (gL m.Den.natAbs m.Terms : Int) = 1 then some 0 else some 3) = some (if 1 < (gL 0 (m.Terms ++ [m.Den]) : Int) then 3 else 0)
        rw [gL_both]
        have hp := gL_pos m.Den (by omega) m.Terms
        by_cases h4 : (gL m.Den.natAbs m.Terms : Int) = 1
        · rw [if_pos h4, if_neg (by omega)]
        · rw [if_neg h4, if_pos (by omega)]
theorem mod_zero {m : SSkyModel} (h : modE m = 0) : 1 ≤ m.Terms.length ∧ m.Terms.length ≤ 3 ∧ 1 ≤ m.Den := by
  unfold modE at h
  cases h1 : inR 1 3 (m.Terms.length : Int) with
  | false => rw [h1] at h; exact absurd (show (10 : Int) = 0 from h) (by decide)
  | true =>
    rw [h1] at h
    cases h2 : inR 1 1000000000000 m.Den with
    | false => rw [h2] at h; exact absurd (show (2 : Int) = 0 from h) (by decide)
    | true => have := inR_t.1 h1; have := inR_t.1 h2; omega

/- Products. -/
def dw : Int → List Int → List Int → Int
  | s, x :: xs, y :: ys => dw (w64 (s + w64 (x * y))) xs ys
  | s, [], _ => s
  | s, _ :: _, [] => s
theorem dw_nil (s : Int) (b : List Int) : dw s [] b = s := by cases b <;> rfl
theorem prodP_l (k : Nat) (a b : List Int) (hab : a.length = b.length) (hl : a.length ≤ 6) : ∀ (d fuel i : Nat) (s : Int), a.length = i + d → d < fuel →
    npoint_product_l0_0 k a b fuel (i : Int) s = some (dw s (a.drop i) (b.drop i)) := by
  intro d
  induction d with
  | zero =>
    intro fuel i s h hf
    obtain ⟨g, rfl⟩ : ∃ g, fuel = g + 1 := ⟨fuel - 1, by omega⟩
    rw [npoint_product_l0_0.eq_2, if_neg (by omega), List.drop_eq_nil_of_le (by omega), dw_nil]
  | succ d ih =>
    intro fuel i s h hf
    obtain ⟨g, rfl⟩ : ∃ g, fuel = g + 1 := ⟨fuel - 1, by omega⟩
    rw [npoint_product_l0_0.eq_2, if_pos (by omega), if_pos (by omega), if_pos (by omega), w64_succ (by omega), ih g (i + 1) _ (by omega) (by omega), drop_get (y := a) (i := i) (by omega) 0, drop_get (y := b) (i := i) (by omega) 0, dw, Int.toNat_natCast]
theorem prodR_l (k : Nat) (m : SSkyModel) (b : List Int) (hab : m.Terms.length = b.length) (hl : b.length ≤ 6) : ∀ (d fuel i : Nat) (s : Int), b.length = i + d → d < fuel →
    nspeculumref09_predicted_l0_0 k m b fuel s (i : Int) = some (dw s (m.Terms.drop i) (b.drop i)) := by
  intro d
  induction d with
  | zero =>
    intro fuel i s h hf
    obtain ⟨g, rfl⟩ : ∃ g, fuel = g + 1 := ⟨fuel - 1, by omega⟩
    rw [nspeculumref09_predicted_l0_0.eq_2, if_neg (by omega), show m.Terms.drop i = [] from List.drop_eq_nil_of_le (by omega), dw_nil]
  | succ d ih =>
    intro fuel i s h hf
    obtain ⟨g, rfl⟩ : ∃ g, fuel = g + 1 := ⟨fuel - 1, by omega⟩
    rw [nspeculumref09_predicted_l0_0.eq_2, if_pos (by omega), if_pos (by omega), if_pos (by omega), w64_succ (by omega), ih g (i + 1) _ (by omega) (by omega), drop_get (y := m.Terms) (i := i) (by omega) 0, drop_get (y := b) (i := i) (by omega) 0, dw, Int.toNat_natCast]
theorem prod_point (k : Nat) (hk : 100 < k) (a b : List Int) (hab : a.length = b.length) (hl : a.length ≤ 6) : npoint_product k a b = some (dw 0 a b) := by
  unfold npoint_product
  rw [show npoint_product_l0_0 k a b k 0 0 = _ from prodP_l k a b hab hl a.length k 0 0 (by omega) (by omega)]; rfl
theorem prod_ref (k : Nat) (hk : 100 < k) (m : SSkyModel) (b : List Int) (hab : m.Terms.length = b.length) (hl : b.length ≤ 6) : nspeculumref09_predicted k m b = some (dw 0 m.Terms b) := by
  unfold nspeculumref09_predicted
  rw [show nspeculumref09_predicted_l0_0 k m b k 0 0 = _ from prodR_l k m b hab hl b.length k 0 0 (by omega) (by omega)]; rfl
def dnI (n d : Int) : Int := if n.tmod d < 0 then w64 (w64 (n.tdiv d) - 1) else w64 (n.tdiv d)
theorem down_w (k : Nat) (n d : Int) (hd : d ≠ 0) : npoint_down k n d = some (dnI n d) := by
  unfold npoint_down dnI
  rw [if_pos hd]
  by_cases h : n.tmod d < 0
  · rw [if_pos h, if_pos h]
  · rw [if_neg h, if_neg h]
theorem floor_w (k : Nat) (n d : Int) (hd : d ≠ 0) : nspeculumbase_Floor k n d = some (dnI n d) := down_w k n d hd
theorem up_w (k : Nat) (n d : Int) (hd : d ≠ 0) : npoint_up k n d = some (w64 (0 - dnI (w64 (0 - n)) d)) := by
  unfold npoint_up; rw [down_w k _ _ hd]; rfl
theorem ceil_w (k : Nat) (n d : Int) (hd : d ≠ 0) : nspeculumbase_Ceil k n d = some (w64 (0 - dnI (w64 (0 - n)) d)) := by
  unfold nspeculumbase_Ceil; rw [floor_w k _ _ hd]; rfl

/- Predictions. -/
def preR (m : SSkyModel) (xs : List Int) : SRange × Int :=
  if xs.length = m.Terms.length then (match xs.all (inR (-1000) 1000) with
    | true => (⟨dnI (dw 0 m.Terms xs) m.Den, w64 (0 - dnI (w64 (0 - dw 0 m.Terms xs)) m.Den)⟩, 0)
    | false => (⟨0, 0⟩, 2)) else (⟨0, 0⟩, 10)
theorem pre_point (k : Nat) (hk : 100000000000000 ≤ k) (hk2 : k ≤ 100000000000000000000) (m : SSkyModel) (hm : m.Terms.length ≤ 6) (xs : List Int) (hx : xs.length ≤ 6) : npoint_Predicted k m xs = some (if modE m = 0 then preR m xs else (⟨0, 0⟩, modE m)) := by
  unfold npoint_Predicted preR
  rw [model_point k hk hk2 m hm, Option.bind_some]
  by_cases h0 : modE m = 0
  · rw [if_pos h0, if_pos h0]
    by_cases h1 : xs.length = m.Terms.length
    · have hz := mod_zero h0
      rw [if_pos (by omega), if_pos h1, areSmall_any k _ _ (by decide) (by omega) (by omega), Option.bind_some]
      cases h2 : xs.all (inR (-1000) 1000) with
      | false => rfl
      | true => rw [if_pos rfl, prod_point k (by omega) _ _ h1.symm hm, Option.bind_some, down_w k _ _ (by omega), Option.bind_some, up_w k _ _ (by omega)]; rfl
    · rw [if_neg (by omega), if_neg h1]
  · rw [if_neg h0, if_neg h0]
theorem preR_l (k : Nat) (m : SSkyModel) (xs : List Int) (hl : xs.length ≤ 6) : ∀ (d fuel i : Nat), xs.length = i + d → d < fuel →
    nspeculumref09_Predicted_l0_0 k m xs fuel (i : Int) = some (sumB ((xs.drop i).all (inR (-1000) 1000))) := by
  intro d
  induction d with
  | zero =>
    intro fuel i h hf
    obtain ⟨g, rfl⟩ : ∃ g, fuel = g + 1 := ⟨fuel - 1, by omega⟩
    rw [nspeculumref09_Predicted_l0_0.eq_2, if_neg (by omega), List.drop_eq_nil_of_le (by omega)]; rfl
  | succ d ih =>
    intro fuel i h hf
    obtain ⟨g, rfl⟩ : ∃ g, fuel = g + 1 := ⟨fuel - 1, by omega⟩
    rw [nspeculumref09_Predicted_l0_0.eq_2, if_pos (by omega), if_pos (by omega), within_base, Option.bind_some, w64_succ (by omega), ih g (i + 1) (by omega) (by omega), drop_get (y := xs) (i := i) (by omega) 0, Int.toNat_natCast, List.all_cons]
    cases inR (-1000) 1000 (xs.getD i 0) <;> rfl
theorem pre_ref (k : Nat) (hk : 100 < k) (m : SSkyModel) (h0 : modE m = 0) (xs : List Int) (hx : xs.length ≤ 6) : nspeculumref09_Predicted k m xs = some (preR m xs) := by
  unfold nspeculumref09_Predicted preR
  have hz := mod_zero h0
  by_cases h1 : xs.length = m.Terms.length
  · rw [if_pos (by omega), if_pos h1, show nspeculumref09_Predicted_l0_0 k m xs k 0 = _ from preR_l k m xs hx xs.length k 0 (by omega) (by omega), List.drop_zero, Option.bind_some]
    cases h2 : xs.all (inR (-1000) 1000) with
    | false => rfl
    | true =>
      change ((nspeculumref09_predicted k m xs).bind fun r2101 => _) = _
      rw [prod_ref k hk m xs h1.symm hx, Option.bind_some, floor_w k _ _ (by omega), Option.bind_some, ceil_w k _ _ (by omega)]; rfl
  · rw [if_neg (by omega), if_neg h1]

/- The sums of a fit. -/
def lst (n : Nat) (g : Nat → Int) : List Int := (List.range n).map g
theorem lst_len (n : Nat) (g : Nat → Int) : (lst n g).length = n := by simp [lst]
theorem lst_get {n : Nat} (g : Nat → Int) {i : Nat} (h : i < n) : (lst n g).getD i 0 = g i := by
  rw [List.getD_eq_getElem?_getD]; simp [lst, h]
theorem lst_set {n : Nat} (g : Nat → Int) (i : Nat) (x : Int) : (lst n g).set i x = lst n (fun j => if j = i then x else g j) := by
  apply List.ext_getElem
  · simp [lst]
  · intro j h1 h2
    rw [List.getElem_set]
    simp only [lst, List.getElem_map, List.getElem_range]
    by_cases h : i = j
    · rw [if_pos h, if_pos h.symm]
    · rw [if_neg h, if_neg (fun e => h e.symm)]
theorem lst_congr {n : Nat} {g g' : Nat → Int} (h : ∀ j, j < n → g j = g' j) : lst n g = lst n g' :=
  List.map_congr_left fun j hj => h j (List.mem_range.1 hj)
theorem lst_zero (n : Nat) : List.replicate n (0 : Int) = lst n (fun _ => 0) := by
  apply List.ext_getElem
  · simp [lst]
  · intro j h1 h2; simp [lst]
def stepS (m : SSkyModel) (x : SSkyStar) (j : Nat) (s : Int) : Int := w64 (s + w64 (x.Shapes.getD j 0 * w64 (w64 (x.Error * m.Den) - dw 0 m.Terms x.Shapes)))
def accS (m : SSkyModel) (j : Nat) : Int → List SSkyStar → Int
  | s, [] => s
  | s, x :: xs => accS m j (stepS m x j s) xs
theorem fit1_l (k : Nat) (l : List SSkyStar) (m : SSkyModel) (i0 n : Nat) (hn : (l.getD i0 default).Shapes.length = n) (hl : n ≤ 6) : ∀ (d fuel i : Nat) (g : Nat → Int), n = i + d → d < fuel →
    npoint_CheckFit_l1_0 k l m (i0 : Int) (dw 0 m.Terms (l.getD i0 default).Shapes) fuel (lst n g) (i : Int) = some (lst n (fun j => if i ≤ j then stepS m (l.getD i0 default) j (g j) else g j)) := by
  intro d
  induction d with
  | zero =>
    intro fuel i g h hf
    obtain ⟨f, rfl⟩ : ∃ f, fuel = f + 1 := ⟨fuel - 1, by omega⟩
    rw [npoint_CheckFit_l1_0.eq_2, Int.toNat_natCast, if_neg (by omega)]
    exact congrArg some (lst_congr fun j hj => (if_neg (by omega)).symm)
  | succ d ih =>
    intro fuel i g h hf
    obtain ⟨f, rfl⟩ : ∃ f, fuel = f + 1 := ⟨fuel - 1, by omega⟩
    rw [npoint_CheckFit_l1_0.eq_2, Int.toNat_natCast, if_pos (by omega), if_pos (by omega), if_pos (by rw [lst_len]; omega), w64_succ (by omega), Int.toNat_natCast, lst_get g (by omega), lst_set, ih f (i + 1) _ (by omega) (by omega)]
    refine congrArg some (lst_congr fun j hj => ?_)
    by_cases h1 : j = i
    · subst h1; rw [if_neg (by omega), if_pos (Nat.le_refl _), if_pos rfl]; rfl
    · rw [if_neg h1]
      by_cases h2 : i + 1 ≤ j
      · rw [if_pos h2, if_pos (by omega)]
      · rw [if_neg h2, if_neg (by omega)]
theorem fit0_l (k : Nat) (hk : 100 < k) (l : List SSkyStar) (m : SSkyModel) (n : Nat) (hs : ∀ i, i < l.length → (l.getD i default).Shapes.length = n) (hn : n ≤ 6) (hm : m.Terms.length = n) (hl : l.length ≤ 23) : ∀ (d fuel i : Nat) (g : Nat → Int), l.length = i + d → d < fuel →
    npoint_CheckFit_l0_0 k l m fuel (lst n g) (i : Int) = some (lst n (fun j => accS m j (g j) (l.drop i))) := by
  intro d
  induction d with
  | zero =>
    intro fuel i g h hf
    obtain ⟨f, rfl⟩ : ∃ f, fuel = f + 1 := ⟨fuel - 1, by omega⟩
    rw [npoint_CheckFit_l0_0.eq_2, if_neg (by omega), List.drop_eq_nil_of_le (by omega)]; rfl
  | succ d ih =>
    intro fuel i g h hf
    obtain ⟨f, rfl⟩ : ∃ f, fuel = f + 1 := ⟨fuel - 1, by omega⟩
    have hi := hs i (by omega)
    rw [npoint_CheckFit_l0_0.eq_2, if_pos (by omega), if_pos (by omega), Int.toNat_natCast, prod_point k hk _ _ (by omega) (by omega), Option.bind_some,
      show npoint_CheckFit_l1_0 k l m (i : Int) (dw 0 m.Terms (l.getD i default).Shapes) k (lst n g) 0 = _ from fit1_l k l m i n hi hn n k 0 g (by omega) (by omega), Option.bind_some, w64_succ (by omega), ih f (i + 1) _ (by omega) (by omega), drop_get (y := l) (i := i) (by omega) default]
    exact congrArg some (lst_congr fun j hj => by rw [if_pos (Nat.zero_le _), accS])
def isZ (n : Int) : Bool := decide (n = 0)
theorem cont_l (k : Nat) (xs : List Int) (hl : xs.length ≤ 6) : ∀ (d fuel i : Nat), xs.length = i + d → d < fuel →
    ((xs.drop i).all isZ = true ∧ nslices_IndexFunc_int_int__c1_100_l0_0 k xs fuel (i : Int) = some (.inr ())) ∨ ((xs.drop i).all isZ = false ∧ ∃ j : Nat, nslices_IndexFunc_int_int__c1_100_l0_0 k xs fuel (i : Int) = some (.inl (j : Int))) := by
  intro d
  induction d with
  | zero =>
    intro fuel i h hf
    obtain ⟨g, rfl⟩ : ∃ g, fuel = g + 1 := ⟨fuel - 1, by omega⟩
    rw [nslices_IndexFunc_int_int__c1_100_l0_0.eq_2, if_neg (by omega), List.drop_eq_nil_of_le (by omega)]; exact .inl ⟨rfl, rfl⟩
  | succ d ih =>
    intro fuel i h hf
    obtain ⟨g, rfl⟩ : ∃ g, fuel = g + 1 := ⟨fuel - 1, by omega⟩
    have e := ih g (i + 1) (by omega) (by omega)
    rw [nslices_IndexFunc_int_int__c1_100_l0_0.eq_2, if_pos (by omega), if_pos (by omega), w64_succ (by omega), drop_get (y := xs) (i := i) (by omega) 0, List.all_cons, Int.toNat_natCast]
    change _ ∧ (if (!isZ (xs.getD i 0)) = true then _ else _) = _ ∨ _ ∧ ∃ j : Nat, (if (!isZ (xs.getD i 0)) = true then _ else _) = _
    cases h1 : isZ (xs.getD i 0) with
    | false => exact .inr ⟨rfl, i, rfl⟩
    | true => exact e
theorem cont_any (k : Nat) (hk : 100 < k) (xs : List Int) (hl : xs.length ≤ 6) : nslices_ContainsFunc_int_int__c1_100 k xs = some (!xs.all isZ) := by
  unfold nslices_ContainsFunc_int_int__c1_100 nslices_IndexFunc_int_int__c1_100
  rcases cont_l k xs hl xs.length k 0 (by omega) (by omega) with ⟨h1, h2⟩ | ⟨h1, j, h2⟩
  · rw [show ((0 : Nat) : Int) = 0 from rfl] at h2
    rw [List.drop_zero] at h1
    rw [h2, h1]; rfl
  · rw [show ((0 : Nat) : Int) = 0 from rfl] at h2
    rw [List.drop_zero] at h1
    rw [h2, h1]
    change some (decide (0 ≤ (j : Int))) = some true
    rw [decide_eq_true (by omega)]
theorem fitR1_l (k : Nat) (hk : 100 < k) (l : List SSkyStar) (m : SSkyModel) (n : Nat) (hs : ∀ i, i < l.length → (l.getD i default).Shapes.length = n) (hn : n ≤ 6) (hm : m.Terms.length = n) (hl : l.length ≤ 23) (j : Nat) (hj : j < n) : ∀ (d fuel i : Nat) (s : Int), l.length = i + d → d < fuel →
    nspeculumref09_CheckFit_l1_0 k l m (j : Int) fuel s (i : Int) = some (accS m j s (l.drop i)) := by
  intro d
  induction d with
  | zero =>
    intro fuel i s h hf
    obtain ⟨f, rfl⟩ : ∃ f, fuel = f + 1 := ⟨fuel - 1, by omega⟩
    rw [nspeculumref09_CheckFit_l1_0.eq_2, if_neg (by omega), List.drop_eq_nil_of_le (by omega)]; rfl
  | succ d ih =>
    intro fuel i s h hf
    obtain ⟨f, rfl⟩ : ∃ f, fuel = f + 1 := ⟨fuel - 1, by omega⟩
    have hi := hs i (by omega)
    rw [nspeculumref09_CheckFit_l1_0.eq_2, if_pos (by omega), if_pos (by omega), Int.toNat_natCast, if_pos (by omega), prod_ref k hk _ _ (by omega) (by omega), Option.bind_some, w64_succ (by omega), ih f (i + 1) _ (by omega) (by omega), drop_get (y := l) (i := i) (by omega) default, accS, Int.toNat_natCast]; rfl
theorem fitR0_l (k : Nat) (hk : 100 < k) (l : List SSkyStar) (m : SSkyModel) (n : Nat) (hs : ∀ i, i < l.length → (l.getD i default).Shapes.length = n) (hn : n ≤ 6) (hm : m.Terms.length = n) (hl : l.length ≤ 23) : ∀ (d fuel i : Nat), n = i + d → d < fuel →
    nspeculumref09_CheckFit_l0_0 k l m fuel (i : Int) = some (sumB (((lst n (fun j => accS m j 0 l)).drop i).all isZ)) := by
  intro d
  induction d with
  | zero =>
    intro fuel i h hf
    obtain ⟨f, rfl⟩ : ∃ f, fuel = f + 1 := ⟨fuel - 1, by omega⟩
    rw [nspeculumref09_CheckFit_l0_0.eq_2, if_neg (by omega), List.drop_eq_nil_of_le (by rw [lst_len]; omega)]; rfl
  | succ d ih =>
    intro fuel i h hf
    obtain ⟨f, rfl⟩ : ∃ f, fuel = f + 1 := ⟨fuel - 1, by omega⟩
    rw [nspeculumref09_CheckFit_l0_0.eq_2, if_pos (by omega), show nspeculumref09_CheckFit_l1_0 k l m (i : Int) k 0 0 = _ from fitR1_l k hk l m n hs hn hm hl i (by omega) l.length k 0 0 (by omega) (by omega), List.drop_zero, Option.bind_some, w64_succ (by omega), ih f (i + 1) (by omega) (by omega), drop_get (y := lst n (fun j => accS m j 0 l)) (i := i) (by rw [lst_len]; omega) 0, lst_get _ (by omega), List.all_cons]
    by_cases h1 : accS m i 0 l = 0
    · rw [if_pos h1, show isZ (accS m i 0 l) = true from decide_eq_true h1, Bool.true_and]
    · rw [if_neg h1, show isZ (accS m i 0 l) = false from decide_eq_false h1]; rfl
def fitE (l : List SSkyStar) (m : SSkyModel) : Int := if m.Terms.length = starsN l then (match (lst (starsN l) (fun j => accS m j 0 l)).all isZ with | true => 0 | false => 22) else 10
theorem fit_point (k : Nat) (hk : 100000000000000 ≤ k) (hk2 : k ≤ 100000000000000000000) (l : List SSkyStar) (hs : ∀ i, i < l.length → (l.getD i default).Shapes.length ≤ 6) (hl : l.length ≤ 23) (m : SSkyModel) (hm : m.Terms.length ≤ 6) : npoint_CheckFit k l m = some (if starsE l = 0 then (if modE m = 0 then fitE l m else modE m) else starsE l) := by
  unfold npoint_CheckFit
  rw [stars_point k (by omega) hk2 l hs hl, Option.bind_some]
  unfold starsR
  by_cases h0 : starsE l = 0
  · rw [if_pos h0, if_pos h0]
    have hz := stars_zero h0
    rw [if_pos rfl, model_point k hk hk2 m hm, Option.bind_some]
    by_cases h1 : modE m = 0
    · rw [if_pos h1, if_pos h1]
      unfold fitE
      by_cases h2 : m.Terms.length = starsN l
      · rw [if_pos h2, if_pos (show (m.Terms.length : Int) = ((starsN l : Int), (0 : Int)).1 by exact congrArg Nat.cast h2), if_pos (show 0 ≤ ((starsN l : Int), (0 : Int)).1 ∧ ((starsN l : Int), (0 : Int)).1 ≤ 1000000000 by constructor <;> (show _ ≤ _) <;> simp only [] <;> omega)]
        rw [show (((starsN l : Int), (0 : Int)).1).toNat = starsN l from Int.toNat_natCast _, lst_zero, show npoint_CheckFit_l0_0 k l m k (lst (starsN l) fun _ => 0) 0 = _ from fit0_l k (by omega) l m (starsN l) hz.2.2.2.2 (by omega) h2 hl l.length k 0 _ (by omega) (by omega), List.drop_zero, Option.bind_some, cont_any k (by omega) _ (by rw [lst_len]; omega), Option.bind_some]
        cases (lst (starsN l) (fun j => accS m j 0 l)).all isZ <;> rfl
      · rw [if_neg h2, if_neg (show ¬(m.Terms.length : Int) = ((starsN l : Int), (0 : Int)).1 by intro e; exact h2 (Int.ofNat.inj e))]
    · rw [if_neg h1, if_neg h1]
  · rw [if_neg h0, if_neg h0, if_neg h0]
theorem fit_ref (k : Nat) (hk : 100 < k) (l : List SSkyStar) (h0 : starsE l = 0) (m : SSkyModel) (hm : m.Terms.length ≤ 6) : nspeculumref09_CheckFit k l m = some (fitE l m) := by
  have hz := stars_zero h0
  unfold nspeculumref09_CheckFit fitE
  rw [if_pos (by omega)]
  change (if (m.Terms.length : Int) = ((starsN l : Nat) : Int) then _ else _) = _
  by_cases h2 : m.Terms.length = starsN l
  · rw [if_pos h2, if_pos (show (m.Terms.length : Int) = (starsN l : Int) by omega), show nspeculumref09_CheckFit_l0_0 k l m k 0 = _ from fitR0_l k hk l m (starsN l) hz.2.2.2.2 (by omega) h2 (by omega) (starsN l) k 0 (by omega) (by omega), List.drop_zero, Option.bind_some]
    cases (lst (starsN l) (fun j => accS m j 0 l)).all isZ <;> rfl
  · rw [if_neg h2, if_neg (show ¬(m.Terms.length : Int) = (starsN l : Int) by omega)]
theorem law_fits (k : Nat) (l : List SSkyStar) (m : SSkyModel) (xs : List Int) (hl : l.length ≤ 9223372036854775807) (hk : k = l.length + 100000000000000) : nspeculumlaw09_PointFits k l m xs = some true := by
  unfold nspeculumlaw09_PointFits
  rw [show nawake k = some true from rfl, Option.bind_some, if_pos rfl, few_any k l (by omega) hl, Option.bind_some]
  cases hf : fewB l with
  | false => rfl
  | true =>
    obtain ⟨hs, hl2⟩ := few_facts hf
    rw [if_pos rfl]
    by_cases c1 : 6 < (m.Terms.length : Int)
    · rw [if_pos c1]
    · rw [if_neg c1]
      by_cases c2 : 6 < (xs.length : Int)
      · rw [if_pos c2]
      · have hk1 : 100000000000000 ≤ k := by omega
        have hk2 : k ≤ 100000000000000000000 := by omega
        have hm : m.Terms.length ≤ 6 := by omega
        rw [if_neg c2, stars_copy k l hs hl2 (by omega), Option.bind_some, model_copy k m (by omega), Option.bind_some, fit_point k hk1 hk2 l hs hl2 m hm, Option.bind_some, ints_copy k xs (by omega), Option.bind_some, pre_point k hk1 hk2 m hm xs (by omega), Option.bind_some, model_ref k hk1 m hm, Option.bind_some, model_point k hk1 hk2 m hm, Option.bind_some, if_pos rfl, stars_ref k (by omega) l hs hl2, Option.bind_some]
        unfold starsR
        by_cases h0 : starsE l = 0
        · rw [if_pos h0, if_pos h0, if_pos rfl]
          by_cases h1 : modE m = 0
          · rw [if_pos h1, if_pos h1, if_pos h1, fit_ref k (by omega) l h0 m hm, Option.bind_some, if_pos rfl, pre_ref k (by omega) m h1 xs (by omega), Option.bind_some, if_pos rfl]
            simp
          · rw [if_neg h1, if_neg h1, if_neg h1, if_pos rfl, if_pos rfl]; rfl
        · rw [if_neg h0, if_neg h0, if_neg h0, if_pos rfl]
          by_cases h1 : modE m = 0
          · rw [if_pos h1, if_pos h1, pre_ref k (by omega) m h1 xs (by omega), Option.bind_some, if_pos rfl]
            simp
          · rw [if_neg h1, if_neg h1, if_pos rfl]; rfl
theorem vc_fits (l : List SSkyStar) (m : SSkyModel) (xs : List Int) (hl : l.length ≤ 9223372036854775807) : VC Go.Proofs.Try.prog 5 [VV.tr (l.flatMap c_SSkyStar) l.length, VV.ag (c_SSkyModel m), VV.tr (xs.map vi) xs.length] (vb true) := nspeculumlaw09_PointFits_ok _ _ _ _ _ (law_fits _ l m xs hl rfl)
end Go.Proofs.Ytlhnkehohknhbaa.Vg
