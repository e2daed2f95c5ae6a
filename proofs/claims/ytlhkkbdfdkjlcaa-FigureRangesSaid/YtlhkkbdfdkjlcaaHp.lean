/- Law of accepted heights: the program's pairs and the reference's two loops find the same first pair. -/
import Derived.Test.YtlhkkbdfdkjlcaaH1
set_option linter.unusedVariables false
set_option linter.unusedSimpArgs false
namespace Go.Proofs.Ytlhkkbdfdkjlcaa.Vg
open Go Go.Proofs.Ytlhkkbdfdkjlcaa.Ev Go.Proofs.Ytlhkkbdfdkjlcaa.Vv

theorem w64_id {n : Int} (h1 : -9223372036854775808 ≤ n) (h2 : n ≤ 9223372036854775807) : w64 n = n := by
  unfold w64 IntKind.wrap
  simp [IntKind.signed, IntKind.bits]
  omega
theorem w64_in (n : Int) : -9223372036854775808 ≤ w64 n ∧ w64 n ≤ 9223372036854775807 := by
  unfold w64 IntKind.wrap
  simp [IntKind.signed, IntKind.bits]
  omega
theorem w64_succ {i : Nat} (h : i < 1000000000000) : w64 ((i : Int) + 1) = ((i + 1 : Nat) : Int) := by
  rw [w64_id (by omega) (by omega)]; omega
theorem drop_get {α : Type} {y : List α} {i : Nat} (h : i < y.length) (d : α) : y.drop i = y.getD i d :: y.drop (i + 1) := by
  rw [List.drop_eq_getElem_cons h, List.getD_eq_getElem?_getD, List.getElem?_eq_getElem h]; rfl
def sumB (b : Bool) : Sum Unit Unit := match b with | true => .inr () | false => .inl ()
def inH (n : Int) : Bool := decide (-100000 ≤ n ∧ n ≤ 100000)
theorem within_fig (k : Nat) (a b c : Int) : nfigure_isWithin k a b c = some (decide (b ≤ a ∧ a ≤ c)) := by
  unfold nfigure_isWithin
  by_cases h : b ≤ a
  · rw [if_pos h]; simp [h]
  · rw [if_neg h]; simp [h]
theorem within_base (k : Nat) (a b c : Int) : nspeculumbase_Within k a b c = some (decide (b ≤ a ∧ a ≤ c)) := by
  unfold nspeculumbase_Within
  by_cases h : b ≤ a
  · rw [if_pos h]; simp [h]
  · rw [if_neg h]; simp [h]
theorem isHeight_any (k : Nat) (a : Int) : nspeculumref06_isHeight k a = some (inH a) := by
  unfold nspeculumref06_isHeight
  rw [within_base]; rfl
theorem areHeights_l (k : Nat) (a : List Int) (hl : a.length < 1000000000000) : ∀ (d fuel i : Nat), a.length = i + d → d < fuel →
    nfigure_areHeights_l0_0 k a fuel (i : Int) = some (sumB ((a.drop i).all inH)) := by
  intro d
  induction d with
  | zero =>
    intro fuel i h hf
    obtain ⟨g, rfl⟩ : ∃ g, fuel = g + 1 := ⟨fuel - 1, by omega⟩
    rw [nfigure_areHeights_l0_0.eq_2, if_neg (by omega), List.drop_eq_nil_of_le (by omega)]; rfl
  | succ d ih =>
    intro fuel i h hf
    obtain ⟨g, rfl⟩ : ∃ g, fuel = g + 1 := ⟨fuel - 1, by omega⟩
    rw [nfigure_areHeights_l0_0.eq_2, if_pos (by omega), if_pos (by omega), within_fig, Option.bind_some, w64_succ (by omega), ih g (i + 1) (by omega) (by omega), drop_get (y := a) (i := i) (by omega) 0]
    simp only [Int.toNat_natCast, List.all_cons]
    change (if inH _ = true then _ else _) = _
    cases inH (a.getD i 0) <;> rfl
def hE (a : List Int) : Int := if 1 ≤ a.length ∧ a.length ≤ 40 then (if a.all inH then 0 else 2) else 10
theorem hE_zero {a : List Int} (h : hE a = 0) : 1 ≤ a.length ∧ a.length ≤ 40 ∧ a.all inH = true := by
  unfold hE at h
  by_cases h1 : 1 ≤ a.length ∧ a.length ≤ 40
  · rw [if_pos h1] at h
    refine ⟨h1.1, h1.2, ?_⟩
    revert h
    cases a.all inH
    · intro h; exact absurd h (by decide)
    · intro _; rfl
  · rw [if_neg h1] at h; exact absurd h (by decide)
theorem areHeights_any (k : Nat) (a : List Int) (hl : a.length < k) (hk : k ≤ 1000000000) : nfigure_areHeights k a = some (a.all inH) := by
  unfold nfigure_areHeights
  rw [show ((0 : Int)) = ((0 : Nat) : Int) from rfl, areHeights_l k a (by omega) a.length k 0 (by omega) hl]
  simp only [List.drop_zero]
  cases a.all inH <;> rfl
theorem checkHeights_any (k : Nat) (a : List Int) (hl : a.length < k) (hk : k ≤ 1000000000) : nfigure_checkHeights k a = some (hE a) := by
  unfold nfigure_checkHeights hE
  rw [within_fig, areHeights_any k a hl hk]
  by_cases h : 1 ≤ a.length ∧ a.length ≤ 40
  · rw [if_pos h, Option.bind_some, if_pos (by simp; omega)]
    cases a.all inH <;> rfl
  · rw [if_neg h, Option.bind_some, if_neg (by simp; omega)]
theorem heightsErr_l (k : Nat) (a : List Int) (hl : a.length < 1000000000000) : ∀ (d fuel i : Nat), a.length = i + d → d < fuel →
    nspeculumref06_HeightsErr_l0_0 k a fuel (i : Int) = some (sumB ((a.drop i).all inH)) := by
  intro d
  induction d with
  | zero =>
    intro fuel i h hf
    obtain ⟨g, rfl⟩ : ∃ g, fuel = g + 1 := ⟨fuel - 1, by omega⟩
    rw [nspeculumref06_HeightsErr_l0_0.eq_2, if_neg (by omega), List.drop_eq_nil_of_le (by omega)]; rfl
  | succ d ih =>
    intro fuel i h hf
    obtain ⟨g, rfl⟩ : ∃ g, fuel = g + 1 := ⟨fuel - 1, by omega⟩
    rw [nspeculumref06_HeightsErr_l0_0.eq_2, if_pos (by omega), if_pos (by omega), isHeight_any, Option.bind_some, w64_succ (by omega), ih g (i + 1) (by omega) (by omega), drop_get (y := a) (i := i) (by omega) 0]
    simp only [Int.toNat_natCast, List.all_cons]
    change (if inH _ = true then _ else _) = _
    cases inH (a.getD i 0) <;> rfl
theorem heightsErr_any (k : Nat) (a : List Int) (hl : a.length < k) (hk : k ≤ 1000000000) : nspeculumref06_HeightsErr k a = some (hE a) := by
  unfold nspeculumref06_HeightsErr hE
  have hh := heightsErr_l k a (by omega) a.length k 0 (by omega) hl
  rw [within_base, Option.bind_some, show ((0 : Int)) = ((0 : Nat) : Int) from rfl, hh]
  by_cases h : 1 ≤ a.length ∧ a.length ≤ 40
  · rw [if_pos h, if_pos (by simp; omega)]
    simp only [List.drop_zero]
    cases a.all inH <;> rfl
  · rw [if_neg h, if_neg (by simp; omega)]
theorem copyInts_any (k : Nat) (a : List Int) (hl : a.length ≤ 1000000000) : nspeculumbase_CopyInts k a = some a := by
  unfold nspeculumbase_CopyInts
  rw [if_pos (by simpa using hl)]; rfl
def tE (t : SFigureTolerance) : Int := if 0 ≤ t.Peak ∧ t.Peak ≤ 200000 then (if 0 ≤ t.Slope ∧ t.Slope ≤ 200000 then 0 else 2) else 2
theorem tol_fig (k : Nat) (t : SFigureTolerance) : nfigure_CheckTolerance k t = some (tE t) := by
  unfold nfigure_CheckTolerance tE
  rw [within_fig, within_fig]
  by_cases h : 0 ≤ t.Peak ∧ t.Peak ≤ 200000 <;> by_cases h2 : 0 ≤ t.Slope ∧ t.Slope ≤ 200000 <;> simp [h, h2]
theorem tol_ref (k : Nat) (t : SFigureTolerance) : nspeculumref06_CheckTolerance k t = some (tE t) := by
  unfold nspeculumref06_CheckTolerance tE
  rw [within_base, within_base]
  by_cases h : 0 ≤ t.Peak ∧ t.Peak ≤ 200000 <;> by_cases h2 : 0 ≤ t.Slope ∧ t.Slope ≤ 200000 <;> simp [h, h2]
theorem tE_zero {t : SFigureTolerance} (h : tE t = 0) : (0 ≤ t.Peak ∧ t.Peak ≤ 200000) ∧ 0 ≤ t.Slope ∧ t.Slope ≤ 200000 := by
  unfold tE at h
  by_cases h1 : 0 ≤ t.Peak ∧ t.Peak ≤ 200000
  · by_cases h2 : 0 ≤ t.Slope ∧ t.Slope ≤ 200000
    · exact ⟨h1, h2⟩
    · rw [if_pos h1, if_neg h2] at h; exact absurd h (by decide)
  · rw [if_neg h1] at h; exact absurd h (by decide)
def ab (n : Int) : Int := if n < 0 then -n else n
theorem ab_symm (x y : Int) : ab (x - y) = ab (y - x) := by
  unfold ab; split <;> split <;> omega
theorem abs_any (k : Nat) (n : Int) (h1 : -9223372036854775807 ≤ n) (h2 : n ≤ 9223372036854775807) : nspeculumbase_Abs k n = some (ab n) := by
  unfold nspeculumbase_Abs ab
  by_cases h : n < 0
  · rw [if_pos h, if_pos h, w64_id (by omega) (by omega)]; congr 1; omega
  · rw [if_neg h, if_neg h]
theorem size_any (k : Nat) (n : Int) (h1 : -9223372036854775807 ≤ n) (h2 : n ≤ 9223372036854775807) : nfigure_size k n = some (ab n) := by
  unfold nfigure_size ab maxI
  rw [w64_id (by omega) (by omega)]
  congr 1
  split <;> split <;> omega
def bd (t : SFigureTolerance) (i j : Int) : Int := minI t.Peak (w64 (t.Slope * ab (i - j)))
theorem bd_symm (t : SFigureTolerance) (i j : Int) : bd t i j = bd t j i := by
  unfold bd; rw [ab_symm]
theorem bound_fig (k : Nat) (t : SFigureTolerance) (i j : Int) (hi : 0 ≤ i ∧ i < 1000000) (hj : 0 ≤ j ∧ j < 1000000) : nfigure_bound k t i j = some (bd t i j) := by
  unfold nfigure_bound
  rw [w64_id (by omega) (by omega), size_any _ _ (by omega) (by omega)]; rfl
theorem bound_ref (k : Nat) (t : SFigureTolerance) (i j : Int) (hi : 0 ≤ i ∧ i < 1000000) (hj : 0 ≤ j ∧ j < 1000000) : nspeculumref06_Bound k t i j = some (bd t i j) := by
  unfold nspeculumref06_Bound
  rw [w64_id (by omega) (by omega), abs_any _ _ (by omega) (by omega)]; rfl

theorem all_get {a : List Int} (h : a.all inH = true) (i : Nat) (hi : i < a.length) : -100000 ≤ a.getD i 0 ∧ a.getD i 0 ≤ 100000 := by
  rw [List.all_eq_true] at h
  have := h (a.getD i 0) (by rw [List.getD_eq_getElem?_getD, List.getElem?_eq_getElem hi]; exact List.getElem_mem hi)
  simpa [inH] using this

/-- pair (i, j) exceeds -/
def bad (a : List Int) (t : SFigureTolerance) (i j : Int) : Bool := decide (bd t i j < ab (a.getD i.toNat 0 - a.getD j.toNat 0))
theorem bad_symm (a : List Int) (t : SFigureTolerance) (i j : Int) : bad a t i j = bad a t j i := by
  unfold bad; rw [bd_symm, ab_symm]
def fb (a : List Int) (t : SFigureTolerance) (i j : Int) : Nat → Option Int
  | 0 => none
  | d + 1 => match bad a t i j with | true => some j | false => fb a t i (j + 1) d
theorem fb_none {a : List Int} {t : SFigureTolerance} {i : Int} : ∀ (d : Nat) (j : Int), fb a t i j d = none → ∀ j', j ≤ j' → j' < j + d → bad a t i j' = false := by
  intro d
  induction d with
  | zero => intro j _ j' h1 h2; omega
  | succ d ih =>
    intro j h j' h1 h2
    rw [fb.eq_2] at h
    cases hb : bad a t i j with
    | true => rw [hb] at h; cases h
    | false =>
      rw [hb] at h
      by_cases he : j' = j
      · rw [he]; exact hb
      · exact ih (j + 1) h j' (by omega) (by omega)
theorem meets_r0 (k : Nat) (a : List Int) (t : SFigureTolerance) (r : Int) (ha : a.all inH = true) (hl : a.length ≤ 40) (i j : Int) (xs : List (Int × Int))
    (hi : 0 ≤ i ∧ i < a.length) (hj : 0 ≤ j ∧ j < a.length) :
    nfigure_Meets_r0 k a t r ((i, j) :: xs) 0 0 0 = match bad a t i j with | true => some (.inr (i, j, 26)) | false => nfigure_Meets_r0 k a t r xs 0 0 0 := by
  have h1 := all_get ha i.toNat (by omega)
  have h2 := all_get ha j.toNat (by omega)
  rw [nfigure_Meets_r0.eq_2]
  simp only []
  rw [if_pos (by omega), if_pos (by omega), w64_id (by omega) (by omega), size_any _ _ (by omega) (by omega), Option.bind_some, bound_fig _ _ _ _ (by omega) (by omega), Option.bind_some]
  unfold bad
  by_cases h : bd t i j < ab (a.getD i.toNat 0 - a.getD j.toNat 0)
  · rw [if_pos h, decide_eq_true h]
  · rw [if_neg h, decide_eq_false h]
theorem meets_row (k : Nat) (a : List Int) (t : SFigureTolerance) (r : Int) (ha : a.all inH = true) (hl : a.length ≤ 40) (i : Int) (rest : List (Int × Int)) (hi : 0 ≤ i ∧ i < a.length) :
    ∀ (d : Nat) (j : Int), i < j → j + d = a.length →
    nfigure_Meets_r0 k a t r (innerL i j d ++ rest) 0 0 0 = match fb a t i j d with | some j' => some (.inr (i, j', 26)) | none => nfigure_Meets_r0 k a t r rest 0 0 0 := by
  intro d
  induction d with
  | zero => intro j _ _; rfl
  | succ d ih =>
    intro j h1 h2
    rw [innerL_eq, if_neg (by omega), List.cons_append, meets_r0 k a t r ha hl i j _ hi (by omega), fb.eq_2]
    cases bad a t i j with
    | true => rfl
    | false => exact ih (j + 1) (by omega) (by omega)
theorem meets_skip (k : Nat) (a : List Int) (t : SFigureTolerance) (r : Int) (ha : a.all inH = true) (hl : a.length ≤ 40) (i : Int) (rest : List (Int × Int)) (hi : 0 ≤ i ∧ i < a.length)
    (hb : ∀ j, 0 ≤ j → j < i → bad a t i j = false) :
    ∀ (m : Nat) (j : Int) (d : Nat), 0 ≤ j → j + m = i → j + d = a.length →
    nfigure_Meets_r0 k a t r (innerL i j d ++ rest) 0 0 0 = nfigure_Meets_r0 k a t r (innerL i (i + 1) (a.length - (i.toNat + 1)) ++ rest) 0 0 0 := by
  intro m
  induction m with
  | zero =>
    intro j d h0 h1 h2
    obtain ⟨d', rfl⟩ : ∃ d', d = d' + 1 := ⟨d - 1, by omega⟩
    rw [innerL_eq, if_pos (by omega), show j = i by omega, show d' = a.length - (i.toNat + 1) by omega]
  | succ m ih =>
    intro j d h0 h1 h2
    obtain ⟨d', rfl⟩ : ∃ d', d = d' + 1 := ⟨d - 1, by omega⟩
    rw [innerL_eq, if_neg (by omega), List.cons_append, meets_r0 k a t r ha hl i j _ hi (by omega), hb j h0 (by omega)]
    exact ih (j + 1) d' (by omega) (by omega) (by omega)
theorem meets_l1 (k : Nat) (a : List Int) (t : SFigureTolerance) (ha : a.all inH = true) (hl : a.length ≤ 40) (i : Int) (hi : 0 ≤ i ∧ i < a.length) :
    ∀ (d fuel : Nat) (j : Int), i < j → j + d = a.length → d < fuel →
    nspeculumref06_Meets_l1_0 k a t i fuel j = match fb a t i j d with | some j' => some (.inl j') | none => some (.inr ()) := by
  intro d
  induction d with
  | zero =>
    intro fuel j h1 h2 hf
    obtain ⟨g, rfl⟩ : ∃ g, fuel = g + 1 := ⟨fuel - 1, by omega⟩
    rw [nspeculumref06_Meets_l1_0.eq_2, if_neg (by omega)]; rfl
  | succ d ih =>
    intro fuel j h1 h2 hf
    obtain ⟨g, rfl⟩ : ∃ g, fuel = g + 1 := ⟨fuel - 1, by omega⟩
    have h3 := all_get ha i.toNat (by omega)
    have h4 := all_get ha j.toNat (by omega)
    rw [nspeculumref06_Meets_l1_0.eq_2, if_pos (by omega), if_pos (by omega), if_pos (by omega), w64_id (by omega) (by omega), abs_any _ _ (by omega) (by omega), Option.bind_some, bound_ref _ _ _ _ (by omega) (by omega), Option.bind_some, fb.eq_2]
    unfold bad
    by_cases h : bd t i j < ab (a.getD i.toNat 0 - a.getD j.toNat 0)
    · rw [if_pos h, decide_eq_true h]
    · rw [if_neg h, decide_eq_false h, w64_id (by omega) (by omega)]
      exact ih g (j + 1) (by omega) (by omega) (by omega)
def outM (s : Option (Sum (Int × Int) Unit)) : Option (Sum (Int × Int × Int) (Int × Int × Int)) :=
  match s with | none => none | some (.inl p) => some (.inr (p.1, p.2, 26)) | some (.inr ()) => some (.inl (0, 0, 0))
theorem meets_l0 (k : Nat) (a : List Int) (t : SFigureTolerance) (r : Int) (ha : a.all inH = true) (hl : a.length ≤ 40) (hk : 100 ≤ k) :
    ∀ (d fuel : Nat) (i : Int), 0 ≤ i → i + d = a.length → d < fuel → (∀ i' j, 0 ≤ i' → i' < i → i' < j → j < a.length → bad a t i' j = false) →
    (nspeculumref06_Meets_l0_0 k a t fuel i).isSome = true ∧ nfigure_Meets_r0 k a t r (outerL a.length i d) 0 0 0 = outM (nspeculumref06_Meets_l0_0 k a t fuel i) := by
  intro d
  induction d with
  | zero =>
    intro fuel i h0 h1 hf hb
    obtain ⟨g, rfl⟩ : ∃ g, fuel = g + 1 := ⟨fuel - 1, by omega⟩
    rw [nspeculumref06_Meets_l0_0.eq_2, if_neg (by omega)]
    exact ⟨rfl, rfl⟩
  | succ d ih =>
    intro fuel i h0 h1 hf hb
    obtain ⟨g, rfl⟩ : ∃ g, fuel = g + 1 := ⟨fuel - 1, by omega⟩
    have hi : 0 ≤ i ∧ i < (a.length : Int) := by omega
    rw [nspeculumref06_Meets_l0_0.eq_2, if_pos (by omega), w64_id (by omega) (by omega), meets_l1 k a t ha hl i hi d k (i + 1) (by omega) (by omega) (by omega), outerL_eq,
      meets_skip k a t r ha hl i _ hi (fun j hj hji => by rw [bad_symm]; exact hb j i hj hji hji (by omega)) i.toNat 0 a.length (by omega) (by omega) (by omega),
      show a.length - (i.toNat + 1) = d by omega, meets_row k a t r ha hl i _ hi d (i + 1) (by omega) (by omega)]
    cases hf : fb a t i (i + 1) d with
    | some j' => exact ⟨rfl, rfl⟩
    | none =>
      simp only [Option.bind_some]
      refine ih g (i + 1) (by omega) (by omega) (by omega) ?_
      intro i' j h2 h3 h4 h5
      by_cases he : i' = i
      · rw [he]; exact fb_none d (i + 1) hf j (by omega) (by omega)
      · exact hb i' j h2 (by omega) h4 h5
theorem law_meets (k : Nat) (a : List Int) (t : SFigureTolerance) (hk : 100 ≤ k) (hk2 : k ≤ 1000000000) : nspeculumlaw06_FigureMeets k a t = some true := by
  unfold nspeculumlaw06_FigureMeets
  rw [show nawake k = some true from rfl]
  simp only [Option.bind_some, if_true]
  by_cases h45 : 45 < (a.length : Int)
  · rw [if_pos h45]
  rw [if_neg h45, copyInts_any k a (by omega)]
  have ht : (⟨t.Peak, t.Slope⟩ : SFigureTolerance) = t := rfl
  simp only [Option.bind_some, ht, tol_fig, tol_ref, if_true, heightsErr_any k a (by omega) hk2]
  unfold nfigure_Meets nspeculumref06_Meets
  simp only [Option.bind_some, ht, tol_fig, checkHeights_any k a (by omega) hk2]
  by_cases h1 : hE a = 0
  · have hz := hE_zero h1
    simp only [if_pos h1]
    by_cases h2 : tE t = 0
    · simp only [if_pos h2]
      rw [show nfigure_pairs k (a.length : Int) = some (a.length : Int) from rfl]
      simp only [Option.bind_some]
      rw [if_pos (by omega), pairsL, Int.toNat_natCast]
      obtain ⟨hs, hm⟩ := meets_l0 k a t (a.length : Int) hz.2.2 hz.2.1 hk a.length k 0 (by omega) (by omega) (by omega) (fun i' j h3 h4 => by omega)
      rw [hm]
      revert hs
      cases nspeculumref06_Meets_l0_0 k a t k 0 with
      | none => intro hs; cases hs
      | some s =>
        intro _
        cases s with
        | inl p => simp [outM]
        | inr p => simp [outM]
    · simp only [if_neg h2]
      simp
  · simp only [if_neg h1]
    simp
theorem vc_meets (a : List Int) (t : SFigureTolerance) : VC Go.Proofs.Try.prog 3 [VV.tr (a.map vi) a.length, VV.ag [vi t.Peak, vi t.Slope]] (vb true) :=
  nspeculumlaw06_FigureMeets_ok 1000 a t true (law_meets 1000 a t (by decide) (by decide))
end Go.Proofs.Ytlhkkbdfdkjlcaa.Vg
