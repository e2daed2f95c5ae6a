/- Law of surfaces: the program's lowest surface of an enclosure is the reference's, lies within and is accepted. -/
import Derived.Test.YtlhkkbdfdkjlcaaK2
import Derived.Test.YtlhkkbdfdkjlcaaKj
set_option linter.unusedVariables false
set_option linter.unusedSimpArgs false
namespace Go.Proofs.Ytlhkkbdfdkjlcaa.Vg
open Go Go.Proofs.Ytlhkkbdfdkjlcaa.Ev Go.Proofs.Ytlhkkbdfdkjlcaa.Vv

theorem checkHeights_any (k : Nat) (a : List Int) (hl : a.length < k) (hk : k ≤ 1000000000) : nfigure_checkHeights k a = some (hE a) := by
  unfold nfigure_checkHeights hE
  rw [within_fig, areHeights_any k a hl hk]
  by_cases h : 1 ≤ a.length ∧ a.length ≤ 40
  · rw [if_pos h, Option.bind_some, if_pos (by simp; omega)]
    cases a.all inH <;> rfl
  · rw [if_neg h, Option.bind_some, if_neg (by simp; omega)]
theorem all_get {a : List Int} (h : a.all inH = true) (i : Nat) (hi : i < a.length) : -100000 ≤ a.getD i 0 ∧ a.getD i 0 ≤ 100000 := by
  rw [List.all_eq_true] at h
  have := h (a.getD i 0) (by rw [List.getD_eq_getElem?_getD, List.getElem?_eq_getElem hi]; exact List.getElem_mem hi)
  simpa [inH] using this

/-- pair (i, j) exceeds -/
def bad (a : List Int) (t : SFigureTolerance) (i j : Int) : Bool := decide (bd t i j < ab (a.getD i.toNat 0 - a.getD j.toNat 0))
theorem bad_symm (a : List Int) (t : SFigureTolerance) (i j : Int) : bad a t i j = bad a t j i := by
  unfold bad; rw [bd_symm, ab_symm]
theorem meets_r0 (k : Nat) (a : List Int) (t : SFigureTolerance) (r : Int) (ha : a.all inH = true) (hl : a.length ≤ 40) (i j : Int) (xs : List (Int × Int))
    (hi : 0 ≤ i ∧ i < a.length) (hj : 0 ≤ j ∧ j < a.length) :
    nfigure_Meets_r0 k a t r ((i, j) :: xs) 0 0 0 = match bad a t i j with | true => some (.inr (i, j, 26)) | false => nfigure_Meets_r0 k a t r xs 0 0 0 := by
  have h1 := all_get ha i.toNat (by omega)
  have h2 := all_get ha j.toNat (by omega)
  rw [nfigure_Meets_r0.eq_2]
  simp only []
  rw [if_pos (by omega), if_pos (by omega), w64_id (by omega) (by omega), size_any _ _ (by omega) (by omega), Option.bind_some, bound_fig _ _ _ _ (by omega) (by omega), Option.bind_some]
  unfold bad
  by_cases h : bd t i j < ab (a.getD i.toNat 0 - a.getD j.toNat 0)
  · rw [if_pos h, decide_eq_true h]
  · rw [if_neg h, decide_eq_false h]

theorem ab_pos (n : Int) : 0 ≤ ab n := by unfold ab; split <;> omega
theorem mul_bd {s x : Int} (h1 : 0 ≤ s) (h2 : s ≤ 200000) (h3 : 0 ≤ x) (h4 : x ≤ 1000000) : 0 ≤ s * x ∧ s * x ≤ 200000000000 := by
  constructor
  · exact Int.mul_nonneg h1 h3
  · exact Int.le_trans (Int.mul_le_mul_of_nonneg_right h2 h3) (by omega)
theorem bd_eq {t : SFigureTolerance} (ht : tE t = 0) {i j : Int} (hi : 0 ≤ i ∧ i < 1000000) (hj : 0 ≤ j ∧ j < 1000000) : bd t i j = if t.Slope * ab (i - j) < t.Peak then t.Slope * ab (i - j) else t.Peak := by
  have h := tE_zero ht
  have ha := ab_pos (i - j)
  have ha2 : ab (i - j) ≤ 1000000 := by unfold ab; split <;> omega
  have hm := mul_bd h.2.1 h.2.2 ha ha2
  unfold bd minI
  rw [w64_id (by omega) (by omega)]
theorem bd_bd {t : SFigureTolerance} (ht : tE t = 0) {i j : Int} (hi : 0 ≤ i ∧ i < 1000000) (hj : 0 ≤ j ∧ j < 1000000) : 0 ≤ bd t i j ∧ bd t i j ≤ 200000 := by
  have h := tE_zero ht
  have hm := Int.mul_nonneg h.2.1 (ab_pos (i - j))
  rw [bd_eq ht hi hj]; split <;> omega
theorem bd_self {t : SFigureTolerance} (ht : tE t = 0) {i : Int} (hi : 0 ≤ i ∧ i < 1000000) : bd t i i = 0 := by
  have h := tE_zero ht
  rw [bd_eq ht hi hi, show i - i = 0 by omega, show ab 0 = 0 from rfl, Int.mul_zero]; split <;> omega
theorem bd_tri {t : SFigureTolerance} (ht : tE t = 0) {i j l : Int} (hi : 0 ≤ i ∧ i < 1000000) (hj : 0 ≤ j ∧ j < 1000000) (hl : 0 ≤ l ∧ l < 1000000) : bd t j l ≤ bd t i j + bd t i l := by
  have h := tE_zero ht
  have h1 := Int.mul_nonneg h.2.1 (ab_pos (i - j))
  have h2 := Int.mul_nonneg h.2.1 (ab_pos (i - l))
  have h3 : t.Slope * ab (j - l) ≤ t.Slope * ab (i - j) + t.Slope * ab (i - l) := by
    rw [← Int.mul_add]
    apply Int.mul_le_mul_of_nonneg_left _ h.2.1
    unfold ab; split <;> split <;> split <;> omega
  rw [bd_eq ht hi hj, bd_eq ht hi hl, bd_eq ht hj hl]
  split <;> split <;> split <;> omega

theorem take_set {α : Type} {y : List α} {i : Nat} (h : i < y.length) (v : α) : (y.set i v).take (i + 1) = y.take i ++ [v] := by
  apply List.ext_getElem
  · simp; omega
  · intro j h1 h2
    simp only [List.getElem_take, List.getElem_set, List.getElem_append, List.length_take]
    simp at h1 h2
    by_cases hj : i = j
    · subst hj; rw [if_pos rfl, dif_neg (by omega)]; simp
    · rw [if_neg hj, dif_pos (by omega)]
theorem lows_l0 (k : Nat) (a : List SRange) (t : SFigureTolerance) (r : Int × A26 × Int) (hl : a.length < 1000000) : ∀ (d fuel i : Nat) (y : List Int), a.length = i + d → y.length = a.length → d < fuel →
    nfigure_Surface_l0_0 k a t r fuel y (i : Int) = some (y.take i ++ (a.drop i).map SRange.Lo) := by
  intro d
  induction d with
  | zero =>
    intro fuel i y h hy hf
    obtain ⟨g, rfl⟩ : ∃ g, fuel = g + 1 := ⟨fuel - 1, by omega⟩
    rw [nfigure_Surface_l0_0.eq_2, if_neg (by omega), List.drop_eq_nil_of_le (by omega), List.take_of_length_le (by omega)]; simp
  | succ d ih =>
    intro fuel i y h hy hf
    obtain ⟨g, rfl⟩ : ∃ g, fuel = g + 1 := ⟨fuel - 1, by omega⟩
    rw [nfigure_Surface_l0_0.eq_2, if_pos (by omega), if_pos (by omega), if_pos (by omega), if_pos (by omega), w64_succ (by omega), Int.toNat_natCast, ih g (i + 1) _ (by omega) (by simpa using hy) (by omega),
      take_set (by omega), drop_get (y := a) (i := i) (by omega) default]
    simp
/-- What one pair asks for. -/
def wa (a : List SRange) (t : SFigureTolerance) (p : Int × Int) : Int := loA a p.2 - bd t p.1 p.2
def sf (a : List SRange) (t : SFigureTolerance) (i : Int) : Int := mx (wa a t) (innerL i 0 a.length) (loA a i)
def sfL (a : List SRange) (t : SFigureTolerance) (i : Int) : Nat → List Int
  | 0 => []
  | d + 1 => sf a t i :: sfL a t (i + 1) d
theorem sfL_len (a : List SRange) (t : SFigureTolerance) : ∀ (d : Nat) (i : Int), (sfL a t i d).length = d
  | 0, _ => rfl
  | d + 1, i => by rw [sfL, List.length_cons, sfL_len a t d]
theorem sfL_get (a : List SRange) (t : SFigureTolerance) : ∀ (d : Nat) (i : Int) (m : Nat), m < d → (sfL a t i d).getD m 0 = sf a t (i + m)
  | 0, _, _, h => by omega
  | d + 1, i, 0, _ => by simp [sfL]
  | d + 1, i, m + 1, h => by
    rw [sfL, List.getD_cons_succ, sfL_get a t d (i + 1) m (by omega)]
    congr 1; omega
theorem wa_bd {a : List SRange} (ha : GoodR a) {t : SFigureTolerance} (ht : tE t = 0) {i j : Int} (hi : 0 ≤ i ∧ i < a.length) (hj : 0 ≤ j ∧ j < a.length) : -300000 ≤ wa a t (i, j) ∧ wa a t (i, j) ≤ 100000 := by
  have hle := ha.le
  have h := bd_bd ht (i := i) (j := j) (by omega) (by omega)
  have h2 := ha.all j hj.1 hj.2
  unfold wa; simp only []; omega
theorem set_self (y : List Int) (i : Nat) : y.set i (y.getD i 0) = y := by
  apply List.ext_getElem
  · simp
  · intro j h1 h2
    rw [List.getElem_set]
    by_cases hj : i = j
    · subst hj; rw [if_pos rfl, List.getD_eq_getElem?_getD, List.getElem?_eq_getElem h2]; rfl
    · rw [if_neg hj]
theorem get_set (y : List Int) (i : Nat) (h : i < y.length) (v : Int) : (y.set i v).getD i 0 = v := by
  rw [List.getD_eq_getElem?_getD, List.getElem?_set_self h]; rfl
theorem surf_row (k : Nat) {a : List SRange} (ha : GoodR a) {t : SFigureTolerance} (ht : tE t = 0) (r : Int × A26 × Int) (q : Int) (i : Int) (hi : 0 ≤ i ∧ i < a.length) (rest : List (Int × Int)) : ∀ (d : Nat) (j : Int) (y : List Int), 0 ≤ j → j + d = a.length → y.length = a.length →
    nfigure_Surface_r0 k a t r q (innerL i j d ++ rest) y = nfigure_Surface_r0 k a t r q rest (y.set i.toNat (mx (wa a t) (innerL i j d) (y.getD i.toNat 0))) := by
  have hle := ha.le
  intro d
  induction d with
  | zero => intro j y _ _ _; rw [show mx (wa a t) (innerL i j 0) (y.getD i.toNat 0) = y.getD i.toNat 0 from rfl, set_self]; rfl
  | succ d ih =>
    intro j y h0 h hy
    rw [innerL_eq]
    by_cases hij : i = j
    · rw [if_pos hij]; exact ih (j + 1) y (by omega) (by omega) hy
    · have hw := wa_bd ha ht hi (j := j) (by omega)
      rw [if_neg hij, List.cons_append, nfigure_Surface_r0.eq_2]
      simp only []
      change (if _ then (if _ then (if _ then (nfigure_bound k t i j).bind _ else none) else none) else none) = _
      rw [if_pos (by omega), if_pos (by omega), if_pos (by omega), bound_fig _ _ _ _ (by omega) (by omega), Option.bind_some]
      unfold wa loA at hw
      simp only [] at hw
      rw [w64_id (by omega) (by omega), ih (j + 1) _ (by omega) (by omega) (by simpa using hy), get_set _ _ (by omega), List.set_set]
      rfl
theorem surf_r0 (k : Nat) {a : List SRange} (ha : GoodR a) {t : SFigureTolerance} (ht : tE t = 0) (r : Int × A26 × Int) (q : Int) : ∀ (d i : Nat) (y : List Int), i + d = a.length → y.length = a.length → y.drop i = (a.drop i).map SRange.Lo →
    nfigure_Surface_r0 k a t r q (outerL a.length i d) y = some (y.take i ++ sfL a t i d) := by
  have hle := ha.le
  intro d
  induction d with
  | zero => intro i y h hy hd; rw [List.take_of_length_le (by omega)]; simp [sfL, outerL, nfigure_Surface_r0]
  | succ d ih =>
    intro i y h hy hd
    rw [drop_get (y := y) (i := i) (by omega) 0, drop_get (y := a) (i := i) (by omega) default, List.map_cons] at hd
    have hd1 := (List.cons.inj hd).1
    have hd2 := (List.cons.inj hd).2
    rw [outerL_eq, surf_row k ha ht r q i (by omega) _ a.length 0 y (by omega) (by omega) hy, Int.toNat_natCast, hd1]
    have e : ((i : Int) + 1) = ((i + 1 : Nat) : Int) := by omega
    rw [e, ih (i + 1) _ (by omega) (by simpa using hy) (by rw [List.drop_set_of_lt (by omega)]; exact hd2), take_set (by omega), List.append_assoc]
    rw [show sfL a t (i : Int) (d + 1) = sf a t i :: sfL a t ((i : Int) + 1) d from rfl, e]
    rfl
theorem surf_l1 (k : Nat) {a : List SRange} (ha : GoodR a) {t : SFigureTolerance} (ht : tE t = 0) (y : List Int) (i : Int) (hi : 0 ≤ i ∧ i < a.length) : ∀ (d fuel : Nat) (b j : Int), loA a i ≤ b → 0 ≤ j → j + d = a.length → d < fuel →
    nspeculumref06_Surface_l1_0 k a t y i fuel b j = some (mx (wa a t) (innerL i j d) b) := by
  have hle := ha.le
  intro d
  induction d with
  | zero =>
    intro fuel b j hb h0 h hf
    obtain ⟨g, rfl⟩ : ∃ g, fuel = g + 1 := ⟨fuel - 1, by omega⟩
    rw [nspeculumref06_Surface_l1_0.eq_2, if_neg (by omega)]; rfl
  | succ d ih =>
    intro fuel b j hb h0 h hf
    obtain ⟨g, rfl⟩ : ∃ g, fuel = g + 1 := ⟨fuel - 1, by omega⟩
    have hw := wa_bd ha ht hi (j := j) (by omega)
    have hm := le_maxI1 b (wa a t (i, j))
    have hs := bd_self ht (i := i) (by omega)
    rw [nspeculumref06_Surface_l1_0.eq_2, if_pos (by omega), if_pos (by omega)]
    change (nspeculumref06_Bound k t i j).bind _ = _
    rw [bound_ref _ _ _ _ (by omega) (by omega), Option.bind_some]
    have e : w64 ((a.getD j.toNat default).Lo - bd t i j) = wa a t (i, j) := by
      unfold wa loA at hw
      simp only [] at hw
      rw [w64_id (by omega) (by omega)]; rfl
    rw [e, w64_id (by omega) (by omega), ih g _ (j + 1) (by omega) (by omega) (by omega) (by omega), innerL_eq]
    by_cases hij : i = j
    · rw [if_pos hij]
      have : maxI b (wa a t (i, j)) = b := by
        subst hij
        have : wa a t (i, i) = loA a i := by unfold wa; simp only [hs]; omega
        rw [this]; unfold maxI; split <;> omega
      rw [this]
    · rw [if_neg hij]; rfl
theorem surf_l0 (k : Nat) {a : List SRange} (ha : GoodR a) {t : SFigureTolerance} (ht : tE t = 0) (hk : 100 ≤ k) : ∀ (d fuel : Nat) (y : List Int) (i : Int), 0 ≤ i → i + d = a.length → (y.length : Int) = i → d < fuel →
    nspeculumref06_Surface_l0_0 k a t fuel y i = some (y ++ sfL a t i d) := by
  have hle := ha.le
  intro d
  induction d with
  | zero =>
    intro fuel y i h0 h hy hf
    obtain ⟨g, rfl⟩ : ∃ g, fuel = g + 1 := ⟨fuel - 1, by omega⟩
    rw [nspeculumref06_Surface_l0_0.eq_2, if_neg (by omega)]; simp [sfL]
  | succ d ih =>
    intro fuel y i h0 h hy hf
    obtain ⟨g, rfl⟩ : ∃ g, fuel = g + 1 := ⟨fuel - 1, by omega⟩
    rw [nspeculumref06_Surface_l0_0.eq_2, if_pos (by omega), if_pos (by omega)]
    change (nspeculumref06_Surface_l1_0 k a t y i k (loA a i) 0).bind _ = _
    rw [surf_l1 k ha ht y i (by omega) a.length k _ 0 (Int.le_refl _) (by omega) (by omega) (by omega), Option.bind_some, if_pos (by simp; omega), w64_id (by omega) (by omega),
      ih g _ (i + 1) (by omega) (by omega) (by simp; omega) (by omega), List.append_assoc]
    rfl
def surfOf (a : List SRange) (t : SFigureTolerance) : List Int := sfL a t 0 a.length
theorem judgeOf_none {a : List SRange} {t : SFigureTolerance} (h : refusedOf a t = none) : (judgeOf a t).1 ≠ -1 := by
  unfold judgeOf
  rw [h]
  cases (pairsL a.length).any (ex a t) <;> simp
theorem Surface_fig (k : Nat) (a : List SRange) (t : SFigureTolerance) (hl : a.length < k) (hk : 100 ≤ k) (hk2 : k ≤ 1000000000) :
    nfigure_Surface k a t = some (if jE a t = 0 then (match refusedOf a t with | some _ => ([], 12) | none => (surfOf a t, 0)) else ([], jE a t)) := by
  unfold nfigure_Surface
  change (nfigure_Judge k a t).bind _ = _
  rw [Judge_fig k a t hl hk hk2, Option.bind_some]
  by_cases h : jE a t = 0
  · have hz := jE_zero h
    have ha := eE_zero hz.1
    have hle := ha.le
    simp only [if_pos h, if_true]
    cases hr : refusedOf a t with
    | some p =>
      have : (judgeOf a t).1 = -1 := by unfold judgeOf; rw [hr]
      rw [if_pos this]
    | none =>
      rw [if_neg (judgeOf_none hr), if_pos (by omega)]
      have h1 := lows_l0 k a t ((judgeOf a t).1, (judgeOf a t).2, 0) (by omega) a.length k 0 (List.replicate (a.length : Int).toNat (0 : Int)) (by omega) (by simp) (by omega)
      have h2 := surf_r0 k ha hz.2 ((judgeOf a t).1, (judgeOf a t).2, 0) (a.length : Int) a.length 0 (a.map SRange.Lo) (by omega) (by simp) (by simp)
      simp only [List.take_zero, List.drop_zero, List.nil_append] at h1 h2
      rw [show ((0 : Nat) : Int) = 0 from rfl] at h1 h2
      rw [h1, Option.bind_some, show nfigure_pairs k (a.length : Int) = some (a.length : Int) from rfl, Option.bind_some, if_pos (by omega)]
      unfold pairsL
      rw [Int.toNat_natCast, h2, Option.bind_some, if_pos (by rw [sfL_len])]
      rfl
  · simp only [if_neg h]
theorem Surface_ref (k : Nat) {a : List SRange} (ha : GoodR a) {t : SFigureTolerance} (ht : tE t = 0) (hk : 100 ≤ k) : nspeculumref06_Surface k a t = some (match refusedOf a t with | some _ => ([], false) | none => (surfOf a t, true)) := by
  have hle := ha.le
  unfold nspeculumref06_Surface
  change (nspeculumref06_Refused k a t).bind _ = _
  rw [refused_ref k ha t hk, Option.bind_some]
  cases hr : refusedOf a t with
  | some p => rfl
  | none =>
    simp only [Bool.false_eq_true, if_false]
    rw [surf_l0 k ha ht hk a.length k [] 0 (by omega) (by omega) (by simp) (by omega)]
    rfl
theorem ints_l (k : Nat) (y : List Int) (hl : y.length < 1000000000000) : ∀ (d fuel i : Nat), y.length = i + d → d < fuel → nspeculumbase_Ints_l0_0 k y y fuel (i : Int) = some (.inr ()) := by
  intro d
  induction d with
  | zero =>
    intro fuel i h hf
    obtain ⟨g, rfl⟩ : ∃ g, fuel = g + 1 := ⟨fuel - 1, by omega⟩
    rw [nspeculumbase_Ints_l0_0.eq_2, if_neg (by omega)]
  | succ d ih =>
    intro fuel i h hf
    obtain ⟨g, rfl⟩ : ∃ g, fuel = g + 1 := ⟨fuel - 1, by omega⟩
    rw [nspeculumbase_Ints_l0_0.eq_2, if_pos (by omega), if_pos (by omega), if_pos (by omega), if_pos rfl, w64_succ (by omega)]
    exact ih g (i + 1) (by omega) (by omega)
theorem ints_self (k : Nat) (y : List Int) (hl : y.length < k) (hk2 : k ≤ 1000000000) : nspeculumbase_Ints k y y = some true := by
  unfold nspeculumbase_Ints
  rw [if_pos rfl, show (0 : Int) = ((0 : Nat) : Int) from rfl, ints_l k y (by omega) y.length k 0 (by omega) hl]; rfl
theorem surf_within {a : List SRange} (ha : GoodR a) {t : SFigureTolerance} (ht : tE t = 0) (hr : refusedOf a t = none) (i : Int) (hi : 0 ≤ i ∧ i < a.length) : loA a i ≤ sf a t i ∧ sf a t i ≤ hiA a i := by
  have h1 := ha.all i hi.1 hi.2
  refine ⟨le_mx _ _ _, mx_le _ _ _ h1.2.2 fun p hp => ?_⟩
  have hm := (mem_inner _ _ _).1 hp
  unfold refusedOf at hr
  rw [List.find?_eq_none] at hr
  obtain ⟨p1, p2⟩ := p
  simp only [] at hm
  obtain ⟨rfl, hm2, hm3, hm4⟩ := hm
  have h5 := hr (p2, p1) ((mem_pairs (by omega) _).2 (by simp only []; omega))
  simp only [rf, least] at h5
  rw [bd_symm] at h5
  have h6 : ¬ (bd t p1 p2 < loA a p2 - hiA a p1) := fun h => h5 (decide_eq_true h)
  unfold wa
  simp only []
  omega
theorem sf_near {a : List SRange} (ha : GoodR a) {t : SFigureTolerance} (ht : tE t = 0) (i j : Int) (hi : 0 ≤ i ∧ i < a.length) (hj : 0 ≤ j ∧ j < a.length) (hij : i ≠ j) : sf a t i ≤ sf a t j + bd t i j := by
  have hle := ha.le
  have hb := bd_bd ht (i := i) (j := j) (by omega) (by omega)
  have hjl : loA a j ≤ sf a t j := le_mx _ _ _
  have key : ∀ l : Int, 0 ≤ l → l < a.length → l ≠ j → loA a l - bd t j l ≤ sf a t j := fun l h1 h2 h3 =>
    mem_mx (wa a t) (innerL j 0 a.length) (loA a j) (j, l) ((mem_inner _ _ _).2 ⟨rfl, h1, by omega, h3⟩)
  refine mx_le _ _ _ ?_ fun p hp => ?_
  · have := key i hi.1 hi.2 hij
    rw [bd_symm] at this
    omega
  · have hm := (mem_inner _ _ _).1 hp
    have ht3 := bd_tri ht (i := i) (j := j) (l := p.2) (by omega) (by omega) (by omega)
    have hb2 := bd_bd ht (i := i) (j := p.2) (by omega) (by omega)
    unfold wa
    rw [hm.1]
    by_cases h : p.2 = j
    · rw [h] at *; omega
    · have := key p.2 (by omega) (by omega) h
      omega
theorem meets_none (k : Nat) (y : List Int) (t : SFigureTolerance) (r : Int) (hy : y.all inH = true) (hl : y.length ≤ 40) : ∀ (xs : List (Int × Int)), (∀ p ∈ xs, inP y.length p ∧ bad y t p.1 p.2 = false) → nfigure_Meets_r0 k y t r xs 0 0 0 = some (.inl (0, 0, 0))
  | [], _ => rfl
  | p :: ps, h => by
    have hp := h p (by simp)
    obtain ⟨p1, p2⟩ := p
    rw [meets_r0 k y t r hy hl p1 p2 ps hp.1.1 hp.1.2.1, hp.2]
    exact meets_none k y t r hy hl ps (fun q hq => h q (by simp [hq]))
theorem surf_get (a : List SRange) (t : SFigureTolerance) (i : Int) (hi : 0 ≤ i ∧ i < a.length) : (surfOf a t).getD i.toNat 0 = sf a t i := by
  unfold surfOf
  rw [sfL_get a t a.length 0 i.toNat (by omega)]
  congr 1; omega
theorem all_of_get {y : List Int} (h : ∀ i, i < y.length → inH (y.getD i 0) = true) : y.all inH = true := by
  rw [List.all_eq_true]
  intro x hx
  obtain ⟨i, hi, rfl⟩ := List.getElem_of_mem hx
  have := h i hi
  rw [List.getD_eq_getElem?_getD, List.getElem?_eq_getElem hi] at this
  exact this
theorem surf_meets (k : Nat) {a : List SRange} (ha : GoodR a) {t : SFigureTolerance} (ht : tE t = 0) (hr : refusedOf a t = none) (hk : 100 ≤ k) (hk2 : k ≤ 1000000000) : nfigure_Meets k (surfOf a t) t = some (⟨0, 0⟩, 0) := by
  have hle := ha.le
  have hpos := ha.pos
  have hlen : (surfOf a t).length = a.length := sfL_len a t _ _
  have hall : (surfOf a t).all inH = true := all_of_get fun i hi => by
    have h1 := surf_within ha ht hr (i : Int) (by omega)
    have h2 := ha.all (i : Int) (by omega) (by omega)
    have h3 := surf_get a t (i : Int) (by omega)
    rw [Int.toNat_natCast] at h3
    rw [h3]
    exact decide_eq_true (by omega)
  have hh : hE (surfOf a t) = 0 := by unfold hE; rw [if_pos (by omega), hall]; rfl
  unfold nfigure_Meets
  rw [checkHeights_any k _ (by omega) hk2, Option.bind_some, if_pos hh]
  change (nfigure_CheckTolerance k t).bind _ = _
  rw [tol_fig, Option.bind_some, if_pos ht, show nfigure_pairs k ((surfOf a t).length : Int) = some ((surfOf a t).length : Int) from rfl, Option.bind_some, if_pos (by omega),
    meets_none k _ t _ hall (by omega) _ fun p hp => ?_]
  · rfl
  · have h1 := pairs_in _ p hp
    refine ⟨h1, ?_⟩
    unfold inP at h1
    unfold bad
    rw [surf_get a t p.1 (by omega), surf_get a t p.2 (by omega)]
    have h2 := sf_near ha ht p.1 p.2 (by omega) (by omega) (by omega)
    have h3 := sf_near ha ht p.2 p.1 (by omega) (by omega) (by omega)
    rw [bd_symm] at h3
    exact decide_eq_false (by unfold ab; split <;> omega)
theorem surf_law_l0 (k : Nat) {a : List SRange} (ha : GoodR a) {t : SFigureTolerance} (ht : tE t = 0) (hr : refusedOf a t = none) : ∀ (d fuel : Nat) (i : Int), 0 ≤ i → i + d = a.length → d < fuel →
    nspeculumlaw06_FigureSurfaces_l0_0 k a t (surfOf a t, 0) fuel i = some (.inr ()) := by
  have hle := ha.le
  have hlen : (surfOf a t).length = a.length := sfL_len a t _ _
  intro d
  induction d with
  | zero =>
    intro fuel i h0 h hf
    obtain ⟨g, rfl⟩ : ∃ g, fuel = g + 1 := ⟨fuel - 1, by omega⟩
    rw [nspeculumlaw06_FigureSurfaces_l0_0.eq_2]
    simp only []
    rw [if_neg (by omega)]
  | succ d ih =>
    intro fuel i h0 h hf
    obtain ⟨g, rfl⟩ : ∃ g, fuel = g + 1 := ⟨fuel - 1, by omega⟩
    have h1 := surf_within ha ht hr i (by omega)
    rw [nspeculumlaw06_FigureSurfaces_l0_0.eq_2]
    simp only []
    rw [if_pos (by omega), if_pos (by omega), if_pos (by omega), within_base, Option.bind_some, surf_get a t i (by omega)]
    change (if decide (loA a i ≤ sf a t i ∧ sf a t i ≤ hiA a i) = true then _ else _) = _
    rw [decide_eq_true h1, if_pos rfl, w64_id (by omega) (by omega)]
    exact ih g (i + 1) (by omega) (by omega) (by omega)
theorem law_surfaces (k : Nat) (a : List SRange) (t : SFigureTolerance) (hk : 100 ≤ k) (hk2 : k ≤ 1000000000) : nspeculumlaw06_FigureSurfaces k a t = some true := by
  unfold nspeculumlaw06_FigureSurfaces
  rw [show nawake k = some true from rfl]
  have ht : (⟨t.Peak, t.Slope⟩ : SFigureTolerance) = t := rfl
  simp only [Option.bind_some, if_true, ht]
  by_cases h45 : 45 < (a.length : Int)
  · rw [if_pos h45]
  rw [if_neg h45, ranges_any k a (by omega)]
  simp only [Option.bind_some, judgeErr_any k a t (by omega) hk hk2, Surface_fig k a t (by omega) hk hk2]
  by_cases h0 : jE a t = 0
  · have hz := jE_zero h0
    have ha := eE_zero hz.1
    have hle := ha.le
    have hlen : (surfOf a t).length = a.length := sfL_len a t _ _
    simp only [if_pos h0, Surface_ref k ha hz.2 hk, Option.bind_some]
    cases hr : refusedOf a t with
    | some p => rfl
    | none =>
      simp only [if_true]
      rw [ints_self k _ (by omega) hk2, Option.bind_some, if_pos rfl, surf_law_l0 k ha hz.2 hr a.length k 0 (by omega) (by omega) (by omega), Option.bind_some]
      simp only []
      rw [surf_meets k ha hz.2 hr hk hk2]
      rfl
  · simp only [if_neg h0]
    simp
theorem vc_surfaces (a : List SRange) (t : SFigureTolerance) : VC Go.Proofs.Try.prog 7 [VV.tr (a.flatMap c_SRange) a.length, VV.ag [vi t.Peak, vi t.Slope]] (vb true) :=
  nspeculumlaw06_FigureSurfaces_ok 1000 a t true (law_surfaces 1000 a t (by decide) (by decide))
end Go.Proofs.Ytlhkkbdfdkjlcaa.Vg
