/- Law of remaining heights: the plain functions of the text G1 agree, for all lists. -/
import Derived.Test.YteicfenmfnpmgaaG1
set_option linter.unusedVariables false
set_option linter.unusedSimpArgs false
namespace Go.Proofs.Yteicfenmfnpmgaa.Vg
open Go Go.Proofs.Yteicfenmfnpmgaa.Ev Go.Proofs.Yteicfenmfnpmgaa.Vv

theorem w64_id {n : Int} (h1 : -9223372036854775808 ≤ n) (h2 : n ≤ 9223372036854775807) : w64 n = n := by
  unfold w64 IntKind.wrap
  simp [IntKind.signed, IntKind.bits]
  omega
theorem w64_succ {i : Nat} (h : i < 1000000000000) : w64 ((i : Int) + 1) = ((i + 1 : Nat) : Int) := by
  rw [w64_id (by omega) (by omega)]; omega
theorem take_set {α : Type} {y : List α} {i : Nat} (h : i < y.length) (v : α) : (y.set i v).take (i + 1) = y.take i ++ [v] := by
  apply List.ext_getElem
  · simp; omega
  · intro j h1 h2
    simp only [List.getElem_take, List.getElem_set, List.getElem_append, List.length_take]
    simp at h1 h2
    by_cases hj : i = j
    · subst hj; rw [if_pos rfl, dif_neg (by omega)]; simp
    · rw [if_neg hj, dif_pos (by omega)]
theorem drop_get {α : Type} {y : List α} {i : Nat} (h : i < y.length) (d : α) : y.drop i = y.getD i d :: y.drop (i + 1) := by
  rw [List.drop_eq_getElem_cons h, List.getD_eq_getElem?_getD, List.getElem?_eq_getElem h]; rfl

def sumB (b : Bool) : Sum Unit Unit := match b with | true => .inr () | false => .inl ()
def inH (n : Int) : Bool := decide (-100000 ≤ n ∧ n ≤ 100000)
def inW (n : Int) : Bool := decide (0 ≤ n ∧ n ≤ 100000)
theorem within_fig (k : Nat) (a b c : Int) : nfigure_isWithin k a b c = some (decide (b ≤ a ∧ a ≤ c)) := by
  unfold nfigure_isWithin
  by_cases h : b ≤ a
  · rw [if_pos h]; simp [h]
  · rw [if_neg h]; simp [h]
theorem within_base (k : Nat) (a b c : Int) : nspeculumbase_Within k a b c = some (decide (b ≤ a ∧ a ≤ c)) := by
  unfold nspeculumbase_Within
  by_cases h : b ≤ a
  · rw [if_pos h]; simp [h]
  · rw [if_neg h]; simp [h]
theorem isHeight_any (k : Nat) (a : Int) : nspeculumref06_isHeight k a = some (inH a) := by
  unfold nspeculumref06_isHeight
  rw [within_base]; rfl

theorem areHeights_l (k : Nat) (a : List Int) (hl : a.length < 1000000000000) : ∀ (d fuel i : Nat), a.length = i + d → d < fuel →
    nfigure_areHeights_l0_0 k a fuel (i : Int) = some (sumB ((a.drop i).all inH)) := by
  intro d
  induction d with
  | zero =>
    intro fuel i h hf
    obtain ⟨g, rfl⟩ : ∃ g, fuel = g + 1 := ⟨fuel - 1, by omega⟩
    rw [nfigure_areHeights_l0_0.eq_2, if_neg (by omega), List.drop_eq_nil_of_le (by omega)]; rfl
  | succ d ih =>
    intro fuel i h hf
    obtain ⟨g, rfl⟩ : ∃ g, fuel = g + 1 := ⟨fuel - 1, by omega⟩
    rw [nfigure_areHeights_l0_0.eq_2, if_pos (by omega), if_pos (by omega), within_fig, Option.bind_some, w64_succ (by omega), ih g (i + 1) (by omega) (by omega), drop_get (y := a) (i := i) (by omega) 0]
    simp only [Int.toNat_natCast, List.all_cons]
    change (if inH _ = true then _ else _) = _
    cases inH (a.getD i 0) <;> rfl
theorem checkHeights_any (k : Nat) (a : List Int) (hl : a.length < k) (hk : k ≤ 1000000000) :
    nfigure_checkHeights k a = some (if 1 ≤ a.length ∧ a.length ≤ 40 then (if a.all inH then 0 else 2) else 10) := by
  unfold nfigure_checkHeights nfigure_areHeights
  have hh := areHeights_l k a (by omega) a.length k 0 (by omega) hl
  rw [within_fig, Option.bind_some, show ((0 : Int)) = ((0 : Nat) : Int) from rfl, hh]
  by_cases h : 1 ≤ a.length ∧ a.length ≤ 40
  · rw [if_pos h, if_pos (by simp; omega)]
    simp only [List.drop_zero]
    cases a.all inH <;> rfl
  · rw [if_neg h, if_neg (by simp; omega)]
theorem heightsErr_l (k : Nat) (a : List Int) (hl : a.length < 1000000000000) : ∀ (d fuel i : Nat), a.length = i + d → d < fuel →
    nspeculumref06_HeightsErr_l0_0 k a fuel (i : Int) = some (sumB ((a.drop i).all inH)) := by
  intro d
  induction d with
  | zero =>
    intro fuel i h hf
    obtain ⟨g, rfl⟩ : ∃ g, fuel = g + 1 := ⟨fuel - 1, by omega⟩
    rw [nspeculumref06_HeightsErr_l0_0.eq_2, if_neg (by omega), List.drop_eq_nil_of_le (by omega)]; rfl
  | succ d ih =>
    intro fuel i h hf
    obtain ⟨g, rfl⟩ : ∃ g, fuel = g + 1 := ⟨fuel - 1, by omega⟩
    rw [nspeculumref06_HeightsErr_l0_0.eq_2, if_pos (by omega), if_pos (by omega), isHeight_any, Option.bind_some, w64_succ (by omega), ih g (i + 1) (by omega) (by omega), drop_get (y := a) (i := i) (by omega) 0]
    simp only [Int.toNat_natCast, List.all_cons]
    change (if inH _ = true then _ else _) = _
    cases inH (a.getD i 0) <;> rfl
theorem heightsErr_any (k : Nat) (a : List Int) (hl : a.length < k) (hk : k ≤ 1000000000) :
    nspeculumref06_HeightsErr k a = some (if 1 ≤ a.length ∧ a.length ≤ 40 then (if a.all inH then 0 else 2) else 10) := by
  unfold nspeculumref06_HeightsErr
  have hh := heightsErr_l k a (by omega) a.length k 0 (by omega) hl
  rw [within_base, Option.bind_some, show ((0 : Int)) = ((0 : Nat) : Int) from rfl, hh]
  by_cases h : 1 ≤ a.length ∧ a.length ≤ 40
  · rw [if_pos h, if_pos (by simp; omega)]
    simp only [List.drop_zero]
    cases a.all inH <;> rfl
  · rw [if_neg h, if_neg (by simp; omega)]

theorem checkWear_l (k : Nat) (a : List Int) (hl : a.length < 1000000000000) : ∀ (d fuel i : Nat), a.length = i + d → d < fuel →
    nfigure_checkWear_l0_0 k a fuel (i : Int) = some (sumB ((a.drop i).all inW)) := by
  intro d
  induction d with
  | zero =>
    intro fuel i h hf
    obtain ⟨g, rfl⟩ : ∃ g, fuel = g + 1 := ⟨fuel - 1, by omega⟩
    rw [nfigure_checkWear_l0_0.eq_2, if_neg (by omega), List.drop_eq_nil_of_le (by omega)]; rfl
  | succ d ih =>
    intro fuel i h hf
    obtain ⟨g, rfl⟩ : ∃ g, fuel = g + 1 := ⟨fuel - 1, by omega⟩
    rw [nfigure_checkWear_l0_0.eq_2, if_pos (by omega), if_pos (by omega), within_fig, Option.bind_some, w64_succ (by omega), ih g (i + 1) (by omega) (by omega), drop_get (y := a) (i := i) (by omega) 0]
    simp only [Int.toNat_natCast, List.all_cons]
    change (if inW _ = true then _ else _) = _
    cases inW (a.getD i 0) <;> rfl
def wearE (n : Nat) (b : List Int) : Int := if b.length = n then (if b.all inW then 0 else 2) else 10
theorem checkWear_any (k : Nat) (a b : List Int) (hl : a.length < k) (hk : k ≤ 1000000000) : nfigure_checkWear k a b = some (wearE a.length b) := by
  unfold nfigure_checkWear wearE
  by_cases h : b.length = a.length
  · rw [if_pos (by omega), if_pos h, show ((0 : Int)) = ((0 : Nat) : Int) from rfl, checkWear_l k b (by omega) b.length k 0 (by omega) (by omega)]
    simp only [List.drop_zero]
    cases b.all inW <;> rfl
  · rw [if_neg (by omega), if_neg h]
theorem wearErr_l (k : Nat) (a : List Int) (hl : a.length < 1000000000000) : ∀ (d fuel i : Nat), a.length = i + d → d < fuel →
    nspeculumref06_WearErr_l0_0 k (a.length : Int) a fuel (i : Int) = some (sumB ((a.drop i).all inW)) := by
  intro d
  induction d with
  | zero =>
    intro fuel i h hf
    obtain ⟨g, rfl⟩ : ∃ g, fuel = g + 1 := ⟨fuel - 1, by omega⟩
    rw [nspeculumref06_WearErr_l0_0.eq_2, if_neg (by omega), List.drop_eq_nil_of_le (by omega)]; rfl
  | succ d ih =>
    intro fuel i h hf
    obtain ⟨g, rfl⟩ : ∃ g, fuel = g + 1 := ⟨fuel - 1, by omega⟩
    rw [nspeculumref06_WearErr_l0_0.eq_2, if_pos (by omega), if_pos (by omega), within_base, Option.bind_some, w64_succ (by omega), ih g (i + 1) (by omega) (by omega), drop_get (y := a) (i := i) (by omega) 0]
    simp only [Int.toNat_natCast, List.all_cons]
    change (if inW _ = true then _ else _) = _
    cases inW (a.getD i 0) <;> rfl
theorem wearErr_any (k n : Nat) (b : List Int) (hl : n < k) (hk : k ≤ 1000000000) : nspeculumref06_WearErr k (n : Int) b = some (wearE n b) := by
  unfold nspeculumref06_WearErr wearE
  by_cases h : b.length = n
  · subst h
    rw [if_pos (by omega), if_pos rfl, show ((0 : Int)) = ((0 : Nat) : Int) from rfl, wearErr_l k b (by omega) b.length k 0 (by omega) (by omega)]
    simp only [List.drop_zero]
    cases b.all inW <;> rfl
  · rw [if_neg (by omega), if_neg h]

def subW (a b : Int) : Int := w64 (a - b)
theorem worn_l (k : Nat) (a b : List Int) (hb : b.length = a.length) (hl : a.length < 1000000000000) : ∀ (d fuel i : Nat) (y : List Int), a.length = i + d → y.length = a.length → d < fuel →
    nfigure_worn_l0_0 k a b fuel y (i : Int) = some (y.take i ++ List.zipWith subW (a.drop i) (b.drop i)) := by
  intro d
  induction d with
  | zero =>
    intro fuel i y h hy hf
    obtain ⟨g, rfl⟩ : ∃ g, fuel = g + 1 := ⟨fuel - 1, by omega⟩
    rw [nfigure_worn_l0_0.eq_2, if_neg (by omega), List.drop_eq_nil_of_le (by omega), List.take_of_length_le (by omega)]; simp
  | succ d ih =>
    intro fuel i y h hy hf
    obtain ⟨g, rfl⟩ : ∃ g, fuel = g + 1 := ⟨fuel - 1, by omega⟩
    rw [nfigure_worn_l0_0.eq_2, if_pos (by omega), if_pos (by omega), if_pos (by omega), if_pos (by omega), w64_succ (by omega)]
    simp only [Int.toNat_natCast]
    rw [ih g (i + 1) _ (by omega) (by simp; omega) (by omega), drop_get (y := a) (i := i) (by omega) 0, drop_get (y := b) (i := i) (by omega) 0, take_set (by omega)]
    simp [subW]
theorem worn_any (k : Nat) (a b : List Int) (hb : b.length = a.length) (hl : a.length < k) (hk : k ≤ 1000000000) : nfigure_worn k a b = some (List.zipWith subW a b) := by
  unfold nfigure_worn
  rw [if_pos (by omega), show ((0 : Int)) = ((0 : Nat) : Int) from rfl, worn_l k a b hb (by omega) a.length k 0 _ (by omega) (by simp) hl]
  simp
theorem copyInts_any (k : Nat) (a : List Int) (hl : a.length ≤ 1000000000) : nspeculumbase_CopyInts k a = some a := by
  unfold nspeculumbase_CopyInts
  rw [if_pos (by simpa using hl)]; rfl
theorem less_l (k : Nat) (b : List Int) (hl : b.length < 1000000000000) : ∀ (d fuel i : Nat) (y : List Int), y.length = i + d → b.length = y.length → d < fuel → b.all inW = true →
    nspeculumref06_less_l0_0 k b 1 fuel y (i : Int) = some (y.take i ++ List.zipWith subW (y.drop i) (b.drop i)) := by
  intro d
  induction d with
  | zero =>
    intro fuel i y h hb hf _
    obtain ⟨g, rfl⟩ : ∃ g, fuel = g + 1 := ⟨fuel - 1, by omega⟩
    rw [nspeculumref06_less_l0_0.eq_2, if_neg (by omega), List.drop_eq_nil_of_le (by omega), List.take_of_length_le (by omega)]; simp
  | succ d ih =>
    intro fuel i y h hb hf hw
    obtain ⟨g, rfl⟩ : ∃ g, fuel = g + 1 := ⟨fuel - 1, by omega⟩
    have h1 : inW (b.getD i 0) = true := by
      rw [List.all_eq_true] at hw
      refine hw _ ?_
      rw [List.getD_eq_getElem?_getD, List.getElem?_eq_getElem (by omega)]
      exact List.getElem_mem _
    have h2 : w64 (1 * b.getD i 0) = b.getD i 0 := by
      unfold inW at h1
      rw [decide_eq_true_eq] at h1
      rw [Int.one_mul, w64_id (by omega) (by omega)]
    rw [nspeculumref06_less_l0_0.eq_2, if_pos (by omega), if_pos (by omega), if_pos (by omega), w64_succ (by omega)]
    simp only [Int.toNat_natCast]
    rw [h2, ih g (i + 1) _ (by simp; omega) (by simp; omega) (by omega) hw, drop_get (y := y) (i := i) (by omega) 0, drop_get (y := b) (i := i) (by omega) 0, take_set (by omega)]
    rw [List.drop_set_of_lt (by omega)]
    simp [subW]
theorem less_any (k : Nat) (a b : List Int) (hb : b.length = a.length) (hw : b.all inW = true) (hl : a.length < k) (hk : k ≤ 1000000000) : nspeculumref06_less k a b 1 = some (List.zipWith subW a b) := by
  unfold nspeculumref06_less
  rw [copyInts_any k a (by omega), Option.bind_some, show ((0 : Int)) = ((0 : Nat) : Int) from rfl, less_l k b (by omega) a.length k 0 a (by omega) hb hl hw]
  simp

theorem remaining_l (k : Nat) (a : List Int) (b : List (List Int)) (hl : a.length < k) (hk : k ≤ 1000000000) (hb : b.length < 1000000000) : ∀ (d fuel i : Nat) (x : List Int), b.length = i + d → d < fuel → x.length = a.length →
    ∃ r, nfigure_Remaining_l0_0 k a b fuel (i : Int) x = some r ∧ nspeculumref06_Remaining_l0_0 k a b fuel x (i : Int) = some r ∧ (∀ l, r = .inr l → l.length = a.length) := by
  intro d
  induction d with
  | zero =>
    intro fuel i x h hf hx
    obtain ⟨g, rfl⟩ : ∃ g, fuel = g + 1 := ⟨fuel - 1, by omega⟩
    refine ⟨.inr x, ?_, ?_, fun l e => by injection e with e; rw [← e]; exact hx⟩
    · rw [nfigure_Remaining_l0_0.eq_2, if_neg (by omega)]
    · rw [nspeculumref06_Remaining_l0_0.eq_2, if_neg (by omega)]
  | succ d ih =>
    intro fuel i x h hf hx
    obtain ⟨g, rfl⟩ : ∃ g, fuel = g + 1 := ⟨fuel - 1, by omega⟩
    rw [nfigure_Remaining_l0_0.eq_2, nspeculumref06_Remaining_l0_0.eq_2, if_pos (by omega), if_pos (by omega), if_pos (by omega), if_pos (by omega), checkWear_any k a _ hl hk, wearErr_any k a.length _ hl hk, Option.bind_some, Option.bind_some]
    by_cases he : wearE a.length (b.getD (i : Int).toNat default) = 0
    · rw [if_pos he, if_pos he]
      have hq : (b.getD (i : Int).toNat default).length = a.length ∧ (b.getD (i : Int).toNat default).all inW = true := by
        unfold wearE at he
        by_cases h1 : (b.getD (i : Int).toNat default).length = a.length
        · rw [if_pos h1] at he
          refine ⟨h1, ?_⟩
          by_cases h2 : (b.getD (i : Int).toNat default).all inW = true
          · exact h2
          · rw [if_neg h2] at he; cases he
        · rw [if_neg h1] at he; cases he
      rw [worn_any k x _ (by rw [hq.1, hx]) (by omega) hk, less_any k x _ (by rw [hq.1, hx]) hq.2 (by omega) hk, Option.bind_some, Option.bind_some, w64_succ (by omega)]
      exact ih g (i + 1) _ (by omega) (by omega) (by rw [List.length_zipWith, hq.1, hx]; omega)
    · rw [if_neg he, if_neg he]
      exact ⟨_, rfl, rfl, fun l e => by cases e⟩
theorem remaining_any (k : Nat) (a : List Int) (b : List (List Int)) (hl : a.length < k) (hk : k ≤ 1000000000) (hb : b.length < k) :
    ∃ r, nfigure_Remaining k a b = some r ∧ nspeculumref06_Remaining k a b = some r ∧ (r.1.length ≤ a.length) := by
  unfold nfigure_Remaining nspeculumref06_Remaining
  rw [checkHeights_any k a hl hk, heightsErr_any k a hl hk, Option.bind_some, Option.bind_some]
  generalize hE : (if 1 ≤ a.length ∧ a.length ≤ 40 then (if a.all inH then (0 : Int) else 2) else 10) = E
  by_cases h0 : E = 0
  · rw [if_pos h0, if_pos h0]
    by_cases h1 : (100 : Int) < (b.length : Int)
    · rw [if_pos h1, if_pos h1]
      exact ⟨_, rfl, rfl, by simp⟩
    · rw [if_neg h1, if_neg h1]
      have ha : 0 < a.length := by
        by_cases h : 1 ≤ a.length ∧ a.length ≤ 40
        · omega
        · rw [if_neg h] at hE; omega
      have hc : nslices_Clone_int_int_ k a = some a := by
        unfold nslices_Clone_int_int_
        rw [if_pos ha, if_pos (by simp; omega)]; rfl
      obtain ⟨r, e1, e2, e3⟩ := remaining_l k a b hl hk (by omega) b.length k 0 a (by omega) hb rfl
      have e1' : nfigure_Remaining_l0_0 k a b k 0 a = some r := e1
      have e2' : nspeculumref06_Remaining_l0_0 k a b k a 0 = some r := e2
      rw [hc, copyInts_any k a (by omega), Option.bind_some, Option.bind_some, e1', e2']
      cases r with
      | inl e => exact ⟨_, rfl, rfl, by simp⟩
      | inr l => exact ⟨_, rfl, rfl, by simp [e3 l rfl]⟩
  · rw [if_neg h0, if_neg h0]
    exact ⟨_, rfl, rfl, by simp⟩

theorem ints_l (k : Nat) (a : List Int) (hl : a.length < 1000000000000) : ∀ (d fuel i : Nat), a.length = i + d → d < fuel → nspeculumbase_Ints_l0_0 k a a fuel (i : Int) = some (.inr ()) := by
  intro d
  induction d with
  | zero =>
    intro fuel i h hf
    obtain ⟨g, rfl⟩ : ∃ g, fuel = g + 1 := ⟨fuel - 1, by omega⟩
    rw [nspeculumbase_Ints_l0_0.eq_2, if_neg (by omega)]
  | succ d ih =>
    intro fuel i h hf
    obtain ⟨g, rfl⟩ : ∃ g, fuel = g + 1 := ⟨fuel - 1, by omega⟩
    rw [nspeculumbase_Ints_l0_0.eq_2, if_pos (by omega), if_pos (by omega), if_pos (by omega), if_pos rfl, w64_succ (by omega), ih g (i + 1) (by omega) (by omega)]
theorem ints_same (k : Nat) (a : List Int) (hl : a.length < k) (hk : k ≤ 1000000000) : nspeculumbase_Ints k a a = some true := by
  unfold nspeculumbase_Ints
  have h : nspeculumbase_Ints_l0_0 k a a k 0 = some (.inr ()) := ints_l k a (by omega) a.length k 0 (by omega) hl
  rw [if_pos rfl, h]; rfl

def short (b : List Int) : Bool := decide (b.length ≤ 45)
theorem lists_l (k : Nat) (a : List (List Int)) (hl : a.length < 1000000000000) : ∀ (d fuel i : Nat), a.length = i + d → d < fuel →
    nspeculumlaw06_lists_l0_0 k a fuel (i : Int) = some (sumB ((a.drop i).all short)) := by
  intro d
  induction d with
  | zero =>
    intro fuel i h hf
    obtain ⟨g, rfl⟩ : ∃ g, fuel = g + 1 := ⟨fuel - 1, by omega⟩
    rw [nspeculumlaw06_lists_l0_0.eq_2, if_neg (by omega), List.drop_eq_nil_of_le (by omega)]; rfl
  | succ d ih =>
    intro fuel i h hf
    obtain ⟨g, rfl⟩ : ∃ g, fuel = g + 1 := ⟨fuel - 1, by omega⟩
    rw [nspeculumlaw06_lists_l0_0.eq_2, if_pos (by omega), if_pos (by omega), w64_succ (by omega), ih g (i + 1) (by omega) (by omega), drop_get (y := a) (i := i) (by omega) default]
    simp only [Int.toNat_natCast, List.all_cons]
    by_cases h1 : (a.getD i default).length ≤ 45
    · rw [if_neg (by omega), show short (a.getD i default) = true from decide_eq_true h1]; rfl
    · rw [if_pos (by omega), show short (a.getD i default) = false from decide_eq_false h1]; rfl
theorem lists_l1 (k : Nat) (a : List (List Int)) : ∀ (fuel : Nat) (i : Int), nspeculumlaw06_lists_l0_1 k a fuel i = nspeculumlaw06_lists_l0_0 k a fuel i := by
  intro fuel
  induction fuel with
  | zero => intro i; rfl
  | succ g ih => intro i; rw [nspeculumlaw06_lists_l0_0.eq_2, nspeculumlaw06_lists_l0_1.eq_2, ih]
theorem lists_any (k : Nat) (a : List (List Int)) (hk : 102 < k) : ∃ r, nspeculumlaw06_lists k a 6 = some r ∧ (r = true → a.length ≤ 102 ∧ a.all short = true) := by
  unfold nspeculumlaw06_lists
  have hm : a.length ≤ 102 → nspeculumlaw06_lists_l0_0 k a k 0 = some (sumB (a.all short)) := fun h => lists_l k a (by omega) a.length k 0 (by omega) (by omega)
  have hf : ∃ r, (if 102 < (a.length : Int) then some false else ((nspeculumlaw06_lists_l0_0 k a k 0).bind fun r => (match r with | .inl _ => (some false) | .inr _ => (some true)))) = some r ∧ (r = true → a.length ≤ 102 ∧ a.all short = true) := by
    by_cases h : 102 < (a.length : Int)
    · rw [if_pos h]; exact ⟨_, rfl, fun e => by cases e⟩
    · rw [if_neg h, hm (by omega), Option.bind_some]
      cases e : a.all short
      · exact ⟨false, rfl, fun e => by cases e⟩
      · exact ⟨true, rfl, fun _ => ⟨by omega, rfl⟩⟩
  rw [lists_l1]
  by_cases h6 : 6 < (a.length : Int)
  · rw [if_pos h6]
    by_cases h7 : (a.length : Int) ≤ 100
    · rw [if_pos h7]; exact ⟨_, rfl, fun e => by cases e⟩
    · rw [if_neg h7]; exact hf
  · rw [if_neg h6]; exact hf
theorem copyLists_l (k : Nat) (a : List (List Int)) (hl : a.length < 1000000) (hs : a.all short = true) : ∀ (d fuel i : Nat), a.length = i + d → d < fuel →
    nspeculumbase_CopyLists_l0_0 k a fuel (a.take i) (i : Int) = some a := by
  intro d
  induction d with
  | zero =>
    intro fuel i h hf
    obtain ⟨g, rfl⟩ : ∃ g, fuel = g + 1 := ⟨fuel - 1, by omega⟩
    rw [nspeculumbase_CopyLists_l0_0.eq_2, if_neg (by omega), List.take_of_length_le (by omega)]
  | succ d ih =>
    intro fuel i h hf
    obtain ⟨g, rfl⟩ : ∃ g, fuel = g + 1 := ⟨fuel - 1, by omega⟩
    have h1 : (a.getD (i : Int).toNat default).length ≤ 45 := by
      rw [List.all_eq_true] at hs
      have := hs (a.getD (i : Int).toNat default) (by rw [List.getD_eq_getElem?_getD, List.getElem?_eq_getElem (by simp; omega)]; exact List.getElem_mem _)
      exact of_decide_eq_true this
    rw [nspeculumbase_CopyLists_l0_0.eq_2, if_pos (by omega), if_pos (by omega), copyInts_any k _ (by omega), Option.bind_some, if_pos (by simp; omega), w64_succ (by omega)]
    have h2 : a.take i ++ [a.getD (i : Int).toNat default] = a.take (i + 1) := by
      rw [List.take_add_one, List.getD_eq_getElem?_getD, Int.toNat_natCast, List.getElem?_eq_getElem (by omega)]; rfl
    rw [h2]
    exact ih g (i + 1) (by omega) (by omega)
theorem copyLists_any (k : Nat) (a : List (List Int)) (hs : a.all short = true) (hl : a.length < k) (hk : k < 1000000) : nspeculumbase_CopyLists k a = some a := by
  unfold nspeculumbase_CopyLists
  have h : nspeculumbase_CopyLists_l0_0 k a k [] 0 = some a := copyLists_l k a (by omega) hs a.length k 0 (by omega) hl
  rw [h]; rfl

theorem law_remains (a : List Int) (b : List (List Int)) : nspeculumlaw06_FigureRemains 1000 a b = some true := by
  unfold nspeculumlaw06_FigureRemains nawake
  rw [Option.bind_some, if_pos rfl]
  by_cases h : (45 : Int) < (a.length : Int)
  · rw [if_pos h]
  · rw [if_neg h]
    obtain ⟨r, e1, e2⟩ := lists_any 1000 b (by omega)
    rw [e1, Option.bind_some]
    cases r with
    | false => rfl
    | true =>
      obtain ⟨h1, h2⟩ := e2 rfl
      obtain ⟨r, f1, f2, f3⟩ := remaining_any 1000 a b (by omega) (by omega) (by omega)
      rw [if_pos rfl, copyInts_any 1000 a (by omega), Option.bind_some, copyLists_any 1000 b h2 (by omega) (by omega), Option.bind_some, f1, f2, Option.bind_some, Option.bind_some, if_pos rfl, ints_same 1000 r.1 (by omega) (by omega), Option.bind_some]
theorem vc_remains (a : List Int) (b : List (List Int)) : VC Go.Proofs.Try.prog 4 [.tr (a.map vi) a.length, .tr (b.map v_22) b.length] (vb true) :=
  nspeculumlaw06_FigureRemains_ok 1000 a b true (law_remains a b)
end Go.Proofs.Yteicfenmfnpmgaa.Vg
