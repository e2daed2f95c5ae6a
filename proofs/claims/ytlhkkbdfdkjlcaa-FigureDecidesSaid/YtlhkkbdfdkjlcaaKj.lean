/- Law of judgements: the program's one walk over all pairs and the reference's two find the same answer. -/
import Derived.Test.YtlhkkbdfdkjlcaaK1
set_option linter.unusedVariables false
set_option linter.unusedSimpArgs false
namespace Go.Proofs.Ytlhkkbdfdkjlcaa.Vg
open Go Go.Proofs.Ytlhkkbdfdkjlcaa.Ev Go.Proofs.Ytlhkkbdfdkjlcaa.Vv

theorem w64_id {n : Int} (h1 : -9223372036854775808 ≤ n) (h2 : n ≤ 9223372036854775807) : w64 n = n := by
  unfold w64 IntKind.wrap
  simp [IntKind.signed, IntKind.bits]
  omega
theorem w64_in (n : Int) : -9223372036854775808 ≤ w64 n ∧ w64 n ≤ 9223372036854775807 := by
  unfold w64 IntKind.wrap
  simp [IntKind.signed, IntKind.bits]
  omega
theorem w64_succ {i : Nat} (h : i < 1000000000000) : w64 ((i : Int) + 1) = ((i + 1 : Nat) : Int) := by
  rw [w64_id (by omega) (by omega)]; omega
theorem drop_get {α : Type} {y : List α} {i : Nat} (h : i < y.length) (d : α) : y.drop i = y.getD i d :: y.drop (i + 1) := by
  rw [List.drop_eq_getElem_cons h, List.getD_eq_getElem?_getD, List.getElem?_eq_getElem h]; rfl
def sumB (b : Bool) : Sum Unit Unit := match b with | true => .inr () | false => .inl ()
def inH (n : Int) : Bool := decide (-100000 ≤ n ∧ n ≤ 100000)
theorem within_fig (k : Nat) (a b c : Int) : nfigure_isWithin k a b c = some (decide (b ≤ a ∧ a ≤ c)) := by
  unfold nfigure_isWithin
  by_cases h : b ≤ a
  · rw [if_pos h]; simp [h]
  · rw [if_neg h]; simp [h]
theorem within_base (k : Nat) (a b c : Int) : nspeculumbase_Within k a b c = some (decide (b ≤ a ∧ a ≤ c)) := by
  unfold nspeculumbase_Within
  by_cases h : b ≤ a
  · rw [if_pos h]; simp [h]
  · rw [if_neg h]; simp [h]
theorem isHeight_any (k : Nat) (a : Int) : nspeculumref06_isHeight k a = some (inH a) := by
  unfold nspeculumref06_isHeight
  rw [within_base]; rfl
theorem areHeights_l (k : Nat) (a : List Int) (hl : a.length < 1000000000000) : ∀ (d fuel i : Nat), a.length = i + d → d < fuel →
    nfigure_areHeights_l0_0 k a fuel (i : Int) = some (sumB ((a.drop i).all inH)) := by
  intro d
  induction d with
  | zero =>
    intro fuel i h hf
    obtain ⟨g, rfl⟩ : ∃ g, fuel = g + 1 := ⟨fuel - 1, by omega⟩
    rw [nfigure_areHeights_l0_0.eq_2, if_neg (by omega), List.drop_eq_nil_of_le (by omega)]; rfl
  | succ d ih =>
    intro fuel i h hf
    obtain ⟨g, rfl⟩ : ∃ g, fuel = g + 1 := ⟨fuel - 1, by omega⟩
    rw [nfigure_areHeights_l0_0.eq_2, if_pos (by omega), if_pos (by omega), within_fig, Option.bind_some, w64_succ (by omega), ih g (i + 1) (by omega) (by omega), drop_get (y := a) (i := i) (by omega) 0]
    simp only [Int.toNat_natCast, List.all_cons]
    change (if inH _ = true then _ else _) = _
    cases inH (a.getD i 0) <;> rfl
def hE (a : List Int) : Int := if 1 ≤ a.length ∧ a.length ≤ 40 then (if a.all inH then 0 else 2) else 10
theorem hE_zero {a : List Int} (h : hE a = 0) : 1 ≤ a.length ∧ a.length ≤ 40 ∧ a.all inH = true := by
  unfold hE at h
  by_cases h1 : 1 ≤ a.length ∧ a.length ≤ 40
  · rw [if_pos h1] at h
    refine ⟨h1.1, h1.2, ?_⟩
    revert h
    cases a.all inH
    · intro h; exact absurd h (by decide)
    · intro _; rfl
  · rw [if_neg h1] at h; exact absurd h (by decide)
theorem areHeights_any (k : Nat) (a : List Int) (hl : a.length < k) (hk : k ≤ 1000000000) : nfigure_areHeights k a = some (a.all inH) := by
  unfold nfigure_areHeights
  rw [show ((0 : Int)) = ((0 : Nat) : Int) from rfl, areHeights_l k a (by omega) a.length k 0 (by omega) hl]
  simp only [List.drop_zero]
  cases a.all inH <;> rfl
def tE (t : SFigureTolerance) : Int := if 0 ≤ t.Peak ∧ t.Peak ≤ 200000 then (if 0 ≤ t.Slope ∧ t.Slope ≤ 200000 then 0 else 2) else 2
theorem tol_fig (k : Nat) (t : SFigureTolerance) : nfigure_CheckTolerance k t = some (tE t) := by
  unfold nfigure_CheckTolerance tE
  rw [within_fig, within_fig]
  by_cases h : 0 ≤ t.Peak ∧ t.Peak ≤ 200000 <;> by_cases h2 : 0 ≤ t.Slope ∧ t.Slope ≤ 200000 <;> simp [h, h2]
theorem tol_ref (k : Nat) (t : SFigureTolerance) : nspeculumref06_CheckTolerance k t = some (tE t) := by
  unfold nspeculumref06_CheckTolerance tE
  rw [within_base, within_base]
  by_cases h : 0 ≤ t.Peak ∧ t.Peak ≤ 200000 <;> by_cases h2 : 0 ≤ t.Slope ∧ t.Slope ≤ 200000 <;> simp [h, h2]
theorem tE_zero {t : SFigureTolerance} (h : tE t = 0) : (0 ≤ t.Peak ∧ t.Peak ≤ 200000) ∧ 0 ≤ t.Slope ∧ t.Slope ≤ 200000 := by
  unfold tE at h
  by_cases h1 : 0 ≤ t.Peak ∧ t.Peak ≤ 200000
  · by_cases h2 : 0 ≤ t.Slope ∧ t.Slope ≤ 200000
    · exact ⟨h1, h2⟩
    · rw [if_pos h1, if_neg h2] at h; exact absurd h (by decide)
  · rw [if_neg h1] at h; exact absurd h (by decide)
def ab (n : Int) : Int := if n < 0 then -n else n
theorem ab_symm (x y : Int) : ab (x - y) = ab (y - x) := by
  unfold ab; split <;> split <;> omega
theorem abs_any (k : Nat) (n : Int) (h1 : -9223372036854775807 ≤ n) (h2 : n ≤ 9223372036854775807) : nspeculumbase_Abs k n = some (ab n) := by
  unfold nspeculumbase_Abs ab
  by_cases h : n < 0
  · rw [if_pos h, if_pos h, w64_id (by omega) (by omega)]; congr 1; omega
  · rw [if_neg h, if_neg h]
theorem size_any (k : Nat) (n : Int) (h1 : -9223372036854775807 ≤ n) (h2 : n ≤ 9223372036854775807) : nfigure_size k n = some (ab n) := by
  unfold nfigure_size ab maxI
  rw [w64_id (by omega) (by omega)]
  congr 1
  split <;> split <;> omega
def bd (t : SFigureTolerance) (i j : Int) : Int := minI t.Peak (w64 (t.Slope * ab (i - j)))
theorem bd_symm (t : SFigureTolerance) (i j : Int) : bd t i j = bd t j i := by
  unfold bd; rw [ab_symm]
theorem bound_fig (k : Nat) (t : SFigureTolerance) (i j : Int) (hi : 0 ≤ i ∧ i < 1000000) (hj : 0 ≤ j ∧ j < 1000000) : nfigure_bound k t i j = some (bd t i j) := by
  unfold nfigure_bound
  rw [w64_id (by omega) (by omega), size_any _ _ (by omega) (by omega)]; rfl
theorem bound_ref (k : Nat) (t : SFigureTolerance) (i j : Int) (hi : 0 ≤ i ∧ i < 1000000) (hj : 0 ≤ j ∧ j < 1000000) : nspeculumref06_Bound k t i j = some (bd t i j) := by
  unfold nspeculumref06_Bound
  rw [w64_id (by omega) (by omega), abs_any _ _ (by omega) (by omega)]; rfl

def loA (a : List SRange) (i : Int) : Int := (a.getD i.toNat default).Lo
def hiA (a : List SRange) (i : Int) : Int := (a.getD i.toNat default).Hi
def encS : List SRange → Sum Int Unit
  | [] => .inr ()
  | r :: rs => match inH r.Lo && inH r.Hi with
    | true => (match decide (r.Hi < r.Lo) with | true => .inl 9 | false => encS rs)
    | false => .inl 2
def eE (a : List SRange) : Int := if 1 ≤ a.length ∧ a.length ≤ 40 then (match encS a with | .inl e => e | .inr _ => 0) else 10
theorem encS_all : ∀ (a : List SRange), (match encS a with | .inl e => e | .inr _ => 0) = 0 → ∀ r ∈ a, (inH r.Lo && inH r.Hi) = true ∧ r.Lo ≤ r.Hi
  | [], _, r, h => by cases h
  | x :: xs, h, r, hr => by
    rw [encS.eq_2] at h
    cases hx : (inH x.Lo && inH x.Hi) with
    | false => rw [hx] at h; simp at h
    | true =>
      rw [hx] at h
      by_cases hl : x.Hi < x.Lo
      · simp only [decide_eq_true hl] at h; simp at h
      · simp only [decide_eq_false hl] at h
        rcases List.mem_cons.1 hr with rfl | hr
        · exact ⟨hx, by omega⟩
        · exact encS_all xs h r hr
structure GoodR (a : List SRange) : Prop where
  pos : 1 ≤ a.length
  le : a.length ≤ 40
  all : ∀ i : Int, 0 ≤ i → i < a.length → -100000 ≤ loA a i ∧ hiA a i ≤ 100000 ∧ loA a i ≤ hiA a i
theorem eE_zero {a : List SRange} (h : eE a = 0) : GoodR a := by
  unfold eE at h
  by_cases h1 : 1 ≤ a.length ∧ a.length ≤ 40
  · rw [if_pos h1] at h
    refine ⟨h1.1, h1.2, fun i h2 h3 => ?_⟩
    have hm : a.getD i.toNat default ∈ a := by
      rw [List.getD_eq_getElem?_getD, List.getElem?_eq_getElem (by omega)]; exact List.getElem_mem _
    have := encS_all a h _ hm
    unfold loA hiA
    simp only [inH, Bool.and_eq_true, decide_eq_true_eq] at this
    omega
  · rw [if_neg h1] at h; exact absurd h (by decide)
theorem encF_l (k : Nat) (a : List SRange) (hl : a.length < 1000000000000) (hk : 100 ≤ k) (hk2 : k ≤ 1000000000) : ∀ (d fuel i : Nat), a.length = i + d → d < fuel →
    nfigure_CheckEnclosure_l0_0 k a fuel (i : Int) = some (encS (a.drop i)) := by
  intro d
  induction d with
  | zero =>
    intro fuel i h hf
    obtain ⟨g, rfl⟩ : ∃ g, fuel = g + 1 := ⟨fuel - 1, by omega⟩
    rw [nfigure_CheckEnclosure_l0_0.eq_2, if_neg (by omega), List.drop_eq_nil_of_le (by omega)]; rfl
  | succ d ih =>
    intro fuel i h hf
    obtain ⟨g, rfl⟩ : ∃ g, fuel = g + 1 := ⟨fuel - 1, by omega⟩
    rw [nfigure_CheckEnclosure_l0_0.eq_2, if_pos (by omega), if_pos (by omega), areHeights_any k _ (by simp; omega) hk2, Option.bind_some, w64_succ (by omega), ih g (i + 1) (by omega) (by omega), drop_get (y := a) (i := i) (by omega) default, encS.eq_2]
    simp only [Int.toNat_natCast, List.all_cons, List.all_nil, Bool.and_true]
    cases (inH (a.getD i default).Lo && inH (a.getD i default).Hi) with
    | false => rfl
    | true =>
      by_cases h : (a.getD i default).Hi < (a.getD i default).Lo
      · simp only [if_true, if_pos h, decide_eq_true h]
      · simp only [if_true, if_neg h, decide_eq_false h]
theorem encR_l (k : Nat) (a : List SRange) (hl : a.length < 1000000000000) : ∀ (d fuel i : Nat), a.length = i + d → d < fuel →
    nspeculumref06_CheckEnclosure_l0_0 k a fuel (i : Int) = some (encS (a.drop i)) := by
  intro d
  induction d with
  | zero =>
    intro fuel i h hf
    obtain ⟨g, rfl⟩ : ∃ g, fuel = g + 1 := ⟨fuel - 1, by omega⟩
    rw [nspeculumref06_CheckEnclosure_l0_0.eq_2, if_neg (by omega), List.drop_eq_nil_of_le (by omega)]; rfl
  | succ d ih =>
    intro fuel i h hf
    obtain ⟨g, rfl⟩ : ∃ g, fuel = g + 1 := ⟨fuel - 1, by omega⟩
    rw [nspeculumref06_CheckEnclosure_l0_0.eq_2, if_pos (by omega), if_pos (by omega), isHeight_any, isHeight_any, Option.bind_some, Option.bind_some, w64_succ (by omega), ih g (i + 1) (by omega) (by omega), drop_get (y := a) (i := i) (by omega) default, encS.eq_2]
    simp only [Int.toNat_natCast]
    cases inH (a.getD i default).Lo with
    | false => rfl
    | true =>
      cases inH (a.getD i default).Hi with
      | false => rfl
      | true =>
        by_cases h : (a.getD i default).Hi < (a.getD i default).Lo
        · simp only [if_true, if_pos h, decide_eq_true h]; rfl
        · simp only [if_true, if_neg h, decide_eq_false h]; rfl
theorem enc_fig (k : Nat) (a : List SRange) (hl : a.length < k) (hk : 100 ≤ k) (hk2 : k ≤ 1000000000) : nfigure_CheckEnclosure k a = some (eE a) := by
  unfold nfigure_CheckEnclosure eE
  rw [within_fig, show ((0 : Int)) = ((0 : Nat) : Int) from rfl, encF_l k a (by omega) hk hk2 a.length k 0 (by omega) hl, Option.bind_some, Option.bind_some, List.drop_zero]
  by_cases h : 1 ≤ a.length ∧ a.length ≤ 40
  · rw [if_pos h, if_pos (by simp; omega)]
    cases encS a <;> rfl
  · rw [if_neg h, if_neg (by simp; omega)]
theorem enc_ref (k : Nat) (a : List SRange) (hl : a.length < k) (hk : 100 ≤ k) (hk2 : k ≤ 1000000000) : nspeculumref06_CheckEnclosure k a = some (eE a) := by
  unfold nspeculumref06_CheckEnclosure eE
  rw [within_base, show ((0 : Int)) = ((0 : Nat) : Int) from rfl, encR_l k a (by omega) a.length k 0 (by omega) hl, Option.bind_some, Option.bind_some, List.drop_zero]
  by_cases h : 1 ≤ a.length ∧ a.length ≤ 40
  · rw [if_pos h, if_pos (by simp; omega)]
    cases encS a <;> rfl
  · rw [if_neg h, if_neg (by simp; omega)]
theorem ranges_any (k : Nat) (a : List SRange) (hl : a.length ≤ 1000000000) : nspeculumlaw06_ranges k a = some a := by
  unfold nspeculumlaw06_ranges
  rw [if_pos (by simpa using hl)]; rfl

/-- The greatest of b and the f of the list. -/
def mx (f : Int × Int → Int) : List (Int × Int) → Int → Int
  | [], b => b
  | p :: ps, b => mx f ps (maxI b (f p))
theorem mx_append (f : Int × Int → Int) : ∀ (xs ys : List (Int × Int)) (b : Int), mx f (xs ++ ys) b = mx f ys (mx f xs b)
  | [], _, _ => rfl
  | p :: ps, ys, b => mx_append f ps ys _
theorem maxI_le {a b c : Int} (h1 : a ≤ c) (h2 : b ≤ c) : maxI a b ≤ c := by unfold maxI; split <;> omega
theorem le_maxI1 (a b : Int) : a ≤ maxI a b := by unfold maxI; split <;> omega
theorem le_maxI2 (a b : Int) : b ≤ maxI a b := by unfold maxI; split <;> omega
theorem maxI_pos {a b : Int} (h1 : 0 ≤ a) (h2 : b ≤ 0) : maxI a b = a := by unfold maxI; split <;> omega
theorem mx_le (f : Int × Int → Int) {M : Int} : ∀ (xs : List (Int × Int)) (b : Int), b ≤ M → (∀ p ∈ xs, f p ≤ M) → mx f xs b ≤ M
  | [], b, h, _ => h
  | p :: ps, b, h, h2 => mx_le f ps _ (maxI_le h (h2 p (by simp))) (fun q hq => h2 q (by simp [hq]))
theorem le_mx (f : Int × Int → Int) : ∀ (xs : List (Int × Int)) (b : Int), b ≤ mx f xs b
  | [], b => Int.le_refl _
  | p :: ps, b => Int.le_trans (le_maxI1 b (f p)) (le_mx f ps _)
theorem mem_mx (f : Int × Int → Int) : ∀ (xs : List (Int × Int)) (b : Int) (p : Int × Int), p ∈ xs → f p ≤ mx f xs b
  | [], b, p, h => by cases h
  | q :: ps, b, p, h => by
    rcases List.mem_cons.1 h with rfl | h
    · exact Int.le_trans (le_maxI2 b (f p)) (le_mx f ps _)
    · exact mem_mx f ps _ p h
theorem mem_inner {i : Int} : ∀ (d : Nat) (j : Int) (p : Int × Int), p ∈ innerL i j d ↔ p.1 = i ∧ j ≤ p.2 ∧ p.2 < j + d ∧ p.2 ≠ i := by
  intro d
  induction d with
  | zero => intro j p; simp [innerL]; omega
  | succ d ih =>
    intro j p
    rw [innerL_eq]
    by_cases h : i = j
    · rw [if_pos h, ih]; omega
    · rw [if_neg h, List.mem_cons, ih]
      constructor
      · rintro (rfl | h1)
        · simp; omega
        · omega
      · intro h1
        by_cases h2 : p.2 = j
        · left; exact Prod.ext h1.1 h2
        · right; omega
theorem mem_outer {n : Nat} : ∀ (d : Nat) (i : Int) (p : Int × Int), p ∈ outerL n i d ↔ i ≤ p.1 ∧ p.1 < i + d ∧ 0 ≤ p.2 ∧ p.2 < n ∧ p.2 ≠ p.1 := by
  intro d
  induction d with
  | zero => intro i p; simp [outerL]; omega
  | succ d ih =>
    intro i p
    rw [outerL_eq, List.mem_append, mem_inner, ih]
    omega
theorem mem_pairs {n : Int} (hn : 0 ≤ n) (p : Int × Int) : p ∈ pairsL n ↔ 0 ≤ p.1 ∧ p.1 < n ∧ 0 ≤ p.2 ∧ p.2 < n ∧ p.2 ≠ p.1 := by
  unfold pairsL
  rw [mem_outer]; omega

def least (a : List SRange) (p : Int × Int) : Int := loA a p.1 - hiA a p.2
def most (a : List SRange) (p : Int × Int) : Int := hiA a p.1 - loA a p.2
theorem least_fig (k : Nat) {a : List SRange} (ha : GoodR a) (i j : Int) (hi : 0 ≤ i ∧ i < a.length) (hj : 0 ≤ j ∧ j < a.length) : nfigure_leastApart k a i j = some (least a (i, j)) := by
  unfold nfigure_leastApart
  have h1 := ha.all i hi.1 hi.2
  have h2 := ha.all j hj.1 hj.2
  rw [if_pos hi, if_pos hj]
  unfold least
  unfold loA hiA at *
  rw [w64_id (by omega) (by omega)]
theorem most_fig (k : Nat) {a : List SRange} (ha : GoodR a) (i j : Int) (hi : 0 ≤ i ∧ i < a.length) (hj : 0 ≤ j ∧ j < a.length) : nfigure_mostApart k a i j = some (most a (i, j)) := by
  unfold nfigure_mostApart
  have h1 := ha.all i hi.1 hi.2
  have h2 := ha.all j hj.1 hj.2
  rw [if_pos hi, if_pos hj]
  unfold most
  unfold loA hiA at *
  rw [w64_id (by omega) (by omega)]
def inP (n : Nat) (p : Int × Int) : Prop := (0 ≤ p.1 ∧ p.1 < n) ∧ (0 ≤ p.2 ∧ p.2 < n) ∧ p.2 ≠ p.1
theorem pairs_in (n : Nat) : ∀ p ∈ pairsL (n : Int), inP n p := by
  intro p hp
  have := (mem_pairs (by omega) p).1 hp
  unfold inP; omega

def rf (a : List SRange) (t : SFigureTolerance) (p : Int × Int) : Bool := decide (bd t p.1 p.2 < least a p)
def ex (a : List SRange) (t : SFigureTolerance) (p : Int × Int) : Bool := decide (bd t p.1 p.2 < most a p)
def jE (a : List SRange) (t : SFigureTolerance) : Int := if eE a = 0 then tE t else eE a
theorem jE_zero {a : List SRange} {t : SFigureTolerance} (h : jE a t = 0) : eE a = 0 ∧ tE t = 0 := by
  unfold jE at h
  by_cases h1 : eE a = 0
  · rw [if_pos h1] at h; exact ⟨h1, h⟩
  · rw [if_neg h1] at h; exact absurd h h1
theorem acc_any (k : Nat) (a : List SRange) (t : SFigureTolerance) (hl : a.length < k) (hk : 100 ≤ k) (hk2 : k ≤ 1000000000) : nfigure_checkAcceptance k a t = some (jE a t) := by
  unfold nfigure_checkAcceptance jE
  rw [enc_fig k a hl hk hk2, Option.bind_some]
  by_cases h : eE a = 0
  · rw [if_pos h, if_pos h, tol_fig]; rfl
  · rw [if_neg h, if_neg h]
theorem judgeErr_any (k : Nat) (a : List SRange) (t : SFigureTolerance) (hl : a.length < k) (hk : 100 ≤ k) (hk2 : k ≤ 1000000000) : nspeculumlaw06_judgeErr k a t = some (jE a t) := by
  unfold nspeculumlaw06_judgeErr jE
  rw [enc_ref k a hl hk hk2, Option.bind_some]
  by_cases h : eE a = 0
  · rw [if_pos h, if_pos h, tol_ref]; rfl
  · rw [if_neg h, if_neg h]
theorem refuses_any (k : Nat) {a : List SRange} (ha : GoodR a) (t : SFigureTolerance) (i j : Int) (hi : 0 ≤ i ∧ i < a.length) (hj : 0 ≤ j ∧ j < a.length) : nfigure_refuses k a t i j = some (rf a t (i, j)) := by
  have hle := ha.le
  unfold nfigure_refuses
  rw [least_fig k ha i j hi hj, Option.bind_some, bound_fig _ _ _ _ (by omega) (by omega), Option.bind_some]; rfl
def jOut (a : List SRange) (t : SFigureTolerance) (xs : List (Int × Int)) (b : Int) (r : Option (Sum (Int × Int × Int × Int) (Int × Int × Int × Int))) : Prop :=
  match xs.find? (rf a t) with
  | some p => ∃ c, r = some (.inr (-1, p.1, p.2, c))
  | none => r = some (.inl (0, 0, 0, match xs.any (ex a t) with | true => 0 | false => b))
theorem judge_r0 (k : Nat) {a : List SRange} (ha : GoodR a) (t : SFigureTolerance) (r : Int) : ∀ (xs : List (Int × Int)) (b : Int), (∀ p ∈ xs, inP a.length p) →
    jOut a t xs b (nfigure_judge_r0 k a t r xs 0 0 0 b)
  | [], b, _ => rfl
  | p :: ps, b, h => by
    have hle := ha.le
    have hp := h p (by simp)
    have ih := fun c => judge_r0 k ha t r ps c (fun q hq => h q (by simp [hq]))
    have hin := hp
    unfold inP at hin
    rw [nfigure_judge_r0.eq_2, refuses_any k ha t _ _ hp.1 hp.2.1, most_fig k ha _ _ hp.1 hp.2.1, bound_fig _ _ _ _ (by omega) (by omega)]
    simp only [Option.bind_some]
    unfold jOut
    rw [List.find?_cons, List.any_cons]
    cases hr : rf a t p with
    | true => exact ⟨b, rfl⟩
    | false =>
      simp only []
      by_cases hx : bd t p.1 p.2 < most a p
      · rw [show ex a t p = true from decide_eq_true hx]
        have := ih 0
        unfold jOut at this
        simp only [Bool.true_or, if_pos hx]
        revert this
        cases ps.find? (rf a t) with
        | some q => exact fun h => h
        | none => cases ps.any (ex a t) <;> exact fun h => h
      · rw [show ex a t p = false from decide_eq_false hx]
        have := ih b
        unfold jOut at this
        simp only [Bool.false_or, if_neg hx]
        exact this
def o1 (o : Option (Int × Int)) : Sum Int Unit := match o with | some p => .inl p.2 | none => .inr ()
def o2 (o : Option (Int × Int)) : Sum (Int × Int) Unit := match o with | some p => .inl p | none => .inr ()
theorem ref_l1 (k : Nat) {a : List SRange} (ha : GoodR a) (t : SFigureTolerance) (i : Int) (hi : 0 ≤ i ∧ i < a.length) : ∀ (d fuel : Nat) (j : Int), 0 ≤ j → j + d = a.length → d < fuel →
    nspeculumref06_Refused_l1_0 k a t i fuel j = some (o1 ((innerL i j d).find? (rf a t))) := by
  have hle := ha.le
  intro d
  induction d with
  | zero =>
    intro fuel j h0 h hf
    obtain ⟨g, rfl⟩ : ∃ g, fuel = g + 1 := ⟨fuel - 1, by omega⟩
    rw [nspeculumref06_Refused_l1_0.eq_2, if_neg (by omega)]; rfl
  | succ d ih =>
    intro fuel j h0 h hf
    obtain ⟨g, rfl⟩ : ∃ g, fuel = g + 1 := ⟨fuel - 1, by omega⟩
    have h1 := ha.all i hi.1 hi.2
    have h2 := ha.all j h0 (by omega)
    rw [nspeculumref06_Refused_l1_0.eq_2, if_pos (by omega), innerL_eq, w64_id (n := j + 1) (by omega) (by omega)]
    by_cases hij : i = j
    · rw [if_pos hij, if_pos hij]; exact ih g (j + 1) (by omega) (by omega) (by omega)
    · rw [if_neg hij, if_neg hij, if_pos hi, if_pos (by omega), bound_ref _ _ _ _ (by omega) (by omega), Option.bind_some, ih g (j + 1) (by omega) (by omega) (by omega)]
      unfold loA hiA at h1 h2
      rw [w64_id (by omega) (by omega), List.find?_cons]
      change (if bd t i j < least a (i, j) then _ else _) = _
      unfold rf
      by_cases hx : bd t i j < least a (i, j)
      · rw [if_pos hx, show decide (bd t (i, j).1 (i, j).2 < least a (i, j)) = true from decide_eq_true hx]; rfl
      · rw [if_neg hx, show decide (bd t (i, j).1 (i, j).2 < least a (i, j)) = false from decide_eq_false hx]
theorem ref_l0 (k : Nat) {a : List SRange} (ha : GoodR a) (t : SFigureTolerance) (hk : 100 ≤ k) : ∀ (d fuel : Nat) (i : Int), 0 ≤ i → i + d = a.length → d < fuel →
    nspeculumref06_Refused_l0_0 k a t fuel i = some (o2 ((outerL a.length i d).find? (rf a t))) := by
  have hle := ha.le
  intro d
  induction d with
  | zero =>
    intro fuel i h0 h hf
    obtain ⟨g, rfl⟩ : ∃ g, fuel = g + 1 := ⟨fuel - 1, by omega⟩
    rw [nspeculumref06_Refused_l0_0.eq_2, if_neg (by omega)]; rfl
  | succ d ih =>
    intro fuel i h0 h hf
    obtain ⟨g, rfl⟩ : ∃ g, fuel = g + 1 := ⟨fuel - 1, by omega⟩
    rw [nspeculumref06_Refused_l0_0.eq_2, if_pos (by omega), ref_l1 k ha t i (by omega) a.length k 0 (by omega) (by omega) (by omega), Option.bind_some, w64_id (by omega) (by omega), ih g (i + 1) (by omega) (by omega) (by omega), outerL_eq, List.find?_append]
    cases hf : (innerL i 0 a.length).find? (rf a t) with
    | none => rfl
    | some p =>
      have := (mem_inner _ _ _).1 (List.mem_of_find?_eq_some hf)
      simp only [o1, o2, Option.some_or]
      rw [← this.1]
def aOut (b : Bool) : Sum Unit Unit := match b with | true => .inl () | false => .inr ()
theorem jud_l1 (k : Nat) {a : List SRange} (ha : GoodR a) (t : SFigureTolerance) (i : Int) (hi : 0 ≤ i ∧ i < a.length) : ∀ (d fuel : Nat) (j : Int), 0 ≤ j → j + d = a.length → d < fuel →
    nspeculumref06_Judge_l1_0 k a t i fuel j = some (aOut ((innerL i j d).any (ex a t))) := by
  have hle := ha.le
  intro d
  induction d with
  | zero =>
    intro fuel j h0 h hf
    obtain ⟨g, rfl⟩ : ∃ g, fuel = g + 1 := ⟨fuel - 1, by omega⟩
    rw [nspeculumref06_Judge_l1_0.eq_2, if_neg (by omega)]; rfl
  | succ d ih =>
    intro fuel j h0 h hf
    obtain ⟨g, rfl⟩ : ∃ g, fuel = g + 1 := ⟨fuel - 1, by omega⟩
    have h1 := ha.all i hi.1 hi.2
    have h2 := ha.all j h0 (by omega)
    rw [nspeculumref06_Judge_l1_0.eq_2, if_pos (by omega), innerL_eq, w64_id (n := j + 1) (by omega) (by omega)]
    by_cases hij : i = j
    · rw [if_pos hij, if_pos hij]; exact ih g (j + 1) (by omega) (by omega) (by omega)
    · rw [if_neg hij, if_neg hij, if_pos hi, if_pos (by omega), bound_ref _ _ _ _ (by omega) (by omega), Option.bind_some, ih g (j + 1) (by omega) (by omega) (by omega)]
      unfold loA hiA at h1 h2
      rw [w64_id (by omega) (by omega), List.any_cons]
      change (if bd t i j < most a (i, j) then _ else _) = _
      unfold ex
      by_cases hx : bd t i j < most a (i, j)
      · rw [if_pos hx, show decide (bd t (i, j).1 (i, j).2 < most a (i, j)) = true from decide_eq_true hx]; rfl
      · rw [if_neg hx, show decide (bd t (i, j).1 (i, j).2 < most a (i, j)) = false from decide_eq_false hx]; rfl
theorem jud_l0 (k : Nat) {a : List SRange} (ha : GoodR a) (t : SFigureTolerance) (hk : 100 ≤ k) : ∀ (d fuel : Nat) (i : Int), 0 ≤ i → i + d = a.length → d < fuel →
    nspeculumref06_Judge_l0_0 k a t fuel i = some (aOut ((outerL a.length i d).any (ex a t))) := by
  have hle := ha.le
  intro d
  induction d with
  | zero =>
    intro fuel i h0 h hf
    obtain ⟨g, rfl⟩ : ∃ g, fuel = g + 1 := ⟨fuel - 1, by omega⟩
    rw [nspeculumref06_Judge_l0_0.eq_2, if_neg (by omega)]; rfl
  | succ d ih =>
    intro fuel i h0 h hf
    obtain ⟨g, rfl⟩ : ∃ g, fuel = g + 1 := ⟨fuel - 1, by omega⟩
    rw [nspeculumref06_Judge_l0_0.eq_2, if_pos (by omega), jud_l1 k ha t i (by omega) a.length k 0 (by omega) (by omega) (by omega), Option.bind_some, w64_id (by omega) (by omega), ih g (i + 1) (by omega) (by omega) (by omega), outerL_eq, List.any_append]
    cases (innerL i 0 a.length).any (ex a t) <;> rfl
def refusedOf (a : List SRange) (t : SFigureTolerance) : Option (Int × Int) := (pairsL a.length).find? (rf a t)
theorem refused_ref (k : Nat) {a : List SRange} (ha : GoodR a) (t : SFigureTolerance) (hk : 100 ≤ k) : nspeculumref06_Refused k a t = some (match refusedOf a t with | some p => (⟨p.1, p.2⟩, true) | none => (⟨0, 0⟩, false)) := by
  have hle := ha.le
  unfold nspeculumref06_Refused refusedOf pairsL
  rw [ref_l0 k ha t hk a.length k 0 (by omega) (by omega) (by omega), Int.toNat_natCast]
  cases (outerL a.length 0 a.length).find? (rf a t) <;> rfl
def judgeOf (a : List SRange) (t : SFigureTolerance) : Int × A26 := match refusedOf a t with
  | some p => (-1, ⟨p.1, p.2⟩)
  | none => (match (pairsL a.length).any (ex a t) with | true => 0 | false => 1, ⟨0, 0⟩)
theorem judge_ref (k : Nat) {a : List SRange} (ha : GoodR a) (t : SFigureTolerance) (hk : 100 ≤ k) : nspeculumref06_Judge k a t = some (judgeOf a t) := by
  have hle := ha.le
  unfold nspeculumref06_Judge judgeOf
  change (nspeculumref06_Refused k a t).bind _ = _
  rw [refused_ref k ha t hk, Option.bind_some]
  cases refusedOf a t with
  | some p => rfl
  | none =>
    simp only [Bool.false_eq_true, if_false]
    rw [show (0 : Int) = ((0 : Nat) : Int) from rfl]
    unfold pairsL
    rw [show ((0 : Nat) : Int) = 0 from rfl, jud_l0 k ha t hk a.length k 0 (by omega) (by omega) (by omega), Int.toNat_natCast]
    cases (outerL a.length 0 a.length).any (ex a t) <;> rfl
theorem judge_fig (k : Nat) {a : List SRange} (ha : GoodR a) (t : SFigureTolerance) : nfigure_judge k a t = some (judgeOf a t) := by
  have hle := ha.le
  have h := judge_r0 k ha t (a.length : Int) (pairsL a.length) 1 (pairs_in _)
  unfold nfigure_judge judgeOf refusedOf
  rw [show nfigure_pairs k (a.length : Int) = some (a.length : Int) from rfl, Option.bind_some, if_pos (by omega)]
  unfold jOut at h
  revert h
  cases (pairsL a.length).find? (rf a t) with
  | some p =>
    intro h
    obtain ⟨c, h⟩ := h
    rw [h]; rfl
  | none =>
    intro h
    simp only [] at h
    rw [h]
    cases (pairsL a.length).any (ex a t) <;> rfl
theorem Judge_fig (k : Nat) (a : List SRange) (t : SFigureTolerance) (hl : a.length < k) (hk : 100 ≤ k) (hk2 : k ≤ 1000000000) :
    nfigure_Judge k a t = some (if jE a t = 0 then ((judgeOf a t).1, (judgeOf a t).2, 0) else (0, ⟨0, 0⟩, jE a t)) := by
  unfold nfigure_Judge
  change (nfigure_checkAcceptance k a t).bind _ = _
  rw [acc_any k a t hl hk hk2, Option.bind_some]
  by_cases h : jE a t = 0
  · rw [if_pos h, if_pos h]
    change (nfigure_judge k a t).bind _ = _
    rw [judge_fig k (eE_zero (jE_zero h).1) t]; rfl
  · rw [if_neg h, if_neg h]
def inI (a : List SRange) (q : Int) : Bool := decide (0 ≤ q ∧ q ≤ (a.length : Int) - 1)
def crE (a : List SRange) (t : SFigureTolerance) (q : A26) : Int :=
  if jE a t = 0 then (match inI a q.e0 && inI a q.e1 with | true => (if q.e0 = q.e1 then 3 else (match rf a t (q.e0, q.e1) with | true => 0 | false => 22)) | false => 6) else jE a t
theorem cr_l0 (k : Nat) (a : List SRange) (t : SFigureTolerance) (q : A26) (hl : a.length < 1000000) (fuel : Nat) (hf : 3 ≤ fuel) : nfigure_CheckRefused_l0_0 k a t q fuel 0 = some (sumB (inI a q.e0 && inI a q.e1)) := by
  obtain ⟨g, rfl⟩ : ∃ g, fuel = g + 1 + 1 + 1 := ⟨fuel - 3, by omega⟩
  rw [nfigure_CheckRefused_l0_0.eq_2, if_pos (by omega), if_pos rfl, within_fig, Option.bind_some, w64_id (n := 0 + 1) (by omega) (by omega), w64_id (n := (a.length : Int) - 1) (by omega) (by omega)]
  change (if inI a q.e0 = true then _ else _) = _
  cases inI a q.e0 with
  | false => rfl
  | true =>
    rw [if_pos rfl, nfigure_CheckRefused_l0_0.eq_2, if_pos (by omega), if_neg (by omega), if_pos (by omega), within_fig, Option.bind_some, w64_id (n := 0 + 1 + 1) (by omega) (by omega), w64_id (n := (a.length : Int) - 1) (by omega) (by omega)]
    change (if inI a q.e1 = true then _ else _) = _
    cases inI a q.e1 with
    | false => rfl
    | true => rw [if_pos rfl, nfigure_CheckRefused_l0_0.eq_2, if_neg (by omega)]; rfl
theorem checkRefused_any (k : Nat) (a : List SRange) (t : SFigureTolerance) (q : A26) (hl : a.length < k) (hk : 100 ≤ k) (hk2 : k ≤ 1000000000) : nfigure_CheckRefused k a t q = some (crE a t q) := by
  unfold nfigure_CheckRefused crE
  change (nfigure_checkAcceptance k a t).bind _ = _
  rw [acc_any k a t hl hk hk2, Option.bind_some]
  by_cases h : jE a t = 0
  · have ha := eE_zero (jE_zero h).1
    have hle := ha.le
    rw [if_pos h, if_pos h, cr_l0 k a t q (by omega) k (by omega), Option.bind_some]
    cases hi : (inI a q.e0 && inI a q.e1) with
    | false => rfl
    | true =>
      simp only [inI, Bool.and_eq_true, decide_eq_true_eq] at hi
      simp only [sumB]
      by_cases he : q.e0 = q.e1
      · rw [if_pos he, if_pos he]
      · rw [if_neg he, if_neg he]
        change (nfigure_refuses k a t q.e0 q.e1).bind _ = _
        rw [refuses_any k ha t _ _ (by omega) (by omega), Option.bind_some]
        cases rf a t (q.e0, q.e1) <;> rfl
  · rw [if_neg h, if_neg h]
theorem law_judges (k : Nat) (a : List SRange) (t : SFigureTolerance) (hk : 100 ≤ k) (hk2 : k ≤ 1000000000) : nspeculumlaw06_FigureJudges k a t = some true := by
  unfold nspeculumlaw06_FigureJudges
  rw [show nawake k = some true from rfl]
  have ht : (⟨t.Peak, t.Slope⟩ : SFigureTolerance) = t := rfl
  simp only [Option.bind_some, if_true, ht]
  by_cases h45 : 45 < (a.length : Int)
  · rw [if_pos h45]
  rw [if_neg h45, ranges_any k a (by omega)]
  simp only [Option.bind_some, judgeErr_any k a t (by omega) hk hk2, Judge_fig k a t (by omega) hk hk2]
  by_cases h0 : jE a t = 0
  · have ha := eE_zero (jE_zero h0).1
    simp only [if_pos h0, judge_ref k ha t hk, Option.bind_some, if_true, beq_self_eq_true, Bool.and_true, checkRefused_any k a t _ (show a.length < k by omega) hk hk2]
    by_cases hj : (judgeOf a t).1 = -1
    · rw [if_pos hj]
      unfold judgeOf at hj ⊢
      cases hr : refusedOf a t with
      | none =>
        rw [hr] at hj
        revert hj
        cases (pairsL a.length).any (ex a t) <;> exact fun h => absurd h (by decide)
      | some p =>
        unfold refusedOf at hr
        have h1 := pairs_in _ p (List.mem_of_find?_eq_some hr)
        have h2 := List.find?_some hr
        unfold inP at h1
        simp only [crE, if_pos h0]
        rw [show inI a p.1 = true from decide_eq_true (by omega), show inI a p.2 = true from decide_eq_true (by omega)]
        simp only [Bool.and_true]
        rw [if_neg (by omega), show rf a t (p.1, p.2) = true from h2]
        rfl
    · rw [if_neg hj]
  · simp only [if_neg h0]
    simp
theorem vc_judges (a : List SRange) (t : SFigureTolerance) : VC Go.Proofs.Try.prog 5 [VV.tr (a.flatMap c_SRange) a.length, VV.ag [vi t.Peak, vi t.Slope]] (vb true) :=
  nspeculumlaw06_FigureJudges_ok 1000 a t true (law_judges 1000 a t (by decide) (by decide))
end Go.Proofs.Ytlhkkbdfdkjlcaa.Vg
