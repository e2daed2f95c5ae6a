/- Law of ranges: the program's fold over all pairs and the reference's two loops give the same greatest values, and every surface of the enclosure stays between them. -/
import Derived.Test.YtlhkkbdfdkjlcaaH2
import Derived.Test.YtlhkkbdfdkjlcaaHp
set_option linter.unusedVariables false
set_option linter.unusedSimpArgs false
namespace Go.Proofs.Ytlhkkbdfdkjlcaa.Vg
open Go Go.Proofs.Ytlhkkbdfdkjlcaa.Ev Go.Proofs.Ytlhkkbdfdkjlcaa.Vv

def loA (a : List SRange) (i : Int) : Int := (a.getD i.toNat default).Lo
def hiA (a : List SRange) (i : Int) : Int := (a.getD i.toNat default).Hi
def encS : List SRange → Sum Int Unit
  | [] => .inr ()
  | r :: rs => match inH r.Lo && inH r.Hi with
    | true => (match decide (r.Hi < r.Lo) with | true => .inl 9 | false => encS rs)
    | false => .inl 2
def eE (a : List SRange) : Int := if 1 ≤ a.length ∧ a.length ≤ 40 then (match encS a with | .inl e => e | .inr _ => 0) else 10
theorem encS_all : ∀ (a : List SRange), (match encS a with | .inl e => e | .inr _ => 0) = 0 → ∀ r ∈ a, (inH r.Lo && inH r.Hi) = true ∧ r.Lo ≤ r.Hi
  | [], _, r, h => by cases h
  | x :: xs, h, r, hr => by
    rw [encS.eq_2] at h
    cases hx : (inH x.Lo && inH x.Hi) with
    | false => rw [hx] at h; simp at h
    | true =>
      rw [hx] at h
      by_cases hl : x.Hi < x.Lo
      · simp only [decide_eq_true hl] at h; simp at h
      · simp only [decide_eq_false hl] at h
        rcases List.mem_cons.1 hr with rfl | hr
        · exact ⟨hx, by omega⟩
        · exact encS_all xs h r hr
structure GoodR (a : List SRange) : Prop where
  pos : 1 ≤ a.length
  le : a.length ≤ 40
  all : ∀ i : Int, 0 ≤ i → i < a.length → -100000 ≤ loA a i ∧ hiA a i ≤ 100000 ∧ loA a i ≤ hiA a i
theorem eE_zero {a : List SRange} (h : eE a = 0) : GoodR a := by
  unfold eE at h
  by_cases h1 : 1 ≤ a.length ∧ a.length ≤ 40
  · rw [if_pos h1] at h
    refine ⟨h1.1, h1.2, fun i h2 h3 => ?_⟩
    have hm : a.getD i.toNat default ∈ a := by
      rw [List.getD_eq_getElem?_getD, List.getElem?_eq_getElem (by omega)]; exact List.getElem_mem _
    have := encS_all a h _ hm
    unfold loA hiA
    simp only [inH, Bool.and_eq_true, decide_eq_true_eq] at this
    omega
  · rw [if_neg h1] at h; exact absurd h (by decide)
theorem encF_l (k : Nat) (a : List SRange) (hl : a.length < 1000000000000) (hk : 100 ≤ k) (hk2 : k ≤ 1000000000) : ∀ (d fuel i : Nat), a.length = i + d → d < fuel →
    nfigure_CheckEnclosure_l0_0 k a fuel (i : Int) = some (encS (a.drop i)) := by
  intro d
  induction d with
  | zero =>
    intro fuel i h hf
    obtain ⟨g, rfl⟩ : ∃ g, fuel = g + 1 := ⟨fuel - 1, by omega⟩
    rw [nfigure_CheckEnclosure_l0_0.eq_2, if_neg (by omega), List.drop_eq_nil_of_le (by omega)]; rfl
  | succ d ih =>
    intro fuel i h hf
    obtain ⟨g, rfl⟩ : ∃ g, fuel = g + 1 := ⟨fuel - 1, by omega⟩
    rw [nfigure_CheckEnclosure_l0_0.eq_2, if_pos (by omega), if_pos (by omega), areHeights_any k _ (by simp; omega) hk2, Option.bind_some, w64_succ (by omega), ih g (i + 1) (by omega) (by omega), drop_get (y := a) (i := i) (by omega) default, encS.eq_2]
    simp only [Int.toNat_natCast, List.all_cons, List.all_nil, Bool.and_true]
    cases (inH (a.getD i default).Lo && inH (a.getD i default).Hi) with
    | false => rfl
    | true =>
      by_cases h : (a.getD i default).Hi < (a.getD i default).Lo
      · simp only [if_true, if_pos h, decide_eq_true h]
      · simp only [if_true, if_neg h, decide_eq_false h]
theorem encR_l (k : Nat) (a : List SRange) (hl : a.length < 1000000000000) : ∀ (d fuel i : Nat), a.length = i + d → d < fuel →
    nspeculumref06_CheckEnclosure_l0_0 k a fuel (i : Int) = some (encS (a.drop i)) := by
  intro d
  induction d with
  | zero =>
    intro fuel i h hf
    obtain ⟨g, rfl⟩ : ∃ g, fuel = g + 1 := ⟨fuel - 1, by omega⟩
    rw [nspeculumref06_CheckEnclosure_l0_0.eq_2, if_neg (by omega), List.drop_eq_nil_of_le (by omega)]; rfl
  | succ d ih =>
    intro fuel i h hf
    obtain ⟨g, rfl⟩ : ∃ g, fuel = g + 1 := ⟨fuel - 1, by omega⟩
    rw [nspeculumref06_CheckEnclosure_l0_0.eq_2, if_pos (by omega), if_pos (by omega), isHeight_any, isHeight_any, Option.bind_some, Option.bind_some, w64_succ (by omega), ih g (i + 1) (by omega) (by omega), drop_get (y := a) (i := i) (by omega) default, encS.eq_2]
    simp only [Int.toNat_natCast]
    cases inH (a.getD i default).Lo with
    | false => rfl
    | true =>
      cases inH (a.getD i default).Hi with
      | false => rfl
      | true =>
        by_cases h : (a.getD i default).Hi < (a.getD i default).Lo
        · simp only [if_true, if_pos h, decide_eq_true h]; rfl
        · simp only [if_true, if_neg h, decide_eq_false h]; rfl
theorem enc_fig (k : Nat) (a : List SRange) (hl : a.length < k) (hk : 100 ≤ k) (hk2 : k ≤ 1000000000) : nfigure_CheckEnclosure k a = some (eE a) := by
  unfold nfigure_CheckEnclosure eE
  rw [within_fig, show ((0 : Int)) = ((0 : Nat) : Int) from rfl, encF_l k a (by omega) hk hk2 a.length k 0 (by omega) hl, Option.bind_some, Option.bind_some, List.drop_zero]
  by_cases h : 1 ≤ a.length ∧ a.length ≤ 40
  · rw [if_pos h, if_pos (by simp; omega)]
    cases encS a <;> rfl
  · rw [if_neg h, if_neg (by simp; omega)]
theorem enc_ref (k : Nat) (a : List SRange) (hl : a.length < k) (hk : 100 ≤ k) (hk2 : k ≤ 1000000000) : nspeculumref06_CheckEnclosure k a = some (eE a) := by
  unfold nspeculumref06_CheckEnclosure eE
  rw [within_base, show ((0 : Int)) = ((0 : Nat) : Int) from rfl, encR_l k a (by omega) a.length k 0 (by omega) hl, Option.bind_some, Option.bind_some, List.drop_zero]
  by_cases h : 1 ≤ a.length ∧ a.length ≤ 40
  · rw [if_pos h, if_pos (by simp; omega)]
    cases encS a <;> rfl
  · rw [if_neg h, if_neg (by simp; omega)]
theorem ranges_any (k : Nat) (a : List SRange) (hl : a.length ≤ 1000000000) : nspeculumlaw06_ranges k a = some a := by
  unfold nspeculumlaw06_ranges
  rw [if_pos (by simpa using hl)]; rfl

/-- The greatest of b and the f of the list. -/
def mx (f : Int × Int → Int) : List (Int × Int) → Int → Int
  | [], b => b
  | p :: ps, b => mx f ps (maxI b (f p))
theorem mx_append (f : Int × Int → Int) : ∀ (xs ys : List (Int × Int)) (b : Int), mx f (xs ++ ys) b = mx f ys (mx f xs b)
  | [], _, _ => rfl
  | p :: ps, ys, b => mx_append f ps ys _
theorem maxI_le {a b c : Int} (h1 : a ≤ c) (h2 : b ≤ c) : maxI a b ≤ c := by unfold maxI; split <;> omega
theorem le_maxI1 (a b : Int) : a ≤ maxI a b := by unfold maxI; split <;> omega
theorem le_maxI2 (a b : Int) : b ≤ maxI a b := by unfold maxI; split <;> omega
theorem maxI_pos {a b : Int} (h1 : 0 ≤ a) (h2 : b ≤ 0) : maxI a b = a := by unfold maxI; split <;> omega
theorem mx_le (f : Int × Int → Int) {M : Int} : ∀ (xs : List (Int × Int)) (b : Int), b ≤ M → (∀ p ∈ xs, f p ≤ M) → mx f xs b ≤ M
  | [], b, h, _ => h
  | p :: ps, b, h, h2 => mx_le f ps _ (maxI_le h (h2 p (by simp))) (fun q hq => h2 q (by simp [hq]))
theorem le_mx (f : Int × Int → Int) : ∀ (xs : List (Int × Int)) (b : Int), b ≤ mx f xs b
  | [], b => Int.le_refl _
  | p :: ps, b => Int.le_trans (le_maxI1 b (f p)) (le_mx f ps _)
theorem mem_mx (f : Int × Int → Int) : ∀ (xs : List (Int × Int)) (b : Int) (p : Int × Int), p ∈ xs → f p ≤ mx f xs b
  | [], b, p, h => by cases h
  | q :: ps, b, p, h => by
    rcases List.mem_cons.1 h with rfl | h
    · exact Int.le_trans (le_maxI2 b (f p)) (le_mx f ps _)
    · exact mem_mx f ps _ p h
theorem mem_inner {i : Int} : ∀ (d : Nat) (j : Int) (p : Int × Int), p ∈ innerL i j d ↔ p.1 = i ∧ j ≤ p.2 ∧ p.2 < j + d ∧ p.2 ≠ i := by
  intro d
  induction d with
  | zero => intro j p; simp [innerL]; omega
  | succ d ih =>
    intro j p
    rw [innerL_eq]
    by_cases h : i = j
    · rw [if_pos h, ih]; omega
    · rw [if_neg h, List.mem_cons, ih]
      constructor
      · rintro (rfl | h1)
        · simp; omega
        · omega
      · intro h1
        by_cases h2 : p.2 = j
        · left; exact Prod.ext h1.1 h2
        · right; omega
theorem mem_outer {n : Nat} : ∀ (d : Nat) (i : Int) (p : Int × Int), p ∈ outerL n i d ↔ i ≤ p.1 ∧ p.1 < i + d ∧ 0 ≤ p.2 ∧ p.2 < n ∧ p.2 ≠ p.1 := by
  intro d
  induction d with
  | zero => intro i p; simp [outerL]; omega
  | succ d ih =>
    intro i p
    rw [outerL_eq, List.mem_append, mem_inner, ih]
    omega
theorem mem_pairs {n : Int} (hn : 0 ≤ n) (p : Int × Int) : p ∈ pairsL n ↔ 0 ≤ p.1 ∧ p.1 < n ∧ 0 ≤ p.2 ∧ p.2 < n ∧ p.2 ≠ p.1 := by
  unfold pairsL
  rw [mem_outer]; omega

def least (a : List SRange) (p : Int × Int) : Int := loA a p.1 - hiA a p.2
def most (a : List SRange) (p : Int × Int) : Int := hiA a p.1 - loA a p.2
def steps (p : Int × Int) : Int := ab (p.1 - p.2)
def slo (a : List SRange) (p : Int × Int) : Int := if 0 < least a p then (least a p + steps p - 1).tdiv (steps p) else 0
def shi (a : List SRange) (p : Int × Int) : Int := if steps p = 1 then most a p else 0
theorem least_fig (k : Nat) {a : List SRange} (ha : GoodR a) (i j : Int) (hi : 0 ≤ i ∧ i < a.length) (hj : 0 ≤ j ∧ j < a.length) : nfigure_leastApart k a i j = some (least a (i, j)) := by
  unfold nfigure_leastApart
  have h1 := ha.all i hi.1 hi.2
  have h2 := ha.all j hj.1 hj.2
  rw [if_pos hi, if_pos hj]
  unfold least
  unfold loA hiA at *
  rw [w64_id (by omega) (by omega)]
theorem most_fig (k : Nat) {a : List SRange} (ha : GoodR a) (i j : Int) (hi : 0 ≤ i ∧ i < a.length) (hj : 0 ≤ j ∧ j < a.length) : nfigure_mostApart k a i j = some (most a (i, j)) := by
  unfold nfigure_mostApart
  have h1 := ha.all i hi.1 hi.2
  have h2 := ha.all j hj.1 hj.2
  rw [if_pos hi, if_pos hj]
  unfold most
  unfold loA hiA at *
  rw [w64_id (by omega) (by omega)]
def inP (n : Nat) (p : Int × Int) : Prop := (0 ≤ p.1 ∧ p.1 < n) ∧ (0 ≤ p.2 ∧ p.2 < n) ∧ p.2 ≠ p.1
theorem peak_r0 (k : Nat) {a : List SRange} (ha : GoodR a) (r : Int) : ∀ (xs : List (Int × Int)) (b c : Int), (∀ p ∈ xs, inP a.length p) →
    nfigure_PeakRange_r0 k a r xs b c = some (mx (least a) xs b, mx (most a) xs c)
  | [], b, c, _ => rfl
  | p :: ps, b, c, h => by
    have hp := h p (by simp)
    rw [nfigure_PeakRange_r0.eq_2, least_fig k ha _ _ hp.1 hp.2.1, Option.bind_some, most_fig k ha _ _ hp.1 hp.2.1, Option.bind_some]
    exact peak_r0 k ha r ps _ _ (fun q hq => h q (by simp [hq]))
theorem peak_l1 (k : Nat) {a : List SRange} (ha : GoodR a) (i : Int) (hi : 0 ≤ i ∧ i < a.length) : ∀ (d fuel : Nat) (j b c : Int), 0 ≤ j → j + d = a.length → d < fuel →
    nspeculumref06_PeakRange_l1_0 k a i fuel b c j = some (mx (least a) (innerL i j d) b, mx (most a) (innerL i j d) c) := by
  have hle := ha.le
  intro d
  induction d with
  | zero =>
    intro fuel j b c h0 h hf
    obtain ⟨g, rfl⟩ : ∃ g, fuel = g + 1 := ⟨fuel - 1, by omega⟩
    rw [nspeculumref06_PeakRange_l1_0.eq_2, if_neg (by omega)]; rfl
  | succ d ih =>
    intro fuel j b c h0 h hf
    obtain ⟨g, rfl⟩ : ∃ g, fuel = g + 1 := ⟨fuel - 1, by omega⟩
    have h1 := ha.all i hi.1 hi.2
    have h2 := ha.all j h0 (by omega)
    rw [nspeculumref06_PeakRange_l1_0.eq_2, if_pos (by omega), innerL_eq, w64_id (n := j + 1) (by omega) (by omega)]
    by_cases hij : i = j
    · rw [if_pos hij, if_pos hij]; exact ih g (j + 1) b c (by omega) (by omega) (by omega)
    · rw [if_neg hij, if_neg hij, if_pos hi, if_pos (by omega), ih g (j + 1) _ _ (by omega) (by omega) (by omega)]
      unfold loA hiA at h1 h2
      rw [w64_id (by omega) (by omega), w64_id (by omega) (by omega)]
      rfl
theorem peak_l0 (k : Nat) {a : List SRange} (ha : GoodR a) (hk : 100 ≤ k) : ∀ (d fuel : Nat) (i b c : Int), 0 ≤ i → i + d = a.length → d < fuel →
    nspeculumref06_PeakRange_l0_0 k a fuel b c i = some (mx (least a) (outerL a.length i d) b, mx (most a) (outerL a.length i d) c) := by
  have hle := ha.le
  intro d
  induction d with
  | zero =>
    intro fuel i b c h0 h hf
    obtain ⟨g, rfl⟩ : ∃ g, fuel = g + 1 := ⟨fuel - 1, by omega⟩
    rw [nspeculumref06_PeakRange_l0_0.eq_2, if_neg (by omega)]; rfl
  | succ d ih =>
    intro fuel i b c h0 h hf
    obtain ⟨g, rfl⟩ : ∃ g, fuel = g + 1 := ⟨fuel - 1, by omega⟩
    rw [nspeculumref06_PeakRange_l0_0.eq_2, if_pos (by omega), peak_l1 k ha i (by omega) a.length k 0 b c (by omega) (by omega) (by omega), Option.bind_some, w64_id (by omega) (by omega),
      ih g (i + 1) _ _ (by omega) (by omega) (by omega), outerL_eq, mx_append, mx_append]
def peakOf (a : List SRange) : SRange := ⟨mx (least a) (pairsL a.length) 0, mx (most a) (pairsL a.length) 0⟩
theorem pairs_in (n : Nat) : ∀ p ∈ pairsL (n : Int), inP n p := by
  intro p hp
  have := (mem_pairs (by omega) p).1 hp
  unfold inP; omega
theorem peak_ref (k : Nat) {a : List SRange} (ha : GoodR a) (hk : 100 ≤ k) : nspeculumref06_PeakRange k a = some (peakOf a) := by
  have hle := ha.le
  unfold nspeculumref06_PeakRange
  rw [peak_l0 k ha hk a.length k 0 0 0 (by omega) (by omega) (by omega)]
  simp [peakOf, pairsL]
theorem peak_fig (k : Nat) {a : List SRange} (ha : GoodR a) (h0 : eE a = 0) (hk : 100 ≤ k) (hk2 : k ≤ 1000000000) : nfigure_PeakRange k a = some (peakOf a, 0) := by
  have hle := ha.le
  unfold nfigure_PeakRange
  rw [enc_fig k a (by omega) hk hk2, Option.bind_some, if_pos h0, show nfigure_pairs k (a.length : Int) = some (a.length : Int) from rfl, Option.bind_some, if_pos (by omega), peak_r0 k ha _ _ _ _ (pairs_in _)]
  rfl
theorem steps_pos {n : Nat} {p : Int × Int} (h : inP n p) : 1 ≤ steps p := by
  unfold inP at h; unfold steps ab; split <;> omega
theorem steps_le {n : Nat} {p : Int × Int} (h : inP n p) : steps p ≤ n := by
  unfold inP at h; unfold steps ab; split <;> omega
theorem least_bd {a : List SRange} (ha : GoodR a) {p : Int × Int} (h : inP a.length p) : -200000 ≤ least a p ∧ least a p ≤ 200000 := by
  have h1 := ha.all p.1 h.1.1 h.1.2
  have h2 := ha.all p.2 h.2.1.1 h.2.1.2
  unfold least; omega
theorem tdiv_bd {x s : Int} (h0 : 0 ≤ x) (hs : 1 ≤ s) : 0 ≤ x.tdiv s ∧ x.tdiv s ≤ x := by
  rw [Int.tdiv_eq_ediv_of_nonneg h0]
  exact ⟨Int.ediv_nonneg h0 (by omega), Int.ediv_le_self _ h0⟩
theorem slo_pos (a : List SRange) {n : Nat} {p : Int × Int} (h : inP n p) : 0 ≤ slo a p := by
  unfold slo
  split
  · have := steps_pos h
    exact (tdiv_bd (by omega) (by omega)).1
  · omega
theorem slope_r0 (k : Nat) {a : List SRange} (ha : GoodR a) (r : Int) : ∀ (xs : List (Int × Int)) (b c : Int), 0 ≤ b → 0 ≤ c → (∀ p ∈ xs, inP a.length p) →
    nfigure_SlopeRange_r0 k a r xs b c = some (mx (slo a) xs b, mx (shi a) xs c)
  | [], b, c, _, _, _ => rfl
  | p :: ps, b, c, hb, hc, h => by
    have hle := ha.le
    have hp := h p (by simp)
    have hs := steps_pos hp
    have hs2 := steps_le hp
    have hl := least_bd ha hp
    have hx : ∀ q ∈ ps, inP a.length q := fun q hq => h q (by simp [hq])
    have hm1 := le_maxI1 b (slo a p)
    have hm2 := le_maxI1 c (shi a p)
    have ih := slope_r0 k ha r ps (maxI b (slo a p)) (maxI c (shi a p)) (by omega) (by omega) hx
    have hin := hp
    unfold inP at hin
    rw [nfigure_SlopeRange_r0.eq_2, w64_id (n := p.1 - p.2) (by omega) (by omega), size_any _ _ (by omega) (by omega), Option.bind_some, least_fig k ha _ _ hp.1 hp.2.1, Option.bind_some, most_fig k ha _ _ hp.1 hp.2.1]
    change (if 0 < least a p then (if steps p ≠ 0 then (if steps p = 1 then (some (most a p)).bind (fun r629 => nfigure_SlopeRange_r0 k a r ps (maxI b (w64 ((w64 ((w64 (least a p + steps p)) - 1)).tdiv (steps p)))) (maxI c r629)) else nfigure_SlopeRange_r0 k a r ps (maxI b (w64 ((w64 ((w64 (least a p + steps p)) - 1)).tdiv (steps p)))) c) else none) else (if steps p = 1 then (some (most a p)).bind (fun r632 => nfigure_SlopeRange_r0 k a r ps b (maxI c r632)) else nfigure_SlopeRange_r0 k a r ps b c)) = some (mx (slo a) ps (maxI b (slo a p)), mx (shi a) ps (maxI c (shi a p)))
    rw [← ih, Option.bind_some, Option.bind_some]
    unfold slo shi
    by_cases h1 : 0 < least a p
    · have ht := tdiv_bd (x := least a p + steps p - 1) (s := steps p) (by omega) (by omega)
      rw [if_pos h1, if_pos (by omega), if_pos h1, w64_id (n := least a p + steps p) (by omega) (by omega), w64_id (n := least a p + steps p - 1) (by omega) (by omega), w64_id (by omega) (by omega)]
      by_cases h2 : steps p = 1
      · rw [if_pos h2, if_pos h2]
      · rw [if_neg h2, if_neg h2, maxI_pos hc (by omega)]
    · rw [if_neg h1, if_neg h1, maxI_pos hb (by omega)]
      by_cases h2 : steps p = 1
      · rw [if_pos h2, if_pos h2]
      · rw [if_neg h2, if_neg h2, maxI_pos hc (by omega)]
theorem ceil_any (k : Nat) {x s : Int} (h1 : -200000 ≤ x) (h2 : x ≤ 200000) (h3 : 1 ≤ s) (h4 : s ≤ 40) : ∃ c, nspeculumbase_Ceil k x s = some c ∧ (0 < x → c = (x + s - 1).tdiv s) ∧ (x ≤ 0 → c ≤ 0) := by
  unfold nspeculumbase_Ceil nspeculumbase_Floor
  rw [w64_id (n := 0 - x) (by omega) (by omega), if_pos (by omega)]
  have hd := Int.mul_tdiv_add_tmod (0 - x) s
  by_cases hx : 0 < x
  · have e1 : (0 - x).tdiv s = -(x.tdiv s) := by rw [Int.zero_sub, Int.neg_tdiv]
    have e2 : (0 - x).tmod s = -(x.tmod s) := by rw [Int.zero_sub, Int.neg_tmod]
    have hm := Int.tmod_nonneg s (show 0 ≤ x by omega)
    have hm2 := Int.tmod_lt_of_pos x (show 0 < s by omega)
    have ht := tdiv_bd (x := x) (s := s) (by omega) h3
    have ht2 := tdiv_bd (x := x + s - 1) (s := s) (by omega) h3
    have hdx := Int.mul_tdiv_add_tmod x s
    rw [e1, e2, w64_id (n := -(x.tdiv s)) (by omega) (by omega)]
    have key : (x + s - 1).tdiv s = if 0 < x.tmod s then x.tdiv s + 1 else x.tdiv s := by
      rw [Int.tdiv_eq_ediv_of_nonneg (show 0 ≤ x + s - 1 by omega)]
      split
      · apply Int.le_antisymm
        · apply Int.le_of_lt_add_one
          apply Int.ediv_lt_of_lt_mul (by omega)
          have : (x.tdiv s + 1 + 1) * s = s * x.tdiv s + s + s := by rw [Int.add_mul, Int.add_mul, Int.mul_comm]; omega
          omega
        · apply Int.le_ediv_of_mul_le (by omega)
          have : (x.tdiv s + 1) * s = s * x.tdiv s + s := by rw [Int.add_mul, Int.mul_comm]; omega
          omega
      · apply Int.le_antisymm
        · apply Int.le_of_lt_add_one
          apply Int.ediv_lt_of_lt_mul (by omega)
          have : (x.tdiv s + 1) * s = s * x.tdiv s + s := by rw [Int.add_mul, Int.mul_comm]; omega
          omega
        · apply Int.le_ediv_of_mul_le (by omega)
          rw [Int.mul_comm]; omega
    by_cases hr : 0 < x.tmod s
    · rw [if_pos (by omega), w64_id (n := -(x.tdiv s) - 1) (by omega) (by omega)]
      refine ⟨_, rfl, fun _ => ?_, fun h => by omega⟩
      rw [w64_id (by omega) (by omega), key, if_pos hr]; omega
    · rw [if_neg (by omega)]
      refine ⟨_, rfl, fun _ => ?_, fun h => by omega⟩
      rw [w64_id (by omega) (by omega), key, if_neg hr]; omega
  · have hm := Int.tmod_nonneg s (show 0 ≤ 0 - x by omega)
    have ht := tdiv_bd (x := 0 - x) (s := s) (by omega) h3
    rw [if_neg (by omega), w64_id (n := (0 - x).tdiv s) (by omega) (by omega)]
    refine ⟨_, rfl, fun h => by omega, fun _ => ?_⟩
    rw [w64_id (by omega) (by omega)]; omega
theorem slope_l1 (k : Nat) {a : List SRange} (ha : GoodR a) (i : Int) (hi : 0 ≤ i ∧ i < a.length) : ∀ (d fuel : Nat) (j b c : Int), 0 ≤ b → 0 ≤ c → 0 ≤ j → j + d = a.length → d < fuel →
    nspeculumref06_SlopeRange_l1_0 k a i fuel b c j = some (mx (slo a) (innerL i j d) b, mx (shi a) (innerL i j d) c) := by
  have hle := ha.le
  intro d
  induction d with
  | zero =>
    intro fuel j b c hb hc h0 h hf
    obtain ⟨g, rfl⟩ : ∃ g, fuel = g + 1 := ⟨fuel - 1, by omega⟩
    rw [nspeculumref06_SlopeRange_l1_0.eq_2, if_neg (by omega)]; rfl
  | succ d ih =>
    intro fuel j b c hb hc h0 h hf
    obtain ⟨g, rfl⟩ : ∃ g, fuel = g + 1 := ⟨fuel - 1, by omega⟩
    have h1 := ha.all i hi.1 hi.2
    have h2 := ha.all j h0 (by omega)
    rw [nspeculumref06_SlopeRange_l1_0.eq_2, if_pos (by omega), innerL_eq, w64_id (n := j + 1) (by omega) (by omega)]
    by_cases hij : i = j
    · rw [if_pos hij, if_pos hij]; exact ih g (j + 1) b c hb hc (by omega) (by omega) (by omega)
    · have hp : inP a.length (i, j) := ⟨hi, ⟨h0, by omega⟩, fun h => hij h.symm⟩
      have hs := steps_pos hp
      have hs2 := steps_le hp
      have hl := least_bd ha hp
      have hm1 := le_maxI1 b (slo a (i, j))
      have hm2 := le_maxI1 c (shi a (i, j))
      rw [if_neg hij, if_neg hij, w64_id (n := i - j) (by omega) (by omega), abs_any _ _ (by omega) (by omega), Option.bind_some, if_pos hi, if_pos (by omega)]
      obtain ⟨q, hq, hq1, hq2⟩ := ceil_any k hl.1 hl.2 hs (by omega)
      have el : w64 ((a.getD i.toNat default).Lo - (a.getD j.toNat default).Hi) = least a (i, j) := by
        unfold loA hiA at h1 h2
        rw [w64_id (by omega) (by omega)]; rfl
      have em : w64 ((a.getD i.toNat default).Hi - (a.getD j.toNat default).Lo) = most a (i, j) := by
        unfold loA hiA at h1 h2
        rw [w64_id (by omega) (by omega)]; rfl
      rw [el, em, show ab (i - j) = steps (i, j) from rfl, hq, Option.bind_some]
      have eq1 : maxI b q = maxI b (slo a (i, j)) := by
        unfold slo
        by_cases h3 : 0 < least a (i, j)
        · rw [if_pos h3, hq1 h3]
        · rw [if_neg h3, maxI_pos hb (hq2 (by omega)), maxI_pos hb (by omega)]
      rw [eq1]
      change _ = some (mx (slo a) (innerL i (j + 1) d) (maxI b (slo a (i, j))), mx (shi a) (innerL i (j + 1) d) (maxI c (shi a (i, j))))
      rw [← ih g (j + 1) _ _ (by omega) (by omega) (by omega) (by omega) (by omega)]
      unfold shi
      by_cases h2 : steps (i, j) = 1
      · rw [if_pos h2, if_pos h2]
      · rw [if_neg h2, if_neg h2, maxI_pos hc (by omega)]
theorem slope_l0 (k : Nat) {a : List SRange} (ha : GoodR a) (hk : 100 ≤ k) : ∀ (d fuel : Nat) (i b c : Int), 0 ≤ b → 0 ≤ c → 0 ≤ i → i + d = a.length → d < fuel →
    nspeculumref06_SlopeRange_l0_0 k a fuel b c i = some (mx (slo a) (outerL a.length i d) b, mx (shi a) (outerL a.length i d) c) := by
  have hle := ha.le
  intro d
  induction d with
  | zero =>
    intro fuel i b c hb hc h0 h hf
    obtain ⟨g, rfl⟩ : ∃ g, fuel = g + 1 := ⟨fuel - 1, by omega⟩
    rw [nspeculumref06_SlopeRange_l0_0.eq_2, if_neg (by omega)]; rfl
  | succ d ih =>
    intro fuel i b c hb hc h0 h hf
    obtain ⟨g, rfl⟩ : ∃ g, fuel = g + 1 := ⟨fuel - 1, by omega⟩
    have hm1 := le_mx (slo a) (innerL i 0 a.length) b
    have hm2 := le_mx (shi a) (innerL i 0 a.length) c
    rw [nspeculumref06_SlopeRange_l0_0.eq_2, if_pos (by omega), slope_l1 k ha i (by omega) a.length k 0 b c hb hc (by omega) (by omega) (by omega), Option.bind_some, w64_id (by omega) (by omega),
      ih g (i + 1) _ _ (by omega) (by omega) (by omega) (by omega) (by omega), outerL_eq, mx_append, mx_append]
def slopeOf (a : List SRange) : SRange := ⟨mx (slo a) (pairsL a.length) 0, mx (shi a) (pairsL a.length) 0⟩
theorem slope_ref (k : Nat) {a : List SRange} (ha : GoodR a) (hk : 100 ≤ k) : nspeculumref06_SlopeRange k a = some (slopeOf a) := by
  have hle := ha.le
  unfold nspeculumref06_SlopeRange
  rw [slope_l0 k ha hk a.length k 0 0 0 (by omega) (by omega) (by omega) (by omega) (by omega)]
  simp [slopeOf, pairsL]
theorem slope_fig (k : Nat) {a : List SRange} (ha : GoodR a) (h0 : eE a = 0) (hk : 100 ≤ k) (hk2 : k ≤ 1000000000) : nfigure_SlopeRange k a = some (slopeOf a, 0) := by
  have hle := ha.le
  unfold nfigure_SlopeRange
  rw [enc_fig k a (by omega) hk hk2, Option.bind_some, if_pos h0, show nfigure_pairs k (a.length : Int) = some (a.length : Int) from rfl, Option.bind_some, if_pos (by omega), slope_r0 k ha _ _ _ _ (by omega) (by omega) (pairs_in _)]
  rfl

/- The surfaces. -/
def rowL (i j : Int) : Nat → List (Int × Int)
  | 0 => []
  | d + 1 => (i, j) :: rowL i (j + 1) d
def triL (i : Int) : Nat → List (Int × Int)
  | 0 => []
  | d + 1 => rowL i 0 i.toNat ++ triL (i + 1) d
theorem mem_row {i : Int} : ∀ (d : Nat) (j : Int) (p : Int × Int), p ∈ rowL i j d ↔ p.1 = i ∧ j ≤ p.2 ∧ p.2 < j + d := by
  intro d
  induction d with
  | zero => intro j p; simp only [rowL, List.not_mem_nil, false_iff]; omega
  | succ d ih =>
    intro j p
    rw [rowL, List.mem_cons, ih]
    constructor
    · rintro (rfl | h1)
      · simp; omega
      · omega
    · intro h1
      by_cases h2 : p.2 = j
      · left; exact Prod.ext h1.1 h2
      · right; omega
theorem mem_tri : ∀ (d : Nat) (i : Int) (p : Int × Int), 0 ≤ i → (p ∈ triL i d ↔ i ≤ p.1 ∧ p.1 < i + d ∧ 0 ≤ p.2 ∧ p.2 < p.1) := by
  intro d
  induction d with
  | zero => intro i p _; simp [triL]; omega
  | succ d ih =>
    intro i p h0
    rw [triL, List.mem_append, mem_row, ih _ _ (by omega)]
    omega
def zA (z : List Int) (i : Int) : Int := z.getD i.toNat 0
def gP (z : List Int) (p : Int × Int) : Int := ab (zA z p.1 - zA z p.2)
def gS (z : List Int) (p : Int × Int) : Int := if p.2 = p.1 - 1 then gP z p else 0
theorem rng_l1 (k : Nat) {a : List SRange} {z : List Int} (r1 r2 : SRange × Int) (hle : z.length ≤ 45) (i : Int) (hi : 0 ≤ i ∧ i < z.length) (hz : ∀ j, 0 ≤ j → j ≤ i → -100000 ≤ zA z j ∧ zA z j ≤ 100000) : ∀ (d fuel : Nat) (j b c : Int), 0 ≤ b → 0 ≤ c → 0 ≤ j → j + d = i → d < fuel →
    nspeculumlaw06_FigureRanges_l1_0 k a z r1 r2 i fuel b c j = some (mx (gP z) (rowL i j d) b, mx (gS z) (rowL i j d) c) := by
  intro d
  induction d with
  | zero =>
    intro fuel j b c hb hc h0 h hf
    obtain ⟨g, rfl⟩ : ∃ g, fuel = g + 1 := ⟨fuel - 1, by omega⟩
    rw [nspeculumlaw06_FigureRanges_l1_0.eq_2, if_neg (by omega)]; rfl
  | succ d ih =>
    intro fuel j b c hb hc h0 h hf
    obtain ⟨g, rfl⟩ : ∃ g, fuel = g + 1 := ⟨fuel - 1, by omega⟩
    have h1 := hz i hi.1 (by omega)
    have h2 := hz j h0 (by omega)
    have hm1 := le_maxI1 b (gP z (i, j))
    have hm2 := le_maxI1 c (gS z (i, j))
    rw [nspeculumlaw06_FigureRanges_l1_0.eq_2, if_pos (by omega), if_pos hi, if_pos (by omega), w64_id (n := j + 1) (by omega) (by omega), w64_id (n := i - 1) (by omega) (by omega)]
    change (nspeculumbase_Abs k (w64 (zA z i - zA z j))).bind _ = _
    rw [w64_id (by omega) (by omega), abs_any _ _ (by omega) (by omega), Option.bind_some, show ab (zA z i - zA z j) = gP z (i, j) from rfl, rowL]
    change _ = some (mx (gP z) (rowL i (j + 1) d) (maxI b (gP z (i, j))), mx (gS z) (rowL i (j + 1) d) (maxI c (gS z (i, j))))
    rw [← ih g (j + 1) _ _ (by omega) (by omega) (by omega) (by omega) (by omega)]
    unfold gS
    by_cases h2 : j = i - 1
    · rw [if_pos h2, if_pos h2]
    · rw [if_neg h2, if_neg (by simpa using h2), maxI_pos hc (by omega)]
theorem rng_l0 (k : Nat) {a : List SRange} {z : List Int} (ha : GoodR a) (r1 r2 : SRange × Int) (hzl : z.length = a.length) (hk : 100 ≤ k) : ∀ (d fuel : Nat) (i b c : Int), 0 ≤ b → 0 ≤ c → 0 ≤ i → i + d = a.length → d < fuel →
    (∀ j, 0 ≤ j → j < i → loA a j ≤ zA z j ∧ zA z j ≤ hiA a j) →
    nspeculumlaw06_FigureRanges_l0_0 k a z r1 r2 fuel b c i = some (.inl ()) ∨
    (nspeculumlaw06_FigureRanges_l0_0 k a z r1 r2 fuel b c i = some (.inr (mx (gP z) (triL i d) b, mx (gS z) (triL i d) c)) ∧ ∀ j : Int, 0 ≤ j → j < a.length → loA a j ≤ zA z j ∧ zA z j ≤ hiA a j) := by
  have hle := ha.le
  intro d
  induction d with
  | zero =>
    intro fuel i b c hb hc h0 h hf hw
    obtain ⟨g, rfl⟩ : ∃ g, fuel = g + 1 := ⟨fuel - 1, by omega⟩
    rw [nspeculumlaw06_FigureRanges_l0_0.eq_2, if_neg (by omega)]
    exact .inr ⟨rfl, fun j h1 h2 => hw j h1 (by omega)⟩
  | succ d ih =>
    intro fuel i b c hb hc h0 h hf hw
    obtain ⟨g, rfl⟩ : ∃ g, fuel = g + 1 := ⟨fuel - 1, by omega⟩
    rw [nspeculumlaw06_FigureRanges_l0_0.eq_2, if_pos (by omega), if_pos (by omega), if_pos (by omega), within_base, Option.bind_some]
    change (if decide (loA a i ≤ zA z i ∧ zA z i ≤ hiA a i) = true then _ else _) = _ ∨ ((if decide (loA a i ≤ zA z i ∧ zA z i ≤ hiA a i) = true then _ else _) = _ ∧ _)
    by_cases hin : loA a i ≤ zA z i ∧ zA z i ≤ hiA a i
    · rw [decide_eq_true hin, if_pos rfl]
      have hw2 : ∀ j, 0 ≤ j → j < i + 1 → loA a j ≤ zA z j ∧ zA z j ≤ hiA a j := fun j h1 h2 => by
        by_cases he : j = i
        · rw [he]; exact hin
        · exact hw j h1 (by omega)
      have hz : ∀ j, 0 ≤ j → j ≤ i → -100000 ≤ zA z j ∧ zA z j ≤ 100000 := fun j h1 h2 => by
        have h3 := hw2 j h1 (by omega)
        have h4 := ha.all j h1 (by omega)
        omega
      have hm1 := le_mx (gP z) (rowL i 0 i.toNat) b
      have hm2 := le_mx (gS z) (rowL i 0 i.toNat) c
      rw [rng_l1 k r1 r2 (by omega) i (by omega) hz i.toNat k 0 b c hb hc (by omega) (by omega) (by omega), Option.bind_some, w64_id (by omega) (by omega), triL, mx_append, mx_append]
      exact ih g (i + 1) _ _ (by omega) (by omega) (by omega) (by omega) (by omega) hw2
    · rw [decide_eq_false hin]
      exact .inl rfl
theorem surf_peak {a : List SRange} {z : List Int} (ha : GoodR a) (hw : ∀ j : Int, 0 ≤ j → j < a.length → loA a j ≤ zA z j ∧ zA z j ≤ hiA a j) :
    (peakOf a).Lo ≤ mx (gP z) (triL 0 a.length) 0 ∧ mx (gP z) (triL 0 a.length) 0 ≤ (peakOf a).Hi := by
  constructor
  · refine mx_le _ _ _ (le_mx _ _ _) fun p hp => ?_
    have hp := (mem_pairs (by omega) p).1 hp
    have h1 := hw p.1 (by omega) (by omega)
    have h2 := hw p.2 (by omega) (by omega)
    have hg : gP z p ≤ mx (gP z) (triL 0 a.length) 0 := by
      by_cases hlt : p.2 < p.1
      · exact mem_mx _ _ _ p ((mem_tri _ _ _ (by omega)).2 (by omega))
      · have := mem_mx (gP z) (triL 0 a.length) 0 (p.2, p.1) ((mem_tri _ _ _ (by omega)).2 (by simp; omega))
        have e : gP z (p.2, p.1) = gP z p := by unfold gP; exact ab_symm _ _
        omega
    have : least a p ≤ gP z p := by unfold least gP ab; split <;> omega
    omega
  · refine mx_le _ _ _ (le_mx _ _ _) fun p hp => ?_
    have hp := (mem_tri _ _ _ (by omega)).1 hp
    have h1 := hw p.1 (by omega) (by omega)
    have h2 := hw p.2 (by omega) (by omega)
    have m1 := mem_mx (most a) (pairsL a.length) 0 p ((mem_pairs (by omega) _).2 (by omega))
    have m2 := mem_mx (most a) (pairsL a.length) 0 (p.2, p.1) ((mem_pairs (by omega) _).2 (by simp; omega))
    unfold most at m1 m2
    simp only [] at m1 m2
    have : gP z p ≤ hiA a p.1 - loA a p.2 ∨ gP z p ≤ hiA a p.2 - loA a p.1 := by unfold gP ab; split <;> omega
    change _ ≤ mx (most a) (pairsL a.length) 0
    unfold most
    omega
theorem tele {z : List Int} {S : Int} {n : Nat} (h : ∀ i : Int, 0 < i → i < n → ab (zA z i - zA z (i - 1)) ≤ S) : ∀ (d : Nat) (j : Int), 0 ≤ j → j + d < n → zA z (j + d) - zA z j ≤ d * S ∧ zA z j - zA z (j + d) ≤ d * S := by
  intro d
  induction d with
  | zero => intro j _ _; simp
  | succ d ih =>
    intro j h0 h1
    have h2 := ih j h0 (by omega)
    have h3 := h (j + (d + 1 : Nat)) (by omega) h1
    rw [show j + ((d + 1 : Nat) : Int) - 1 = j + d by omega] at h3
    have e : ((d + 1 : Nat) : Int) * S = d * S + S := by rw [Int.natCast_add, Int.add_mul]; simp
    rw [e]
    have : ∀ u v : Int, ab (u - v) ≤ S → u - v ≤ S ∧ v - u ≤ S := by
      intro u v; unfold ab; split <;> omega
    have h4 := this _ _ h3
    omega
theorem surf_slope {a : List SRange} {z : List Int} (ha : GoodR a) (hw : ∀ j : Int, 0 ≤ j → j < a.length → loA a j ≤ zA z j ∧ zA z j ≤ hiA a j) :
    (slopeOf a).Lo ≤ mx (gS z) (triL 0 a.length) 0 ∧ mx (gS z) (triL 0 a.length) 0 ≤ (slopeOf a).Hi := by
  have hS0 := le_mx (gS z) (triL 0 a.length) 0
  have hstep : ∀ i : Int, 0 < i → i < a.length → ab (zA z i - zA z (i - 1)) ≤ mx (gS z) (triL 0 a.length) 0 := by
    intro i h1 h2
    have := mem_mx (gS z) (triL 0 a.length) 0 (i, i - 1) ((mem_tri _ _ _ (by omega)).2 (by simp; omega))
    unfold gS at this
    rw [if_pos rfl] at this
    exact this
  constructor
  · refine mx_le _ _ _ hS0 fun p hp => ?_
    have hp := (mem_pairs (by omega) p).1 hp
    have hin : inP a.length p := by unfold inP; omega
    have h1 := hw p.1 (by omega) (by omega)
    have h2 := hw p.2 (by omega) (by omega)
    unfold slo
    split
    · rename_i hl
      have hs := steps_pos hin
      rw [Int.tdiv_eq_ediv_of_nonneg (by omega)]
      apply Int.le_of_lt_add_one
      apply Int.ediv_lt_of_lt_mul (by omega)
      have hz : least a p ≤ steps p * mx (gS z) (triL 0 a.length) 0 := by
        unfold least steps ab
        split
        · have ht := tele hstep (p.2 - p.1).toNat p.1 (by omega) (by omega)
          rw [show p.1 + ((p.2 - p.1).toNat : Int) = p.2 by omega, show ((p.2 - p.1).toNat : Int) = -(p.1 - p.2) by omega] at ht
          omega
        · have ht := tele hstep (p.1 - p.2).toNat p.2 (by omega) (by omega)
          rw [show p.2 + ((p.1 - p.2).toNat : Int) = p.1 by omega, show ((p.1 - p.2).toNat : Int) = p.1 - p.2 by omega] at ht
          omega
      have e : (mx (gS z) (triL 0 a.length) 0 + 1) * steps p = steps p * mx (gS z) (triL 0 a.length) 0 + steps p := by rw [Int.add_mul, Int.mul_comm]; omega
      rw [e]; omega
    · exact hS0
  · refine mx_le _ _ _ (le_mx _ _ _) fun p hp => ?_
    have hp := (mem_tri _ _ _ (by omega)).1 hp
    unfold gS
    split
    · rename_i he
      have h1 := hw p.1 (by omega) (by omega)
      have h2 := hw p.2 (by omega) (by omega)
      have m1 := mem_mx (shi a) (pairsL a.length) 0 p ((mem_pairs (by omega) _).2 (by omega))
      have m2 := mem_mx (shi a) (pairsL a.length) 0 (p.2, p.1) ((mem_pairs (by omega) _).2 (by simp; omega))
      unfold shi at m1 m2
      rw [if_pos (by unfold steps ab; rw [if_neg (by omega)]; omega)] at m1
      rw [if_pos (by unfold steps ab; simp only []; rw [if_pos (by omega)]; omega)] at m2
      change _ ≤ mx (shi a) (pairsL a.length) 0
      unfold shi
      unfold most at m1 m2
      simp only [] at m1 m2
      have : gP z p ≤ hiA a p.1 - loA a p.2 ∨ gP z p ≤ hiA a p.2 - loA a p.1 := by unfold gP ab; split <;> omega
      unfold most
      omega
    · exact le_mx _ _ _
theorem law_ranges (k : Nat) (a : List SRange) (z : List Int) (hk : 100 ≤ k) (hk2 : k ≤ 1000000000) : nspeculumlaw06_FigureRanges k a z = some true := by
  unfold nspeculumlaw06_FigureRanges
  rw [show nawake k = some true from rfl]
  simp only [Option.bind_some, if_true]
  by_cases h45 : 45 < (a.length : Int)
  · rw [if_pos h45]
  by_cases h46 : 45 < (z.length : Int)
  · rw [if_neg h45, if_pos h46]
  rw [if_neg h45, if_neg h46, ranges_any k a (by omega)]
  simp only [Option.bind_some, enc_ref k a (by omega) hk hk2, enc_fig k a (by omega) hk hk2, if_true]
  by_cases h0 : eE a = 0
  · have ha := eE_zero h0
    simp only [peak_fig k ha h0 hk hk2, slope_fig k ha h0 hk hk2, peak_ref k ha hk, slope_ref k ha hk, Option.bind_some, if_pos h0, if_true, beq_self_eq_true, Bool.and_true]
    by_cases hl : (z.length : Int) = (a.length : Int)
    · rw [if_pos hl]
      rcases rng_l0 k (z := z) ha (peakOf a, 0) (slopeOf a, 0) (by omega) hk a.length k 0 0 0 (by omega) (by omega) (by omega) (by omega) (by omega) (fun j h1 h2 => by omega) with h | ⟨h, hw⟩
      · rw [h]; rfl
      · rw [h, Option.bind_some]
        have h1 := surf_peak ha hw
        have h2 := surf_slope ha hw
        simp only [within_base, Option.bind_some]
        rw [decide_eq_true h1, decide_eq_true h2]; rfl
    · rw [if_neg hl]
  · simp only [if_neg h0]
    unfold nfigure_PeakRange nfigure_SlopeRange
    simp only [enc_fig k a (by omega) hk hk2, Option.bind_some, if_neg h0]
    simp
theorem vc_ranges (a : List SRange) (z : List Int) : VC Go.Proofs.Try.prog 4 [VV.tr (a.flatMap c_SRange) a.length, VV.tr (z.map vi) z.length] (vb true) :=
  nspeculumlaw06_FigureRanges_ok 1000 a z true (law_ranges 1000 a z (by decide) (by decide))
end Go.Proofs.Ytlhkkbdfdkjlcaa.Vg
