/- Chapter 9, plain: numbers in ranges, tables. -/
import Derived.Test.YtgacnndakgpaeaaB1
set_option linter.unusedVariables false
set_option linter.unusedSimpArgs false
namespace Go.Proofs.Ytgacnndakgpaeaa.Vg
open Go Go.Proofs.Ytgacnndakgpaeaa.Ev Go.Proofs.Ytgacnndakgpaeaa.Vv
theorem w64_id {n : Int} (h1 : -9223372036854775808 ≤ n) (h2 : n ≤ 9223372036854775807) : w64 n = n := by
  unfold w64 IntKind.wrap
  simp [IntKind.signed, IntKind.bits]
  omega
theorem w64_succ {i : Nat} (h : i < 1000000000000) : w64 ((i : Int) + 1) = ((i + 1 : Nat) : Int) := by
  rw [w64_id (by omega) (by omega)]; omega
theorem drop_get {α : Type} {y : List α} {i : Nat} (h : i < y.length) (d : α) : y.drop i = y.getD i d :: y.drop (i + 1) := by
  rw [List.drop_eq_getElem_cons h, List.getD_eq_getElem?_getD, List.getElem?_eq_getElem h]; rfl
def sumB (b : Bool) : Sum Unit Unit := match b with | true => .inr () | false => .inl ()
/-- the first error, or the end. -/
def sumE (e : Int) : Sum Int Unit := if e = 0 then .inr () else .inl e
def inR (a b n : Int) : Bool := decide (a ≤ n ∧ n ≤ b)
theorem inR_t {a b n : Int} : inR a b n = true ↔ a ≤ n ∧ n ≤ b := by unfold inR; exact decide_eq_true_iff
theorem inR_f {a b n : Int} : inR a b n = false ↔ ¬(a ≤ n ∧ n ≤ b) := by unfold inR; exact decide_eq_false_iff_not
theorem within_base (k : Nat) (a b c : Int) : nspeculumbase_Within k a b c = some (inR b c a) := by
  unfold nspeculumbase_Within inR
  by_cases h : b ≤ a
  · rw [if_pos h]; simp [h]
  · rw [if_neg h]; simp [h]
theorem areWithin_l (k : Nat) (a b : Int) (xs : List Int) (hl : xs.length < 1000000000000) : ∀ (d fuel i : Nat), xs.length = i + d → d < fuel →
    npoint_areWithin_l0_0 k a b xs fuel (i : Int) = some (sumB ((xs.drop i).all (inR a b))) := by
  intro d
  induction d with
  | zero =>
    intro fuel i h hf
    obtain ⟨g, rfl⟩ : ∃ g, fuel = g + 1 := ⟨fuel - 1, by omega⟩
    rw [npoint_areWithin_l0_0.eq_2, if_neg (by omega), List.drop_eq_nil_of_le (by omega)]; rfl
  | succ d ih =>
    intro fuel i h hf
    obtain ⟨g, rfl⟩ : ∃ g, fuel = g + 1 := ⟨fuel - 1, by omega⟩
    rw [npoint_areWithin_l0_0.eq_2, if_pos (by omega), if_pos (by omega), w64_succ (by omega), ih g (i + 1) (by omega) (by omega), drop_get (y := xs) (i := i) (by omega) 0]
    simp only [Int.toNat_natCast, List.all_cons]
    by_cases h1 : xs.getD i 0 < a
    · rw [if_pos h1, show inR a b (xs.getD i 0) = false from inR_f.2 (by omega)]; rfl
    · rw [if_neg h1]
      by_cases h2 : b < xs.getD i 0
      · rw [if_pos h2, show inR a b (xs.getD i 0) = false from inR_f.2 (by omega)]; rfl
      · rw [if_neg h2, show inR a b (xs.getD i 0) = true from inR_t.2 (by omega)]; rfl
theorem areWithin_any (k : Nat) (a b : Int) (xs : List Int) (hl : xs.length < k) (hk : xs.length < 1000000000000) : npoint_areWithin k a b xs = some (xs.all (inR a b)) := by
  unfold npoint_areWithin
  rw [show npoint_areWithin_l0_0 k a b xs k 0 = _ from areWithin_l k a b xs (by omega) xs.length k 0 (by omega) hl]
  simp only [List.drop_zero]
  cases xs.all (inR a b) <;> rfl
theorem areWithin_1 (k : Nat) (a b x : Int) (hk : 100 < k) (hk2 : k ≤ 100000000000000000000) : npoint_areWithin k a b [x] = some (inR a b x) := by
  rw [areWithin_any k a b [x] (by simp; omega) (by simp)]; simp
theorem areWithin_2 (k : Nat) (a b x y : Int) (hk : 100 < k) (hk2 : k ≤ 100000000000000000000) : npoint_areWithin k a b [x, y] = some (inR a b x && inR a b y) := by
  rw [areWithin_any k a b [x, y] (by simp; omega) (by simp)]; simp
theorem areSmall_any (k : Nat) (b : Int) (xs : List Int) (hb : 0 ≤ b ∧ b ≤ 1000000000000) (hl : xs.length < k) (hk : xs.length < 1000000000000) : npoint_areSmall k b xs = some (xs.all (inR (-b) b)) := by
  unfold npoint_areSmall
  rw [w64_id (by omega) (by omega), areWithin_any k _ _ _ hl hk, Option.bind_some, show (0 : Int) - b = -b by omega]
theorem areSmall_1 (k : Nat) (b x : Int) (hb : 0 ≤ b ∧ b ≤ 1000000000000) (hk : 100 < k) (hk2 : k ≤ 100000000000000000000) : npoint_areSmall k b [x] = some (inR (-b) b x) := by
  rw [areSmall_any k b [x] hb (by simp; omega) (by simp)]; simp
theorem areSmall_2 (k : Nat) (b x y : Int) (hb : 0 ≤ b ∧ b ≤ 1000000000000) (hk : 100 < k) (hk2 : k ≤ 100000000000000000000) : npoint_areSmall k b [x, y] = some (inR (-b) b x && inR (-b) b y) := by
  rw [areSmall_any k b [x, y] hb (by simp; omega) (by simp)]; simp
/-- rounded down. -/
theorem tdiv_floor {n d : Int} (hd : 0 < d) : (if n.tmod d < 0 then n.tdiv d - 1 else n.tdiv d) = n / d := by
  have h := Int.mul_tdiv_add_tmod n d
  have h1 : n.tmod d < d := Int.tmod_lt_of_pos n hd
  have h2 : -d < n.tmod d := by
    have := Int.lt_tmod_of_pos n hd
    omega
  split
  · rename_i hn
    symm
    rw [Int.ediv_eq_iff_of_pos hd]
    constructor <;> (rw [Int.sub_mul, Int.mul_comm] ; omega)
  · symm
    rw [Int.ediv_eq_iff_of_pos hd]
    constructor <;> (rw [Int.mul_comm]; omega)
theorem down_any (k : Nat) {n d : Int} (hn : -1000000000000000000 ≤ n ∧ n ≤ 1000000000000000000) (hd : 0 < d) : npoint_down k n d = some (n / d) := by
  unfold npoint_down
  have hq : -1000000000000000000 ≤ n.tdiv d ∧ n.tdiv d ≤ 1000000000000000000 := by
    have := Int.natAbs_tdiv_le_natAbs n d
    omega
  rw [if_pos (by omega), w64_id (n := n.tdiv d) (by omega) (by omega), w64_id (n := n.tdiv d - 1) (by omega) (by omega), ← tdiv_floor hd]
  split <;> rfl
/-- a table. -/
def rowOK (r : SSkyRow) : Bool := inR (-1000000) 1000000 r.At && inR (-1000000) 1000000 r.Value
def late (p : Option Int) (n : Int) : Bool := match p with
  | some m => decide (n ≤ m)
  | none => false
def chk : Option Int → List SSkyRow → Int
  | _, [] => 0
  | p, r :: l => match rowOK r with
    | true => match late p r.At with
      | true => 9
      | false => chk (some r.At) l
    | false => 2
def tabE (l : List SSkyRow) : Int := match inR 1 40 l.length with
  | true => chk none l
  | false => 10
def bef (l : List SSkyRow) (i : Nat) : Option Int := if i = 0 then none else some (l.getD (i - 1) default).At
theorem bef_succ (l : List SSkyRow) (i : Nat) : bef l (i + 1) = some (l.getD i default).At := by
  unfold bef; rw [if_neg (by omega)]; rfl
theorem late_bef (l : List SSkyRow) (i : Nat) (n : Int) : late (bef l i) n = (decide (0 < i) && decide (n ≤ (l.getD (i - 1) default).At)) := by
  unfold bef
  by_cases h : i = 0
  · subst h; rfl
  · rw [if_neg h]
    show decide _ = _
    simp [show 0 < i by omega]
theorem table_l (k : Nat) (hk : 100 < k) (hk2 : k ≤ 100000000000000000000) (l : List SSkyRow) (hl : l.length < 1000000000) : ∀ (d fuel i : Nat), l.length = i + d → d < fuel →
    npoint_CheckTable_l0_0 k l fuel (i : Int) = some (sumE (chk (bef l i) (l.drop i))) := by
  intro d
  induction d with
  | zero =>
    intro fuel i h hf
    obtain ⟨g, rfl⟩ : ∃ g, fuel = g + 1 := ⟨fuel - 1, by omega⟩
    rw [npoint_CheckTable_l0_0.eq_2, if_neg (by omega), List.drop_eq_nil_of_le (by omega)]; rfl
  | succ d ih =>
    intro fuel i h hf
    obtain ⟨g, rfl⟩ : ∃ g, fuel = g + 1 := ⟨fuel - 1, by omega⟩
    rw [npoint_CheckTable_l0_0.eq_2, if_pos (by omega), if_pos (by omega), areSmall_2 k _ _ _ (by decide) hk hk2, Option.bind_some, w64_succ (by omega), ih g (i + 1) (by omega) (by omega), drop_get (y := l) (i := i) (by omega) default, bef_succ]
    simp only [Int.toNat_natCast, chk, late_bef]
    rw [show (inR (-1000000) 1000000 (l.getD i default).At && inR (-1000000) 1000000 (l.getD i default).Value) = rowOK (l.getD i default) from rfl]
    cases rowOK (l.getD i default) with
    | false => rfl
    | true =>
      rw [if_pos rfl]
      by_cases h0 : 0 < i
      · rw [if_pos (by omega), w64_id (by omega) (by omega), if_pos (by omega), show ((i : Int) - 1).toNat = i - 1 by omega]
        by_cases h1 : (l.getD i default).At ≤ (l.getD (i - 1) default).At
        · rw [if_pos h1, decide_eq_true h0, decide_eq_true h1]; rfl
        · rw [if_neg h1, decide_eq_true h0, decide_eq_false h1]; rfl
      · rw [if_neg (by omega), decide_eq_false h0]; rfl
theorem table_point (k : Nat) (hk : 100 < k) (hk2 : k ≤ 100000000000000000000) (l : List SSkyRow) (hl : l.length < k) : npoint_CheckTable k l = some (tabE l) := by
  unfold npoint_CheckTable tabE
  rw [areWithin_1 k _ _ _ hk hk2, Option.bind_some]
  cases hin : inR 1 40 (l.length : Int) with
  | false => rfl
  | true =>
    have hin := inR_t.1 hin
    rw [if_pos rfl, show npoint_CheckTable_l0_0 k l k 0 = _ from table_l k hk hk2 l (by omega) l.length k 0 (by omega) hl, Option.bind_some]
    show (match sumE (chk none l) with | .inl r => some r | .inr _ => some 0) = some (chk none l)
    unfold sumE
    by_cases h : chk none l = 0
    · rw [if_pos h, h]
    · rw [if_neg h]
/-- a right table: what is known of it. -/
structure Tab (l : List SSkyRow) : Prop where
  pos : 0 < l.length
  le : l.length ≤ 40
  row : ∀ i, i < l.length → -1000000 ≤ (l.getD i default).At ∧ (l.getD i default).At ≤ 1000000 ∧ -1000000 ≤ (l.getD i default).Value ∧ (l.getD i default).Value ≤ 1000000
  inc : ∀ i, i + 1 < l.length → (l.getD i default).At < (l.getD (i + 1) default).At
theorem chk_zero : ∀ (l : List SSkyRow) (p : Option Int), chk p l = 0 → (∀ i, i < l.length → rowOK (l.getD i default) = true) ∧ (∀ i, i + 1 < l.length → (l.getD i default).At < (l.getD (i + 1) default).At) ∧ (0 < l.length → late p (l.getD 0 default).At = false)
  | [], p, h => ⟨fun i hi => by simp at hi, fun i hi => by simp at hi, fun hi => by simp at hi⟩
  | r :: l, p, h => by
    simp only [chk] at h
    cases h1 : rowOK r with
    | false => rw [h1] at h; cases h
    | true =>
      rw [h1] at h
      cases h2 : late p r.At with
      | true => rw [h2] at h; cases h
      | false =>
        rw [h2] at h
        obtain ⟨g1, g2, g3⟩ := chk_zero l (some r.At) h
        refine ⟨fun i hi => ?_, fun i hi => ?_, fun _ => h2⟩
        · cases i with
          | zero => exact h1
          | succ i => exact g1 i (by simpa using hi)
        · cases i with
          | zero =>
            have := g3 (by simp at hi; omega)
            simp only [late, decide_eq_false_iff_not] at this
            show r.At < (l.getD 0 default).At
            omega
          | succ i => exact g2 i (by simp at hi; omega)
theorem Tab.of {l : List SSkyRow} (h : tabE l = 0) : Tab l := by
  unfold tabE at h
  cases h1 : inR 1 40 (l.length : Int) with
  | false => rw [h1] at h; cases h
  | true =>
    rw [h1] at h
    have h1 := inR_t.1 h1
    obtain ⟨g1, g2, _⟩ := chk_zero l none h
    refine ⟨by omega, by omega, fun i hi => ?_, g2⟩
    have := g1 i hi
    simp only [rowOK, Bool.and_eq_true, inR_t] at this
    omega
/-- between two rows. -/
def mid (a b : SSkyRow) (t : Int) : Int := a.Value + ((b.Value - a.Value) * (t - a.At)) / (b.At - a.At)
def vrec (a : SSkyRow) (t : Int) : List SSkyRow → Int
  | [] => a.Value
  | b :: l => if t < b.At then mid a b t else vrec b t l
/-- the value of a table. -/
def val (l : List SSkyRow) (t : Int) : Int := if t < (l.getD 0 default).At then (l.getD 0 default).Value else vrec (l.getD 0 default) t (l.drop 1)
theorem prod_bd {x y A B : Int} (h1 : -A ≤ x ∧ x ≤ A) (h2 : -B ≤ y ∧ y ≤ B) (hA : 0 ≤ A) (hB : 0 ≤ B) : -(A * B) ≤ x * y ∧ x * y ≤ A * B := by
  have h : (x * y).natAbs ≤ (A * B).natAbs := by
    rw [Int.natAbs_mul, Int.natAbs_mul]
    exact Nat.mul_le_mul (by omega) (by omega)
  have := Int.mul_nonneg hA hB
  omega
theorem div_bd {p d A : Int} (hp : -A ≤ p ∧ p ≤ A) (hd : 0 < d) : -A ≤ p / d ∧ p / d ≤ A := by
  have e := Int.mul_ediv_add_emod p d
  have e1 := Int.emod_nonneg p (show d ≠ 0 by omega)
  have e2 := Int.emod_lt_of_pos p hd
  generalize p / d = q at e
  constructor
  · rcases Int.lt_or_le q (-A) with hc | hc
    · have h1 : d * q ≤ d * (-A - 1) := Int.mul_le_mul_of_nonneg_left (by omega) (by omega)
      have h2 : d * (-A - 1) = d * (-A) - d := by rw [Int.mul_sub, Int.mul_one]
      have h3 : d * (-A) ≤ 1 * (-A) := Int.mul_le_mul_of_nonpos_right (by omega) (by omega)
      omega
    · exact hc
  · rcases Int.lt_or_le A q with hc | hc
    · have : 1 * q ≤ d * q := Int.mul_le_mul_of_nonneg_right (by omega) (by omega)
      omega
    · exact hc
theorem mid_any (k : Nat) {a b : SSkyRow} {t : Int} (ha : -1000000 ≤ a.At ∧ a.At ≤ 1000000 ∧ -1000000 ≤ a.Value ∧ a.Value ≤ 1000000) (hb : -1000000 ≤ b.At ∧ b.At ≤ 1000000 ∧ -1000000 ≤ b.Value ∧ b.Value ≤ 1000000) (hab : a.At < b.At) (ht : -1000000 ≤ t ∧ t ≤ 1000000) :
    npoint_down k (w64 ((w64 (b.Value - a.Value)) * (w64 (t - a.At)))) (w64 (b.At - a.At)) = some (((b.Value - a.Value) * (t - a.At)) / (b.At - a.At)) ∧ w64 (a.Value + ((b.Value - a.Value) * (t - a.At)) / (b.At - a.At)) = mid a b t := by
  have hp := prod_bd (x := b.Value - a.Value) (y := t - a.At) (A := 2000000) (B := 2000000) (by omega) (by omega) (by decide) (by decide)
  have hq := div_bd (d := b.At - a.At) hp (by omega)
  rw [w64_id (n := b.Value - a.Value) (by omega) (by omega), w64_id (n := t - a.At) (by omega) (by omega), w64_id (n := b.At - a.At) (by omega) (by omega)]
  exact ⟨by rw [w64_id (by omega) (by omega), down_any k (by omega) (by omega)], w64_id (by omega) (by omega)⟩
/-- the first row behind a place. -/
def fst (t : Int) : Nat → List SSkyRow → Option Nat
  | _, [] => none
  | i, r :: l => if t < r.At then some i else fst t (i + 1) l
theorem index_l (k : Nat) (l : List SSkyRow) (t : Int) (hl : l.length < 1000000000) : ∀ (d fuel i : Nat), l.length = i + d → d < fuel →
    nslices_IndexFunc_api_SkyRow_api_SkyRow__c1_point_valueAt_1_l0_0 k l t fuel (i : Int) = some (match fst t i (l.drop i) with | some j => .inl (j : Int) | none => .inr ()) := by
  intro d
  induction d with
  | zero =>
    intro fuel i h hf
    obtain ⟨g, rfl⟩ : ∃ g, fuel = g + 1 := ⟨fuel - 1, by omega⟩
    rw [nslices_IndexFunc_api_SkyRow_api_SkyRow__c1_point_valueAt_1_l0_0.eq_2, if_neg (by omega), List.drop_eq_nil_of_le (by omega)]; rfl
  | succ d ih =>
    intro fuel i h hf
    obtain ⟨g, rfl⟩ : ∃ g, fuel = g + 1 := ⟨fuel - 1, by omega⟩
    rw [nslices_IndexFunc_api_SkyRow_api_SkyRow__c1_point_valueAt_1_l0_0.eq_2, if_pos (by omega), if_pos (by omega), w64_succ (by omega), ih g (i + 1) (by omega) (by omega), drop_get (y := l) (i := i) (by omega) default]
    simp only [Int.toNat_natCast, fst]
    show ((some (decide (t < (l.getD i default).At))).bind _) = _
    rw [Option.bind_some]
    by_cases h1 : t < (l.getD i default).At
    · rw [if_pos (by simpa using h1), if_pos h1]
    · rw [if_neg (by simpa using h1), if_neg h1]
def idxv : Option Nat → Int
  | some j => (j : Int)
  | none => -1
theorem idxv_some (j : Nat) : idxv (some j) = (j : Int) := rfl
theorem idxv_none : idxv none = -1 := rfl
theorem index_any (k : Nat) (l : List SSkyRow) (t : Int) (hl : l.length < 1000000000) (hk : l.length < k) : nslices_IndexFunc_api_SkyRow_api_SkyRow__c1_point_valueAt_1 k l t = some (idxv (fst t 0 l)) := by
  unfold nslices_IndexFunc_api_SkyRow_api_SkyRow__c1_point_valueAt_1
  rw [show nslices_IndexFunc_api_SkyRow_api_SkyRow__c1_point_valueAt_1_l0_0 k l t k 0 = _ from index_l k l t hl l.length k 0 (by omega) hk, Option.bind_some, List.drop_zero]
  cases fst t 0 l <;> rfl
/-- where the first row behind a place stands, and what is before it. -/
theorem fst_some : ∀ (t : Int) (l : List SSkyRow) (i j : Nat), fst t i l = some j → i ≤ j ∧ j - i < l.length ∧ t < (l.getD (j - i) default).At ∧ ∀ m, m < j - i → (l.getD m default).At ≤ t
  | t, [], i, j, h => by cases h
  | t, r :: l, i, j, h => by
    simp only [fst] at h
    split at h
    · injection h with h; subst h
      refine ⟨Nat.le_refl _, by simp, by simpa using ‹t < r.At›, fun m hm => by omega⟩
    · rename_i hn
      obtain ⟨g1, g2, g3, g4⟩ := fst_some t l (i + 1) j h
      refine ⟨by omega, by simp only [List.length_cons]; omega, ?_, fun m hm => ?_⟩
      · rw [show j - i = (j - (i + 1)) + 1 by omega]; exact g3
      · cases m with
        | zero => show r.At ≤ t; omega
        | succ m => exact g4 m (by omega)
theorem fst_none : ∀ (t : Int) (l : List SSkyRow) (i : Nat), fst t i l = none → ∀ m, m < l.length → (l.getD m default).At ≤ t
  | t, [], i, h, m, hm => by simp at hm
  | t, r :: l, i, h, m, hm => by
    simp only [fst] at h
    split at h
    · cases h
    · cases m with
      | zero => show r.At ≤ t; omega
      | succ m => exact fst_none t l (i + 1) h m (by simpa using hm)
/-- the value by the row before. -/
theorem vrec_at : ∀ (l : List SSkyRow) (a : SSkyRow) (t : Int) (j : Nat), j < l.length → t < (l.getD j default).At → (∀ m, m < j → (l.getD m default).At ≤ t) → vrec a t l = mid ((a :: l).getD j default) (l.getD j default) t
  | [], a, t, j, h, _, _ => by simp at h
  | b :: l, a, t, j, h, h1, h2 => by
    cases j with
    | zero =>
      have h1 : t < b.At := h1
      simp only [vrec]; rw [if_pos h1]; rfl
    | succ j =>
      have := h2 0 (by omega)
      have : b.At ≤ t := this
      simp only [vrec]
      rw [if_neg (by omega), vrec_at l b t j (by simpa using h) h1 (fun m hm => h2 (m + 1) (by omega))]
      rfl
theorem vrec_end : ∀ (l : List SSkyRow) (a : SSkyRow) (t : Int), (∀ m, m < l.length → (l.getD m default).At ≤ t) → vrec a t l = ((a :: l).getD l.length default).Value
  | [], a, t, _ => rfl
  | b :: l, a, t, h => by
    have : b.At ≤ t := h 0 (by simp)
    simp only [vrec]
    rw [if_neg (by omega), vrec_end l b t (fun m hm => h (m + 1) (by simpa using hm))]
    rfl
theorem getD_tail {l : List SSkyRow} {i : Nat} : (l.drop 1).getD i default = l.getD (i + 1) default := by
  rw [List.getD_eq_getElem?_getD, List.getD_eq_getElem?_getD, List.getElem?_drop, Nat.add_comm]
theorem head_tail {l : List SSkyRow} (h : 0 < l.length) : l.getD 0 default :: l.drop 1 = l := by
  cases l with
  | nil => simp at h
  | cons a l => rfl
theorem value_point (k : Nat) (hk : 100 < k) {l : List SSkyRow} (h : Tab l) {t : Int} (ht : -1000000 ≤ t ∧ t ≤ 1000000) : npoint_valueAt k l t = some (val l t) := by
  unfold npoint_valueAt val
  have hle := h.le
  have hpos := h.pos
  rw [index_any k l t (by omega) (by omega), Option.bind_some]
  cases hf : fst t 0 l with
  | none =>
    have hn := fst_none t l 0 hf
    have h0 := hn 0 hpos
    rw [idxv_none, if_pos rfl, w64_id (by omega) (by omega), if_pos (by omega), if_neg (by omega), vrec_end _ _ _ (fun m hm => by rw [getD_tail]; exact hn (m + 1) (by simp at hm; omega)), head_tail hpos, List.length_drop, show ((l.length : Int) - 1).toNat = l.length - 1 by omega]
  | some j =>
    obtain ⟨_, g2, g3, g4⟩ := fst_some t l 0 j hf
    rw [Nat.sub_zero] at g2 g3 g4
    rw [idxv_some, if_neg (show ¬(j : Int) = -1 by omega)]
    cases j with
    | zero =>
      rw [if_pos (show ((0 : Nat) : Int) = 0 from rfl), if_pos (by omega), if_pos g3]; rfl
    | succ j =>
      have h0 := g4 0 (by omega)
      have e1 : ((j + 1 : Nat) : Int) = (j : Int) + 1 := by omega
      rw [e1, if_neg (show ¬(j : Int) + 1 = 0 by omega), w64_id (n := (j : Int) + 1 - 1) (by omega) (by omega), if_pos (show 0 ≤ (j : Int) + 1 - 1 ∧ (j : Int) + 1 - 1 < (l.length : Int) by omega), if_pos (show 0 ≤ (j : Int) + 1 ∧ (j : Int) + 1 < (l.length : Int) by omega), show ((j : Int) + 1 - 1).toNat = j by omega, show ((j : Int) + 1).toNat = j + 1 by omega]
      obtain ⟨m1, m2⟩ := mid_any k (h.row j (by omega)) (h.row (j + 1) g2) (h.inc j g2) ht
      rw [m1, Option.bind_some, m2, if_neg (show ¬t < (l.getD 0 default).At by omega), vrec_at _ _ _ j (by simp; omega) (by rw [getD_tail]; exact g3) (fun m hm => by rw [getD_tail]; exact g4 (m + 1) (by omega)), head_tail hpos, getD_tail]
theorem tableAt_point (k : Nat) (hk : 100 < k) (hk2 : k ≤ 100000000000000000000) (l : List SSkyRow) (hl : l.length < k) (t : Int) : npoint_TableAt k l t = some (if tabE l = 0 then (if inR (-1000000) 1000000 t = true then (val l t, 0) else (0, 2)) else (0, tabE l)) := by
  unfold npoint_TableAt
  rw [table_point k hk hk2 l hl, Option.bind_some]
  by_cases h : tabE l = 0
  · rw [if_pos h, if_pos h, areSmall_1 k _ _ (by decide) hk hk2, Option.bind_some]
    cases h1 : inR (-1000000) 1000000 t with
    | false => rfl
    | true => rw [if_pos rfl, if_pos rfl, value_point k hk (Tab.of h) (inR_t.1 h1), Option.bind_some]
  · rw [if_neg h, if_neg h]
def rowsB (l : List SSkyRow) : Bool := decide (l.length ≤ 6 ∨ 40 < l.length ∧ l.length ≤ 43)
theorem rows_any (k : Nat) (l : List SSkyRow) : nspeculumlaw09_rows k l = some (rowsB l) := by
  unfold nspeculumlaw09_rows rowsB
  by_cases h : (l.length : Int) ≤ 6
  · rw [if_pos h, decide_eq_true (by omega)]
  · rw [if_neg h]
    by_cases h2 : 40 < (l.length : Int)
    · rw [if_pos h2]; congr 1; rw [decide_eq_decide]; omega
    · rw [if_neg h2, decide_eq_false (by omega)]
/-- a part of a difference. -/
theorem part_bd {v t d : Int} (ht : 0 ≤ t) (htd : t ≤ d) (hd : 0 < d) : (0 ≤ v → 0 ≤ v * t / d ∧ v * t / d ≤ v) ∧ (v ≤ 0 → v ≤ v * t / d ∧ v * t / d ≤ 0) := by
  constructor
  · intro hv
    refine ⟨Int.ediv_nonneg (Int.mul_nonneg hv ht) (by omega), ?_⟩
    have h1 : v * t ≤ v * d := Int.mul_le_mul_of_nonneg_left htd hv
    have := Int.ediv_le_ediv hd h1
    rwa [Int.mul_ediv_cancel _ (by omega)] at this
  · intro hv
    constructor
    · have h1 : v * d ≤ v * t := Int.mul_le_mul_of_nonpos_left hv htd
      have := Int.ediv_le_ediv hd h1
      rwa [Int.mul_ediv_cancel _ (by omega)] at this
    · have h1 : v * t ≤ 0 := Int.mul_nonpos_of_nonpos_of_nonneg hv ht
      have := Int.ediv_le_ediv hd h1
      simpa using this
theorem vrec_in (L H : Int) (t : Int) : ∀ (l : List SSkyRow) (a : SSkyRow), a.At ≤ t → (∀ r ∈ a :: l, L ≤ r.Value ∧ r.Value ≤ H) → L ≤ vrec a t l ∧ vrec a t l ≤ H
  | [], a, _, h => h a (by simp)
  | b :: l, a, ha, h => by
    simp only [vrec]
    by_cases c : t < b.At
    · rw [if_pos c]
      have h1 := h a (by simp)
      have h2 := h b (by simp)
      obtain ⟨p1, p2⟩ := part_bd (v := b.Value - a.Value) (t := t - a.At) (d := b.At - a.At) (by omega) (by omega) (by omega)
      unfold mid
      rcases Int.le_total 0 (b.Value - a.Value) with e | e
      · have := p1 e; omega
      · have := p2 e; omega
    · rw [if_neg c]
      exact vrec_in L H t l b (by omega) (fun r hr => h r (List.mem_cons_of_mem _ hr))
theorem val_bd {l : List SSkyRow} (h : Tab l) (t : Int) : -1000000 ≤ val l t ∧ val l t ≤ 1000000 := by
  have hpos := h.pos
  unfold val
  by_cases c : t < (l.getD 0 default).At
  · rw [if_pos c]
    have := h.row 0 hpos; omega
  · rw [if_neg c]
    refine vrec_in _ _ t (l.drop 1) _ (by omega) (fun r hr => ?_)
    rw [head_tail hpos] at hr
    obtain ⟨i, hi, rfl⟩ := List.mem_iff_getElem.1 hr
    have := h.row i hi
    rw [List.getD_eq_getElem?_getD, List.getElem?_eq_getElem hi] at this
    exact this.2.2
end Go.Proofs.Ytgacnndakgpaeaa.Vg
