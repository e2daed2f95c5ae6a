/- Tables of reflectances: what both sides check, and the value at a wavelength. -/
import Derived.Test.YtpnlkhmnhjcgkaaU1
set_option linter.unusedVariables false
set_option linter.unusedSimpArgs false
namespace Go.Proofs.Ytpnlkhmnhjcgkaa.Vg
open Go Go.Proofs.Ytpnlkhmnhjcgkaa.Ev Go.Proofs.Ytpnlkhmnhjcgkaa.Vv
theorem w64_id {n : Int} (h1 : -9223372036854775808 ≤ n) (h2 : n ≤ 9223372036854775807) : w64 n = n := by
  unfold w64 IntKind.wrap
  simp [IntKind.signed, IntKind.bits]
  omega
theorem w64_succ {i : Nat} (h : i < 1000000000000) : w64 ((i : Int) + 1) = ((i + 1 : Nat) : Int) := by
  rw [w64_id (by omega) (by omega)]; omega
theorem drop_get {α : Type} {y : List α} {i : Nat} (h : i < y.length) (d : α) : y.drop i = y.getD i d :: y.drop (i + 1) := by
  rw [List.drop_eq_getElem_cons h, List.getD_eq_getElem?_getD, List.getElem?_eq_getElem h]; rfl
def sumB (b : Bool) : Sum Unit Unit := match b with | true => .inr () | false => .inl ()
def inR (a b n : Int) : Bool := decide (a ≤ n ∧ n ≤ b)
theorem inR_t {a b n : Int} : inR a b n = true ↔ a ≤ n ∧ n ≤ b := by unfold inR; exact decide_eq_true_iff
theorem inR_f {a b n : Int} : inR a b n = false ↔ ¬(a ≤ n ∧ n ≤ b) := by unfold inR; exact decide_eq_false_iff_not
theorem within_base (k : Nat) (a b c : Int) : nspeculumbase_Within k a b c = some (inR b c a) := by
  unfold nspeculumbase_Within inR
  by_cases h : b ≤ a
  · rw [if_pos h]; simp [h]
  · rw [if_neg h]; simp [h]
theorem areWithin_l (k : Nat) (a b : Int) (xs : List Int) (hl : xs.length < 1000000000000) : ∀ (d fuel i : Nat), xs.length = i + d → d < fuel →
    ncoat_areWithin_l0_0 k a b xs fuel (i : Int) = some (sumB ((xs.drop i).all (inR a b))) := by
  intro d
  induction d with
  | zero =>
    intro fuel i h hf
    obtain ⟨g, rfl⟩ : ∃ g, fuel = g + 1 := ⟨fuel - 1, by omega⟩
    rw [ncoat_areWithin_l0_0.eq_2, if_neg (by omega), List.drop_eq_nil_of_le (by omega)]; rfl
  | succ d ih =>
    intro fuel i h hf
    obtain ⟨g, rfl⟩ : ∃ g, fuel = g + 1 := ⟨fuel - 1, by omega⟩
    rw [ncoat_areWithin_l0_0.eq_2, if_pos (by omega), if_pos (by omega), w64_succ (by omega), ih g (i + 1) (by omega) (by omega), drop_get (y := xs) (i := i) (by omega) 0]
    simp only [Int.toNat_natCast, List.all_cons]
    by_cases h1 : xs.getD i 0 < a
    · rw [if_pos h1, show inR a b (xs.getD i 0) = false from inR_f.2 (by omega)]; rfl
    · rw [if_neg h1]
      by_cases h2 : b < xs.getD i 0
      · rw [if_pos h2, show inR a b (xs.getD i 0) = false from inR_f.2 (by omega)]; rfl
      · rw [if_neg h2, show inR a b (xs.getD i 0) = true from inR_t.2 (by omega)]; rfl
theorem areWithin_any (k : Nat) (a b : Int) (xs : List Int) (hl : xs.length < k) (hk : k ≤ 1000000000) : ncoat_areWithin k a b xs = some (xs.all (inR a b)) := by
  unfold ncoat_areWithin
  rw [show ncoat_areWithin_l0_0 k a b xs k 0 = _ from areWithin_l k a b xs (by omega) xs.length k 0 (by omega) hl]
  simp only [List.drop_zero]
  cases xs.all (inR a b) <;> rfl
theorem areWithin_1 (k : Nat) (a b x : Int) (hk : 1 < k) (hk2 : k ≤ 1000000000) : ncoat_areWithin k a b [x] = some (inR a b x) := by
  rw [areWithin_any k a b [x] (by simpa using hk) hk2]; simp
theorem tdiv_pos {n d : Int} (hn : 0 ≤ n) : n.tdiv d = n / d := Int.tdiv_eq_ediv_of_nonneg hn
theorem div_le {n d : Int} (hn : 0 ≤ n) (hd : 0 < d) : 0 ≤ n / d ∧ n / d ≤ n := by
  refine ⟨Int.ediv_nonneg hn (by omega), ?_⟩
  exact Int.ediv_le_self d hn
/-- rounded up. -/
def cdiv (n d : Int) : Int := (n + d - 1) / d
theorem cdiv_eq {n d : Int} (hd : 0 < d) : cdiv n d = if n % d = 0 then n / d else n / d + 1 := by
  unfold cdiv
  have h := Int.emod_add_mul_ediv n d
  have h0 := Int.emod_nonneg n (show d ≠ 0 by omega)
  have h1 := Int.emod_lt_of_pos n hd
  by_cases e : n % d = 0
  · rw [if_pos e]
    rw [show n + d - 1 = (d - 1) + d * (n / d) by omega, Int.add_mul_ediv_left _ _ (by omega), Int.ediv_eq_zero_of_lt (by omega) (by omega)]; omega
  · rw [if_neg e]
    have : d * (n / d + 1) = d * (n / d) + d := by rw [Int.mul_add, Int.mul_one]
    rw [show n + d - 1 = (n % d - 1) + d * (n / d + 1) by omega, Int.add_mul_ediv_left _ _ (by omega), Int.ediv_eq_zero_of_lt (by omega) (by omega)]; omega
theorem floor_any (k : Nat) {n d : Int} (hn : 0 ≤ n) (hn2 : n ≤ 1000000000000000000) (hd : 0 < d) : nspeculumbase_Floor k n d = some (n / d) := by
  unfold nspeculumbase_Floor
  have := div_le hn hd
  rw [if_pos (by omega), if_neg (by have := Int.tmod_nonneg d hn; omega), tdiv_pos hn, w64_id (by omega) (by omega)]
theorem ceil_any (k : Nat) {n d : Int} (hn : 0 ≤ n) (hn2 : n ≤ 1000000000000000000) (hd : 0 < d) : nspeculumbase_Ceil k n d = some (cdiv n d) := by
  unfold nspeculumbase_Ceil nspeculumbase_Floor
  have h3 := div_le hn hd
  have h0 := Int.emod_nonneg n (show d ≠ 0 by omega)
  rw [cdiv_eq hd, w64_id (n := 0 - n) (by omega) (by omega), if_pos (by omega), show (0 - n) = -n by omega, Int.neg_tmod, Int.neg_tdiv, tdiv_pos hn, Int.tmod_eq_emod_of_nonneg hn, w64_id (n := -(n / d)) (by omega) (by omega)]
  by_cases e : n % d = 0
  · rw [if_neg (by omega), if_pos e, Option.bind_some, w64_id (by omega) (by omega)]; congr 1; omega
  · rw [if_pos (by omega), if_neg e, w64_id (n := -(n / d) - 1) (by omega) (by omega), Option.bind_some, w64_id (by omega) (by omega)]; congr 1; omega
theorem up_any (k : Nat) {n d : Int} (hn : 0 ≤ n) (hn2 : n ≤ 1000000000000000000) (hd : 0 < d) (hd2 : d ≤ 1000000000000000000) : ncoat_up k n d = some (cdiv n d) := by
  unfold ncoat_up cdiv
  have h3 := div_le (n := n + d - 1) (by omega) hd
  rw [if_pos (by omega), w64_id (n := n + d) (by omega) (by omega), w64_id (n := n + d - 1) (by omega) (by omega), tdiv_pos (by omega), w64_id (by omega) (by omega)]
theorem outward_any (k : Nat) {n m d : Int} (hn : 0 ≤ n) (hn2 : n ≤ 1000000000000000000) (hm : 0 ≤ m) (hm2 : m ≤ 1000000000000000000) (hd : 0 < d) (hd2 : d ≤ 1000000000000000000) : ncoat_outward k n m d = some ⟨n / d, cdiv m d⟩ := by
  unfold ncoat_outward
  have h3 := div_le hn hd
  rw [if_pos (by omega), up_any k hm hm2 hd hd2, Option.bind_some, tdiv_pos hn, w64_id (by omega) (by omega)]
theorem mb {a b A B : Int} (h1 : 0 ≤ a) (h2 : a ≤ A) (h3 : 0 ≤ b) (h4 : b ≤ B) : 0 ≤ a * b ∧ a * b ≤ A * B := ⟨Int.mul_nonneg h1 h3, Int.mul_le_mul h2 h4 h3 (by omega)⟩
abbrev wv (l : List SReflect) (i : Nat) : Int := (l.getD i default).Wave
abbrev sh (l : List SReflect) (i : Nat) : SRange := (l.getD i default).Share
def ptok (x : SReflect) : Bool := decide (1 ≤ x.Wave ∧ x.Wave ≤ 100000 ∧ 0 ≤ x.Share.Lo ∧ x.Share.Lo ≤ x.Share.Hi ∧ x.Share.Hi ≤ 1000)
theorem ptok_t {x : SReflect} : ptok x = true ↔ (1 ≤ x.Wave ∧ x.Wave ≤ 100000 ∧ 0 ≤ x.Share.Lo ∧ x.Share.Lo ≤ x.Share.Hi ∧ x.Share.Hi ≤ 1000) := by unfold ptok; exact decide_eq_true_iff
def cvL (l : List SReflect) : Nat → Nat → Sum Int Unit
  | 0, _ => .inr ()
  | d + 1, i => match ptok (l.getD i default) with
    | true => if 0 < i ∧ wv l i ≤ wv l (i - 1) then .inl 9 else cvL l d (i + 1)
    | false => .inl 2
theorem cvL_succ (l : List SReflect) (d i : Nat) : cvL l (d + 1) i = match ptok (l.getD i default) with
    | true => if 0 < i ∧ wv l i ≤ wv l (i - 1) then .inl 9 else cvL l (d) (i + 1)
    | false => .inl 2 := rfl
theorem w64_pred {i : Nat} (h0 : 0 < i) (h : i < 1000000000000) : w64 ((i : Int) - 1) = ((i - 1 : Nat) : Int) := by
  rw [w64_id (by omega) (by omega)]; omega
theorem cv_coat (k : Nat) (hk : 1 < k) (hk2 : k ≤ 1000000000) (l : List SReflect) (hl : l.length < 1000000000) : ∀ (d fuel i : Nat), l.length = i + d → d < fuel →
    ncoat_CheckCurve_l0_0 k l fuel (i : Int) = some (cvL l d i) := by
  intro d
  induction d with
  | zero =>
    intro fuel i h hf
    obtain ⟨g, rfl⟩ : ∃ g, fuel = g + 1 := ⟨fuel - 1, by omega⟩
    rw [ncoat_CheckCurve_l0_0.eq_2, if_neg (by omega)]; rfl
  | succ d ih =>
    intro fuel i h hf
    obtain ⟨g, rfl⟩ : ∃ g, fuel = g + 1 := ⟨fuel - 1, by omega⟩
    rw [ncoat_CheckCurve_l0_0.eq_2, if_pos (by omega), if_pos (by omega), areWithin_1 k _ _ _ hk hk2, Option.bind_some, w64_succ (by omega), ih g (i + 1) (by omega) (by omega)]
    simp only [Int.toNat_natCast]
    rw [cvL_succ]
    unfold ncoat_isWithin
    cases hp : ptok (l.getD i default) with
    | true =>
      have hp := ptok_t.1 hp
      rw [if_pos (inR_t.2 ⟨hp.1, hp.2.1⟩), if_pos hp.2.2.1, if_pos hp.2.2.2.1, Option.bind_some, if_pos (decide_eq_true hp.2.2.2.2)]
      by_cases h0 : 0 < i
      · rw [if_pos (by omega), w64_pred h0 (by omega), if_pos (by omega)]
        simp only [Int.toNat_natCast]
        by_cases h1 : wv l i ≤ wv l (i - 1)
        · rw [if_pos h1, if_pos ⟨h0, h1⟩]
        · rw [if_neg h1, if_neg (fun h => h1 h.2)]
      · rw [if_neg (by omega), if_neg (fun h => h0 h.1)]
    | false =>
      have hp : ¬ _ := fun h => by rw [ptok_t.2 h] at hp; cases hp
      by_cases h1 : inR 1 100000 (l.getD i default).Wave = true
      · rw [if_pos h1]
        by_cases h2 : 0 ≤ (l.getD i default).Share.Lo
        · rw [if_pos h2]
          by_cases h3 : (l.getD i default).Share.Lo ≤ (l.getD i default).Share.Hi
          · rw [if_pos h3, Option.bind_some, if_neg]
            intro h4
            have h1 := inR_t.1 h1
            exact hp ⟨h1.1, h1.2, h2, h3, of_decide_eq_true h4⟩
          · rw [if_neg h3]; rfl
        · rw [if_neg h2]; rfl
      · rw [if_neg h1]
theorem cv_ref (k : Nat) (l : List SReflect) (hl : l.length < 1000000000) : ∀ (d fuel i : Nat), l.length = i + d → d < fuel →
    nspeculumref08_CheckCurve_l0_0 k l fuel (i : Int) = some (cvL l d i) := by
  intro d
  induction d with
  | zero =>
    intro fuel i h hf
    obtain ⟨g, rfl⟩ : ∃ g, fuel = g + 1 := ⟨fuel - 1, by omega⟩
    rw [nspeculumref08_CheckCurve_l0_0.eq_2, if_neg (by omega)]; rfl
  | succ d ih =>
    intro fuel i h hf
    obtain ⟨g, rfl⟩ : ∃ g, fuel = g + 1 := ⟨fuel - 1, by omega⟩
    rw [nspeculumref08_CheckCurve_l0_0.eq_2, if_pos (by omega), if_pos (by omega), within_base, Option.bind_some, within_base, w64_succ (by omega), ih g (i + 1) (by omega) (by omega)]
    simp only [Int.toNat_natCast, Option.bind_some]
    rw [cvL_succ]
    cases hp : ptok (l.getD i default) with
    | true =>
      have hp := ptok_t.1 hp
      rw [if_pos (inR_t.2 ⟨hp.1, hp.2.1⟩), if_pos (inR_t.2 ⟨hp.2.2.1, hp.2.2.2.1⟩), if_neg (by omega)]
      by_cases h0 : 0 < i
      · rw [if_pos (by omega), w64_pred h0 (by omega), if_pos (by omega)]
        simp only [Int.toNat_natCast]
        by_cases h1 : wv l i ≤ wv l (i - 1)
        · rw [if_pos h1, if_pos ⟨h0, h1⟩]
        · rw [if_neg h1, if_neg (fun h => h1 h.2)]
      · rw [if_neg (by omega), if_neg (fun h => h0 h.1)]
    | false =>
      have hp : ¬ _ := fun h => by rw [ptok_t.2 h] at hp; cases hp
      by_cases h1 : inR 1 100000 (l.getD i default).Wave = true
      · rw [if_pos h1]
        by_cases h2 : inR 0 (l.getD i default).Share.Hi (l.getD i default).Share.Lo = true
        · rw [if_pos h2, if_pos]
          have h1 := inR_t.1 h1
          have h2 := inR_t.1 h2
          refine Int.not_le.1 fun h4 => hp ⟨h1.1, h1.2, h2.1, h2.2, h4⟩
        · rw [if_neg h2]
      · rw [if_neg h1]
/-- the error of a table. -/
def cvE (l : List SReflect) : Int := match inR 2 60 (l.length : Int) with
  | true => match cvL l l.length 0 with
    | .inl e => e
    | .inr _ => 0
  | false => 10
theorem curve_coat (k : Nat) (hk : 100 < k) (hk2 : k ≤ 1000000000) (l : List SReflect) : ncoat_CheckCurve k l = some (cvE l) := by
  unfold ncoat_CheckCurve cvE
  rw [areWithin_1 k _ _ _ (by omega) hk2, Option.bind_some]
  cases h : inR 2 60 (l.length : Int) with
  | true =>
    have h := inR_t.1 h
    rw [if_pos rfl, show ncoat_CheckCurve_l0_0 k l k 0 = _ from cv_coat k (by omega) hk2 l (by omega) l.length k 0 (by omega) (by omega), Option.bind_some]
    cases cvL l l.length 0 <;> rfl
  | false => rfl
theorem curve_ref (k : Nat) (hk : 100 < k) (l : List SReflect) : nspeculumref08_CheckCurve k l = some (cvE l) := by
  unfold nspeculumref08_CheckCurve cvE
  rw [within_base, Option.bind_some]
  cases h : inR 2 60 (l.length : Int) with
  | true =>
    have h := inR_t.1 h
    rw [if_pos rfl, show nspeculumref08_CheckCurve_l0_0 k l k 0 = _ from cv_ref k l (by omega) l.length k 0 (by omega) (by omega), Option.bind_some]
    cases cvL l l.length 0 <;> rfl
  | false => rfl
theorem cvL_ok (l : List SReflect) : ∀ (d i : Nat), (∀ e, cvL l d i = .inl e → e ≠ 0) ∧ (cvL l d i = .inr () → ∀ j, i ≤ j → j < i + d → ptok (l.getD j default) = true ∧ (0 < j → wv l (j - 1) < wv l j))
  | 0, i => ⟨fun e h => (by cases h), fun _ j h1 h2 => by omega⟩
  | d + 1, i => by
    rw [cvL_succ]
    cases hp : ptok (l.getD i default) with
    | false => exact ⟨fun e h => by injection h with h; subst h; decide, fun h => (by cases h)⟩
    | true =>
      dsimp only
      by_cases h1 : 0 < i ∧ wv l i ≤ wv l (i - 1)
      · rw [if_pos h1]; exact ⟨fun e h => by injection h with h; subst h; decide, fun h => (by cases h)⟩
      · rw [if_neg h1]
        refine ⟨(cvL_ok l d (i + 1)).1, fun h j h2 h3 => ?_⟩
        by_cases e : j = i
        · subst e; exact ⟨hp, fun h0 => by rcases Int.lt_or_le (wv l (j - 1)) (wv l j) with h | h; exact h; exact absurd ⟨h0, h⟩ h1⟩
        · exact (cvL_ok l d (i + 1)).2 h j (by omega) (by omega)
/-- a right table. -/
structure Right (l : List SReflect) : Prop where
  lo : 2 ≤ l.length
  hi : l.length ≤ 60
  pt : ∀ j, j < l.length → 1 ≤ wv l j ∧ wv l j ≤ 100000 ∧ 0 ≤ (sh l j).Lo ∧ (sh l j).Lo ≤ (sh l j).Hi ∧ (sh l j).Hi ≤ 1000
  up : ∀ j, 0 < j → j < l.length → wv l (j - 1) < wv l j
theorem Right.of {l : List SReflect} (h : cvE l = 0) : Right l := by
  unfold cvE at h
  cases hb : inR 2 60 (l.length : Int) with
  | false => rw [hb] at h; dsimp only at h; exact absurd h (by decide)
  | true =>
    rw [hb] at h
    have hb := inR_t.1 hb
    dsimp only at h
    have hk := cvL_ok l l.length 0
    cases hc : cvL l l.length 0 with
    | inl e => rw [hc] at h; exact absurd h (hk.1 e hc)
    | inr u =>
      have hk := hk.2 hc
      exact ⟨by omega, by omega, fun j hj => ptok_t.1 (hk j (by omega) (by omega)).1, fun j h0 hj => (hk j (by omega) (by omega)).2 h0⟩
theorem Right.le {l : List SReflect} (R : Right l) : ∀ (d j : Nat), j + d < l.length → wv l j ≤ wv l (j + d)
  | 0, j, h => Int.le_refl _
  | d + 1, j, h => by
    have h1 := R.le d j (by omega)
    have h2 := R.up (j + d + 1) (by omega) (by omega)
    rw [show j + d + 1 - 1 = j + d by omega] at h2
    show wv l j ≤ wv l (j + d + 1)
    omega
/-- the first point not before a wavelength. -/
def fiL (l : List SReflect) (w : Int) : Nat → Nat → Nat
  | 0, i => i
  | d + 1, i => if w ≤ wv l i then i else fiL l w d (i + 1)
theorem fi_coat (k : Nat) (l : List SReflect) (hl : l.length < 1000000000) (w : Int) : ∀ (d fuel i : Nat), l.length = i + d → d < fuel →
    nslices_IndexFunc_api_Reflect_api_Reflect__c1_116_l0_0 k l w fuel (i : Int) = some (if fiL l w d i < l.length then .inl (fiL l w d i : Int) else .inr ()) := by
  intro d
  induction d with
  | zero =>
    intro fuel i h hf
    obtain ⟨g, rfl⟩ : ∃ g, fuel = g + 1 := ⟨fuel - 1, by omega⟩
    rw [nslices_IndexFunc_api_Reflect_api_Reflect__c1_116_l0_0.eq_2, if_neg (by omega)]
    unfold fiL
    rw [if_neg (by omega)]
  | succ d ih =>
    intro fuel i h hf
    obtain ⟨g, rfl⟩ : ∃ g, fuel = g + 1 := ⟨fuel - 1, by omega⟩
    rw [nslices_IndexFunc_api_Reflect_api_Reflect__c1_116_l0_0.eq_2, if_pos (by omega), if_pos (by omega), w64_succ (by omega), ih g (i + 1) (by omega) (by omega)]
    unfold ncoat_at_1
    rw [Option.bind_some]
    simp only [Int.toNat_natCast]
    rw [show fiL l w (d + 1) i = if w ≤ wv l i then i else fiL l w d (i + 1) from rfl]
    by_cases h1 : w ≤ wv l i
    · rw [if_pos (decide_eq_true h1), if_pos h1, if_pos (by omega)]
    · rw [if_neg (fun h => h1 (of_decide_eq_true h)), if_neg h1]
theorem fiL_ok (l : List SReflect) (w : Int) : ∀ (d i : Nat), i ≤ fiL l w d i ∧ fiL l w d i ≤ i + d ∧ (fiL l w d i < i + d → w ≤ wv l (fiL l w d i)) ∧ ∀ j, i ≤ j → j < fiL l w d i → wv l j < w
  | 0, i => ⟨Nat.le_refl _, Nat.le_refl _, fun h => absurd h (Nat.lt_irrefl _), fun j h1 h2 => by unfold fiL at h2; omega⟩
  | d + 1, i => by
    have ih := fiL_ok l w d (i + 1)
    rw [show fiL l w (d + 1) i = if w ≤ wv l i then i else fiL l w d (i + 1) from rfl]
    by_cases h : w ≤ wv l i
    · rw [if_pos h]; exact ⟨Nat.le_refl _, by omega, fun _ => h, fun j h1 h2 => by omega⟩
    · rw [if_neg h]
      refine ⟨by omega, by omega, fun h1 => ih.2.2.1 (by omega), fun j h1 h2 => ?_⟩
      by_cases e : j = i
      · subst e; omega
      · exact ih.2.2.2 j (by omega) h2
/-- a wavelength that a table has. -/
def hasW (l : List SReflect) (w : Int) : Bool := inR (wv l 0) (wv l (l.length - 1)) w
/-- the point behind it. -/
def rt (l : List SReflect) (w : Int) : Nat := max 1 (fiL l w l.length 0)
structure At (l : List SReflect) (w : Int) (r : Nat) : Prop where
  p : 1 ≤ r
  q : r < l.length
  a : wv l (r - 1) ≤ w
  b : w ≤ wv l r
  c : ∀ j, 0 < j → j < r → wv l j < w
theorem rt_ok {l : List SReflect} (R : Right l) {w : Int} (h : hasW l w = true) : fiL l w l.length 0 < l.length ∧ At l w (rt l w) := by
  have h := inR_t.1 h
  have hf := fiL_ok l w l.length 0
  have hlo := R.lo
  have hlt : fiL l w l.length 0 < l.length := by
    rcases Nat.lt_or_ge (fiL l w l.length 0) l.length with h1 | h1
    · exact h1
    · have := hf.2.2.2 (l.length - 1) (by omega) (by omega); omega
  refine ⟨hlt, ?_⟩
  have hb := hf.2.2.1 (by omega)
  unfold rt
  rcases Nat.eq_zero_or_pos (fiL l w l.length 0) with e | e
  · rw [e] at hb ⊢
    rw [show max 1 0 = 1 from rfl]
    refine ⟨Nat.le_refl _, by omega, h.1, ?_, fun j h1 h2 => by omega⟩
    have := R.up 1 (by omega) (by omega)
    rw [show (1 - 1 : Nat) = 0 from rfl] at this
    omega
  · rw [show max 1 (fiL l w l.length 0) = fiL l w l.length 0 by omega]
    have := hf.2.2.2 (fiL l w l.length 0 - 1) (by omega) (by omega)
    exact ⟨e, hlt, by omega, hb, fun j h1 h2 => hf.2.2.2 j (by omega) h2⟩
theorem ref_l (k : Nat) {l : List SReflect} (R : Right l) {w : Int} {r : Nat} (A : At l w r) : ∀ (d fuel i : Nat), r - 1 = i + d → d < fuel →
    nspeculumref08_At_l0_0 k l w fuel (i : Int) = some ((r - 1 : Nat) : Int) := by
  have := R.hi; have := A.p; have := A.q
  intro d
  induction d with
  | zero =>
    intro fuel i h hf
    obtain ⟨g, rfl⟩ : ∃ g, fuel = g + 1 := ⟨fuel - 1, by omega⟩
    rw [nspeculumref08_At_l0_0.eq_2, w64_succ (by omega), if_pos (by omega)]
    simp only [Int.toNat_natCast]
    have hb := A.b
    rw [show i + 1 = r by omega, if_neg (show ¬ wv l r < w by omega), show i = r - 1 by omega]
  | succ d ih =>
    intro fuel i h hf
    obtain ⟨g, rfl⟩ : ∃ g, fuel = g + 1 := ⟨fuel - 1, by omega⟩
    rw [nspeculumref08_At_l0_0.eq_2, w64_succ (by omega), if_pos (by omega)]
    simp only [Int.toNat_natCast]
    have := A.c (i + 1) (by omega) (by omega)
    rw [if_pos this, ih g (i + 1) (by omega) (by omega)]
/-- the sums over which is divided. -/
def mixS (a b x y : Int) : Int := a * x + b * y
def valS (l : List SReflect) (w : Int) (r : Nat) : SRange :=
  ⟨mixS (sh l (r - 1)).Lo (sh l r).Lo (wv l r - w) (w - wv l (r - 1)) / (wv l r - wv l (r - 1)), cdiv (mixS (sh l (r - 1)).Hi (sh l r).Hi (wv l r - w) (w - wv l (r - 1))) (wv l r - wv l (r - 1))⟩
theorem mix_in {a b x y : Int} (ha : 0 ≤ a ∧ a ≤ 1000) (hb : 0 ≤ b ∧ b ≤ 1000) (hx : 0 ≤ x ∧ x ≤ 100000) (hy : 0 ≤ y ∧ y ≤ 100000) : 0 ≤ mixS a b x y ∧ mixS a b x y ≤ 200000000 ∧ w64 (w64 (a * w64 x) + w64 (b * w64 y)) = mixS a b x y := by
  have h1 := mb ha.1 ha.2 hx.1 hx.2
  have h2 := mb hb.1 hb.2 hy.1 hy.2
  unfold mixS
  refine ⟨by omega, by omega, ?_⟩
  rw [w64_id (n := x) (by omega) (by omega), w64_id (n := y) (by omega) (by omega), w64_id (n := a * x) (by omega) (by omega), w64_id (n := b * y) (by omega) (by omega), w64_id (by omega) (by omega)]
theorem maxI_nat (n : Nat) : maxI 1 (n : Int) = ((max 1 n : Nat) : Int) := by
  unfold maxI; split <;> omega
theorem at_coat (k : Nat) (hk : 100 < k) {l : List SReflect} (R : Right l) {w : Int} (h : hasW l w = true) : ncoat_at k l w = some (valS l w (rt l w)) := by
  obtain ⟨hlt, A⟩ := rt_ok R h
  have h1 := R.hi
  unfold ncoat_at nslices_IndexFunc_api_Reflect_api_Reflect__c1_116
  rw [show nslices_IndexFunc_api_Reflect_api_Reflect__c1_116_l0_0 k l w k 0 = _ from fi_coat k l (by omega) w l.length k 0 (by omega) (by omega), if_pos hlt, Option.bind_some]
  dsimp only
  rw [Option.bind_some, maxI_nat, show max 1 (fiL l w l.length 0) = rt l w from rfl]
  have hp := A.p; have hq := A.q; have ha := A.a; have hb := A.b
  rw [w64_pred (i := rt l w) (by omega) (by omega), if_pos (by omega), if_pos (by omega)]
  simp only [Int.toNat_natCast]
  have e1 := R.pt (rt l w) hq
  have e2 := R.pt (rt l w - 1) (by omega)
  have e3 := R.up (rt l w) (by omega) hq
  have m1 := mix_in (a := (sh l (rt l w - 1)).Lo) (b := (sh l (rt l w)).Lo) (x := wv l (rt l w) - w) (y := w - wv l (rt l w - 1)) (by omega) (by omega) (by omega) (by omega)
  have m2 := mix_in (a := (sh l (rt l w - 1)).Hi) (b := (sh l (rt l w)).Hi) (x := wv l (rt l w) - w) (y := w - wv l (rt l w - 1)) (by omega) (by omega) (by omega) (by omega)
  rw [m1.2.2, m2.2.2, w64_id (n := wv l (rt l w) - w) (by omega) (by omega), w64_id (n := w - wv l (rt l w - 1)) (by omega) (by omega), show wv l (rt l w) - w + (w - wv l (rt l w - 1)) = wv l (rt l w) - wv l (rt l w - 1) by omega, w64_id (n := wv l (rt l w) - wv l (rt l w - 1)) (by omega) (by omega), outward_any k m1.1 (by omega) m2.1 (by omega) (by omega) (by omega)]
  rfl
/-- what both say at a wavelength. -/
def atV (l : List SReflect) (w : Int) : SRange × Int := match decide (cvE l = 0) with
  | true => match hasW l w with
    | true => (valS l w (rt l w), 0)
    | false => (⟨0, 0⟩, 2)
  | false => (⟨0, 0⟩, cvE l)
theorem at_ref (k : Nat) (hk : 100 < k) (l : List SReflect) (w : Int) : nspeculumref08_At k l w = some (atV l w) := by
  unfold nspeculumref08_At atV
  rw [curve_ref k hk, Option.bind_some]
  cases hc : decide (cvE l = 0) with
  | false => rw [if_neg (of_decide_eq_false hc)]
  | true =>
    have hc := of_decide_eq_true hc
    have R := Right.of hc
    have h1 := R.hi; have h2 := R.lo
    rw [if_pos hc, if_pos (by omega), w64_pred (i := l.length) (by omega) (by omega), if_pos (by omega), within_base, Option.bind_some]
    simp only [Int.toNat_natCast, Int.toNat_zero]
    change (if hasW l w = true then _ else _) = _
    cases h : hasW l w with
    | false => rfl
    | true =>
      obtain ⟨hlt, A⟩ := rt_ok R h
      have hp := A.p; have hq := A.q; have ha := A.a; have hb := A.b
      rw [if_pos rfl, show nspeculumref08_At_l0_0 k l w k 0 = _ from ref_l k R A (rt l w - 1) k 0 (by omega) (by omega), Option.bind_some, w64_succ (by omega), show rt l w - 1 + 1 = rt l w by omega]
      simp only [Int.toNat_natCast]
      rw [if_pos (by omega), if_pos (by omega)]
      have e1 := R.pt (rt l w) hq
      have e2 := R.pt (rt l w - 1) (by omega)
      have e3 := R.up (rt l w) (by omega) hq
      have m1 := mix_in (a := (sh l (rt l w - 1)).Lo) (b := (sh l (rt l w)).Lo) (x := wv l (rt l w) - w) (y := w - wv l (rt l w - 1)) (by omega) (by omega) (by omega) (by omega)
      have m2 := mix_in (a := (sh l (rt l w - 1)).Hi) (b := (sh l (rt l w)).Hi) (x := wv l (rt l w) - w) (y := w - wv l (rt l w - 1)) (by omega) (by omega) (by omega) (by omega)
      rw [m1.2.2, m2.2.2, w64_id (n := wv l (rt l w) - wv l (rt l w - 1)) (by omega) (by omega), floor_any k m1.1 (by omega) (by omega), ceil_any k m2.1 (by omega) (by omega)]
      rfl
theorem waves_coat (k : Nat) (hk : 100 < k) (hk2 : k ≤ 1000000000) (l : List SReflect) (ws : List Int) (hws : ws.length < 100) : ncoat_checkWaves k l ws = some (if cvE l = 0 then (if ws.all (hasW l) = true then 0 else 2) else cvE l) := by
  unfold ncoat_checkWaves
  rw [curve_coat k hk hk2, Option.bind_some]
  by_cases hc : cvE l = 0
  · have R := Right.of hc
    have h1 := R.hi; have h2 := R.lo
    rw [if_pos hc, if_pos hc, if_pos (by omega), w64_pred (i := l.length) (by omega) (by omega), if_pos (by omega), areWithin_any k _ _ _ (by omega) hk2, Option.bind_some]
    simp only [Int.toNat_natCast, Int.toNat_zero]
    change (if ws.all (hasW l) = true then _ else _) = _
    cases ws.all (hasW l) <;> rfl
  · rw [if_neg hc, if_neg hc]
theorem At_coat (k : Nat) (hk : 100 < k) (hk2 : k ≤ 1000000000) (l : List SReflect) (w : Int) : ncoat_At k l w = some (atV l w) := by
  unfold ncoat_At atV
  rw [waves_coat k hk hk2 l [w] (by simp), Option.bind_some]
  simp only [List.all_cons, List.all_nil, Bool.and_true]
  cases hc : decide (cvE l = 0) with
  | false =>
    have hc := of_decide_eq_false hc
    rw [if_neg hc, if_neg hc]
  | true =>
    have hc := of_decide_eq_true hc
    rw [if_pos hc]
    cases h : hasW l w with
    | false => rfl
    | true =>
      rw [if_pos rfl, if_pos rfl, at_coat k hk (Right.of hc) h]
      rfl
