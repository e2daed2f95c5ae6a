/- Materials: what both sides check and find. -/
import Derived.Test.YtpnlkhmnhjcgkaaO1
import Derived.Test.YtpnlkhmnhjcgkaaVi
set_option linter.unusedVariables false
set_option linter.unusedSimpArgs false
namespace Go.Proofs.Ytpnlkhmnhjcgkaa.Vg
open Go Go.Proofs.Ytpnlkhmnhjcgkaa.Ev Go.Proofs.Ytpnlkhmnhjcgkaa.Vv
theorem w64_id {n : Int} (h1 : -9223372036854775808 ≤ n) (h2 : n ≤ 9223372036854775807) : w64 n = n := by
  unfold w64 IntKind.wrap
  simp [IntKind.signed, IntKind.bits]
  omega
theorem w64_succ {i : Nat} (h : i < 1000000000000) : w64 ((i : Int) + 1) = ((i + 1 : Nat) : Int) := by
  rw [w64_id (by omega) (by omega)]; omega
theorem drop_get {α : Type} {y : List α} {i : Nat} (h : i < y.length) (d : α) : y.drop i = y.getD i d :: y.drop (i + 1) := by
  rw [List.drop_eq_getElem_cons h, List.getD_eq_getElem?_getD, List.getElem?_eq_getElem h]; rfl
def sumB (b : Bool) : Sum Unit Unit := match b with | true => .inr () | false => .inl ()
def inR (a b n : Int) : Bool := decide (a ≤ n ∧ n ≤ b)
theorem inR_t {a b n : Int} : inR a b n = true ↔ a ≤ n ∧ n ≤ b := by unfold inR; exact decide_eq_true_iff
theorem inR_f {a b n : Int} : inR a b n = false ↔ ¬(a ≤ n ∧ n ≤ b) := by unfold inR; exact decide_eq_false_iff_not
theorem within_base (k : Nat) (a b c : Int) : nspeculumbase_Within k a b c = some (inR b c a) := by
  unfold nspeculumbase_Within inR
  by_cases h : b ≤ a
  · rw [if_pos h]; simp [h]
  · rw [if_neg h]; simp [h]
theorem areWithin_l (k : Nat) (a b : Int) (xs : List Int) (hl : xs.length < 1000000000000) : ∀ (d fuel i : Nat), xs.length = i + d → d < fuel →
    ncoat_areWithin_l0_0 k a b xs fuel (i : Int) = some (sumB ((xs.drop i).all (inR a b))) := by
  intro d
  induction d with
  | zero =>
    intro fuel i h hf
    obtain ⟨g, rfl⟩ : ∃ g, fuel = g + 1 := ⟨fuel - 1, by omega⟩
    rw [ncoat_areWithin_l0_0.eq_2, if_neg (by omega), List.drop_eq_nil_of_le (by omega)]; rfl
  | succ d ih =>
    intro fuel i h hf
    obtain ⟨g, rfl⟩ : ∃ g, fuel = g + 1 := ⟨fuel - 1, by omega⟩
    rw [ncoat_areWithin_l0_0.eq_2, if_pos (by omega), if_pos (by omega), w64_succ (by omega), ih g (i + 1) (by omega) (by omega), drop_get (y := xs) (i := i) (by omega) 0]
    simp only [Int.toNat_natCast, List.all_cons]
    by_cases h1 : xs.getD i 0 < a
    · rw [if_pos h1, show inR a b (xs.getD i 0) = false from inR_f.2 (by omega)]; rfl
    · rw [if_neg h1]
      by_cases h2 : b < xs.getD i 0
      · rw [if_pos h2, show inR a b (xs.getD i 0) = false from inR_f.2 (by omega)]; rfl
      · rw [if_neg h2, show inR a b (xs.getD i 0) = true from inR_t.2 (by omega)]; rfl
theorem areWithin_any (k : Nat) (a b : Int) (xs : List Int) (hl : xs.length < k) (hk : k ≤ 1000000000) : ncoat_areWithin k a b xs = some (xs.all (inR a b)) := by
  unfold ncoat_areWithin
  rw [show ncoat_areWithin_l0_0 k a b xs k 0 = _ from areWithin_l k a b xs (by omega) xs.length k 0 (by omega) hl]
  simp only [List.drop_zero]
  cases xs.all (inR a b) <;> rfl
theorem areWithin_1 (k : Nat) (a b x : Int) (hk : 1 < k) (hk2 : k ≤ 1000000000) : ncoat_areWithin k a b [x] = some (inR a b x) := by
  rw [areWithin_any k a b [x] (by simpa using hk) hk2]; simp
theorem tdiv_pos {n d : Int} (hn : 0 ≤ n) : n.tdiv d = n / d := Int.tdiv_eq_ediv_of_nonneg hn
theorem div_le {n d : Int} (hn : 0 ≤ n) (hd : 0 < d) : 0 ≤ n / d ∧ n / d ≤ n := by
  refine ⟨Int.ediv_nonneg hn (by omega), ?_⟩
  exact Int.ediv_le_self d hn
/-- rounded up. -/
def cdiv (n d : Int) : Int := (n + d - 1) / d
theorem cdiv_eq {n d : Int} (hd : 0 < d) : cdiv n d = if n % d = 0 then n / d else n / d + 1 := by
  unfold cdiv
  have h := Int.emod_add_mul_ediv n d
  have h0 := Int.emod_nonneg n (show d ≠ 0 by omega)
  have h1 := Int.emod_lt_of_pos n hd
  by_cases e : n % d = 0
  · rw [if_pos e]
    rw [show n + d - 1 = (d - 1) + d * (n / d) by omega, Int.add_mul_ediv_left _ _ (by omega), Int.ediv_eq_zero_of_lt (by omega) (by omega)]; omega
  · rw [if_neg e]
    have : d * (n / d + 1) = d * (n / d) + d := by rw [Int.mul_add, Int.mul_one]
    rw [show n + d - 1 = (n % d - 1) + d * (n / d + 1) by omega, Int.add_mul_ediv_left _ _ (by omega), Int.ediv_eq_zero_of_lt (by omega) (by omega)]; omega
theorem floor_any (k : Nat) {n d : Int} (hn : 0 ≤ n) (hn2 : n ≤ 1000000000000000000) (hd : 0 < d) : nspeculumbase_Floor k n d = some (n / d) := by
  unfold nspeculumbase_Floor
  have := div_le hn hd
  rw [if_pos (by omega), if_neg (by have := Int.tmod_nonneg d hn; omega), tdiv_pos hn, w64_id (by omega) (by omega)]
theorem ceil_any (k : Nat) {n d : Int} (hn : 0 ≤ n) (hn2 : n ≤ 1000000000000000000) (hd : 0 < d) : nspeculumbase_Ceil k n d = some (cdiv n d) := by
  unfold nspeculumbase_Ceil nspeculumbase_Floor
  have h3 := div_le hn hd
  have h0 := Int.emod_nonneg n (show d ≠ 0 by omega)
  rw [cdiv_eq hd, w64_id (n := 0 - n) (by omega) (by omega), if_pos (by omega), show (0 - n) = -n by omega, Int.neg_tmod, Int.neg_tdiv, tdiv_pos hn, Int.tmod_eq_emod_of_nonneg hn, w64_id (n := -(n / d)) (by omega) (by omega)]
  by_cases e : n % d = 0
  · rw [if_neg (by omega), if_pos e, Option.bind_some, w64_id (by omega) (by omega)]; congr 1; omega
  · rw [if_pos (by omega), if_neg e, w64_id (n := -(n / d) - 1) (by omega) (by omega), Option.bind_some, w64_id (by omega) (by omega)]; congr 1; omega
theorem up_any (k : Nat) {n d : Int} (hn : 0 ≤ n) (hn2 : n ≤ 1000000000000000000) (hd : 0 < d) (hd2 : d ≤ 1000000000000000000) : ncoat_up k n d = some (cdiv n d) := by
  unfold ncoat_up cdiv
  have h3 := div_le (n := n + d - 1) (by omega) hd
  rw [if_pos (by omega), w64_id (n := n + d) (by omega) (by omega), w64_id (n := n + d - 1) (by omega) (by omega), tdiv_pos (by omega), w64_id (by omega) (by omega)]
theorem mb {a b A B : Int} (h1 : 0 ≤ a) (h2 : a ≤ A) (h3 : 0 ≤ b) (h4 : b ≤ B) : 0 ≤ a * b ∧ a * b ≤ A * B := ⟨Int.mul_nonneg h1 h3, Int.mul_le_mul h2 h4 h3 (by omega)⟩
/-- names. -/
def letB (n : Int) : Bool := decide (97 ≤ n ∧ n ≤ 122) || decide (65 ≤ n ∧ n ≤ 90)
def namB (n : Int) : Bool := letB n || decide (48 ≤ n ∧ n ≤ 57) || decide (n = 45)
theorem letter_coat (k : Nat) (n : Int) : ncoat_isLetter k n = some (letB n) := by
  unfold ncoat_isLetter letB
  by_cases h1 : 97 ≤ n <;> by_cases h2 : n ≤ 122 <;> by_cases h3 : 65 ≤ n <;> simp [h1, h2, h3]
theorem letter_ref (k : Nat) (n : Int) : nspeculumbase_isLetter k n = some (letB n) := by
  unfold nspeculumbase_isLetter letB
  by_cases h1 : 97 ≤ n <;> by_cases h2 : n ≤ 122 <;> by_cases h3 : 65 ≤ n <;> simp [h1, h2, h3]
theorem digit_ref (k : Nat) (n : Int) : nspeculumbase_isDigit k n = some (decide (48 ≤ n ∧ n ≤ 57)) := by
  unfold nspeculumbase_isDigit
  by_cases h1 : 48 ≤ n <;> simp [h1]
theorem foreign_coat (k : Nat) (n : Int) : ncoat_isForeign k n = some (!namB n) := by
  unfold ncoat_isForeign namB
  rw [letter_coat, Option.bind_some]
  cases letB n
  · by_cases h1 : 48 ≤ n <;> by_cases h2 : n ≤ 57 <;> simp [h1, h2]
  · rfl
def bt8 (s : ByteArray) (i : Nat) : Int := bat s (i : Int)
theorem bat_get {s : ByteArray} {i : Nat} (h : i < s.size) : bt8 s i = ((s.get! i).toNat : Int) := by
  unfold bt8 bat
  rw [show ((i : Int)).toNat = i from rfl, getElem?_pos s i h]
  dsimp only
  rw [show s.get! i = s[i] from by cases s; exact getElem!_pos _ i h]
theorem decode_low {s : ByteArray} {i : Nat} (h : i < s.size) (hb : bt8 s i < 128) : Go.Utf8.decode s i = ((bt8 s i).toNat, 1) := by
  rw [bat_get h] at hb ⊢
  unfold Go.Utf8.decode
  dsimp only
  rw [if_pos (by rw [Nat.add_zero]; omega)]
  simp
theorem decode_high {s : ByteArray} {i : Nat} (h : i < s.size) (hb : 128 ≤ bt8 s i) : 128 ≤ (Go.Utf8.decode s i).1 := by
  rw [bat_get h] at hb
  have he : 128 ≤ Go.Utf8.runeError := by decide
  unfold Go.Utf8.decode
  dsimp only
  rw [if_neg (by rw [Nat.add_zero]; omega)]
  split
  · split
    · dsimp only; omega
    · exact he
  · split
    · split
      · rename_i hh; simp only [Bool.and_eq_true, decide_eq_true_eq] at hh; dsimp only; omega
      · exact he
    · split
      · split
        · rename_i hh; simp only [Bool.and_eq_true, decide_eq_true_eq] at hh; dsimp only; omega
        · exact he
      · exact he
theorem namB_low {n : Int} (h : 128 ≤ n) : namB n = false := by
  unfold namB letB
  simp
  omega
/-- all bytes from i on are of a name. -/
def allN (s : ByteArray) : Nat → Nat → Bool
  | 0, _ => true
  | d + 1, i => namB (bt8 s i) && allN s d (i + 1)
theorem foreign_l (k : Nat) (s : ByteArray) : ∀ (d fuel i : Nat), s.size = i + d → d < fuel →
    ∃ j : Nat, nstrings_indexFunc_c1_113_l0_0 k s true fuel (i : Int) = some (match allN s d i with | true => .inr () | false => .inl (j : Int)) := by
  intro d
  induction d with
  | zero =>
    intro fuel i h hf
    obtain ⟨g, rfl⟩ : ∃ g, fuel = g + 1 := ⟨fuel - 1, by omega⟩
    rw [nstrings_indexFunc_c1_113_l0_0.eq_2, if_neg (by omega)]
    exact ⟨0, rfl⟩
  | succ d ih =>
    intro fuel i h hf
    obtain ⟨g, rfl⟩ : ∃ g, fuel = g + 1 := ⟨fuel - 1, by omega⟩
    obtain ⟨j, hj⟩ := ih g (i + 1) (by omega) (by omega)
    rw [nstrings_indexFunc_c1_113_l0_0.eq_2, if_pos (by omega), if_pos (by omega), foreign_coat, Option.bind_some]
    rw [show ((i : Int)).toNat = i from rfl]
    unfold allN
    by_cases hb : bt8 s i < 128
    · rw [decode_low (by omega) hb]
      have h0 : 0 ≤ bt8 s i := by rw [bat_get (by omega)]; omega
      dsimp only
      rw [show (((bt8 s i).toNat : Nat) : Int) = bt8 s i by omega]
      cases hn : namB (bt8 s i) with
      | true =>
        rw [if_neg (by decide), show (i : Int) + ((1 : Nat) : Int) = ((i + 1 : Nat) : Int) by omega, hj]
        exact ⟨j, rfl⟩
      | false => exact ⟨i, by rw [if_pos (by decide)]; rfl⟩
    · have := decode_high (s := s) (i := i) (by omega) (by omega)
      rw [namB_low (n := ((Go.Utf8.decode s i).1 : Int)) (by omega), namB_low (n := bt8 s i) (by omega)]
      exact ⟨i, by rw [if_pos (by decide)]; rfl⟩
theorem name_l (k : Nat) (s : ByteArray) (hl : s.size < 100000000) : ∀ (d fuel i : Nat), s.size = i + d → d < fuel →
    nspeculumbase_IsName_l0_0 k s fuel (i : Int) = some (sumB (allN s d i)) := by
  intro d
  induction d with
  | zero =>
    intro fuel i h hf
    obtain ⟨g, rfl⟩ : ∃ g, fuel = g + 1 := ⟨fuel - 1, by omega⟩
    rw [nspeculumbase_IsName_l0_0.eq_2, if_neg (by omega)]; rfl
  | succ d ih =>
    intro fuel i h hf
    obtain ⟨g, rfl⟩ : ∃ g, fuel = g + 1 := ⟨fuel - 1, by omega⟩
    rw [nspeculumbase_IsName_l0_0.eq_2, if_pos (by omega), if_pos (by omega), letter_ref, Option.bind_some, digit_ref, Option.bind_some, w64_succ (by omega), ih g (i + 1) (by omega) (by omega)]
    change (if letB (bt8 s i) = true then _ else (if decide (48 ≤ bt8 s i ∧ bt8 s i ≤ 57) = true then _ else (if bt8 s i = 45 then _ else _))) = some (sumB (namB (bt8 s i) && allN s d (i + 1)))
    unfold namB
    by_cases c1 : letB (bt8 s i) = true
    · rw [if_pos c1, c1]; rfl
    · rw [if_neg c1, eq_false_of_ne_true c1]
      by_cases c2 : decide (48 ≤ bt8 s i ∧ bt8 s i ≤ 57) = true
      · rw [if_pos c2, c2]; rfl
      · rw [if_neg c2, eq_false_of_ne_true c2]
        by_cases c3 : bt8 s i = 45
        · rw [if_pos c3, decide_eq_true c3]; rfl
        · rw [if_neg c3, decide_eq_false c3]; rfl
def nameB (s : ByteArray) : Bool := match inR 1 12 (s.size : Int) with
  | true => letB (bt8 s 0) && allN s s.size 0
  | false => false
theorem name_coat (k : Nat) (hk : 100 < k) (hk2 : k ≤ 1000000000) (s : ByteArray) : ncoat_isName k s = some (nameB s) := by
  unfold ncoat_isName nameB
  rw [areWithin_1 k _ _ _ (by omega) hk2, Option.bind_some]
  cases h : inR 1 12 (s.size : Int) with
  | false => rfl
  | true =>
    have h := inR_t.1 h
    have h0 : bt8 s 0 = ((s.get! 0).toNat : Int) := bat_get (by omega)
    have hlt : (s.get! 0).toNat < 256 := (s.get! 0).toNat_lt
    rw [if_pos rfl, if_pos (by omega), letter_coat, Option.bind_some]
    rw [show IntKind.i32.wrap (bat s 0) = bt8 s 0 by
      show IntKind.i32.wrap (bt8 s 0) = bt8 s 0
      rw [h0]
      unfold IntKind.wrap
      simp [IntKind.signed, IntKind.bits]
      omega]
    cases letB (bt8 s 0) with
    | false => rfl
    | true =>
      rw [if_pos rfl]
      unfold nstrings_ContainsFunc_c1_113 nstrings_IndexFunc_c1_113 nstrings_indexFunc_c1_113
      obtain ⟨j, hj⟩ := foreign_l k s s.size k 0 (by omega) (by omega)
      rw [show nstrings_indexFunc_c1_113_l0_0 k s true k 0 = _ from hj]
      cases allN s s.size 0 with
      | true => rfl
      | false =>
        simp only [Option.bind_some]
        rw [decide_eq_true (show (0 : Int) ≤ (j : Int) by omega)]; rfl
theorem name_ref (k : Nat) (hk : 100 < k) (s : ByteArray) : nspeculumbase_IsName k s = some (nameB s) := by
  unfold nspeculumbase_IsName nameB
  cases h : inR 1 12 (s.size : Int) with
  | false =>
    have h := inR_f.1 h
    by_cases h0 : (s.size : Int) = 0
    · rw [if_pos h0]
    · rw [if_neg h0, if_pos (by omega)]
  | true =>
    have h := inR_t.1 h
    rw [if_neg (by omega), if_neg (by omega), if_pos (by omega), letter_ref, Option.bind_some]
    change (if letB (bt8 s 0) = true then _ else _) = _
    cases letB (bt8 s 0) with
    | false => rfl
    | true =>
      rw [if_pos rfl, show nspeculumbase_IsName_l0_0 k s k 0 = _ from name_l k s (by omega) s.size k 0 (by omega) (by omega)]
      cases allN s s.size 0 <;> rfl
def In (n : Int) : Prop := -9223372036854775808 ≤ n ∧ n ≤ 9223372036854775807
theorem size_any (k : Nat) {n : Int} (h : In n) : nnumber_size k n = some (if n < 0 then -n else n) := by
  unfold nnumber_size
  unfold In at h
  by_cases h0 : n < 0
  · rw [if_pos h0, if_pos h0]
    congr 1
    unfold IntKind.wrap
    simp [IntKind.signed, IntKind.bits]
    omega
  · rw [if_neg h0, if_neg h0]
    congr 1
    unfold IntKind.wrap
    simp [IntKind.signed, IntKind.bits]
    omega
def big (n : Int) : Bool := inR (-1000000000000000) 1000000000000000 n
def rgE (t : SRange) : Int := match big t.Lo with
  | true => match big t.Hi with
    | true => if t.Hi < t.Lo then 9 else 0
    | false => 2
  | false => 2
theorem range_coat (k : Nat) {t : SRange} (h1 : In t.Lo) (h2 : In t.Hi) : nnumber_CheckRange k t = some (rgE t) := by
  unfold nnumber_CheckRange rgE
  rw [size_any k h1, size_any k h2, Option.bind_some, Option.bind_some]
  cases hb : big t.Lo with
  | false =>
    have hb := inR_f.1 hb
    rw [if_pos (by split <;> omega)]
  | true =>
    have hb := inR_t.1 hb
    rw [if_neg (by split <;> omega)]
    cases hc : big t.Hi with
    | false =>
      have hc := inR_f.1 hc
      rw [if_pos (by split <;> omega)]
    | true =>
      have hc := inR_t.1 hc
      rw [if_neg (by split <;> omega)]
      dsimp only
      by_cases h : t.Hi < t.Lo
      · rw [if_pos h, if_pos h]
      · rw [if_neg h, if_neg h]
theorem range_ref (k : Nat) (hk : 10 < k) (t : SRange) : nspeculumref01_CheckRange k t = some (rgE t) := by
  obtain ⟨g, rfl⟩ : ∃ g, k = g + 3 := ⟨k - 3, by omega⟩
  unfold nspeculumref01_CheckRange rgE
  rw [nspeculumref01_CheckRange_l0_0.eq_2, if_pos (by decide), if_pos rfl]
  cases hb : big t.Lo with
  | false =>
    have hb := inR_f.1 hb
    by_cases h : t.Lo < -1000000000000000
    · rw [if_pos h]; rfl
    · rw [if_neg h, if_pos (by omega)]; rfl
  | true =>
    have hb := inR_t.1 hb
    rw [if_neg (by omega), if_neg (by omega), show w64 (0 + 1) = 1 from by decide, nspeculumref01_CheckRange_l0_0.eq_2, if_pos (by decide), if_neg (by decide), if_pos rfl]
    cases hc : big t.Hi with
    | false =>
      have hc := inR_f.1 hc
      by_cases h : t.Hi < -1000000000000000
      · rw [if_pos h]; rfl
      · rw [if_neg h, if_pos (by omega)]; rfl
    | true =>
      have hc := inR_t.1 hc
      rw [if_neg (by omega), if_neg (by omega), show w64 (1 + 1) = 2 from by decide, nspeculumref01_CheckRange_l0_0.eq_2, if_neg (by decide), Option.bind_some]
      dsimp only
      by_cases h : t.Hi < t.Lo
      · rw [if_pos h, if_pos h]
      · rw [if_neg h, if_neg h]
theorem sl0 {α : Type} (l : List α) (i : Nat) : sl l 0 i = l.take i := by unfold sl; rw [List.drop_zero, Nat.sub_zero]
abbrev gm (l : List SMaterial) (i : Nat) : SMaterial := l.getD i default
/-- the first material of a name. -/
def fmL (l : List SMaterial) (nm : ByteArray) : Nat → Nat → Option Nat
  | 0, _ => none
  | d + 1, i => if (gm l i).Name = nm then some i else fmL l nm d (i + 1)
theorem fmL_succ (l : List SMaterial) (nm : ByteArray) (d i : Nat) : fmL l nm (d + 1) i = if (gm l i).Name = nm then some i else fmL l nm d (i + 1) := rfl
def fmI (l : List SMaterial) (nm : ByteArray) : Int := match fmL l nm l.length 0 with
  | some i => (i : Int)
  | none => -1
def sumO (x : Option Nat) : Sum Int Unit := match x with | some i => .inl (i : Int) | none => .inr ()
theorem find_l (k : Nat) (l : List SMaterial) (hl : l.length < 100000000) (nm : ByteArray) : ∀ (d fuel i : Nat), l.length = i + d → d < fuel →
    nslices_IndexFunc_api_Material_api_Material__c1_108_l0_0 k l nm fuel (i : Int) = some (sumO (fmL l nm d i)) := by
  intro d
  induction d with
  | zero =>
    intro fuel i h hf
    obtain ⟨g, rfl⟩ : ∃ g, fuel = g + 1 := ⟨fuel - 1, by omega⟩
    rw [nslices_IndexFunc_api_Material_api_Material__c1_108_l0_0.eq_2, if_neg (by omega)]; rfl
  | succ d ih =>
    intro fuel i h hf
    obtain ⟨g, rfl⟩ : ∃ g, fuel = g + 1 := ⟨fuel - 1, by omega⟩
    rw [nslices_IndexFunc_api_Material_api_Material__c1_108_l0_0.eq_2, if_pos (by omega), if_pos (by omega), w64_succ (by omega), ih g (i + 1) (by omega) (by omega), fmL_succ]
    unfold ncoat_find_1
    rw [Option.bind_some]
    simp only [Int.toNat_natCast]
    by_cases h1 : (gm l i).Name = nm
    · rw [if_pos (decide_eq_true h1), if_pos h1]; rfl
    · rw [if_neg (fun h => h1 (of_decide_eq_true h)), if_neg h1]
theorem find_coat (k : Nat) (l : List SMaterial) (hl : l.length < k) (hk : k ≤ 100000000) (nm : ByteArray) : ncoat_find k l nm = some (fmI l nm) := by
  unfold ncoat_find nslices_IndexFunc_api_Material_api_Material__c1_108 fmI
  rw [show nslices_IndexFunc_api_Material_api_Material__c1_108_l0_0 k l nm k 0 = _ from find_l k l (by omega) nm l.length k 0 (by omega) hl]
  cases fmL l nm l.length 0 <;> rfl
theorem find_lr (k : Nat) (l : List SMaterial) (hl : l.length < 100000000) (nm : ByteArray) : ∀ (d fuel i : Nat), l.length = i + d → d < fuel →
    nspeculumref08_FindMaterial_l0_0 k l nm fuel (i : Int) = some (sumO (fmL l nm d i)) := by
  intro d
  induction d with
  | zero =>
    intro fuel i h hf
    obtain ⟨g, rfl⟩ : ∃ g, fuel = g + 1 := ⟨fuel - 1, by omega⟩
    rw [nspeculumref08_FindMaterial_l0_0.eq_2, if_neg (by omega)]; rfl
  | succ d ih =>
    intro fuel i h hf
    obtain ⟨g, rfl⟩ : ∃ g, fuel = g + 1 := ⟨fuel - 1, by omega⟩
    rw [nspeculumref08_FindMaterial_l0_0.eq_2, if_pos (by omega), if_pos (by omega), w64_succ (by omega), ih g (i + 1) (by omega) (by omega), fmL_succ]
    simp only [Int.toNat_natCast]
    by_cases h1 : (gm l i).Name = nm
    · rw [if_pos h1, if_pos h1]; rfl
    · rw [if_neg h1, if_neg h1]
theorem find_ref (k : Nat) (l : List SMaterial) (hl : l.length < k) (hk : k ≤ 100000000) (nm : ByteArray) : nspeculumref08_FindMaterial k l nm = some (fmI l nm) := by
  unfold nspeculumref08_FindMaterial fmI
  rw [show nspeculumref08_FindMaterial_l0_0 k l nm k 0 = _ from find_lr k l (by omega) nm l.length k 0 (by omega) hl]
  cases fmL l nm l.length 0 <;> rfl
theorem fmL_lt {l : List SMaterial} {nm : ByteArray} : ∀ (d i j : Nat), fmL l nm d i = some j → i ≤ j ∧ j < i + d
  | 0, i, j, h => by cases h
  | d + 1, i, j, h => by
    rw [fmL_succ] at h
    by_cases c : (gm l i).Name = nm
    · rw [if_pos c] at h; injection h with h; omega
    · rw [if_neg c] at h; have := fmL_lt d (i + 1) j h; omega
def pcB (r : SRange) : Bool := decide (1 ≤ r.Lo ∧ r.Lo ≤ r.Hi ∧ r.Hi ≤ 1000000)
theorem pcB_t {r : SRange} : pcB r = true ↔ (1 ≤ r.Lo ∧ r.Lo ≤ r.Hi ∧ r.Hi ≤ 1000000) := by unfold pcB; exact decide_eq_true_iff
theorem isWithin_pc (k : Nat) (r : SRange) : ncoat_isWithin k 1 1000000 r = some (pcB r) := by
  unfold ncoat_isWithin pcB
  by_cases h1 : 1 ≤ r.Lo
  · by_cases h2 : r.Lo ≤ r.Hi
    · rw [if_pos h1, if_pos h2]; simp [h1, h2]
    · rw [if_pos h1, if_neg h2]; simp [h2]
  · rw [if_neg h1]; simp [h1]
/-- the error of materials. -/
def cmL (l : List SMaterial) : Nat → Nat → Sum Int Unit
  | 0, _ => .inr ()
  | d + 1, i => match nameB (gm l i).Name with
    | true => if 0 ≤ fmI (l.take i) (gm l i).Name then .inl 5 else match pcB (gm l i).PerCount with
      | true => cmL l d (i + 1)
      | false => .inl 2
    | false => .inl 4
theorem cmL_succ (l : List SMaterial) (d i : Nat) : cmL l (d + 1) i = match nameB (gm l i).Name with
    | true => if 0 ≤ fmI (l.take i) (gm l i).Name then .inl 5 else match pcB (gm l i).PerCount with
      | true => cmL l d (i + 1)
      | false => .inl 2
    | false => .inl 4 := rfl
theorem mat_coat (k : Nat) (hk : 100 < k) (hk2 : k ≤ 100000000) (l : List SMaterial) (hl : l.length < 100) : ∀ (d fuel i : Nat), l.length = i + d → d < fuel →
    ncoat_CheckMaterials_l0_0 k l fuel (i : Int) = some (cmL l d i) := by
  intro d
  induction d with
  | zero =>
    intro fuel i h hf
    obtain ⟨g, rfl⟩ : ∃ g, fuel = g + 1 := ⟨fuel - 1, by omega⟩
    rw [ncoat_CheckMaterials_l0_0.eq_2, if_neg (by omega)]; rfl
  | succ d ih =>
    intro fuel i h hf
    obtain ⟨g, rfl⟩ : ∃ g, fuel = g + 1 := ⟨fuel - 1, by omega⟩
    rw [ncoat_CheckMaterials_l0_0.eq_2, if_pos (by omega), if_pos (by omega), name_coat k hk (by omega), Option.bind_some, if_pos (show (0 : Int) ≤ 0 ∧ (0 : Int) ≤ (i : Int) ∧ (i : Int) ≤ (l.length : Int) by omega), w64_succ (by omega), ih g (i + 1) (by omega) (by omega), cmL_succ]
    simp only [Int.toNat_natCast]
    rw [sl0, find_coat k (l.take i) (by rw [List.length_take]; omega) hk2, Option.bind_some, isWithin_pc, Option.bind_some]
    change (if nameB (gm l i).Name = true then (if 0 ≤ fmI (l.take i) (gm l i).Name then _ else (if pcB (gm l i).PerCount = true then _ else _)) else _) = _
    cases nameB (gm l i).Name with
    | false => rfl
    | true =>
      rw [if_pos rfl]
      dsimp only
      by_cases c : 0 ≤ fmI (l.take i) (gm l i).Name
      · rw [if_pos c, if_pos c]
      · rw [if_neg c, if_neg c]
        cases pcB (gm l i).PerCount <;> rfl
theorem mat_ref (k : Nat) (hk : 100 < k) (hk2 : k ≤ 100000000) (l : List SMaterial) (hl : l.length < 100) : ∀ (d fuel i : Nat), l.length = i + d → d < fuel →
    nspeculumref08_CheckMaterials_l0_0 k l fuel (i : Int) = some (cmL l d i) := by
  intro d
  induction d with
  | zero =>
    intro fuel i h hf
    obtain ⟨g, rfl⟩ : ∃ g, fuel = g + 1 := ⟨fuel - 1, by omega⟩
    rw [nspeculumref08_CheckMaterials_l0_0.eq_2, if_neg (by omega)]; rfl
  | succ d ih =>
    intro fuel i h hf
    obtain ⟨g, rfl⟩ : ∃ g, fuel = g + 1 := ⟨fuel - 1, by omega⟩
    rw [nspeculumref08_CheckMaterials_l0_0.eq_2, if_pos (by omega), if_pos (by omega), name_ref k hk, Option.bind_some, if_pos (show (0 : Int) ≤ 0 ∧ (0 : Int) ≤ (i : Int) ∧ (i : Int) ≤ (l.length : Int) by omega), w64_succ (by omega), ih g (i + 1) (by omega) (by omega), cmL_succ]
    simp only [Int.toNat_natCast]
    rw [sl0, find_ref k (l.take i) (by rw [List.length_take]; omega) hk2, Option.bind_some, within_base, Option.bind_some]
    change (if nameB (gm l i).Name = true then (if 0 ≤ fmI (l.take i) (gm l i).Name then _ else (if inR 1 (gm l i).PerCount.Hi (gm l i).PerCount.Lo = true then (if 1000000 < (gm l i).PerCount.Hi then _ else _) else _)) else _) = _
    cases nameB (gm l i).Name with
    | false => rfl
    | true =>
      rw [if_pos rfl]
      dsimp only
      by_cases c : 0 ≤ fmI (l.take i) (gm l i).Name
      · rw [if_pos c, if_pos c]
      · rw [if_neg c, if_neg c]
        cases hp : pcB (gm l i).PerCount with
        | true =>
          have hp := pcB_t.1 hp
          rw [if_pos (inR_t.2 ⟨hp.1, hp.2.1⟩), if_neg (by omega)]
        | false =>
          have hp : ¬ _ := fun h => by rw [pcB_t.2 h] at hp; cases hp
          by_cases h1 : inR 1 (gm l i).PerCount.Hi (gm l i).PerCount.Lo = true
          · have h1' := inR_t.1 h1
            rw [if_pos h1, if_pos (Int.not_le.1 fun h2 => hp ⟨h1'.1, h1'.2, h2⟩)]
          · rw [if_neg h1]
def maE (l : List SMaterial) : Int := if 40 < (l.length : Int) then 8 else match cmL l l.length 0 with
  | .inl e => e
  | .inr _ => 0
theorem materials_coat (k : Nat) (hk : 100 < k) (hk2 : k ≤ 100000000) (l : List SMaterial) : ncoat_CheckMaterials k l = some (maE l) := by
  unfold ncoat_CheckMaterials maE
  by_cases c : 40 < (l.length : Int)
  · rw [if_pos c, if_pos c]
  · rw [if_neg c, if_neg c, show ncoat_CheckMaterials_l0_0 k l k 0 = _ from mat_coat k hk hk2 l (by omega) l.length k 0 (by omega) (by omega)]
    cases cmL l l.length 0 <;> rfl
theorem materials_ref (k : Nat) (hk : 100 < k) (hk2 : k ≤ 100000000) (l : List SMaterial) : nspeculumref08_CheckMaterials k l = some (maE l) := by
  unfold nspeculumref08_CheckMaterials maE
  by_cases c : 40 < (l.length : Int)
  · rw [if_pos c, if_pos c]
  · rw [if_neg c, if_neg c, show nspeculumref08_CheckMaterials_l0_0 k l k 0 = _ from mat_ref k hk hk2 l (by omega) l.length k 0 (by omega) (by omega)]
    cases cmL l l.length 0 <;> rfl
theorem cmL_ok (l : List SMaterial) : ∀ (d i : Nat), (∀ e, cmL l d i = .inl e → e ≠ 0) ∧ (cmL l d i = .inr () → ∀ j, i ≤ j → j < i + d → pcB (gm l j).PerCount = true)
  | 0, i => ⟨fun e h => (by cases h), fun _ j h1 h2 => by omega⟩
  | d + 1, i => by
    rw [cmL_succ]
    cases nameB (gm l i).Name with
    | false => exact ⟨fun e h => by injection h with h; subst h; decide, fun h => (by cases h)⟩
    | true =>
      dsimp only
      by_cases c : 0 ≤ fmI (l.take i) (gm l i).Name
      · rw [if_pos c]; exact ⟨fun e h => by injection h with h; subst h; decide, fun h => (by cases h)⟩
      · rw [if_neg c]
        cases hp : pcB (gm l i).PerCount with
        | false => exact ⟨fun e h => by injection h with h; subst h; decide, fun h => (by cases h)⟩
        | true =>
          refine ⟨(cmL_ok l d (i + 1)).1, fun h j h1 h2 => ?_⟩
          by_cases e : j = i
          · subst e; exact hp
          · exact (cmL_ok l d (i + 1)).2 h j (by omega) (by omega)
theorem maE_zero {l : List SMaterial} (h : maE l = 0) : l.length ≤ 40 ∧ ∀ j, j < l.length → 1 ≤ (gm l j).PerCount.Lo ∧ (gm l j).PerCount.Lo ≤ (gm l j).PerCount.Hi ∧ (gm l j).PerCount.Hi ≤ 1000000 := by
  unfold maE at h
  by_cases c : 40 < (l.length : Int)
  · rw [if_pos c] at h; exact absurd h (by decide)
  · rw [if_neg c] at h
    cases hc : cmL l l.length 0 with
    | inl e => rw [hc] at h; exact absurd h ((cmL_ok l l.length 0).1 e hc)
    | inr u => exact ⟨by omega, fun j hj => pcB_t.1 ((cmL_ok l l.length 0).2 hc j (by omega) (by omega))⟩
/-- the counts for a range. -/
def coV (p : SRange) (w : SRange) : A44 × Int := if minI (w.Hi / p.Hi - 1) 100000 < maxI 1 (cdiv w.Lo p.Lo) then (⟨0, 0⟩, 12) else (⟨maxI 1 (cdiv w.Lo p.Lo), minI (w.Hi / p.Hi - 1) 100000⟩, 0)
def coR (l : List SMaterial) (nm : ByteArray) (w : SRange) : A44 × Int :=
  if fmI l nm < 0 then (⟨0, 0⟩, 6) else if rgE w = 0 then (if w.Lo < 0 then (⟨0, 0⟩, 2) else coV (gm l (fmI l nm).toNat).PerCount w) else (⟨0, 0⟩, rgE w)
theorem rgE_zero {t : SRange} (h1 : rgE t = 0) : -1000000000000000 ≤ t.Lo ∧ t.Lo ≤ t.Hi ∧ t.Hi ≤ 1000000000000000 := by
  unfold rgE at h1
  cases h3 : big t.Lo with
  | false => rw [h3] at h1; dsimp only at h1; exact absurd h1 (by decide)
  | true =>
    rw [h3] at h1; dsimp only at h1
    cases h4 : big t.Hi with
    | false => rw [h4] at h1; dsimp only at h1; exact absurd h1 (by decide)
    | true =>
      rw [h4] at h1; dsimp only at h1
      have h4 := inR_t.1 h4
      have h3 := inR_t.1 h3
      by_cases c : t.Hi < t.Lo
      · rw [if_pos c] at h1; exact absurd h1 (by decide)
      · omega
theorem fmI_in (l : List SMaterial) (nm : ByteArray) : fmI l nm < l.length ∧ (0 ≤ fmI l nm ∨ fmI l nm = -1) := by
  unfold fmI
  cases hc : fmL l nm l.length 0 with
  | none => dsimp only; omega
  | some j => have := fmL_lt _ _ _ hc; dsimp only; omega
theorem minI_comm (a b : Int) : minI a b = minI b a := by unfold minI; split <;> split <;> omega
theorem counts_coat (k : Nat) (hk : 100 < k) (hk2 : k ≤ 100000000) (l : List SMaterial) (nm : ByteArray) {w : SRange} (h1 : In w.Lo) (h2 : In w.Hi) : ncoat_CountsFor k l nm w = some (if maE l = 0 then coR l nm w else (⟨0, 0⟩, maE l)) := by
  unfold ncoat_CountsFor coR
  rw [materials_coat k hk hk2, Option.bind_some]
  by_cases c0 : maE l = 0
  · obtain ⟨g1, g2⟩ := maE_zero c0
    have hi := fmI_in l nm
    rw [if_pos c0, if_pos c0, find_coat k l (by omega) hk2, Option.bind_some]
    by_cases c1 : fmI l nm < 0
    · rw [if_pos c1, if_pos c1]
    · rw [if_neg c1, if_neg c1, show nnumber_CheckRange k _ = _ from range_coat k (t := w) h1 h2, Option.bind_some]
      by_cases c2 : rgE w = 0
      · rw [if_pos c2, if_pos c2]
        by_cases c3 : w.Lo < 0
        · rw [if_pos c3, if_pos c3]
        · have hw := rgE_zero c2
          have hp := g2 (fmI l nm).toNat (by omega)
          have hd := div_le (n := w.Hi) (d := (gm l (fmI l nm).toNat).PerCount.Hi) (by omega) (by omega)
          rw [if_neg c3, if_neg c3, if_pos (by omega), up_any k (n := w.Lo) (d := (gm l (fmI l nm).toNat).PerCount.Lo) (by omega) (by omega) (by omega) (by omega), Option.bind_some, if_pos (show (gm l (fmI l nm).toNat).PerCount.Hi ≠ 0 by omega), tdiv_pos (n := w.Hi) (by omega)]
          have e1 : w64 (w64 (w.Hi / (gm l (fmI l nm).toNat).PerCount.Hi) - 1) = w.Hi / (gm l (fmI l nm).toNat).PerCount.Hi - 1 := by
            rw [w64_id (n := w.Hi / _) (by omega) (by omega), w64_id (by omega) (by omega)]
          unfold coV
          simp only [e1]
          by_cases c4 : minI (w.Hi / (gm l (fmI l nm).toNat).PerCount.Hi - 1) 100000 < maxI 1 (cdiv w.Lo (gm l (fmI l nm).toNat).PerCount.Lo)
          · rw [if_pos c4, if_pos c4]
          · rw [if_neg c4, if_neg c4]
      · rw [if_neg c2, if_neg c2]
  · rw [if_neg c0, if_neg c0]
theorem counts_ref (k : Nat) (hk : 100 < k) (hk2 : k ≤ 100000000) {l : List SMaterial} (c0 : maE l = 0) (nm : ByteArray) (w : SRange) : nspeculumref08_CountsFor k l nm w = some (coR l nm w) := by
  unfold nspeculumref08_CountsFor coR
  obtain ⟨g1, g2⟩ := maE_zero c0
  have hi := fmI_in l nm
  rw [find_ref k l (by omega) hk2, Option.bind_some]
  by_cases c1 : fmI l nm < 0
  · rw [if_pos c1, if_pos c1]
  · rw [if_neg c1, if_neg c1, show nspeculumref01_CheckRange k _ = _ from range_ref k (by omega) w, Option.bind_some]
    by_cases c2 : rgE w = 0
    · rw [if_pos c2, if_pos c2]
      by_cases c3 : w.Lo < 0
      · rw [if_pos c3, if_pos c3]
      · have hw := rgE_zero c2
        have hp := g2 (fmI l nm).toNat (by omega)
        have hd := div_le (n := w.Hi) (d := (gm l (fmI l nm).toNat).PerCount.Hi) (by omega) (by omega)
        rw [if_neg c3, if_neg c3, if_pos (by omega), ceil_any k (n := w.Lo) (d := (gm l (fmI l nm).toNat).PerCount.Lo) (by omega) (by omega) (by omega), Option.bind_some, floor_any k (n := w.Hi) (d := (gm l (fmI l nm).toNat).PerCount.Hi) (by omega) (by omega) (by omega), Option.bind_some]
        have e1 : w64 (w.Hi / (gm l (fmI l nm).toNat).PerCount.Hi - 1) = w.Hi / (gm l (fmI l nm).toNat).PerCount.Hi - 1 := w64_id (by omega) (by omega)
        unfold coV
        simp only [e1, minI_comm 100000]
        by_cases c4 : minI (w.Hi / (gm l (fmI l nm).toNat).PerCount.Hi - 1) 100000 < maxI 1 (cdiv w.Lo (gm l (fmI l nm).toNat).PerCount.Lo)
        · rw [if_pos c4, if_pos c4]
        · rw [if_neg c4, if_neg c4]
    · rw [if_neg c2, if_neg c2]
theorem short_l0 (k : Nat) (l : List SMaterial) (hl : l.length < 100000000) : ∀ (d fuel i : Nat), l.length = i + d → d < fuel → ∃ b, nspeculumlaw08_short_l0_0 k l fuel (i : Int) = some (sumB b) := by
  intro d
  induction d with
  | zero =>
    intro fuel i h hf
    obtain ⟨g, rfl⟩ : ∃ g, fuel = g + 1 := ⟨fuel - 1, by omega⟩
    rw [nspeculumlaw08_short_l0_0.eq_2, if_neg (by omega)]; exact ⟨true, rfl⟩
  | succ d ih =>
    intro fuel i h hf
    obtain ⟨g, rfl⟩ : ∃ g, fuel = g + 1 := ⟨fuel - 1, by omega⟩
    rw [nspeculumlaw08_short_l0_0.eq_2, if_pos (by omega), if_pos (by omega), w64_succ (by omega)]
    split
    · exact ⟨false, rfl⟩
    · exact ih g (i + 1) (by omega) (by omega)
theorem short_l1 (k : Nat) (l : List SMaterial) (hl : l.length < 100000000) : ∀ (d fuel i : Nat), l.length = i + d → d < fuel → ∃ b, nspeculumlaw08_short_l0_1 k l fuel (i : Int) = some (sumB b) := by
  intro d
  induction d with
  | zero =>
    intro fuel i h hf
    obtain ⟨g, rfl⟩ : ∃ g, fuel = g + 1 := ⟨fuel - 1, by omega⟩
    rw [nspeculumlaw08_short_l0_1.eq_2, if_neg (by omega)]; exact ⟨true, rfl⟩
  | succ d ih =>
    intro fuel i h hf
    obtain ⟨g, rfl⟩ : ∃ g, fuel = g + 1 := ⟨fuel - 1, by omega⟩
    rw [nspeculumlaw08_short_l0_1.eq_2, if_pos (by omega), if_pos (by omega), w64_succ (by omega)]
    split
    · exact ⟨false, rfl⟩
    · exact ih g (i + 1) (by omega) (by omega)
theorem short_any (k : Nat) (hk : 100 < k) (l : List SMaterial) : ∃ b, nspeculumlaw08_short k l = some b ∧ (b = true → l.length ≤ 43) := by
  unfold nspeculumlaw08_short
  by_cases h1 : 43 < (l.length : Int)
  · rw [if_pos (by omega), if_neg (by omega), if_pos h1]; exact ⟨false, rfl, fun h => by cases h⟩
  · rw [if_neg h1, if_neg h1]
    obtain ⟨b0, h0⟩ := short_l0 k l (by omega) l.length k 0 (by omega) (by omega)
    obtain ⟨b1, h2⟩ := short_l1 k l (by omega) l.length k 0 (by omega) (by omega)
    rw [show nspeculumlaw08_short_l0_0 k l k 0 = _ from h0, show nspeculumlaw08_short_l0_1 k l k 0 = _ from h2]
    split
    · split
      · exact ⟨false, rfl, fun h => by cases h⟩
      · cases b0
        · exact ⟨false, rfl, fun h => by cases h⟩
        · exact ⟨true, rfl, fun _ => by omega⟩
    · cases b1
      · exact ⟨false, rfl, fun h => by cases h⟩
      · exact ⟨true, rfl, fun _ => by omega⟩
theorem own_any (k : Nat) {l : List SMaterial} (h : l.length ≤ 1000000000) : nspeculumlaw08_materials k l = some l := by
  unfold nspeculumlaw08_materials
  rw [if_pos (by simpa using h), List.nil_append]
end Go.Proofs.Ytpnlkhmnhjcgkaa.Vg
