/- Histories: what both sides check. -/
import Derived.Test.YtfdmpodpglppbaaTC1
import Derived.Test.YtfdmpodpglppbaaWb
set_option linter.unusedVariables false
set_option linter.unusedSimpArgs false
namespace Go.Proofs.Ytfdmpodpglppbaa.Vg
open Go Go.Proofs.Ytfdmpodpglppbaa.Ev Go.Proofs.Ytfdmpodpglppbaa.Vv
theorem w64_id {n : Int} (h1 : -9223372036854775808 ≤ n) (h2 : n ≤ 9223372036854775807) : w64 n = n := by
  unfold w64 IntKind.wrap
  simp [IntKind.signed, IntKind.bits]
  omega
theorem w64_succ {i : Nat} (h : i < 1000000000000) : w64 ((i : Int) + 1) = ((i + 1 : Nat) : Int) := by
  rw [w64_id (by omega) (by omega)]; omega
theorem drop_get {α : Type} {y : List α} {i : Nat} (h : i < y.length) (d : α) : y.drop i = y.getD i d :: y.drop (i + 1) := by
  rw [List.drop_eq_getElem_cons h, List.getD_eq_getElem?_getD, List.getElem?_eq_getElem h]; rfl
def sumB (b : Bool) : Sum Unit Unit := match b with | true => .inr () | false => .inl ()
def inR (a b n : Int) : Bool := decide (a ≤ n ∧ n ≤ b)
theorem inR_t {a b n : Int} : inR a b n = true ↔ a ≤ n ∧ n ≤ b := by unfold inR; exact decide_eq_true_iff
theorem inR_f {a b n : Int} : inR a b n = false ↔ ¬(a ≤ n ∧ n ≤ b) := by unfold inR; exact decide_eq_false_iff_not
theorem within_base (k : Nat) (a b c : Int) : nspeculumbase_Within k a b c = some (inR b c a) := by
  unfold nspeculumbase_Within inR
  by_cases h : b ≤ a
  · rw [if_pos h]; simp [h]
  · rw [if_neg h]; simp [h]
theorem areWithin_l (k : Nat) (a b : Int) (xs : List Int) (hl : xs.length < 1000000000000) : ∀ (d fuel i : Nat), xs.length = i + d → d < fuel →
    ncoat_areWithin_l0_0 k a b xs fuel (i : Int) = some (sumB ((xs.drop i).all (inR a b))) := by
  intro d
  induction d with
  | zero =>
    intro fuel i h hf
    obtain ⟨g, rfl⟩ : ∃ g, fuel = g + 1 := ⟨fuel - 1, by omega⟩
    rw [ncoat_areWithin_l0_0.eq_2, if_neg (by omega), List.drop_eq_nil_of_le (by omega)]; rfl
  | succ d ih =>
    intro fuel i h hf
    obtain ⟨g, rfl⟩ : ∃ g, fuel = g + 1 := ⟨fuel - 1, by omega⟩
    rw [ncoat_areWithin_l0_0.eq_2, if_pos (by omega), if_pos (by omega), w64_succ (by omega), ih g (i + 1) (by omega) (by omega), drop_get (y := xs) (i := i) (by omega) 0]
    simp only [Int.toNat_natCast, List.all_cons]
    by_cases h1 : xs.getD i 0 < a
    · rw [if_pos h1, show inR a b (xs.getD i 0) = false from inR_f.2 (by omega)]; rfl
    · rw [if_neg h1]
      by_cases h2 : b < xs.getD i 0
      · rw [if_pos h2, show inR a b (xs.getD i 0) = false from inR_f.2 (by omega)]; rfl
      · rw [if_neg h2, show inR a b (xs.getD i 0) = true from inR_t.2 (by omega)]; rfl
theorem areWithin_any (k : Nat) (a b : Int) (xs : List Int) (hl : xs.length < k) (hk : k ≤ 1000000000) : ncoat_areWithin k a b xs = some (xs.all (inR a b)) := by
  unfold ncoat_areWithin
  rw [show ncoat_areWithin_l0_0 k a b xs k 0 = _ from areWithin_l k a b xs (by omega) xs.length k 0 (by omega) hl]
  simp only [List.drop_zero]
  cases xs.all (inR a b) <;> rfl
theorem areWithin_1 (k : Nat) (a b x : Int) (hk : 1 < k) (hk2 : k ≤ 1000000000) : ncoat_areWithin k a b [x] = some (inR a b x) := by
  rw [areWithin_any k a b [x] (by simpa using hk) hk2]; simp
theorem tdiv_pos {n d : Int} (hn : 0 ≤ n) : n.tdiv d = n / d := Int.tdiv_eq_ediv_of_nonneg hn
theorem div_le {n d : Int} (hn : 0 ≤ n) (hd : 0 < d) : 0 ≤ n / d ∧ n / d ≤ n := by
  refine ⟨Int.ediv_nonneg hn (by omega), ?_⟩
  exact Int.ediv_le_self d hn
/-- rounded up. -/
def cdiv (n d : Int) : Int := (n + d - 1) / d
theorem cdiv_eq {n d : Int} (hd : 0 < d) : cdiv n d = if n % d = 0 then n / d else n / d + 1 := by
  unfold cdiv
  have h := Int.emod_add_mul_ediv n d
  have h0 := Int.emod_nonneg n (show d ≠ 0 by omega)
  have h1 := Int.emod_lt_of_pos n hd
  by_cases e : n % d = 0
  · rw [if_pos e]
    rw [show n + d - 1 = (d - 1) + d * (n / d) by omega, Int.add_mul_ediv_left _ _ (by omega), Int.ediv_eq_zero_of_lt (by omega) (by omega)]; omega
  · rw [if_neg e]
    have : d * (n / d + 1) = d * (n / d) + d := by rw [Int.mul_add, Int.mul_one]
    rw [show n + d - 1 = (n % d - 1) + d * (n / d + 1) by omega, Int.add_mul_ediv_left _ _ (by omega), Int.ediv_eq_zero_of_lt (by omega) (by omega)]; omega
theorem up_any (k : Nat) {n d : Int} (hn : 0 ≤ n) (hn2 : n ≤ 1000000000000000000) (hd : 0 < d) (hd2 : d ≤ 1000000000000000000) : ncoat_up k n d = some (cdiv n d) := by
  unfold ncoat_up cdiv
  have h3 := div_le (n := n + d - 1) (by omega) hd
  rw [if_pos (by omega), w64_id (n := n + d) (by omega) (by omega), w64_id (n := n + d - 1) (by omega) (by omega), tdiv_pos (by omega), w64_id (by omega) (by omega)]
theorem outward_any (k : Nat) {n m d : Int} (hn : 0 ≤ n) (hn2 : n ≤ 1000000000000000000) (hm : 0 ≤ m) (hm2 : m ≤ 1000000000000000000) (hd : 0 < d) (hd2 : d ≤ 1000000000000000000) : ncoat_outward k n m d = some ⟨n / d, cdiv m d⟩ := by
  unfold ncoat_outward
  have h3 := div_le hn hd
  rw [if_pos (by omega), up_any k hm hm2 hd hd2, Option.bind_some, tdiv_pos hn, w64_id (by omega) (by omega)]
theorem mb {a b A B : Int} (h1 : 0 ≤ a) (h2 : a ≤ A) (h3 : 0 ≤ b) (h4 : b ≤ B) : 0 ≤ a * b ∧ a * b ≤ A * B := ⟨Int.mul_nonneg h1 h3, Int.mul_le_mul h2 h4 h3 (by omega)⟩
/-- agings. -/
def rgB (r : SRange) : Bool := decide (0 ≤ r.Lo ∧ r.Lo ≤ r.Hi ∧ r.Hi ≤ 1000)
theorem rgB_t {r : SRange} : rgB r = true ↔ (0 ≤ r.Lo ∧ r.Lo ≤ r.Hi ∧ r.Hi ≤ 1000) := by unfold rgB; exact decide_eq_true_iff
theorem isWithin_any (k : Nat) (r : SRange) : ncoat_isWithin k 0 1000 r = some (rgB r) := by
  unfold ncoat_isWithin rgB
  by_cases h1 : 0 ≤ r.Lo
  · by_cases h2 : r.Lo ≤ r.Hi
    · rw [if_pos h1, if_pos h2]; simp [h1, h2]
    · rw [if_pos h1, if_neg h2]; simp [h2]
  · rw [if_neg h1]; simp [h1]
def agE (a : SAging) : Int := match rgB a.Fresh && rgB a.Loss && rgB a.Back && inR 0 100 a.Washes with
  | true => 0
  | false => 2
theorem aging_coat (k : Nat) (hk : 10 < k) (hk2 : k ≤ 1000000000) (a : SAging) : ncoat_CheckAging k a = some (agE a) := by
  obtain ⟨g, rfl⟩ : ∃ g, k = g + 4 := ⟨k - 4, by omega⟩
  unfold ncoat_CheckAging agE
  rw [ncoat_CheckAging_l0_0.eq_2, if_pos (by decide), if_pos rfl, isWithin_any, Option.bind_some]
  cases h1 : rgB a.Fresh with
  | false => rfl
  | true =>
    rw [if_pos rfl, show w64 (0 + 1) = 1 from by decide, ncoat_CheckAging_l0_0.eq_2, if_pos (by decide), if_neg (by decide), if_pos rfl, isWithin_any, Option.bind_some]
    cases h2 : rgB a.Loss with
    | false => rfl
    | true =>
      rw [if_pos rfl, show w64 (1 + 1) = 2 from by decide, ncoat_CheckAging_l0_0.eq_2, if_pos (by decide), if_neg (by decide), if_neg (by decide), if_pos rfl, isWithin_any, Option.bind_some]
      cases h3 : rgB a.Back with
      | false => rfl
      | true =>
        rw [if_pos rfl, show w64 (2 + 1) = 3 from by decide, ncoat_CheckAging_l0_0.eq_2, if_neg (by decide), Option.bind_some]
        dsimp only
        rw [areWithin_1 _ _ _ _ (by omega) hk2, Option.bind_some]
        cases inR 0 100 a.Washes <;> rfl
theorem rg_ref (r : SRange) {X Y : Option (Sum Unit Unit)} : (if inR 0 r.Hi r.Lo = true then (if 1000 < r.Hi then Y else X) else Y) = match rgB r with | true => X | false => Y := by
  cases h : rgB r with
  | true =>
    have h := rgB_t.1 h
    rw [if_pos (inR_t.2 ⟨h.1, h.2.1⟩), if_neg (by omega)]
  | false =>
    have h : ¬ _ := fun h' => by rw [rgB_t.2 h'] at h; cases h
    by_cases h1 : inR 0 r.Hi r.Lo = true
    · have h1' := inR_t.1 h1
      rw [if_pos h1, if_pos (Int.not_le.1 fun h2 => h ⟨h1'.1, h1'.2, h2⟩)]
    · rw [if_neg h1]
theorem aging_ref (k : Nat) (hk : 10 < k) (a : SAging) : nspeculumref08_CheckAging k a = some (agE a) := by
  obtain ⟨g, rfl⟩ : ∃ g, k = g + 4 := ⟨k - 4, by omega⟩
  unfold nspeculumref08_CheckAging agE
  rw [nspeculumref08_CheckAging_l0_0.eq_2, if_pos (by decide), if_pos rfl, within_base, Option.bind_some, rg_ref]
  cases rgB a.Fresh with
  | false => rfl
  | true =>
    dsimp only
    rw [show w64 (0 + 1) = 1 from by decide, nspeculumref08_CheckAging_l0_0.eq_2, if_pos (by decide), if_neg (by decide), if_pos rfl, within_base, Option.bind_some, rg_ref]
    cases rgB a.Loss with
    | false => rfl
    | true =>
      dsimp only
      rw [show w64 (1 + 1) = 2 from by decide, nspeculumref08_CheckAging_l0_0.eq_2, if_pos (by decide), if_neg (by decide), if_neg (by decide), if_pos rfl, within_base, Option.bind_some, rg_ref]
      cases rgB a.Back with
      | false => rfl
      | true =>
        dsimp only
        rw [show w64 (2 + 1) = 3 from by decide, nspeculumref08_CheckAging_l0_0.eq_2, if_neg (by decide), Option.bind_some]
        dsimp only
        rw [within_base, Option.bind_some]
        cases inR 0 100 a.Washes <;> rfl
/-- names. -/
def letB (n : Int) : Bool := decide (97 ≤ n ∧ n ≤ 122) || decide (65 ≤ n ∧ n ≤ 90)
def namB (n : Int) : Bool := letB n || decide (48 ≤ n ∧ n ≤ 57) || decide (n = 45)
theorem letter_coat (k : Nat) (n : Int) : ncoat_isLetter k n = some (letB n) := by
  unfold ncoat_isLetter letB
  by_cases h1 : 97 ≤ n <;> by_cases h2 : n ≤ 122 <;> by_cases h3 : 65 ≤ n <;> simp [h1, h2, h3]
theorem letter_ref (k : Nat) (n : Int) : nspeculumbase_isLetter k n = some (letB n) := by
  unfold nspeculumbase_isLetter letB
  by_cases h1 : 97 ≤ n <;> by_cases h2 : n ≤ 122 <;> by_cases h3 : 65 ≤ n <;> simp [h1, h2, h3]
theorem digit_ref (k : Nat) (n : Int) : nspeculumbase_isDigit k n = some (decide (48 ≤ n ∧ n ≤ 57)) := by
  unfold nspeculumbase_isDigit
  by_cases h1 : 48 ≤ n <;> simp [h1]
theorem foreign_coat (k : Nat) (n : Int) : ncoat_isForeign k n = some (!namB n) := by
  unfold ncoat_isForeign namB
  rw [letter_coat, Option.bind_some]
  cases letB n
  · by_cases h1 : 48 ≤ n <;> by_cases h2 : n ≤ 57 <;> simp [h1, h2]
  · rfl
def bt8 (s : ByteArray) (i : Nat) : Int := bat s (i : Int)
theorem bat_get {s : ByteArray} {i : Nat} (h : i < s.size) : bt8 s i = ((s.get! i).toNat : Int) := by
  unfold bt8 bat
  rw [show ((i : Int)).toNat = i from rfl, getElem?_pos s i h]
  dsimp only
  rw [show s.get! i = s[i] from by cases s; exact getElem!_pos _ i h]
theorem decode_low {s : ByteArray} {i : Nat} (h : i < s.size) (hb : bt8 s i < 128) : Go.Utf8.decode s i = ((bt8 s i).toNat, 1) := by
  rw [bat_get h] at hb ⊢
  unfold Go.Utf8.decode
  dsimp only
  rw [if_pos (by rw [Nat.add_zero]; omega)]
  simp
theorem decode_high {s : ByteArray} {i : Nat} (h : i < s.size) (hb : 128 ≤ bt8 s i) : 128 ≤ (Go.Utf8.decode s i).1 := by
  rw [bat_get h] at hb
  have he : 128 ≤ Go.Utf8.runeError := by decide
  unfold Go.Utf8.decode
  dsimp only
  rw [if_neg (by rw [Nat.add_zero]; omega)]
  split
  · split
    · dsimp only; omega
    · exact he
  · split
    · split
      · rename_i hh; simp only [Bool.and_eq_true, decide_eq_true_eq] at hh; dsimp only; omega
      · exact he
    · split
      · split
        · rename_i hh; simp only [Bool.and_eq_true, decide_eq_true_eq] at hh; dsimp only; omega
        · exact he
      · exact he
theorem namB_low {n : Int} (h : 128 ≤ n) : namB n = false := by
  unfold namB letB
  simp
  omega
/-- all bytes from i on are of a name. -/
def allN (s : ByteArray) : Nat → Nat → Bool
  | 0, _ => true
  | d + 1, i => namB (bt8 s i) && allN s d (i + 1)
theorem find_coat (k : Nat) (s : ByteArray) : ∀ (d fuel i : Nat), s.size = i + d → d < fuel →
    ∃ j : Nat, nstrings_indexFunc_c1_coat_isForeign_l0_0 k s true fuel (i : Int) = some (match allN s d i with | true => .inr () | false => .inl (j : Int)) := by
  intro d
  induction d with
  | zero =>
    intro fuel i h hf
    obtain ⟨g, rfl⟩ : ∃ g, fuel = g + 1 := ⟨fuel - 1, by omega⟩
    rw [nstrings_indexFunc_c1_coat_isForeign_l0_0.eq_2, if_neg (by omega)]
    exact ⟨0, rfl⟩
  | succ d ih =>
    intro fuel i h hf
    obtain ⟨g, rfl⟩ : ∃ g, fuel = g + 1 := ⟨fuel - 1, by omega⟩
    obtain ⟨j, hj⟩ := ih g (i + 1) (by omega) (by omega)
    rw [nstrings_indexFunc_c1_coat_isForeign_l0_0.eq_2, if_pos (by omega), if_pos (by omega), foreign_coat, Option.bind_some]
    rw [show ((i : Int)).toNat = i from rfl]
    unfold allN
    by_cases hb : bt8 s i < 128
    · rw [decode_low (by omega) hb]
      have h0 : 0 ≤ bt8 s i := by rw [bat_get (by omega)]; omega
      dsimp only
      rw [show (((bt8 s i).toNat : Nat) : Int) = bt8 s i by omega]
      cases hn : namB (bt8 s i) with
      | true =>
        rw [if_neg (by decide), show (i : Int) + ((1 : Nat) : Int) = ((i + 1 : Nat) : Int) by omega, hj]
        exact ⟨j, rfl⟩
      | false => exact ⟨i, by rw [if_pos (by decide)]; rfl⟩
    · have := decode_high (s := s) (i := i) (by omega) (by omega)
      rw [namB_low (n := ((Go.Utf8.decode s i).1 : Int)) (by omega), namB_low (n := bt8 s i) (by omega)]
      exact ⟨i, by rw [if_pos (by decide)]; rfl⟩
theorem name_l (k : Nat) (s : ByteArray) (hl : s.size < 100000000) : ∀ (d fuel i : Nat), s.size = i + d → d < fuel →
    nspeculumbase_IsName_l0_0 k s fuel (i : Int) = some (sumB (allN s d i)) := by
  intro d
  induction d with
  | zero =>
    intro fuel i h hf
    obtain ⟨g, rfl⟩ : ∃ g, fuel = g + 1 := ⟨fuel - 1, by omega⟩
    rw [nspeculumbase_IsName_l0_0.eq_2, if_neg (by omega)]; rfl
  | succ d ih =>
    intro fuel i h hf
    obtain ⟨g, rfl⟩ : ∃ g, fuel = g + 1 := ⟨fuel - 1, by omega⟩
    rw [nspeculumbase_IsName_l0_0.eq_2, if_pos (by omega), if_pos (by omega), letter_ref, Option.bind_some, digit_ref, Option.bind_some, w64_succ (by omega), ih g (i + 1) (by omega) (by omega)]
    change (if letB (bt8 s i) = true then _ else (if decide (48 ≤ bt8 s i ∧ bt8 s i ≤ 57) = true then _ else (if bt8 s i = 45 then _ else _))) = some (sumB (namB (bt8 s i) && allN s d (i + 1)))
    unfold namB
    by_cases c1 : letB (bt8 s i) = true
    · rw [if_pos c1, c1]; rfl
    · rw [if_neg c1, eq_false_of_ne_true c1]
      by_cases c2 : decide (48 ≤ bt8 s i ∧ bt8 s i ≤ 57) = true
      · rw [if_pos c2, c2]; rfl
      · rw [if_neg c2, eq_false_of_ne_true c2]
        by_cases c3 : bt8 s i = 45
        · rw [if_pos c3, decide_eq_true c3]; rfl
        · rw [if_neg c3, decide_eq_false c3]; rfl
def nameB (s : ByteArray) : Bool := match inR 1 12 (s.size : Int) with
  | true => letB (bt8 s 0) && allN s s.size 0
  | false => false
theorem name_coat (k : Nat) (hk : 100 < k) (hk2 : k ≤ 1000000000) (s : ByteArray) : ncoat_isName k s = some (nameB s) := by
  unfold ncoat_isName nameB
  rw [areWithin_1 k _ _ _ (by omega) hk2, Option.bind_some]
  cases h : inR 1 12 (s.size : Int) with
  | false => rfl
  | true =>
    have h := inR_t.1 h
    have h0 : bt8 s 0 = ((s.get! 0).toNat : Int) := bat_get (by omega)
    have hlt : (s.get! 0).toNat < 256 := (s.get! 0).toNat_lt
    rw [if_pos rfl, if_pos (by omega), letter_coat, Option.bind_some]
    rw [show IntKind.i32.wrap (bat s 0) = bt8 s 0 by
      show IntKind.i32.wrap (bt8 s 0) = bt8 s 0
      rw [h0]
      unfold IntKind.wrap
      simp [IntKind.signed, IntKind.bits]
      omega]
    cases letB (bt8 s 0) with
    | false => rfl
    | true =>
      rw [if_pos rfl]
      unfold nstrings_ContainsFunc_c1_coat_isForeign nstrings_IndexFunc_c1_coat_isForeign nstrings_indexFunc_c1_coat_isForeign
      obtain ⟨j, hj⟩ := find_coat k s s.size k 0 (by omega) (by omega)
      rw [show nstrings_indexFunc_c1_coat_isForeign_l0_0 k s true k 0 = _ from hj]
      cases allN s s.size 0 with
      | true => rfl
      | false =>
        simp only [Option.bind_some]
        rw [decide_eq_true (show (0 : Int) ≤ (j : Int) by omega)]; rfl
theorem name_ref (k : Nat) (hk : 100 < k) (s : ByteArray) : nspeculumbase_IsName k s = some (nameB s) := by
  unfold nspeculumbase_IsName nameB
  cases h : inR 1 12 (s.size : Int) with
  | false =>
    have h := inR_f.1 h
    by_cases h0 : (s.size : Int) = 0
    · rw [if_pos h0]
    · rw [if_neg h0, if_pos (by omega)]
  | true =>
    have h := inR_t.1 h
    rw [if_neg (by omega), if_neg (by omega), if_pos (by omega), letter_ref, Option.bind_some]
    change (if letB (bt8 s 0) = true then _ else _) = _
    cases letB (bt8 s 0) with
    | false => rfl
    | true =>
      rw [if_pos rfl, show nspeculumbase_IsName_l0_0 k s k 0 = _ from name_l k s (by omega) s.size k 0 (by omega) (by omega)]
      cases allN s s.size 0 <;> rfl
/-- events alone. -/
def evE (x : SCoatEvent) : Int := match nameB x.Mirror with
  | true => match inR 0 100000 x.Day with
    | true => match inR 0 2 x.Kind with
      | true => 0
      | false => 15
    | false => 2
  | false => 4
theorem alone_coat (k : Nat) (hk : 100 < k) (hk2 : k ≤ 1000000000) (x : SCoatEvent) : ncoat_checkAlone k x = some (evE x) := by
  unfold ncoat_checkAlone ncoat_checkDay evE
  rw [name_coat k hk hk2, Option.bind_some, areWithin_1 k _ _ _ (by omega) hk2, areWithin_1 k _ _ _ (by omega) hk2, Option.bind_some]
  cases nameB x.Mirror with
  | false => rfl
  | true =>
    cases inR 0 100000 x.Day with
    | false => rfl
    | true => cases inR 0 2 x.Kind <;> rfl
theorem alone_ref (k : Nat) (hk : 100 < k) (x : SCoatEvent) : nspeculumref08_CheckEvent k x = some (evE x) := by
  unfold nspeculumref08_CheckEvent evE
  rw [name_ref k hk, Option.bind_some, within_base, within_base]
  cases nameB x.Mirror with
  | false => rfl
  | true =>
    cases inR 0 100000 x.Day with
    | false => rfl
    | true => cases inR 0 2 x.Kind <;> rfl
end Go.Proofs.Ytfdmpodpglppbaa.Vg
