/- Law of turned maps: the checks, the rest and the mirror's part, in the program and in the reference. -/
import Derived.Test.YtmjlboachhpggaaZ1
import Derived.Test.YtmjlboachhpggaaWb
set_option linter.unusedVariables false
set_option linter.unusedSimpArgs false
namespace Go.Proofs.Ytmjlboachhpggaa.Vg
open Go Go.Proofs.Ytmjlboachhpggaa.Ev Go.Proofs.Ytmjlboachhpggaa.Vv

theorem w64_id {n : Int} (h1 : -9223372036854775808 ≤ n) (h2 : n ≤ 9223372036854775807) : w64 n = n := by
  unfold w64 IntKind.wrap
  simp [IntKind.signed, IntKind.bits]
  omega
theorem w64_succ {i : Nat} (h : i < 1000000000000) : w64 ((i : Int) + 1) = ((i + 1 : Nat) : Int) := by
  rw [w64_id (by omega) (by omega)]; omega
theorem drop_get {α : Type} {y : List α} {i : Nat} (h : i < y.length) (d : α) : y.drop i = y.getD i d :: y.drop (i + 1) := by
  rw [List.drop_eq_getElem_cons h, List.getD_eq_getElem?_getD, List.getElem?_eq_getElem h]; rfl
theorem take_set {α : Type} {y : List α} {i : Nat} (h : i < y.length) (v : α) : (y.set i v).take (i + 1) = y.take i ++ [v] := by
  apply List.ext_getElem
  · simp; omega
  · intro j h1 h2
    simp only [List.getElem_take, List.getElem_set, List.getElem_append, List.length_take]
    simp at h1 h2
    by_cases hj : i = j
    · subst hj; rw [if_pos rfl, dif_neg (by omega)]; simp
    · rw [if_neg hj, dif_pos (by omega)]
theorem get_set (y : List Int) (i : Nat) (h : i < y.length) (v : Int) : (y.set i v).getD i 0 = v := by
  rw [List.getD_eq_getElem?_getD, List.getElem?_set_self h]; rfl
def sumB (b : Bool) : Sum Unit Unit := match b with | true => .inr () | false => .inl ()
def inB (M n : Int) : Bool := decide (-M ≤ n ∧ n ≤ M)
theorem within_prof (k : Nat) (a b c : Int) : nprofile_isWithin k a b c = some (decide (b ≤ a ∧ a ≤ c)) := by
  unfold nprofile_isWithin
  by_cases h : b ≤ a
  · rw [if_pos h]; simp [h]
  · rw [if_neg h]; simp [h]
theorem within_base (k : Nat) (a b c : Int) : nspeculumbase_Within k a b c = some (decide (b ≤ a ∧ a ≤ c)) := by
  unfold nspeculumbase_Within
  by_cases h : b ≤ a
  · rw [if_pos h]; simp [h]
  · rw [if_neg h]; simp [h]
theorem small_l (k : Nat) (M : Int) (hM : 0 ≤ M ∧ M ≤ 10000000000000) (a : List Int) (hl : a.length < 1000000) : ∀ (d fuel i : Nat), a.length = i + d → d < fuel →
    nprofile_areSmall_l0_0 k M a fuel (i : Int) = some (sumB ((a.drop i).all (inB M))) := by
  intro d
  induction d with
  | zero =>
    intro fuel i h hf
    obtain ⟨g, rfl⟩ : ∃ g, fuel = g + 1 := ⟨fuel - 1, by omega⟩
    rw [nprofile_areSmall_l0_0.eq_2, if_neg (by omega), List.drop_eq_nil_of_le (by omega)]; rfl
  | succ d ih =>
    intro fuel i h hf
    obtain ⟨g, rfl⟩ : ∃ g, fuel = g + 1 := ⟨fuel - 1, by omega⟩
    rw [nprofile_areSmall_l0_0.eq_2, if_pos (by omega), if_pos (by omega), within_prof, Option.bind_some, w64_succ (by omega), ih g (i + 1) (by omega) (by omega), drop_get (y := a) (i := i) (by omega) 0, w64_id (by omega) (by omega), Int.zero_sub]
    simp only [Int.toNat_natCast, List.all_cons]
    change (if inB M _ = true then _ else _) = _
    cases inB M (a.getD i 0) <;> rfl
theorem small_any (k : Nat) (M : Int) (hM : 0 ≤ M ∧ M ≤ 10000000000000) (a : List Int) (hl : a.length < 1000000) (hk : 1000000 ≤ k) : nprofile_areSmall k M a = some (a.all (inB M)) := by
  unfold nprofile_areSmall
  rw [show ((0 : Int)) = ((0 : Nat) : Int) from rfl, small_l k M hM a hl a.length k 0 (by omega) (by omega)]
  simp only [List.drop_zero]
  cases a.all (inB M) <;> rfl
theorem mb {x y X Y : Int} (h1 : -X ≤ x ∧ x ≤ X) (h2 : -Y ≤ y ∧ y ≤ Y) : -(X * Y) ≤ x * y ∧ x * y ≤ X * Y := by
  have a1 := Int.mul_nonneg (show 0 ≤ X - x by omega) (show 0 ≤ Y - y by omega)
  have a2 := Int.mul_nonneg (show 0 ≤ X - x by omega) (show 0 ≤ Y + y by omega)
  have a3 := Int.mul_nonneg (show 0 ≤ X + x by omega) (show 0 ≤ Y - y by omega)
  have a4 := Int.mul_nonneg (show 0 ≤ X + x by omega) (show 0 ≤ Y + y by omega)
  constructor <;> grind

def gL : Nat → List Int → Nat
  | g, [] => g
  | g, x :: xs => gL (Nat.gcd g x.natAbs) xs
theorem gcd_step (x y : Int) : Nat.gcd y.natAbs (x.tmod y).natAbs = Nat.gcd x.natAbs y.natAbs := by
  rw [Int.natAbs_tmod, Nat.gcd_comm x.natAbs, Nat.gcd_rec y.natAbs x.natAbs, Nat.gcd_comm]
theorem gl (k : Nat) (a : List Int) (z : Int) : ∀ (n fuel : Nat) (x y : Int), y.natAbs < n → n ≤ fuel →
    ∃ r, nprofile_divisor_l1_0 k a z fuel x y = some r ∧ r.natAbs = Nat.gcd x.natAbs y.natAbs := by
  intro n
  induction n with
  | zero => intro fuel x y h; omega
  | succ n ih =>
    intro fuel x y h hf
    obtain ⟨g, rfl⟩ : ∃ g, fuel = g + 1 := ⟨fuel - 1, by omega⟩
    rw [nprofile_divisor_l1_0.eq_2]
    by_cases h0 : y = 0
    · rw [if_pos h0]
      exact ⟨x, rfl, by rw [h0]; simp⟩
    · rw [if_neg h0, if_pos h0]
      have hy : 0 < y.natAbs := by omega
      obtain ⟨r, e1, e3⟩ := ih g y (x.tmod y) (by rw [Int.natAbs_tmod]; have := Nat.mod_lt x.natAbs hy; omega) (by omega)
      exact ⟨r, e1, by rw [e3, gcd_step]⟩
theorem gcd_le {g B : Nat} {x : Int} (h1 : g ≤ B) (h2 : x.natAbs ≤ B) : Nat.gcd g x.natAbs ≤ B := by
  rcases Nat.eq_zero_or_pos g with h | h
  · rw [h, Nat.gcd_zero_left]; exact h2
  · exact Nat.le_trans (Nat.gcd_le_left _ h) h1
theorem div_l (k : Nat) (a : List Int) (hl : a.length ≤ 10) (hk : 100000000000000 ≤ k) (ha : ∀ i, i < a.length → (a.getD i 0).natAbs ≤ 10000000000000) : ∀ (d fuel i : Nat) (x : Int), a.length = i + d → d < fuel → x.natAbs ≤ 10000000000000 →
    ∃ r, nprofile_divisor_l0_0 k a fuel x (i : Int) = some r ∧ r.natAbs = gL x.natAbs (a.drop i) ∧ r.natAbs ≤ 10000000000000 := by
  intro d
  induction d with
  | zero =>
    intro fuel i x h hf hx
    obtain ⟨g, rfl⟩ : ∃ g, fuel = g + 1 := ⟨fuel - 1, by omega⟩
    rw [nprofile_divisor_l0_0.eq_2, if_neg (by omega), List.drop_eq_nil_of_le (by omega)]
    exact ⟨x, rfl, rfl, hx⟩
  | succ d ih =>
    intro fuel i x h hf hx
    obtain ⟨g, rfl⟩ : ∃ g, fuel = g + 1 := ⟨fuel - 1, by omega⟩
    have hai := ha i (by omega)
    obtain ⟨r, e1, e3⟩ := gl k a (i : Int) k k x (a.getD i 0) (by omega) (Nat.le_refl _)
    have hr : r.natAbs ≤ 10000000000000 := by rw [e3]; exact gcd_le hx hai
    obtain ⟨q, f1, f2, f3⟩ := ih g (i + 1) r (by omega) (by omega) hr
    rw [nprofile_divisor_l0_0.eq_2, if_pos (by omega), if_pos (by omega), Int.toNat_natCast, e1, Option.bind_some, w64_succ (by omega), f1, drop_get (y := a) (i := i) (by omega) 0, gL, ← e3]
    exact ⟨q, rfl, f2, f3⟩
theorem maxI_abs (r : Int) (h : r.natAbs ≤ 10000000000000) : maxI r (w64 (0 - r)) = (r.natAbs : Int) := by
  rw [w64_id (by omega) (by omega)]; unfold maxI; split <;> omega
theorem div_any (k : Nat) (a : List Int) (hl : a.length ≤ 10) (hk : 100000000000000 ≤ k) (ha : ∀ i, i < a.length → (a.getD i 0).natAbs ≤ 10000000000000) : nprofile_divisor k a = some (gL 0 a : Int) := by
  obtain ⟨r, e1, e2, e3⟩ := div_l k a hl hk ha a.length k 0 0 (by omega) (by omega) (by simp)
  unfold nprofile_divisor
  rw [show ((0 : Nat) : Int) = 0 from rfl] at e1
  rw [e1, Option.bind_some, maxI_abs r e3, e2]; rfl
theorem gL_dvd0 : ∀ (xs : List Int) (g : Nat), gL g xs ∣ g
  | [], g => Nat.dvd_refl _
  | x :: xs, g => Nat.dvd_trans (gL_dvd0 xs _) (Nat.gcd_dvd_left _ _)
theorem gL_dvd : ∀ (xs : List Int) (g : Nat) (x : Int), x ∈ xs → gL g xs ∣ x.natAbs
  | [], g, x, h => by cases h
  | y :: ys, g, x, h => by
    rcases List.mem_cons.1 h with rfl | h
    · exact Nat.dvd_trans (gL_dvd0 ys _) (Nat.gcd_dvd_right _ _)
    · exact gL_dvd ys _ x h

theorem tdiv_ab {x : Int} {g : Nat} (hx : x.natAbs ≤ 10000000000000) : (x.tdiv g).natAbs ≤ 10000000000000 := by
  rw [Int.natAbs_tdiv]; exact Nat.le_trans (Nat.div_le_self _ _) hx
def lenS (S : Int) (r : List Int) : Bool := decide ((r.length : Int) = S)
def ctE (m : STurnedMaps) : Int :=
  if 1 ≤ m.Sectors ∧ m.Sectors ≤ 24 then (if 1 ≤ (m.Values.length : Int) ∧ (m.Values.length : Int) ≤ 12 then (if m.Sectors.tmod m.Values.length = 0 then
    (match m.Values.all (lenS m.Sectors) with | false => 10 | true => (match m.Values.all (fun r => r.all (inB 100000)) with | false => 2 | true => 0)) else 10) else 10) else 2
theorem lens_p (k : Nat) (m : STurnedMaps) (hl : m.Values.length < 1000000) : ∀ (d fuel i : Nat), m.Values.length = i + d → d < fuel →
    nprofile_CheckTurned_l0_0 k m fuel (i : Int) = some (sumB ((m.Values.drop i).all (lenS m.Sectors))) := by
  intro d
  induction d with
  | zero =>
    intro fuel i h hf
    obtain ⟨g, rfl⟩ : ∃ g, fuel = g + 1 := ⟨fuel - 1, by omega⟩
    rw [nprofile_CheckTurned_l0_0.eq_2, if_neg (by omega), List.drop_eq_nil_of_le (by omega)]; rfl
  | succ d ih =>
    intro fuel i h1 hf
    obtain ⟨g, rfl⟩ : ∃ g, fuel = g + 1 := ⟨fuel - 1, by omega⟩
    have i1 := ih g (i + 1) (by omega) (by omega)
    rw [nprofile_CheckTurned_l0_0.eq_2, w64_succ (by omega), i1, drop_get (y := m.Values) (i := i) (by omega) default, List.all_cons, Int.toNat_natCast]
    simp only [if_pos (show (i : Int) < (m.Values.length : Int) by omega), if_pos (show 0 ≤ (i : Int) ∧ (i : Int) < (m.Values.length : Int) by omega)]
    by_cases hx : ((m.Values.getD i default).length : Int) = m.Sectors
    · rw [if_pos hx, show lenS m.Sectors (m.Values.getD i default) = true from decide_eq_true hx]; rfl
    · rw [if_neg hx, show lenS m.Sectors (m.Values.getD i default) = false from decide_eq_false hx]; rfl
theorem rows_p (k : Nat) (m : STurnedMaps) (hl : m.Values.length < 1000000) (hk : 1000000 ≤ k) (ht : ∀ i, i < m.Values.length → (m.Values.getD i default).length < 1000000) : ∀ (d fuel i : Nat), m.Values.length = i + d → d < fuel →
    nprofile_CheckTurned_l1_0 k m fuel (i : Int) = some (sumB ((m.Values.drop i).all (fun r => r.all (inB 100000)))) := by
  intro d
  induction d with
  | zero =>
    intro fuel i h hf
    obtain ⟨g, rfl⟩ : ∃ g, fuel = g + 1 := ⟨fuel - 1, by omega⟩
    rw [nprofile_CheckTurned_l1_0.eq_2, if_neg (by omega), List.drop_eq_nil_of_le (by omega)]; rfl
  | succ d ih =>
    intro fuel i h1 hf
    obtain ⟨g, rfl⟩ : ∃ g, fuel = g + 1 := ⟨fuel - 1, by omega⟩
    rw [nprofile_CheckTurned_l1_0.eq_2, if_pos (by omega), if_pos (by omega), Int.toNat_natCast, small_any k 100000 (by omega) _ (ht i (by omega)) hk, Option.bind_some, w64_succ (by omega), ih g (i + 1) (by omega) (by omega), drop_get (y := m.Values) (i := i) (by omega) default, List.all_cons]
    cases (m.Values.getD i default).all (inB 100000) <;> rfl
theorem all_len {S : Int} {t : List (List Int)} (h : t.all (lenS S) = true) (i : Nat) (hi : i < t.length) : ((t.getD i default).length : Int) = S := by
  rw [List.all_eq_true] at h
  have := h (t.getD i default) (by rw [List.getD_eq_getElem?_getD, List.getElem?_eq_getElem hi]; exact List.getElem_mem hi)
  exact of_decide_eq_true this
theorem check_any (k : Nat) (m : STurnedMaps) (hl : m.Values.length ≤ 20) (hk : 1000000 ≤ k) : nprofile_CheckTurned k m = some (ctE m) ∧ True := by
  unfold nprofile_CheckTurned ctE
  simp only [within_prof, within_base, Option.bind_some]
  by_cases h1 : 1 ≤ m.Sectors ∧ m.Sectors ≤ 24
  · simp only [if_pos h1, decide_eq_true h1, if_true]
    by_cases h2 : 1 ≤ (m.Values.length : Int) ∧ (m.Values.length : Int) ≤ 12
    · have hne : (m.Values.length : Int) ≠ 0 := by omega
      simp only [if_pos h2, decide_eq_true h2, if_true, if_pos hne]
      by_cases h3 : m.Sectors.tmod m.Values.length = 0
      · have l1 := lens_p k m (by omega) m.Values.length k 0 (by omega) (by omega)
        rw [List.drop_zero, show ((0 : Nat) : Int) = 0 from rfl] at l1
        simp only [if_pos h3, l1, Option.bind_some]
        cases hx : m.Values.all (lenS m.Sectors) with
        | false => exact ⟨rfl, trivial⟩
        | true =>
          have r1 := rows_p k m (by omega) hk (fun i hi => by have := all_len hx i hi; omega) m.Values.length k 0 (by omega) (by omega)
          rw [List.drop_zero, show ((0 : Nat) : Int) = 0 from rfl] at r1
          simp only [sumB]
          rw [r1, Option.bind_some]
          cases m.Values.all (fun r => r.all (inB 100000)) <;> exact ⟨rfl, trivial⟩
      · simp only [if_neg h3]; exact ⟨trivial, trivial⟩
    · simp only [if_neg h2, decide_eq_false h2]; exact ⟨rfl, trivial⟩
  · simp only [if_neg h1, decide_eq_false h1]; exact ⟨rfl, trivial⟩
/-- Valid turned maps: n sectors, s of them from turn to turn. -/
structure GT (m : STurnedMaps) (n s : Nat) : Prop where
  sec : m.Sectors = n
  n0 : 1 ≤ n
  n1 : n ≤ 24
  t0 : 1 ≤ m.Values.length
  t1 : m.Values.length ≤ 12
  step : n = s * m.Values.length
  len : ∀ t, t < m.Values.length → (m.Values.getD t default).length = n
  bnd : ∀ t i, t < m.Values.length → i < n → -100000 ≤ (m.Values.getD t default).getD i 0 ∧ (m.Values.getD t default).getD i 0 ≤ 100000
theorem ctE_zero {m : STurnedMaps} (h : ctE m = 0) : ∃ n s, GT m n s := by
  unfold ctE at h
  by_cases h1 : 1 ≤ m.Sectors ∧ m.Sectors ≤ 24
  · rw [if_pos h1] at h
    by_cases h2 : 1 ≤ (m.Values.length : Int) ∧ (m.Values.length : Int) ≤ 12
    · rw [if_pos h2] at h
      by_cases h3 : m.Sectors.tmod m.Values.length = 0
      · rw [if_pos h3] at h
        cases hx : m.Values.all (lenS m.Sectors) with
        | false => rw [hx] at h; simp at h
        | true =>
          rw [hx] at h
          cases hy : m.Values.all (fun r => r.all (inB 100000)) with
          | false => rw [hy] at h; simp at h
          | true =>
            obtain ⟨n, hn⟩ := Int.eq_ofNat_of_zero_le (show 0 ≤ m.Sectors by omega)
            have hs : n % m.Values.length = 0 := by
              rw [hn] at h3
              have : ((n % m.Values.length : Nat) : Int) = 0 := by rw [Int.ofNat_tmod]; exact h3
              omega
            refine ⟨n, n / m.Values.length, hn, by omega, by omega, by omega, by omega, (Nat.div_mul_cancel (Nat.dvd_of_mod_eq_zero hs)).symm, fun t ht => by have := all_len hx t ht; omega, fun t i ht hi => ?_⟩
            have hl := all_len hx t ht
            rw [List.all_eq_true] at hy
            have h4 := hy (m.Values.getD t default) (by rw [List.getD_eq_getElem?_getD, List.getElem?_eq_getElem ht]; exact List.getElem_mem ht)
            simp only [List.all_eq_true] at h4
            generalize m.Values.getD t default = row at *
            have h5 := h4 (row.getD i 0) (by rw [List.getD_eq_getElem?_getD, List.getElem?_eq_getElem (show i < row.length by omega)]; exact List.getElem_mem _)
            exact of_decide_eq_true h5
      · rw [if_neg h3] at h; simp at h
    · rw [if_neg h2] at h; simp at h
  · rw [if_neg h1] at h; simp at h

/- Lists as functions. -/
def lst (n : Nat) (g : Nat → Int) : List Int := (List.range n).map g
theorem lst_len (n : Nat) (g : Nat → Int) : (lst n g).length = n := by simp [lst]
theorem lst_get {n : Nat} (g : Nat → Int) {i : Nat} (h : i < n) : (lst n g).getD i 0 = g i := by
  rw [List.getD_eq_getElem?_getD]; simp [lst, h]
theorem lst_set {n : Nat} (g : Nat → Int) (i : Nat) (x : Int) : (lst n g).set i x = lst n (fun j => if j = i then x else g j) := by
  apply List.ext_getElem
  · simp [lst]
  · intro j h1 h2
    rw [List.getElem_set]
    simp only [lst, List.getElem_map, List.getElem_range]
    by_cases h : i = j
    · rw [if_pos h, if_pos h.symm]
    · rw [if_neg h, if_neg (fun e => h e.symm)]
theorem lst_congr {n : Nat} {g g' : Nat → Int} (h : ∀ j, j < n → g j = g' j) : lst n g = lst n g' :=
  List.map_congr_left fun j hj => h j (List.mem_range.1 hj)
theorem lst_zero (n : Nat) : List.replicate n (0 : Int) = lst n (fun _ => 0) := by
  apply List.ext_getElem
  · simp [lst]
  · intro j h1 h2; simp [lst]
def vv (m : STurnedMaps) (t i : Nat) : Int := (m.Values.getD t default).getD i 0
/-- f t + f (t+1) + .. (d of them) -/
def tsum (f : Nat → Int) (t : Nat) : Nat → Int
  | 0 => 0
  | d + 1 => f t + tsum f (t + 1) d
theorem tsum_bd {f : Nat → Int} {B : Int} : ∀ (d t : Nat), (∀ i, t ≤ i → i < t + d → -B ≤ f i ∧ f i ≤ B) → -(d * B) ≤ tsum f t d ∧ tsum f t d ≤ d * B
  | 0, t, _ => by simp [tsum]
  | d + 1, t, h => by
    have h1 := h t (by omega) (by omega)
    have h2 := tsum_bd d (t + 1) (fun i a b => h i (by omega) (by omega))
    have e : ((d + 1 : Nat) : Int) * B = d * B + B := by rw [Int.natCast_add, Int.add_mul]; simp
    rw [e, tsum]; omega
def rs (m : STurnedMaps) (i : Nat) : Int := tsum (fun t => vv m t i) 0 m.Values.length
theorem rest_p1 (k : Nat) {m : STurnedMaps} {n s : Nat} (hg : GT m n s) (t : Nat) (ht : t < m.Values.length) (g : Nat → Int) (hb : ∀ j, j < n → -10000000 ≤ g j ∧ g j ≤ 10000000) : ∀ (d fuel i : Nat), n = i + d → d < fuel →
    nprofile_restSums_l1_0 k m (t : Int) fuel (lst n (fun j => if j < i then g j + vv m t j else g j)) (i : Int) = some (lst n (fun j => g j + vv m t j)) := by
  have hl := hg.len t ht
  have hn := hg.n1
  intro d
  induction d with
  | zero =>
    intro fuel i h hf
    obtain ⟨p, rfl⟩ : ∃ p, fuel = p + 1 := ⟨fuel - 1, by omega⟩
    rw [nprofile_restSums_l1_0.eq_2, if_neg (by rw [Int.toNat_natCast]; omega)]
    congr 1
    exact lst_congr fun j hj => if_pos (by omega)
  | succ d ih =>
    intro fuel i h hf
    obtain ⟨p, rfl⟩ : ∃ p, fuel = p + 1 := ⟨fuel - 1, by omega⟩
    have h1 := hb i (by omega)
    have h2 := hg.bnd t i ht (by omega)
    have h3 := lst_len n (fun j => if j < i then g j + vv m t j else g j)
    rw [nprofile_restSums_l1_0.eq_2, Int.toNat_natCast, if_pos (by omega), if_pos (by omega), if_pos (by omega), Int.toNat_natCast, lst_get _ (by omega), if_neg (by omega)]
    change nprofile_restSums_l1_0 k m (t : Int) p ((lst n _).set i (w64 (g i + vv m t i))) (w64 ((i : Int) + 1)) = _
    unfold vv at *
    rw [w64_id (by omega) (by omega), w64_succ (by omega), lst_set, ← ih p (i + 1) (by omega) (by omega)]
    congr 1
    apply lst_congr
    intro j hj
    by_cases hji : j = i
    · subst hji; rw [if_pos rfl, if_pos (by omega)]
    · rw [if_neg hji]
      by_cases hlt : j < i
      · rw [if_pos hlt, if_pos (by omega)]
      · rw [if_neg hlt, if_neg (by omega)]
theorem rest_p0 (k : Nat) {m : STurnedMaps} {n s : Nat} (hg : GT m n s) (hk : 100 ≤ k) : ∀ (d fuel t : Nat) (g : Nat → Int), m.Values.length = t + d → d < fuel → (∀ j, j < n → -(t * 100000) ≤ g j ∧ g j ≤ t * 100000) →
    nprofile_restSums_l0_0 k m fuel (lst n g) (t : Int) = some (lst n (fun j => g j + tsum (fun t => vv m t j) t d)) := by
  have hn := hg.n1
  have ht1 := hg.t1
  intro d
  induction d with
  | zero =>
    intro fuel t g h hf hb
    obtain ⟨p, rfl⟩ : ∃ p, fuel = p + 1 := ⟨fuel - 1, by omega⟩
    rw [nprofile_restSums_l0_0.eq_2, if_neg (by omega)]
    congr 1
    exact lst_congr fun j hj => by simp [tsum]
  | succ d ih =>
    intro fuel t g h hf hb
    obtain ⟨p, rfl⟩ : ∃ p, fuel = p + 1 := ⟨fuel - 1, by omega⟩
    have h1 := rest_p1 k hg t (by omega) g (fun j hj => by have := hb j hj; omega) n k 0 (by omega) (by omega)
    rw [show (lst n fun j => if j < 0 then g j + vv m t j else g j) = lst n g from lst_congr fun j hj => if_neg (by omega), show ((0 : Nat) : Int) = 0 from rfl] at h1
    rw [nprofile_restSums_l0_0.eq_2, if_pos (by omega), if_pos (by omega), h1, Option.bind_some, w64_succ (by omega), ih p (t + 1) _ (by omega) (by omega) (fun j hj => by
      have h2 := hb j hj
      have h3 := hg.bnd t j (by omega) hj
      unfold vv; omega)]
    congr 1
    exact lst_congr fun j hj => by rw [tsum, Int.add_assoc]
theorem restSums_any (k : Nat) {m : STurnedMaps} {n s : Nat} (hg : GT m n s) (hk : 100 ≤ k) : nprofile_restSums k m = some (lst n (rs m)) := by
  have h1 := rest_p0 k hg hk m.Values.length k 0 (fun _ => 0) (by omega) (by have := hg.t1; omega) (fun j hj => by simp)
  unfold nprofile_restSums
  rw [if_pos (by have := hg.sec; have := hg.n1; omega), hg.sec, Int.toNat_natCast, lst_zero]
  rw [show ((0 : Nat) : Int) = 0 from rfl] at h1
  rw [h1, Option.bind_some]
  congr 1
  exact lst_congr fun j hj => by rw [Int.zero_add]; rfl
theorem rs_bd {m : STurnedMaps} {n s : Nat} (hg : GT m n s) (i : Nat) (hi : i < n) : -1200000 ≤ rs m i ∧ rs m i ≤ 1200000 := by
  have h1 := tsum_bd (f := fun t => vv m t i) (B := 100000) m.Values.length 0 (fun t _ ht => hg.bnd t i (by omega) hi)
  have := hg.t1
  unfold rs
  omega
end Go.Proofs.Ytmjlboachhpggaa.Vg
