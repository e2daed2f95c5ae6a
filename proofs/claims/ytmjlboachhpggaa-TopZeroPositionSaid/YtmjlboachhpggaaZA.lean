/- Maps that a mirror and an instrument make. Plain. -/
import Derived.Test.YtmjlboachhpggaaTc
set_option linter.unusedVariables false
set_option linter.unusedSimpArgs false
namespace Go.Proofs.Ytmjlboachhpggaa.Vg
open Go Go.Proofs.Ytmjlboachhpggaa.Ev Go.Proofs.Ytmjlboachhpggaa.Vv
theorem gt_ct {m : STurnedMaps} {n s : Nat} (hg : GT m n s) : ctE m = 0 := by
  have h1 := hg.n0; have h2 := hg.n1; have h3 := hg.t0; have h4 := hg.t1; have h5 := hg.sec; have h6 := hg.step
  unfold ctE
  rw [h5, if_pos (by omega), if_pos (by omega)]
  have hm : (n : Int).tmod (m.Values.length : Int) = 0 := by
    have : (n : Int) = (s : Int) * (m.Values.length : Int) := by rw [h6]; simp
    rw [this]; exact Int.mul_tmod_left _ _
  rw [if_pos hm]
  have a1 : m.Values.all (lenS (n : Int)) = true := by
    rw [List.all_eq_true]
    intro r hr
    obtain ⟨t, ht, rfl⟩ := List.getElem_of_mem hr
    have := hg.len t ht
    rw [List.getD_eq_getElem?_getD, List.getElem?_eq_getElem ht, Option.getD_some] at this
    unfold lenS; rw [this]; exact decide_eq_true rfl
  have a2 : m.Values.all (fun r => r.all (inB 100000)) = true := by
    rw [List.all_eq_true]
    intro r hr
    obtain ⟨t, ht, rfl⟩ := List.getElem_of_mem hr
    rw [List.all_eq_true]
    intro x hx
    obtain ⟨i, hi, rfl⟩ := List.getElem_of_mem hx
    have hl := hg.len t ht
    have er : m.Values.getD t default = m.Values[t] := by rw [List.getD_eq_getElem?_getD, List.getElem?_eq_getElem ht, Option.getD_some]
    rw [er] at hl
    have hb := hg.bnd t i ht (by omega)
    rw [er, List.getD_eq_getElem?_getD, List.getElem?_eq_getElem hi, Option.getD_some] at hb
    exact decide_eq_true hb
  rw [a1, a2]
/-! sums -/
theorem tsum_last (f : Nat → Int) : ∀ (d t : Nat), tsum f t (d + 1) = tsum f t d + f (t + d)
  | 0, t => by simp [tsum]
  | d + 1, t => by
    have ih := tsum_last f d (t + 1)
    have e1 : tsum f t (d + 1 + 1) = f t + tsum f (t + 1) (d + 1) := rfl
    have e2 : tsum f t (d + 1) = f t + tsum f (t + 1) d := rfl
    rw [e1, e2, ih, show t + 1 + d = t + (d + 1) by omega]; omega
theorem tsum_shift (f : Nat → Int) : ∀ (d t : Nat), tsum f (t + 1) d = tsum (fun u => f (u + 1)) t d
  | 0, t => rfl
  | d + 1, t => by
    show f (t + 1) + tsum f (t + 1 + 1) d = f (t + 1) + tsum (fun u => f (u + 1)) (t + 1) d
    rw [tsum_shift f d (t + 1)]
theorem tsum_congr {f g : Nat → Int} : ∀ (d t : Nat), (∀ u, t ≤ u → u < t + d → f u = g u) → tsum f t d = tsum g t d
  | 0, t, _ => rfl
  | d + 1, t, h => by
    show f t + tsum f (t + 1) d = g t + tsum g (t + 1) d
    rw [h t (Nat.le_refl _) (by omega), tsum_congr d (t + 1) (fun u h1 h2 => h u (by omega) (by omega))]
theorem tsum_const (c : Int) : ∀ (d t : Nat), tsum (fun _ => c) t d = (d : Int) * c
  | 0, t => by simp [tsum]
  | d + 1, t => by
    show c + tsum (fun _ => c) (t + 1) d = _
    rw [tsum_const c d (t + 1), Int.natCast_add, Int.add_mul]; simp; omega
theorem tsum_add (f g : Nat → Int) : ∀ (d t : Nat), tsum (fun u => f u + g u) t d = tsum f t d + tsum g t d
  | 0, t => rfl
  | d + 1, t => by
    show f t + g t + tsum (fun u => f u + g u) (t + 1) d = f t + tsum f (t + 1) d + (g t + tsum g (t + 1) d)
    rw [tsum_add f g d (t + 1)]; omega
/-- the first becomes the last. -/
theorem tsum_rot (f : Nat → Int) (T : Nat) (hT : 1 ≤ T) : tsum (fun t => f (if t + 1 < T then t + 1 else 0)) 0 T = tsum f 0 T := by
  obtain ⟨d, rfl⟩ : ∃ d, T = d + 1 := ⟨T - 1, by omega⟩
  rw [tsum_last, show tsum f 0 (d + 1) = f 0 + tsum f (0 + 1) d from rfl, tsum_shift f d 0, Nat.zero_add, if_neg (by omega), tsum_congr (g := fun u => f (u + 1)) d 0 (fun u _ h => by rw [if_pos (by omega)])]
  omega
/-! the maps -/
def cellW (M I : List Int) (n s t i : Nat) : Int := w64 (M.getD (ivI n s t i) 0 + I.getD i 0)
def rowW (M I : List Int) (n s t : Nat) : List Int := lst n (cellW M I n s t)
def mk (M I : List Int) (n s T : Nat) : STurnedMaps := ⟨(n : Int), (List.range T).map (rowW M I n s)⟩
structure BD (M I : List Int) (n s T : Nat) : Prop where
  lm : M.length = n
  li : I.length = n
  n0 : 1 ≤ n
  n1 : n ≤ 24
  t0 : 1 ≤ T
  t1 : T ≤ 12
  st : n = s * T
  m : ∀ i, i < n → -50000 ≤ M.getD i 0 ∧ M.getD i 0 ≤ 50000
  i : ∀ i, i < n → -50000 ≤ I.getD i 0 ∧ I.getD i 0 ≤ 50000
section
variable {M I : List Int} {n s T : Nat}
theorem BD.ts (B : BD M I n s T) {t : Nat} (ht : t < T) : t * s + s ≤ n ∧ 1 ≤ s := by
  have h1 := Nat.mul_le_mul_right s (show t + 1 ≤ T by omega)
  have h2 := B.st
  have h3 := B.n0
  rw [Nat.add_mul, Nat.one_mul, Nat.mul_comm T] at h1
  refine ⟨by omega, ?_⟩
  rcases Nat.eq_zero_or_pos s with h | h
  · rw [h, Nat.zero_mul] at h2; omega
  · exact h
theorem iv_lt {t i : Nat} (h : t * s ≤ n) (hi : i < n) : ivI n s t i < n ∨ t * s = 0 ∧ ivI n s t i = i := by
  unfold ivI
  by_cases c : t * s ≤ i
  · rw [if_pos c]; omega
  · rw [if_neg c]; omega
theorem iv_in (B : BD M I n s T) {t i : Nat} (ht : t < T) (hi : i < n) : ivI n s t i < n := by
  have := B.ts ht
  unfold ivI; split <;> omega
theorem cell_eq (B : BD M I n s T) {t i : Nat} (ht : t < T) (hi : i < n) : cellW M I n s t i = M.getD (ivI n s t i) 0 + I.getD i 0 := by
  have h1 := B.m _ (iv_in B ht hi)
  have h2 := B.i i hi
  unfold cellW
  exact w64_id (by omega) (by omega)
theorem mk_len : (mk M I n s T).Values.length = T := by simp [mk]
theorem mk_row {t : Nat} (ht : t < T) : (mk M I n s T).Values.getD t default = rowW M I n s t := by
  simp [mk, List.getD_eq_getElem?_getD, List.getElem?_map, List.getElem?_range ht]
theorem mk_vv (B : BD M I n s T) {t i : Nat} (ht : t < T) (hi : i < n) : vv (mk M I n s T) t i = M.getD (ivI n s t i) 0 + I.getD i 0 := by
  unfold vv
  rw [mk_row ht]
  show (lst n (cellW M I n s t)).getD i 0 = _
  rw [lst_get _ hi, cell_eq B ht hi]
theorem mk_gt (B : BD M I n s T) : GT (mk M I n s T) n s := by
  refine ⟨rfl, B.n0, B.n1, by rw [mk_len]; exact B.t0, by rw [mk_len]; exact B.t1, by rw [mk_len]; exact B.st, fun t ht => ?_, fun t i ht hi => ?_⟩
  · rw [mk_len] at ht
    rw [mk_row ht]; exact lst_len _ _
  · rw [mk_len] at ht
    have := mk_vv B ht hi
    unfold vv at this
    rw [this]
    have h1 := B.m _ (iv_in B ht hi)
    have h2 := B.i i hi
    omega
/-- the sum of what a sector's turns show of the mirror. -/
def orb (M : List Int) (n s T j : Nat) : Int := tsum (fun t => M.getD (ivI n s t j) 0) 0 T
def nx (n s j : Nat) : Nat := if j + s < n then j + s else j + s - n
theorem ts_succ (t s : Nat) : (t + 1) * s = t * s + s := by rw [Nat.add_mul, Nat.one_mul]
theorem orb_nx (B : BD M I n s T) {j : Nat} (hj : j < n) : orb M n s T (nx n s j) = orb M n s T j := by
  obtain ⟨d, hd⟩ : ∃ d, T = d + 1 := ⟨T - 1, by have := B.t0; omega⟩
  have hs := (B.ts (t := d) (by omega)).2
  have hn : n = d * s + s := by rw [B.st, hd, Nat.mul_comm, ts_succ]
  unfold orb
  rw [hd, tsum_last (fun t => M.getD (ivI n s t j) 0), show tsum (fun t => M.getD (ivI n s t (nx n s j)) 0) 0 (d + 1) = M.getD (ivI n s 0 (nx n s j)) 0 + tsum (fun t => M.getD (ivI n s t (nx n s j)) 0) (0 + 1) d from rfl, tsum_shift, Nat.zero_add]
  have e1 : ivI n s 0 (nx n s j) = ivI n s d j := by
    unfold ivI nx
    rw [Nat.zero_mul, if_pos (Nat.zero_le _)]
    by_cases c : j + s < n
    · rw [if_pos c, if_neg (by omega)]; omega
    · rw [if_neg c, if_pos (by omega)]; omega
  have e2 : tsum (fun u => M.getD (ivI n s (u + 1) (nx n s j)) 0) 0 d = tsum (fun t => M.getD (ivI n s t j) 0) 0 d := tsum_congr d 0 (fun u _ hu => by
    have h1 := (B.ts (t := u + 1) (by omega)).1
    have h2 : ivI n s (u + 1) (nx n s j) = ivI n s u j := by
      unfold ivI nx
      rw [ts_succ] at h1 ⊢
      generalize u * s = w at *
      by_cases c : j + s < n
      · rw [if_pos c]
        by_cases c2 : w ≤ j
        · rw [if_pos c2, if_pos (by omega)]; omega
        · rw [if_neg c2, if_neg (by omega)]; omega
      · rw [if_neg c, if_pos (show w ≤ j by omega)]
        by_cases c2 : w + s ≤ j + s - n
        · rw [if_pos c2]; omega
        · rw [if_neg c2]; omega
    rw [h2])
  rw [e1, e2]; omega
theorem at_succ (B : BD M I n s T) {t i : Nat} (ht : t + 1 < T) (hi : i < n) : atI n s (t + 1) i = nx n s (atI n s t i) := by
  have h1 := (B.ts (t := t + 1) ht).1
  unfold atI nx
  rw [ts_succ] at h1 ⊢
  generalize t * s = w at *
  by_cases c : i + w < n
  · rw [if_pos c]
    by_cases c2 : i + (w + s) < n
    · rw [if_pos c2, if_pos (by omega)]; omega
    · rw [if_neg c2, if_neg (by omega)]; omega
  · rw [if_neg c, if_neg (by omega)]
    by_cases c2 : i + w - n + s < n
    · rw [if_pos c2]; omega
    · rw [if_neg c2]; omega
theorem at_zero {i : Nat} (hi : i < n) : atI n s 0 i = i := by unfold atI; rw [Nat.zero_mul, if_pos (by omega)]; omega
theorem at_in (B : BD M I n s T) {t i : Nat} (ht : t < T) (hi : i < n) : atI n s t i < n := by
  have := B.ts ht
  unfold atI; split <;> omega
theorem orb_at (B : BD M I n s T) {i : Nat} (hi : i < n) : ∀ t, t < T → orb M n s T (atI n s t i) = orb M n s T i
  | 0, _ => by rw [at_zero hi]
  | t + 1, ht => by rw [at_succ B ht hi, orb_nx B (at_in B (by omega) hi), orb_at B hi t (by omega)]
theorem mk_rs (B : BD M I n s T) {i : Nat} (hi : i < n) : rs (mk M I n s T) i = orb M n s T i + (T : Int) * I.getD i 0 := by
  unfold rs orb
  rw [mk_len, tsum_congr (g := fun t => M.getD (ivI n s t i) 0 + I.getD i 0) T 0 (fun t _ ht => mk_vv B (by omega) hi), tsum_add, tsum_const]
theorem iv_at' (B : BD M I n s T) {t i : Nat} (ht : t < T) (hi : i < n) : ivI n s t (atI n s t i) = i := by
  have := B.ts ht
  unfold ivI atI
  generalize t * s = w at *
  by_cases c : i + w < n
  · rw [if_pos c, if_pos (by omega)]; omega
  · rw [if_neg c]
    by_cases c2 : w ≤ i + w - n
    · rw [if_pos c2]; omega
    · rw [if_neg c2]; omega
theorem mk_mt (B : BD M I n s T) {t i : Nat} (ht : t < T) (hi : i < n) : mt (mk M I n s T) n s t i = M.getD i 0 * (T : Int) - orb M n s T i := by
  have ha := at_in B ht hi
  unfold mt
  rw [mk_vv B ht ha, mk_rs B ha, mk_len, iv_at' B ht hi, orb_at B hi t ht]
  grind
theorem mk_ms (B : BD M I n s T) {i : Nat} (hi : i < n) : ms (mk M I n s T) n s i = (T : Int) * (M.getD i 0 * (T : Int) - orb M n s T i) := by
  unfold ms
  rw [mk_len, tsum_congr (g := fun _ => M.getD i 0 * (T : Int) - orb M n s T i) T 0 (fun t _ ht => mk_mt B (by omega) hi), tsum_const]
/-! begun z turns later -/
def sg (T z t : Nat) : Nat := if t + z < T then t + z else t + z - T
theorem sg_lt {t z : Nat} (ht : t < T) (hz : z ≤ T) : sg T z t < T := by unfold sg; split <;> omega
theorem tsum_sg (f : Nat → Int) (hT : 1 ≤ T) : ∀ z, z ≤ T → tsum (fun t => f (sg T z t)) 0 T = tsum f 0 T
  | 0, _ => tsum_congr T 0 (fun u _ h => by unfold sg; rw [if_pos (by omega), Nat.add_zero])
  | z + 1, hz => by
    have e : tsum (fun t => f (sg T (z + 1) t)) 0 T = tsum (fun t => (fun u => f (if u + 1 < T then u + 1 else 0)) (sg T z t)) 0 T := tsum_congr T 0 (fun u _ h => by
      have : sg T (z + 1) u = if sg T z u + 1 < T then sg T z u + 1 else 0 := by
        unfold sg
        by_cases c : u + z < T
        · rw [if_pos c]
          by_cases c2 : u + (z + 1) < T
          · rw [if_pos c2, if_pos (by omega)]; omega
          · rw [if_neg c2, if_neg (by omega)]; omega
        · rw [if_neg c, if_neg (by omega)]
          by_cases c2 : u + z - T + 1 < T
          · rw [if_pos c2]; omega
          · rw [if_neg c2]; omega
      rw [this])
    rw [e, tsum_sg (fun u => f (if u + 1 < T then u + 1 else 0)) hT z (by omega), tsum_rot f T hT]
def rotM (M I : List Int) (n s T z : Nat) : STurnedMaps := ⟨(n : Int), (List.range T).map (fun t => rowW M I n s (sg T z t))⟩
theorem rot_len {z : Nat} : (rotM M I n s T z).Values.length = T := by simp [rotM]
theorem rot_row {t z : Nat} (ht : t < T) : (rotM M I n s T z).Values.getD t default = rowW M I n s (sg T z t) := by
  simp [rotM, List.getD_eq_getElem?_getD, List.getElem?_map, List.getElem?_range ht]
theorem rot_vv (B : BD M I n s T) {t i z : Nat} (hz : z ≤ T) (ht : t < T) (hi : i < n) : vv (rotM M I n s T z) t i = M.getD (ivI n s (sg T z t) i) 0 + I.getD i 0 := by
  unfold vv
  rw [rot_row ht]
  show (lst n (cellW M I n s _)).getD i 0 = _
  rw [lst_get _ hi, cell_eq B (sg_lt ht hz) hi]
theorem rot_gt (B : BD M I n s T) {z : Nat} (hz : z ≤ T) : GT (rotM M I n s T z) n s := by
  have hl := rot_len (M := M) (I := I) (n := n) (s := s) (T := T) (z := z)
  refine ⟨rfl, B.n0, B.n1, by rw [hl]; exact B.t0, by rw [hl]; exact B.t1, by rw [hl]; exact B.st, fun t ht => ?_, fun t i ht hi => ?_⟩
  · rw [hl] at ht
    rw [rot_row ht]; exact lst_len _ _
  · rw [hl] at ht
    have := rot_vv B hz ht hi
    unfold vv at this
    rw [this]
    have h1 := B.m _ (iv_in B (sg_lt ht hz) hi)
    have h2 := B.i i hi
    omega
theorem rot_rs (B : BD M I n s T) {i z : Nat} (hz : z ≤ T) (hi : i < n) : rs (rotM M I n s T z) i = orb M n s T i + (T : Int) * I.getD i 0 := by
  unfold rs orb
  rw [rot_len, tsum_congr (g := fun t => (fun u => M.getD (ivI n s u i) 0 + I.getD i 0) (sg T z t)) T 0 (fun t _ ht => rot_vv B hz (by omega) hi), tsum_sg (fun u => M.getD (ivI n s u i) 0 + I.getD i 0) B.t0 z hz, tsum_add, tsum_const]
theorem zs (B : BD M I n s T) {z : Nat} (hz : z ≤ T) : z * s ≤ n := by
  rw [B.st, Nat.mul_comm s T]; exact Nat.mul_le_mul_right s hz
theorem ivz_in (B : BD M I n s T) {i z : Nat} (hz : z ≤ T) (hi : i < n) : ivI n s z i < n := by
  have := zs B hz
  unfold ivI; split <;> omega
theorem iv_sg (B : BD M I n s T) {t i z : Nat} (hz : z ≤ T) (ht : t < T) (hi : i < n) : ivI n s (sg T z t) (atI n s t i) = ivI n s z i := by
  have h0 := (B.ts ht).1
  have h1 := zs B hz
  have hn : T * s = n := by rw [B.st, Nat.mul_comm]
  have e1 : (t + z) * s = t * s + z * s := Nat.add_mul _ _ _
  unfold sg
  by_cases c : t + z < T
  · rw [if_pos c]
    have h2 := (B.ts c).1
    unfold ivI atI
    rw [e1] at h2 ⊢
    generalize t * s = w at *
    generalize z * s = v at *
    by_cases c1 : i + w < n
    · rw [if_pos c1]
      by_cases c2 : v ≤ i
      · rw [if_pos c2, if_pos (by omega)]; omega
      · rw [if_neg c2, if_neg (by omega)]; omega
    · rw [if_neg c1]
      by_cases c2 : v ≤ i
      · rw [if_pos c2, if_neg (by omega)]; omega
      · exfalso; omega
  · rw [if_neg c]
    have e2 : (t + z - T) * s + n = t * s + z * s := by rw [← e1, ← hn, ← Nat.add_mul]; congr 1; omega
    unfold ivI atI
    generalize (t + z - T) * s = u at *
    generalize t * s = w at *
    generalize z * s = v at *
    by_cases c1 : i + w < n
    · rw [if_pos c1]
      by_cases c2 : v ≤ i
      · exfalso; omega
      · rw [if_neg c2, if_pos (by omega)]; omega
    · rw [if_neg c1]
      by_cases c2 : v ≤ i
      · rw [if_pos c2, if_pos (by omega)]; omega
      · rw [if_neg c2]
        by_cases c3 : u ≤ i + w - n
        · rw [if_pos c3]; omega
        · rw [if_neg c3]; omega
theorem orb_iv (B : BD M I n s T) {i : Nat} (hi : i < n) : ∀ z, z ≤ T → orb M n s T (ivI n s z i) = orb M n s T i
  | 0, _ => by
    have : ivI n s 0 i = i := by unfold ivI; rw [Nat.zero_mul, if_pos (Nat.zero_le _)]; omega
    rw [this]
  | z + 1, hz => by
    have h1 := zs B hz
    have h2 : nx n s (ivI n s (z + 1) i) = ivI n s z i := by
      unfold nx ivI
      rw [ts_succ] at h1 ⊢
      generalize z * s = v at *
      by_cases c : v + s ≤ i
      · rw [if_pos c, if_pos (by omega), if_pos (by omega)]; omega
      · rw [if_neg c]
        by_cases c2 : v ≤ i
        · rw [if_pos c2, if_neg (by omega)]; omega
        · rw [if_neg c2, if_pos (by omega)]; omega
    rw [← orb_nx B (ivz_in B hz hi), h2]
    exact orb_iv B hi z (by omega)
theorem rot_ms (B : BD M I n s T) {i z : Nat} (hz : z ≤ T) (hi : i < n) : ms (rotM M I n s T z) n s i = ms (mk M I n s T) n s (ivI n s z i) := by
  rw [mk_ms B (ivz_in B hz hi), orb_iv B hi z hz]
  unfold ms
  rw [rot_len, tsum_congr (g := fun _ => M.getD (ivI n s z i) 0 * (T : Int) - orb M n s T i) T 0 (fun t _ ht => by
    have ha := at_in B (t := t) (by omega) hi
    unfold mt
    rw [rot_vv B hz (by omega) ha, rot_rs B hz ha, rot_len, iv_sg B hz (by omega) hi, orb_at B hi t (by omega)]
    grind), tsum_const]
end
theorem fr_congr {f g : Nat → SFrac} : ∀ (d i : Nat), (∀ j, i ≤ j → j < i + d → f j = g j) → fr f i d = fr g i d
  | 0, i, _ => rfl
  | d + 1, i, h => by rw [fr_succ, fr_succ, h i (Nat.le_refl _) (by omega), fr_congr d (i + 1) (fun j h1 h2 => h j (by omega) (by omega))]
theorem fr_len (f : Nat → SFrac) (i d : Nat) : (fr f i d).length = d := by simp [fr]
theorem fr_get (f : Nat → SFrac) {d j : Nat} (h : j < d) : (fr f 0 d).getD j default = f j := by
  simp [fr, List.getD_eq_getElem?_getD, List.getElem?_map, h]
end Go.Proofs.Ytmjlboachhpggaa.Vg
