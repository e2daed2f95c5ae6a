/- Law of turned maps, last part: lists of fractions, the misfit, the law. -/
import Derived.Test.YtbgdjjnkgjjffaaTb
set_option linter.unusedVariables false
set_option linter.unusedSimpArgs false
namespace Go.Proofs.Ytbgdjjnkgjjffaa.Vg
open Go Go.Proofs.Ytbgdjjnkgjjffaa.Ev Go.Proofs.Ytbgdjjnkgjjffaa.Vv

theorem drop_getF {y : List SFrac} {i : Nat} (h : i < y.length) : y.drop i = y.getD i default :: y.drop (i + 1) := by
  rw [List.drop_eq_getElem_cons h, List.getD_eq_getElem?_getD, List.getElem?_eq_getElem h]; rfl
theorem take_setF {y : List SFrac} {i : Nat} (h : i < y.length) (v : SFrac) : (y.set i v).take (i + 1) = y.take i ++ [v] := by
  apply List.ext_getElem
  · simp; omega
  · intro j h1 h2
    simp only [List.getElem_take, List.getElem_set, List.getElem_append, List.length_take]
    simp at h1 h2
    by_cases hj : i = j
    · subst hj; rw [if_pos rfl, dif_neg (by omega)]; simp
    · rw [if_neg hj, dif_pos (by omega)]
def fr (f : Nat → SFrac) (i d : Nat) : List SFrac := (List.range' i d).map f
theorem fr_succ (f : Nat → SFrac) (i d : Nat) : fr f i (d + 1) = f i :: fr f (i + 1) d := by unfold fr; rw [List.range'_succ]; rfl
theorem div_l0 (k : Nat) (n den : Nat) (g : Nat → Int) (hn : n ≤ 24) (hd : 1 ≤ den ∧ den ≤ 1000000) (hb : ∀ j, j < n → (g j).natAbs ≤ 10000000000000) (hk : 100000000000000 ≤ k) : ∀ (d fuel i : Nat) (y : List SFrac), n = i + d → d < fuel → y.length = n →
    nprofile_divided_l0_0 k (lst n g) (den : Int) fuel y (i : Int) = some (y.take i ++ fr (fun j => lw den (g j)) i d) := by
  have hl := lst_len n g
  intro d
  induction d with
  | zero =>
    intro fuel i y h hf hy
    obtain ⟨p, rfl⟩ : ∃ p, fuel = p + 1 := ⟨fuel - 1, by omega⟩
    rw [nprofile_divided_l0_0.eq_2, if_neg (by omega), List.take_of_length_le (by omega)]; simp [fr]
  | succ d ih =>
    intro fuel i y h hf hy
    obtain ⟨p, rfl⟩ : ∃ p, fuel = p + 1 := ⟨fuel - 1, by omega⟩
    rw [nprofile_divided_l0_0.eq_2, if_pos (by omega), if_pos (by omega), Int.toNat_natCast, lst_get g (by omega), (low_p k den (g i) hd.1 hd.2 (hb i (by omega)) hk).1, Option.bind_some, if_pos (by omega), w64_succ (by omega),
      ih p (i + 1) _ (by omega) (by omega) (by simpa using hy), take_setF (by omega), fr_succ, List.append_assoc]
    rfl
theorem divided_any (k : Nat) (n den : Nat) (g : Nat → Int) (hn : n ≤ 24) (hd : 1 ≤ den ∧ den ≤ 1000000) (hb : ∀ j, j < n → (g j).natAbs ≤ 10000000000000) (hk : 100000000000000 ≤ k) : nprofile_divided k (lst n g) (den : Int) = some (fr (fun j => lw den (g j)) 0 n) := by
  have hl := lst_len n g
  have h := div_l0 k n den g hn hd hb hk n k 0 (List.replicate ((lst n g).length : Int).toNat ⟨0, 0⟩) (by omega) (by omega) (by simp [hl])
  unfold nprofile_divided
  rw [show ((0 : Nat) : Int) = 0 from rfl, List.take_zero, List.nil_append] at h
  rw [if_pos (by omega), h]; rfl
theorem mir_l (k : Nat) {m : STurnedMaps} {n s : Nat} (hg : GT m n s) (hk : 100000000000000 ≤ k) : ∀ (d fuel i : Nat) (y : List SFrac), n = i + d → d < fuel → y.length = i →
    nspeculumref05_Mirror_l0_0 k m fuel y (i : Int) = some (y ++ fr (fun j => lw (m.Values.length * m.Values.length) (ms m n s j)) i d) ∧
    nspeculumref05_Rest_l0_0 k m fuel y (i : Int) = some (y ++ fr (fun j => lw m.Values.length (rs m j)) i d) := by
  have hn := hg.n1
  have hsec := hg.sec
  have t0 := hg.t0
  have t1 := hg.t1
  have hp : m.Values.length * m.Values.length ≤ 12 * 12 := Nat.mul_le_mul t1 t1
  have hp1 : 1 * 1 ≤ m.Values.length * m.Values.length := Nat.mul_le_mul t0 t0
  intro d
  induction d with
  | zero =>
    intro fuel i y h hf hy
    obtain ⟨p, rfl⟩ : ∃ p, fuel = p + 1 := ⟨fuel - 1, by omega⟩
    rw [nspeculumref05_Mirror_l0_0.eq_2, nspeculumref05_Rest_l0_0.eq_2, if_neg (by omega), if_neg (by omega)]; simp [fr]
  | succ d ih =>
    intro fuel i y h hf hy
    obtain ⟨p, rfl⟩ : ∃ p, fuel = p + 1 := ⟨fuel - 1, by omega⟩
    have hi : i < n := by omega
    have hm := ms_bd hg i hi
    have hr := rs_bd hg i hi
    have l1 := (low_p k (m.Values.length * m.Values.length) (ms m n s i) (by omega) (by omega) (by omega) hk).2
    have l2 := (low_p k m.Values.length (rs m i) (by omega) (by omega) (by omega) hk).2
    rw [nspeculumref05_Mirror_l0_0.eq_2, nspeculumref05_Rest_l0_0.eq_2, if_pos (by omega), if_pos (by omega)]
    change (nspeculumref05_mirror k m (i : Int)).bind _ = _ ∧ (nspeculumref05_rest k m (i : Int)).bind _ = _
    rw [mirror_ref k hg (by omega) i hi, rest_ref k hg (by omega) i hi, Option.bind_some, Option.bind_some, show (m.Values.length : Int) * (m.Values.length : Int) = ((m.Values.length * m.Values.length : Nat) : Int) by simp, w64_id (n := ((m.Values.length * m.Values.length : Nat) : Int)) (by omega) (by omega), l1, l2, Option.bind_some, Option.bind_some, if_pos (by simp; omega), if_pos (by simp; omega), w64_succ (by omega)]
    obtain ⟨i1, _⟩ := ih p (i + 1) (y ++ [(⟨(lw (m.Values.length * m.Values.length) (ms m n s i)).Num, (lw (m.Values.length * m.Values.length) (ms m n s i)).Den⟩ : SFrac)]) (by omega) (by omega) (by simp; omega)
    obtain ⟨_, i2⟩ := ih p (i + 1) (y ++ [(⟨(lw m.Values.length (rs m i)).Num, (lw m.Values.length (rs m i)).Den⟩ : SFrac)]) (by omega) (by omega) (by simp; omega)
    rw [i1, i2, fr_succ, fr_succ, List.append_assoc, List.append_assoc]
    exact ⟨rfl, rfl⟩
def mirF (m : STurnedMaps) (n s : Nat) : List SFrac := fr (fun j => lw (m.Values.length * m.Values.length) (ms m n s j)) 0 n
def rstF (m : STurnedMaps) (n : Nat) : List SFrac := fr (fun j => lw m.Values.length (rs m j)) 0 n
theorem Mirror_ref (k : Nat) {m : STurnedMaps} {n s : Nat} (hg : GT m n s) (hk : 100000000000000 ≤ k) : nspeculumref05_Mirror k m = some (mirF m n s) ∧ nspeculumref05_Rest k m = some (rstF m n) := by
  have hn := hg.n1
  obtain ⟨h1, h2⟩ := mir_l k hg hk n k 0 [] (by omega) (by omega) rfl
  unfold nspeculumref05_Mirror nspeculumref05_Rest
  rw [show ((0 : Nat) : Int) = 0 from rfl, List.nil_append] at h1 h2
  rw [h1, h2]; exact ⟨rfl, rfl⟩
theorem Mirror_p (k : Nat) {m : STurnedMaps} {n s : Nat} (hg : GT m n s) (h0 : ctE m = 0) (hk : 100000000000000 ≤ k) : nprofile_MirrorPart k m = some (mirF m n s, 0) ∧ nprofile_RestPart k m = some (rstF m n, 0) := by
  have hn := hg.n1
  have t0 := hg.t0
  have t1 := hg.t1
  have hp : m.Values.length * m.Values.length ≤ 12 * 12 := Nat.mul_le_mul t1 t1
  have hp1 : 1 * 1 ≤ m.Values.length * m.Values.length := Nat.mul_le_mul t0 t0
  have c := (check_any k m (by omega) (by omega)).1
  unfold nprofile_MirrorPart nprofile_RestPart
  change (nprofile_CheckTurned k m).bind _ = _ ∧ (nprofile_CheckTurned k m).bind _ = _
  rw [c, Option.bind_some, Option.bind_some, if_pos h0, if_pos h0]
  change (nprofile_mirrorSums k m).bind _ = _ ∧ (nprofile_restSums k m).bind _ = _
  rw [mirrorSums_any k hg (by omega), restSums_any k hg (by omega), Option.bind_some, Option.bind_some, show (m.Values.length : Int) * (m.Values.length : Int) = ((m.Values.length * m.Values.length : Nat) : Int) by simp, w64_id (n := ((m.Values.length * m.Values.length : Nat) : Int)) (by omega) (by omega),
    divided_any k n _ _ hn (by omega) (fun j hj => by have := ms_bd hg j hj; omega) hk, divided_any k n _ _ hn (by omega) (fun j hj => by have := rs_bd hg j hj; omega) hk]
  exact ⟨rfl, rfl⟩
theorem fracs_l (k : Nat) (y : List SFrac) (hl : y.length < 1000000000000) : ∀ (d fuel i : Nat), y.length = i + d → d < fuel → nspeculumbase_Fracs_l0_0 k y y fuel (i : Int) = some (.inr ()) := by
  intro d
  induction d with
  | zero =>
    intro fuel i h hf
    obtain ⟨g, rfl⟩ : ∃ g, fuel = g + 1 := ⟨fuel - 1, by omega⟩
    rw [nspeculumbase_Fracs_l0_0.eq_2, if_neg (by omega)]
  | succ d ih =>
    intro fuel i h hf
    obtain ⟨g, rfl⟩ : ∃ g, fuel = g + 1 := ⟨fuel - 1, by omega⟩
    rw [nspeculumbase_Fracs_l0_0.eq_2, if_pos (by omega), if_pos (by omega), if_pos (by omega), if_pos (by simp), w64_succ (by omega)]
    exact ih g (i + 1) (by omega) (by omega)
theorem fracs_self (k : Nat) (y : List SFrac) (hl : y.length < 1000) (hk : 1000 ≤ k) : nspeculumbase_Fracs k y y = some true := by
  unfold nspeculumbase_Fracs
  rw [if_pos rfl, show (0 : Int) = ((0 : Nat) : Int) from rfl, fracs_l k y (by omega) y.length k 0 (by omega) (by omega)]; rfl

/- The misfit. -/
def ab (n : Int) : Int := if n < 0 then -n else n
theorem abs_any (k : Nat) (n : Int) (h1 : -9223372036854775807 ≤ n) (h2 : n ≤ 9223372036854775807) : nspeculumbase_Abs k n = some (ab n) := by
  unfold nspeculumbase_Abs ab
  by_cases h : n < 0
  · rw [if_pos h, if_pos h, w64_id (by omega) (by omega)]; congr 1; omega
  · rw [if_neg h, if_neg h]
def mx (f : Nat × Nat → Int) : List (Nat × Nat) → Int → Int
  | [], b => b
  | p :: ps, b => mx f ps (maxI b (f p))
theorem mx_append (f : Nat × Nat → Int) : ∀ (xs ys : List (Nat × Nat)) (b : Int), mx f (xs ++ ys) b = mx f ys (mx f xs b)
  | [], _, _ => rfl
  | p :: ps, ys, b => mx_append f ps ys _
theorem maxI_le {a b c : Int} (h1 : a ≤ c) (h2 : b ≤ c) : maxI a b ≤ c := by unfold maxI; split <;> omega
theorem le_maxI1 (a b : Int) : a ≤ maxI a b := by unfold maxI; split <;> omega
theorem le_maxI2 (a b : Int) : b ≤ maxI a b := by unfold maxI; split <;> omega
theorem mx_le (f : Nat × Nat → Int) {M : Int} : ∀ (xs : List (Nat × Nat)) (b : Int), b ≤ M → (∀ p ∈ xs, f p ≤ M) → mx f xs b ≤ M
  | [], b, h, _ => h
  | p :: ps, b, h, h2 => mx_le f ps _ (maxI_le h (h2 p (by simp))) (fun q hq => h2 q (by simp [hq]))
theorem le_mx (f : Nat × Nat → Int) : ∀ (xs : List (Nat × Nat)) (b : Int), b ≤ mx f xs b
  | [], b => Int.le_refl _
  | p :: ps, b => Int.le_trans (le_maxI1 b (f p)) (le_mx f ps _)
theorem mem_mx (f : Nat × Nat → Int) : ∀ (xs : List (Nat × Nat)) (b : Int) (p : Nat × Nat), p ∈ xs → f p ≤ mx f xs b
  | [], b, p, h => by cases h
  | q :: ps, b, p, h => by
    rcases List.mem_cons.1 h with rfl | h
    · exact Int.le_trans (le_maxI2 b (f p)) (le_mx f ps _)
    · exact mem_mx f ps _ p h
def rowT (t i : Nat) : Nat → List (Nat × Nat)
  | 0 => []
  | d + 1 => (t, i) :: rowT t (i + 1) d
def gridT (n t : Nat) : Nat → List (Nat × Nat)
  | 0 => []
  | d + 1 => rowT t 0 n ++ gridT n (t + 1) d
theorem mem_rowT {t : Nat} : ∀ (d i : Nat) (p : Nat × Nat), p ∈ rowT t i d ↔ p.1 = t ∧ i ≤ p.2 ∧ p.2 < i + d := by
  intro d
  induction d with
  | zero => intro i p; simp only [rowT, List.not_mem_nil, false_iff]; omega
  | succ d ih =>
    intro i p
    rw [rowT, List.mem_cons, ih]
    constructor
    · rintro (rfl | h1)
      · simp
      · omega
    · intro h1
      by_cases h2 : p.2 = i
      · left; exact Prod.ext h1.1 h2
      · right; omega
theorem mem_gridT {n : Nat} : ∀ (d t : Nat) (p : Nat × Nat), p ∈ gridT n t d ↔ t ≤ p.1 ∧ p.1 < t + d ∧ p.2 < n := by
  intro d
  induction d with
  | zero => intro t p; simp only [gridT, List.not_mem_nil, false_iff]; omega
  | succ d ih =>
    intro t p
    rw [gridT, List.mem_append, mem_rowT, ih]
    omega
def ml (m : STurnedMaps) (n s : Nat) (p : Nat × Nat) : Int := ab (vv m p.1 (atI n s p.1 p.2) * m.Values.length * m.Values.length - ms m n s p.2 - rs m (atI n s p.1 p.2) * m.Values.length)
def rl (m : STurnedMaps) (n s : Nat) (p : Nat × Nat) : Int := ab ((m.Values.length * m.Values.length : Nat) * vv m p.1 p.2 - ms m n s (ivI n s p.1 p.2) - m.Values.length * rs m p.2)
theorem ml_rl {m : STurnedMaps} {n s : Nat} (hg : GT m n s) {t i : Nat} (ht : t < m.Values.length) (hi : i < n) : ml m n s (t, i) = rl m n s (t, atI n s t i) := by
  unfold ml rl
  simp only []
  rw [iv_at hg ht hi]
  congr 1
  rw [Int.natCast_mul]
  grind
theorem mis_eq {m : STurnedMaps} {n s : Nat} (hg : GT m n s) : mx (ml m n s) (gridT n 0 m.Values.length) 0 = mx (rl m n s) (gridT n 0 m.Values.length) 0 := by
  apply Int.le_antisymm
  · refine mx_le _ _ _ (le_mx _ _ _) fun p hp => ?_
    have h := (mem_gridT _ _ _).1 hp
    obtain ⟨t, i⟩ := p
    simp only [] at h
    rw [ml_rl hg (by omega) (by omega)]
    exact mem_mx _ _ _ _ ((mem_gridT _ _ _).2 ⟨by simp only []; omega, by simp only []; omega, atI_lt hg (by omega) (by omega)⟩)
  · refine mx_le _ _ _ (le_mx _ _ _) fun p hp => ?_
    have h := (mem_gridT _ _ _).1 hp
    obtain ⟨t, i⟩ := p
    simp only [] at h
    have hiv := ivI_lt hg (t := t) (i := i) (by omega) (by omega)
    have := mem_mx (ml m n s) (gridT n 0 m.Values.length) 0 (t, ivI n s t i) ((mem_gridT _ _ _).2 ⟨by simp only []; omega, by simp only []; omega, hiv⟩)
    rw [ml_rl hg (by omega) hiv, at_iv hg (by omega) (by omega)] at this
    exact this
theorem maxI3 (g l : Int) (h1 : -1000000000000 ≤ l) (h2 : l ≤ 1000000000000) : maxI (maxI g l) (w64 (0 - l)) = maxI g (ab l) := by
  rw [w64_id (by omega) (by omega)]
  unfold maxI ab
  split <;> split <;> split <;> (try split) <;> omega
theorem mis_p1 (k : Nat) {m : STurnedMaps} {n s : Nat} (hg : GT m n s) (t : Nat) (ht : t < m.Values.length) : ∀ (d fuel i : Nat) (b : Int), n = i + d → d < fuel →
    nprofile_Misfit_l1_0 k m (lst n (rs m)) (lst n (ms m n s)) (t : Int) fuel (i : Int) b = some (mx (ml m n s) (rowT t i d) b) := by
  have hn := hg.n1
  have hl := hg.len t ht
  have l1 := lst_len n (rs m)
  have l2 := lst_len n (ms m n s)
  intro d
  induction d with
  | zero =>
    intro fuel i b h hf
    obtain ⟨g, rfl⟩ : ∃ g, fuel = g + 1 := ⟨fuel - 1, by omega⟩
    rw [nprofile_Misfit_l1_0.eq_2, if_neg (by omega)]; rfl
  | succ d ih =>
    intro fuel i b h hf
    obtain ⟨g, rfl⟩ : ∃ g, fuel = g + 1 := ⟨fuel - 1, by omega⟩
    have hi : i < n := by omega
    have ha := atI_lt hg ht hi
    have hK : -12 ≤ (m.Values.length : Int) ∧ (m.Values.length : Int) ≤ 12 := by have := hg.t1; omega
    have hv := hg.bnd t _ ht ha
    have v1 := mb hv hK
    have v2 := mb v1 hK
    have r1 := mb (rs_bd hg _ ha) hK
    have m1 := ms_bd hg i hi
    rw [nprofile_Misfit_l1_0.eq_2, if_pos (by omega)]
    change (nprofile_turned k m (i : Int) (t : Int)).bind _ = _
    rw [turned_any k hg t i ht hi, Option.bind_some, Int.toNat_natCast, if_pos (by omega), if_pos (by omega), if_pos (by omega), Int.toNat_natCast, Int.toNat_natCast, lst_get _ ha, lst_get _ hi,
      w64_id (n := (m.Values.getD t default).getD (atI n s t i) 0 * (m.Values.length : Int)) (by omega) (by omega), w64_id (n := (m.Values.getD t default).getD (atI n s t i) 0 * (m.Values.length : Int) * (m.Values.length : Int)) (by omega) (by omega),
      w64_id (n := (m.Values.getD t default).getD (atI n s t i) 0 * (m.Values.length : Int) * (m.Values.length : Int) - ms m n s i) (by omega) (by omega), w64_id (n := rs m (atI n s t i) * (m.Values.length : Int)) (by omega) (by omega),
      w64_id (n := (m.Values.getD t default).getD (atI n s t i) 0 * (m.Values.length : Int) * (m.Values.length : Int) - ms m n s i - rs m (atI n s t i) * (m.Values.length : Int)) (by omega) (by omega), maxI3 _ _ (by omega) (by omega), w64_succ (by omega), ih g (i + 1) _ (by omega) (by omega)]
    rfl
theorem mis_p0 (k : Nat) {m : STurnedMaps} {n s : Nat} (hg : GT m n s) (hk : 100 ≤ k) : ∀ (d fuel t : Nat) (b : Int), m.Values.length = t + d → d < fuel →
    nprofile_Misfit_l0_0 k m (lst n (rs m)) (lst n (ms m n s)) fuel (t : Int) b = some (mx (ml m n s) (gridT n t d) b) := by
  have ht1 := hg.t1
  have hn := hg.n1
  intro d
  induction d with
  | zero =>
    intro fuel t b h hf
    obtain ⟨g, rfl⟩ : ∃ g, fuel = g + 1 := ⟨fuel - 1, by omega⟩
    rw [nprofile_Misfit_l0_0.eq_2, if_neg (by omega)]; rfl
  | succ d ih =>
    intro fuel t b h hf
    obtain ⟨g, rfl⟩ : ∃ g, fuel = g + 1 := ⟨fuel - 1, by omega⟩
    have h1 := mis_p1 k hg t (by omega) n k 0 b (by omega) (by omega)
    rw [show ((0 : Nat) : Int) = 0 from rfl] at h1
    rw [nprofile_Misfit_l0_0.eq_2, if_pos (by omega), if_pos (by omega), h1, Option.bind_some, w64_succ (by omega), ih g (t + 1) _ (by omega) (by omega), gridT, mx_append]
theorem mod_any (k : Nat) {m : STurnedMaps} {n s : Nat} (hg : GT m n s) (t i : Nat) (ht : t < m.Values.length) (hi : i < n) : nspeculumbase_Mod k ((i : Int) - ((t * s : Nat) : Int)) (n : Int) = some (ivI n s t i : Int) := by
  have h1 := ts_lt hg ht
  have hn := hg.n1
  unfold nspeculumbase_Mod ivI
  rw [if_pos (by omega)]
  by_cases h : t * s ≤ i
  · rw [if_pos h, show (i : Int) - ((t * s : Nat) : Int) = ((i - t * s : Nat) : Int) by omega, ← Int.ofNat_tmod, Nat.mod_eq_of_lt (by omega), if_neg (by omega)]
  · rw [if_neg h, show (i : Int) - ((t * s : Nat) : Int) = -((t * s - i : Nat) : Int) by omega, Int.neg_tmod, ← Int.ofNat_tmod, Nat.mod_eq_of_lt (by omega), if_pos (by omega), w64_id (by omega) (by omega)]
    congr 1; omega
theorem mis_r1 (k : Nat) {m : STurnedMaps} {n s : Nat} (hg : GT m n s) (hk : 100 ≤ k) (t : Nat) (ht : t < m.Values.length) : ∀ (d fuel i : Nat) (b : Int), n = i + d → d < fuel →
    nspeculumref05_Misfit_l1_0 k m (t : Int) fuel b (i : Int) = some (mx (rl m n s) (rowT t i d) b) := by
  have hn := hg.n1
  have hl := hg.len t ht
  have hsec := hg.sec
  have t0 := hg.t0
  have t1 := hg.t1
  have hp : m.Values.length * m.Values.length ≤ 12 * 12 := Nat.mul_le_mul t1 t1
  intro d
  induction d with
  | zero =>
    intro fuel i b h hf
    obtain ⟨g, rfl⟩ : ∃ g, fuel = g + 1 := ⟨fuel - 1, by omega⟩
    rw [nspeculumref05_Misfit_l1_0.eq_2, if_neg (by omega)]; rfl
  | succ d ih =>
    intro fuel i b h hf
    obtain ⟨g, rfl⟩ : ∃ g, fuel = g + 1 := ⟨fuel - 1, by omega⟩
    have hi : i < n := by omega
    have hts := ts_lt hg ht
    have ha := ivI_lt hg ht hi
    have hv := hg.bnd t i ht hi
    have v1 := mb (show -144 ≤ ((m.Values.length * m.Values.length : Nat) : Int) ∧ ((m.Values.length * m.Values.length : Nat) : Int) ≤ 144 by omega) hv
    have r1 := mb (show -12 ≤ (m.Values.length : Int) ∧ (m.Values.length : Int) ≤ 12 by omega) (rs_bd hg i hi)
    have m1 := ms_bd hg _ ha
    rw [nspeculumref05_Misfit_l1_0.eq_2, if_pos (by omega), if_pos (by omega), step_any k hg, show (t : Int) * (s : Int) = ((t * s : Nat) : Int) by simp, w64_id (n := ((t * s : Nat) : Int)) (by omega) (by omega), w64_id (n := (i : Int) - ((t * s : Nat) : Int)) (by omega) (by omega), hsec, mod_any k hg t i ht hi, Option.bind_some]
    have em : (⟨(n : Int), m.Values⟩ : STurnedMaps) = m := by rw [← hsec]
    simp only [em]
    rw [mirror_ref k hg hk _ ha, Option.bind_some, if_pos (by omega), if_pos (by rw [Int.toNat_natCast]; omega), rest_ref k hg hk i hi, Option.bind_some, Int.toNat_natCast, Int.toNat_natCast,
      show (m.Values.length : Int) * (m.Values.length : Int) = ((m.Values.length * m.Values.length : Nat) : Int) by simp, w64_id (n := ((m.Values.length * m.Values.length : Nat) : Int)) (by omega) (by omega),
      w64_id (n := ((m.Values.length * m.Values.length : Nat) : Int) * (m.Values.getD t default).getD i 0) (by omega) (by omega), w64_id (n := ((m.Values.length * m.Values.length : Nat) : Int) * (m.Values.getD t default).getD i 0 - ms m n s (ivI n s t i)) (by omega) (by omega),
      w64_id (n := (m.Values.length : Int) * rs m i) (by omega) (by omega), w64_id (n := ((m.Values.length * m.Values.length : Nat) : Int) * (m.Values.getD t default).getD i 0 - ms m n s (ivI n s t i) - (m.Values.length : Int) * rs m i) (by omega) (by omega),
      abs_any _ _ (by omega) (by omega), Option.bind_some, w64_succ (by omega), ih g (i + 1) _ (by omega) (by omega)]
    rfl
theorem mis_r0 (k : Nat) {m : STurnedMaps} {n s : Nat} (hg : GT m n s) (hk : 100 ≤ k) : ∀ (d fuel t : Nat) (b : Int), m.Values.length = t + d → d < fuel →
    nspeculumref05_Misfit_l0_0 k m fuel b (t : Int) = some (mx (rl m n s) (gridT n t d) b) := by
  have ht1 := hg.t1
  have hn := hg.n1
  intro d
  induction d with
  | zero =>
    intro fuel t b h hf
    obtain ⟨g, rfl⟩ : ∃ g, fuel = g + 1 := ⟨fuel - 1, by omega⟩
    rw [nspeculumref05_Misfit_l0_0.eq_2, if_neg (by omega)]; rfl
  | succ d ih =>
    intro fuel t b h hf
    obtain ⟨g, rfl⟩ : ∃ g, fuel = g + 1 := ⟨fuel - 1, by omega⟩
    have h1 := mis_r1 k hg hk t (by omega) n k 0 b (by omega) (by omega)
    rw [show ((0 : Nat) : Int) = 0 from rfl] at h1
    rw [nspeculumref05_Misfit_l0_0.eq_2, if_pos (by omega), h1, Option.bind_some, w64_succ (by omega), ih g (t + 1) _ (by omega) (by omega), gridT, mx_append]
theorem misfit_any (k : Nat) {m : STurnedMaps} {n s : Nat} (hg : GT m n s) (h0 : ctE m = 0) (hk : 100000000000000 ≤ k) : ∃ q, nprofile_Misfit k m = some (q, 0) ∧ nspeculumref05_Misfit k m = some q := by
  have hn := hg.n1
  have t0 := hg.t0
  have t1 := hg.t1
  have hp : m.Values.length * m.Values.length ≤ 12 * 12 := Nat.mul_le_mul t1 t1
  have hp1 : 1 * 1 ≤ m.Values.length * m.Values.length := Nat.mul_le_mul t0 t0
  have c := (check_any k m (by omega) (by omega)).1
  have a1 := mis_p0 k hg (by omega) m.Values.length k 0 0 (by omega) (by omega)
  have a2 := mis_r0 k hg (by omega) m.Values.length k 0 0 (by omega) (by omega)
  rw [show ((0 : Nat) : Int) = 0 from rfl] at a1 a2
  have hlo := le_mx (rl m n s) (gridT n 0 m.Values.length) 0
  have hhi : mx (rl m n s) (gridT n 0 m.Values.length) 0 ≤ 100000000 := mx_le _ _ _ (by omega) fun p hp => by
    have h := (mem_gridT _ _ _).1 hp
    have hv := hg.bnd p.1 p.2 (by omega) h.2.2
    have v1 := mb (show -144 ≤ ((m.Values.length * m.Values.length : Nat) : Int) ∧ ((m.Values.length * m.Values.length : Nat) : Int) ≤ 144 by omega) hv
    have r1 := mb (show -12 ≤ (m.Values.length : Int) ∧ (m.Values.length : Int) ≤ 12 by omega) (rs_bd hg p.2 h.2.2)
    have m1 := ms_bd hg _ (ivI_lt hg (t := p.1) (i := p.2) (by omega) h.2.2)
    unfold rl ab vv
    split <;> omega
  have l := low_p k (m.Values.length * m.Values.length) (mx (rl m n s) (gridT n 0 m.Values.length) 0) (by omega) (by omega) (by omega) hk
  refine ⟨lw (m.Values.length * m.Values.length) (mx (rl m n s) (gridT n 0 m.Values.length) 0), ?_, ?_⟩
  · unfold nprofile_Misfit
    change (nprofile_CheckTurned k m).bind _ = _
    rw [c, Option.bind_some, if_pos h0]
    change (nprofile_restSums k m).bind (fun r663 => (nprofile_mirrorSums k m).bind fun r665 => _) = _
    rw [restSums_any k hg (by omega), mirrorSums_any k hg (by omega), Option.bind_some, Option.bind_some, a1, Option.bind_some, mis_eq hg, show (m.Values.length : Int) * (m.Values.length : Int) = ((m.Values.length * m.Values.length : Nat) : Int) by simp, w64_id (n := ((m.Values.length * m.Values.length : Nat) : Int)) (by omega) (by omega), l.1]
    rfl
  · unfold nspeculumref05_Misfit
    rw [a2, Option.bind_some, show (m.Values.length : Int) * (m.Values.length : Int) = ((m.Values.length * m.Values.length : Nat) : Int) by simp, w64_id (n := ((m.Values.length * m.Values.length : Nat) : Int)) (by omega) (by omega), l.2]
    rfl
theorem light_l (k : Nat) (m : STurnedMaps) (hl : m.Values.length ≤ 20) : ∀ (d fuel i : Nat), m.Values.length = i + d → d < fuel → (∀ j, j < i → (m.Values.getD j default).length ≤ 30) →
    nspeculumlaw05_Light_l0_0 k m fuel (i : Int) = some (.inl ()) ∨ (nspeculumlaw05_Light_l0_0 k m fuel (i : Int) = some (.inr ()) ∧ ∀ j, j < m.Values.length → (m.Values.getD j default).length ≤ 30) := by
  intro d
  induction d with
  | zero =>
    intro fuel i h1 hf hw
    obtain ⟨g, rfl⟩ : ∃ g, fuel = g + 1 := ⟨fuel - 1, by omega⟩
    rw [nspeculumlaw05_Light_l0_0.eq_2, if_neg (by omega)]
    exact .inr ⟨rfl, fun j hj => hw j (by omega)⟩
  | succ d ih =>
    intro fuel i h1 hf hw
    obtain ⟨g, rfl⟩ : ∃ g, fuel = g + 1 := ⟨fuel - 1, by omega⟩
    rw [nspeculumlaw05_Light_l0_0.eq_2, if_pos (by omega), if_pos (by omega), Int.toNat_natCast, w64_succ (by omega)]
    by_cases hx : 30 < ((m.Values.getD i default).length : Int)
    · rw [if_pos hx]; exact .inl rfl
    · rw [if_neg hx]
      exact ih g (i + 1) (by omega) (by omega) (fun j hj => by
        by_cases he : j = i
        · rw [he]; omega
        · exact hw j (by omega))
theorem law_turns (k : Nat) (m : STurnedMaps) (hk : 100000000000000 ≤ k) : nspeculumlaw05_ProfileTurns k m = some true := by
  unfold nspeculumlaw05_ProfileTurns
  rw [show nawake k = some true from rfl]
  have hm : (⟨m.Sectors, m.Values⟩ : STurnedMaps) = m := rfl
  simp only [Option.bind_some, if_true, hm]
  unfold nspeculumlaw05_Light
  by_cases h15 : 15 < (m.Values.length : Int)
  · rw [if_pos h15]; rfl
  rw [if_neg h15]
  rcases light_l k m (by omega) m.Values.length k 0 (by omega) (by omega) (fun j hj => by omega) with hl | ⟨hl, hw⟩
  · rw [show ((0 : Nat) : Int) = 0 from rfl] at hl
    rw [hl]; rfl
  · rw [show ((0 : Nat) : Int) = 0 from rfl] at hl
    rw [hl]
    simp only [Option.bind_some, if_true]
    unfold nspeculumlaw05_Turned
    rw [copyLists_any k m.Values (by omega) hw (by omega)]
    obtain ⟨c1, c2⟩ := check_any k m (by omega) (by omega)
    simp only [Option.bind_some, hm, c1, c2, if_true]
    by_cases h0 : ctE m = 0
    · obtain ⟨n, s, hg⟩ := ctE_zero h0
      obtain ⟨p1, p2⟩ := Mirror_p k hg h0 hk
      obtain ⟨r1, r2⟩ := Mirror_ref k hg hk
      obtain ⟨q, q1, q2⟩ := misfit_any k hg h0 hk
      have hn := hg.n1
      have f1 := fracs_self k (mirF m n s) (by unfold mirF fr; simp; omega) (by omega)
      have f2 := fracs_self k (rstF m n) (by unfold rstF fr; simp; omega) (by omega)
      simp only [p1, p2, q1, r1, r2, q2, f1, f2, Option.bind_some, if_pos h0, if_true, beq_self_eq_true, Bool.and_true]
    · unfold nprofile_MirrorPart nprofile_RestPart nprofile_Misfit
      simp only [hm, c1, Option.bind_some, if_neg h0]
      rfl
theorem vc_turns (m : STurnedMaps) : VC Go.Proofs.Try.prog 3 [VV.ag [vi m.Sectors, VV.tr (m.Values.map v_41) m.Values.length]] (vb true) :=
  nspeculumlaw05_ProfileTurns_ok 100000000000000 m true (law_turns 100000000000000 m (by decide))
end Go.Proofs.Ytbgdjjnkgjjffaa.Vg
