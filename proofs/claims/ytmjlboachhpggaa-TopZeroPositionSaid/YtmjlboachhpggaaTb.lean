/- Law of turned maps, second half: the mirror's part, the misfit, fractions, the law. -/
import Derived.Test.YtmjlboachhpggaaTa
set_option linter.unusedVariables false
set_option linter.unusedSimpArgs false
namespace Go.Proofs.Ytmjlboachhpggaa.Vg
open Go Go.Proofs.Ytmjlboachhpggaa.Ev Go.Proofs.Ytmjlboachhpggaa.Vv

theorem ts_lt {m : STurnedMaps} {n s : Nat} (hg : GT m n s) {t : Nat} (ht : t < m.Values.length) : t * s + s ≤ n ∧ 1 ≤ s := by
  have h1 := Nat.mul_le_mul_right s (show t + 1 ≤ m.Values.length by omega)
  have h2 := hg.step
  have h3 := hg.n0
  rw [Nat.add_mul, Nat.one_mul, Nat.mul_comm m.Values.length] at h1
  refine ⟨by omega, ?_⟩
  rcases Nat.eq_zero_or_pos s with h | h
  · rw [h, Nat.zero_mul] at h2; omega
  · exact h
def atI (n s t i : Nat) : Nat := if i + t * s < n then i + t * s else i + t * s - n
def ivI (n s t i : Nat) : Nat := if t * s ≤ i then i - t * s else i + n - t * s
theorem atI_lt {m : STurnedMaps} {n s : Nat} (hg : GT m n s) {t i : Nat} (ht : t < m.Values.length) (hi : i < n) : atI n s t i < n := by
  have := ts_lt hg ht
  unfold atI; split <;> omega
theorem ivI_lt {m : STurnedMaps} {n s : Nat} (hg : GT m n s) {t i : Nat} (ht : t < m.Values.length) (hi : i < n) : ivI n s t i < n := by
  have := ts_lt hg ht
  unfold ivI; split <;> omega
theorem at_iv {m : STurnedMaps} {n s : Nat} (hg : GT m n s) {t i : Nat} (ht : t < m.Values.length) (hi : i < n) : atI n s t (ivI n s t i) = i := by
  have := ts_lt hg ht
  unfold atI ivI; split <;> split <;> omega
theorem iv_at {m : STurnedMaps} {n s : Nat} (hg : GT m n s) {t i : Nat} (ht : t < m.Values.length) (hi : i < n) : ivI n s t (atI n s t i) = i := by
  have := ts_lt hg ht
  unfold atI ivI; split <;> split <;> omega
theorem at_mod {m : STurnedMaps} {n s : Nat} (hg : GT m n s) {t i : Nat} (ht : t < m.Values.length) (hi : i < n) : (i + t * s) % n = atI n s t i := by
  have := ts_lt hg ht
  unfold atI
  split
  · exact Nat.mod_eq_of_lt (by omega)
  · rw [Nat.mod_eq_sub_mod (by omega), Nat.mod_eq_of_lt (by omega)]
theorem turned_any (k : Nat) {m : STurnedMaps} {n s : Nat} (hg : GT m n s) (t i : Nat) (ht : t < m.Values.length) (hi : i < n) : nprofile_turned k m (i : Int) (t : Int) = some (atI n s t i : Int) := by
  have h1 := ts_lt hg ht
  have hn := hg.n1
  have ht1 := hg.t1
  have hp : t * n ≤ 12 * 24 := Nat.mul_le_mul (by omega) hn
  have hd : t * n / m.Values.length = t * s := by
    rw [show t * n = (t * s) * m.Values.length by rw [Nat.mul_assoc]; exact congrArg (t * ·) hg.step]
    exact Nat.mul_div_cancel _ (by omega)
  unfold nprofile_turned
  rw [if_pos (by omega), hg.sec, if_pos (by omega), show (t : Int) * (n : Int) = ((t * n : Nat) : Int) by simp, w64_id (n := ((t * n : Nat) : Int)) (by omega) (by omega), ← Int.ofNat_tdiv, hd, w64_id (n := ((t * s : Nat) : Int)) (by omega) (by omega),
    w64_id (n := (i : Int) + ((t * s : Nat) : Int)) (by omega) (by omega), show (i : Int) + ((t * s : Nat) : Int) = ((i + t * s : Nat) : Int) by omega, ← Int.ofNat_tmod, at_mod hg ht hi]
def mt (m : STurnedMaps) (n s t i : Nat) : Int := vv m t (atI n s t i) * m.Values.length - rs m (atI n s t i)
def ms (m : STurnedMaps) (n s i : Nat) : Int := tsum (fun t => mt m n s t i) 0 m.Values.length
theorem mt_bd {m : STurnedMaps} {n s : Nat} (hg : GT m n s) (t i : Nat) (ht : t < m.Values.length) (hi : i < n) : -2400000 ≤ mt m n s t i ∧ mt m n s t i ≤ 2400000 := by
  have h0 := atI_lt hg ht hi
  have h1 := mb (hg.bnd t _ ht h0) (show -12 ≤ (m.Values.length : Int) ∧ (m.Values.length : Int) ≤ 12 by have := hg.t1; omega)
  have h2 := rs_bd hg _ h0
  unfold mt vv; omega
theorem ms_bd {m : STurnedMaps} {n s : Nat} (hg : GT m n s) (i : Nat) (hi : i < n) : -28800000 ≤ ms m n s i ∧ ms m n s i ≤ 28800000 := by
  have h1 := tsum_bd (f := fun t => mt m n s t i) (B := 2400000) m.Values.length 0 (fun t _ ht => mt_bd hg t i (by omega) hi)
  have := hg.t1
  unfold ms
  omega
theorem mir_p1 (k : Nat) {m : STurnedMaps} {n s : Nat} (hg : GT m n s) (t : Nat) (ht : t < m.Values.length) (y1 : List Int) (hy : y1.length = n) (g : Nat → Int) (hb : ∀ j, j < n → -100000000 ≤ g j ∧ g j ≤ 100000000) : ∀ (d fuel i : Nat), n = i + d → d < fuel →
    nprofile_mirrorSums_l1_0 k m (lst n (rs m)) y1 (t : Int) fuel (lst n (fun j => if j < i then g j + mt m n s t j else g j)) (i : Int) = some (lst n (fun j => g j + mt m n s t j)) := by
  have hl := hg.len t ht
  have hn := hg.n1
  intro d
  induction d with
  | zero =>
    intro fuel i h hf
    obtain ⟨p, rfl⟩ : ∃ p, fuel = p + 1 := ⟨fuel - 1, by omega⟩
    rw [nprofile_mirrorSums_l1_0.eq_2, if_neg (by omega)]
    congr 1
    exact lst_congr fun j hj => if_pos (by omega)
  | succ d ih =>
    intro fuel i h hf
    obtain ⟨p, rfl⟩ : ∃ p, fuel = p + 1 := ⟨fuel - 1, by omega⟩
    have h1 := hb i (by omega)
    have ha := atI_lt hg ht (show i < n by omega)
    have hv := hg.bnd t _ ht ha
    have h2 := mb hv (show -12 ≤ (m.Values.length : Int) ∧ (m.Values.length : Int) ≤ 12 by have := hg.t1; omega)
    have h4 := rs_bd hg _ ha
    have h3 := lst_len n (fun j => if j < i then g j + mt m n s t j else g j)
    have h5 := lst_len n (rs m)
    rw [nprofile_mirrorSums_l1_0.eq_2, if_pos (by omega)]
    change (nprofile_turned k m (i : Int) (t : Int)).bind _ = _
    rw [turned_any k hg t i ht (by omega), Option.bind_some, if_pos (by omega), Int.toNat_natCast, if_pos (by omega), if_pos (by omega), Int.toNat_natCast, Int.toNat_natCast, lst_get _ (by omega), lst_get _ ha, if_neg (by omega),
      w64_id (n := (m.Values.getD t default).getD (atI n s t i) 0 * (m.Values.length : Int)) (by omega) (by omega), w64_id (n := (m.Values.getD t default).getD (atI n s t i) 0 * (m.Values.length : Int) - rs m (atI n s t i)) (by omega) (by omega), w64_id (by omega) (by omega), w64_succ (by omega), lst_set, ← ih p (i + 1) (by omega) (by omega)]
    congr 1
    apply lst_congr
    intro j hj
    by_cases hji : j = i
    · subst hji; rw [if_pos rfl, if_pos (by omega)]; rfl
    · rw [if_neg hji]
      by_cases hlt : j < i
      · rw [if_pos hlt, if_pos (by omega)]
      · rw [if_neg hlt, if_neg (by omega)]
theorem mir_p0 (k : Nat) {m : STurnedMaps} {n s : Nat} (hg : GT m n s) (hk : 100 ≤ k) : ∀ (d fuel t : Nat) (g : Nat → Int), m.Values.length = t + d → d < fuel → (∀ j, j < n → -(t * 2400000) ≤ g j ∧ g j ≤ t * 2400000) →
    nprofile_mirrorSums_l0_0 k m (lst n (rs m)) fuel (lst n g) (t : Int) = some (lst n (fun j => g j + tsum (fun t => mt m n s t j) t d)) := by
  have hn := hg.n1
  have ht1 := hg.t1
  intro d
  induction d with
  | zero =>
    intro fuel t g h hf hb
    obtain ⟨p, rfl⟩ : ∃ p, fuel = p + 1 := ⟨fuel - 1, by omega⟩
    rw [nprofile_mirrorSums_l0_0.eq_2, if_neg (by omega)]
    congr 1
    exact lst_congr fun j hj => by simp [tsum]
  | succ d ih =>
    intro fuel t g h hf hb
    obtain ⟨p, rfl⟩ : ∃ p, fuel = p + 1 := ⟨fuel - 1, by omega⟩
    have h1 := mir_p1 k hg t (by omega) (lst n g) (lst_len n g) g (fun j hj => by have := hb j hj; omega) n k 0 (by omega) (by omega)
    rw [show (lst n fun j => if j < 0 then g j + mt m n s t j else g j) = lst n g from lst_congr fun j hj => if_neg (by omega), show ((0 : Nat) : Int) = 0 from rfl] at h1
    rw [nprofile_mirrorSums_l0_0.eq_2, if_pos (by omega), if_pos (by omega), h1, Option.bind_some, w64_succ (by omega), ih p (t + 1) _ (by omega) (by omega) (fun j hj => by
      have h2 := hb j hj
      have h3 := mt_bd hg t j (by omega) hj
      omega)]
    congr 1
    exact lst_congr fun j hj => by rw [tsum, Int.add_assoc]
theorem mirrorSums_any (k : Nat) {m : STurnedMaps} {n s : Nat} (hg : GT m n s) (hk : 100 ≤ k) : nprofile_mirrorSums k m = some (lst n (ms m n s)) := by
  have h1 := mir_p0 k hg hk m.Values.length k 0 (fun _ => 0) (by omega) (by have := hg.t1; omega) (fun j hj => by simp)
  unfold nprofile_mirrorSums
  change (nprofile_restSums k m).bind _ = _
  rw [restSums_any k hg hk, Option.bind_some, if_pos (by have := hg.sec; have := hg.n1; omega), hg.sec, Int.toNat_natCast, lst_zero]
  rw [show ((0 : Nat) : Int) = 0 from rfl] at h1
  rw [h1, Option.bind_some]
  congr 1
  exact lst_congr fun j hj => by rw [Int.zero_add]; rfl
theorem step_any (k : Nat) {m : STurnedMaps} {n s : Nat} (hg : GT m n s) : w64 (m.Sectors.tdiv (m.Values.length : Int)) = (s : Int) := by
  have h2 := hg.step
  have h3 := hg.n1
  have ht0 := hg.t0
  have hd : n / m.Values.length = s := by rw [h2]; exact Nat.mul_div_cancel _ (by omega)
  have hs : s ≤ n := by rw [← hd]; exact Nat.div_le_self _ _
  rw [hg.sec, ← Int.ofNat_tdiv, hd, w64_id (by omega) (by omega)]
/- Fractions. -/
def lw (d : Nat) (x : Int) : SFrac := ⟨x.tdiv (gL 0 [x, d] : Int), (d : Int).tdiv (gL 0 [x, d] : Int)⟩
theorem low_p (k : Nat) (d : Nat) (x : Int) (hd : 1 ≤ d) (hd2 : d ≤ 1000000) (hx : x.natAbs ≤ 10000000000000) (hk : 100000000000000 ≤ k) : nprofile_lowest k x d = some (lw d x) ∧ True := by
  have hv := div_any k [x, (d : Int)] (by simp) hk (fun i hi => by
    rcases i with _ | i
    · exact hx
    · simp at hi; obtain rfl : i = 0 := by omega
      show (d : Int).natAbs ≤ _; omega)
  have e : gL 0 [x, (d : Int)] = Nat.gcd x.natAbs (d : Int).natAbs := by simp [gL]
  have hpos : 0 < gL 0 [x, (d : Int)] := by rw [e]; exact Nat.gcd_pos_of_pos_right _ (by omega)
  have t1 := tdiv_ab (g := gL 0 [x, (d : Int)]) hx
  have t2 := tdiv_ab (x := (d : Int)) (g := gL 0 [x, (d : Int)]) (by omega)
  have hg0 : ((gL 0 [x, (d : Int)] : Nat) : Int) ≠ 0 := by omega
  unfold nprofile_lowest
  rw [hv, Option.bind_some, if_pos hg0, w64_id (n := x.tdiv (gL 0 [x, (d : Int)])) (by omega) (by omega), w64_id (n := (d : Int).tdiv (gL 0 [x, (d : Int)])) (by omega) (by omega)]
  exact ⟨rfl, trivial⟩
end Go.Proofs.Ytmjlboachhpggaa.Vg
