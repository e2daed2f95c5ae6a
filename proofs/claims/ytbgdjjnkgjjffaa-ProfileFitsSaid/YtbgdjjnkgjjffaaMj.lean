/- Law of fits, last part: the reference's fit, the normal equations, the law. -/
import Derived.Test.YtbgdjjnkgjjffaaMh
set_option linter.unusedVariables false
set_option linter.unusedSimpArgs false
namespace Go.Proofs.Ytbgdjjnkgjjffaa.Vg
open Go Go.Proofs.Ytbgdjjnkgjjffaa.Ev Go.Proofs.Ytbgdjjnkgjjffaa.Vv

theorem Fit_ref (k : Nat) {t : List (List Int)} {h : List Int} (h0 : fE t h = 0) (hk : 100000000000000 ≤ k) : nspeculumref05_Fit k t h = some (if (solveV t h).2 = 0 then (⟨[], 0⟩, false) else (fitV t h, true)) := by
  obtain ⟨_, e2, e3, e4⟩ := fE_zero h0
  have hs := sol h0
  have hd0 := hs.d0
  have hd1 := hs.d1
  unfold nspeculumref05_Fit
  rcases e4 with ⟨a, rfl, ra⟩ | ⟨a, b, rfl, ra, rb⟩
  · have aa := (prod_any k (ra.pr ra) (by omega) e2 (by omega) (by omega)).2
    have ah := (prod_any k (ra.pr e3) (by omega) e2 (by omega) (by omega)).2
    rw [if_pos (by simp)]
    change (nspeculumref05_dot k a h).bind (fun r1326 => (nspeculumref05_dot k a a).bind fun r1328 => _) = _
    rw [aa, ah]
    simp only [Option.bind_some]
    rw [if_neg (by simp)]
    by_cases hz : dotL a a = 0
    · rw [if_pos hz, if_pos (show (solveV [a] h).2 = 0 from hz)]
    · have hgp := gV_pos (t := [a]) (h := h) hz
      have n0 := hs.nb 0 (by simp)
      have n0' : (dotL a h).natAbs ≤ 10000000000000 := n0
      have d1' : dotL a a ≤ 100000000000 := hd1
      have d0' : 0 ≤ dotL a a := hd0
      have hg : (Nat.gcd (dotL a a).natAbs (dotL a h).natAbs : Int) = gV [a] h := rfl
      have hl0 : nspeculumref05_Fit_l0_1 k (dotL a h) (dotL a a) k (dotL a a) 0 = some (gV [a] h : Int) := by
        obtain ⟨m, hm⟩ : ∃ m, k = m + 2 := ⟨k - 2, by omega⟩
        rw [show nspeculumref05_Fit_l0_1 k (dotL a h) (dotL a a) k = nspeculumref05_Fit_l0_1 k (dotL a h) (dotL a a) (m + 2) by rw [← hm], nspeculumref05_Fit_l0_1.eq_2, if_pos (by simp), if_pos (by simp)]
        change (nspeculumbase_Gcd k (dotL a a) (dotL a h)).bind _ = _
        rw [gcd_ref k _ _ (by omega) (by omega) hk, Option.bind_some, w64_id (by omega) (by omega), nspeculumref05_Fit_l0_1.eq_2, if_neg (by simp), hg]
      rw [if_neg hz, if_neg (show ¬ (solveV [a] h).2 = 0 from hz), hl0, Option.bind_some]
      have hg0 : ((gV [a] h : Nat) : Int) ≠ 0 := by omega
      have t0 := tdiv_ab (g := gV [a] h) n0'
      have t1 := tdiv_ab (x := dotL a a) (g := gV [a] h) (by omega)
      have hl1 : nspeculumref05_Fit_l1_1 k (dotL a a) (gV [a] h : Int) k [dotL a h] 0 = some [(dotL a h).tdiv (gV [a] h)] := by
        obtain ⟨m, hm⟩ : ∃ m, k = m + 2 := ⟨k - 2, by omega⟩
        rw [show nspeculumref05_Fit_l1_1 k (dotL a a) (gV [a] h : Int) k = nspeculumref05_Fit_l1_1 k (dotL a a) (gV [a] h : Int) (m + 2) by rw [← hm], nspeculumref05_Fit_l1_1.eq_2, if_pos (by simp), if_pos (by simp), if_pos hg0]
        change nspeculumref05_Fit_l1_1 k (dotL a a) (gV [a] h : Int) (m + 1) [w64 ((dotL a h).tdiv (gV [a] h))] (w64 (0 + 1)) = _
        rw [w64_id (n := (dotL a h).tdiv (gV [a] h)) (by omega) (by omega), w64_id (n := 0 + 1) (by omega) (by omega), nspeculumref05_Fit_l1_1.eq_2, if_neg (by simp)]
      rw [if_pos hg0, hl1, Option.bind_some, w64_id (by omega) (by omega)]
      rfl
  · have aa := (prod_any k (ra.pr ra) (by omega) e2 (by omega) (by omega)).2
    have ah := (prod_any k (ra.pr e3) (by omega) e2 (by omega) (by omega)).2
    have bb := (prod_any k (rb.pr rb) (by omega) e2 (by omega) (by omega)).2
    have ab := (prod_any k (ra.pr rb) (by omega) e2 (by omega) (by omega)).2
    have bh := (prod_any k (rb.pr e3) (by omega) e2 (by omega) (by omega)).2
    have baa := dot_bd (ra.pr ra) (by omega) e2
    have bbb := dot_bd (rb.pr rb) (by omega) e2
    have bab := dot_bd (ra.pr rb) (by omega) e2
    have bah := dot_bd (ra.pr e3) (by omega) e2
    have bbh := dot_bd (rb.pr e3) (by omega) e2
    have m1 := mb bah bbb
    have m2 := mb bbh bab
    have m3 := mb bbh baa
    have m4 := mb bah bab
    have m5 := mb baa bbb
    have m6 := mb bab bab
    have w1 := w64_id (n := dotL a h * dotL b b) (by omega) (by omega)
    have w2 := w64_id (n := dotL b h * dotL a b) (by omega) (by omega)
    have w3 := w64_id (n := dotL b h * dotL a a) (by omega) (by omega)
    have w4 := w64_id (n := dotL a h * dotL a b) (by omega) (by omega)
    have w5 := w64_id (n := dotL a a * dotL b b) (by omega) (by omega)
    have w6 := w64_id (n := dotL a b * dotL a b) (by omega) (by omega)
    have w7 := w64_id (n := dotL a h * dotL b b - dotL b h * dotL a b) (by omega) (by omega)
    have w8 := w64_id (n := dotL b h * dotL a a - dotL a h * dotL a b) (by omega) (by omega)
    have w9 := w64_id (n := dotL a a * dotL b b - dotL a b * dotL a b) (by omega) (by omega)
    rw [if_pos (by simp)]
    change (nspeculumref05_dot k a h).bind (fun r1326 => (nspeculumref05_dot k a a).bind fun r1328 => _) = _
    rw [aa, ah]
    simp only [Option.bind_some]
    rw [if_pos (by simp), if_pos (by simp)]
    change (nspeculumref05_dot k a b).bind (fun r1333 => (nspeculumref05_dot k b b).bind fun r1335 => (nspeculumref05_dot k b h).bind fun r1338 => _) = _
    rw [ab, bb, bh]
    simp only [Option.bind_some, w1, w2, w3, w4, w5, w6, w7, w8, w9]
    by_cases hz : dotL a a * dotL b b - dotL a b * dotL a b = 0
    · rw [if_pos hz, if_pos (show (solveV [a, b] h).2 = 0 from hz)]
    · have hgp := gV_pos (t := [a, b]) (h := h) hz
      have n0 := hs.nb 0 (by simp)
      have n1 := hs.nb 1 (by simp)
      have n0' : (dotL a h * dotL b b - dotL b h * dotL a b).natAbs ≤ 10000000000000 := n0
      have n1' : (dotL b h * dotL a a - dotL a h * dotL a b).natAbs ≤ 10000000000000 := n1
      have d1' : dotL a a * dotL b b - dotL a b * dotL a b ≤ 100000000000 := hd1
      have d0' : 0 ≤ dotL a a * dotL b b - dotL a b * dotL a b := hd0
      have hg : (Nat.gcd (Nat.gcd (dotL a a * dotL b b - dotL a b * dotL a b).natAbs (dotL a h * dotL b b - dotL b h * dotL a b).natAbs) (dotL b h * dotL a a - dotL a h * dotL a b).natAbs : Int) = gV [a, b] h := rfl
      have hl0 : nspeculumref05_Fit_l0_0 k (dotL a h) (dotL a a) (dotL a b) (dotL b b) (dotL b h) k (dotL a a * dotL b b - dotL a b * dotL a b) 0 = some (gV [a, b] h : Int) := by
        obtain ⟨m, hm⟩ : ∃ m, k = m + 3 := ⟨k - 3, by omega⟩
        rw [show nspeculumref05_Fit_l0_0 k (dotL a h) (dotL a a) (dotL a b) (dotL b b) (dotL b h) k = nspeculumref05_Fit_l0_0 k (dotL a h) (dotL a a) (dotL a b) (dotL b b) (dotL b h) (m + 3) by rw [← hm], nspeculumref05_Fit_l0_0.eq_2, if_pos (by simp), if_pos (by simp)]
        simp only [w1, w2, w3, w4, w5, w6, w7, w8, w9]
        change (nspeculumbase_Gcd k _ (dotL a h * dotL b b - dotL b h * dotL a b)).bind _ = _
        have hgl : Nat.gcd (dotL a a * dotL b b - dotL a b * dotL a b).natAbs (dotL a h * dotL b b - dotL b h * dotL a b).natAbs ≤ 10000000000000 := gcd_le (by omega) n0'
        rw [gcd_ref k _ _ (by omega) n0' hk, Option.bind_some, w64_id (n := 0 + 1) (by omega) (by omega), nspeculumref05_Fit_l0_0.eq_2, if_pos (by simp), if_pos (by simp)]
        simp only [w1, w2, w3, w4, w5, w6, w7, w8, w9]
        change (nspeculumbase_Gcd k _ (dotL b h * dotL a a - dotL a h * dotL a b)).bind _ = _
        rw [gcd_ref k _ _ (by omega) n1' hk, Option.bind_some, w64_id (n := 0 + 1 + 1) (by omega) (by omega), nspeculumref05_Fit_l0_0.eq_2, if_neg (by simp), Int.natAbs_natCast, hg]
      rw [if_neg hz, if_neg (show ¬ (solveV [a, b] h).2 = 0 from hz), hl0, Option.bind_some]
      have hg0 : ((gV [a, b] h : Nat) : Int) ≠ 0 := by omega
      have t0 := tdiv_ab (g := gV [a, b] h) n0'
      have t1 := tdiv_ab (g := gV [a, b] h) n1'
      have t2 := tdiv_ab (x := dotL a a * dotL b b - dotL a b * dotL a b) (g := gV [a, b] h) (by omega)
      have hl1 : nspeculumref05_Fit_l1_0 k (dotL a h) (dotL a a) (dotL a b) (dotL b b) (gV [a, b] h : Int) k [dotL a h * dotL b b - dotL b h * dotL a b, dotL b h * dotL a a - dotL a h * dotL a b] 0 = some [(dotL a h * dotL b b - dotL b h * dotL a b).tdiv (gV [a, b] h), (dotL b h * dotL a a - dotL a h * dotL a b).tdiv (gV [a, b] h)] := by
        generalize dotL a h * dotL b b - dotL b h * dotL a b = x at *
        generalize dotL b h * dotL a a - dotL a h * dotL a b = y at *
        obtain ⟨m, hm⟩ : ∃ m, k = m + 3 := ⟨k - 3, by omega⟩
        rw [show nspeculumref05_Fit_l1_0 k (dotL a h) (dotL a a) (dotL a b) (dotL b b) (gV [a, b] h : Int) k = nspeculumref05_Fit_l1_0 k (dotL a h) (dotL a a) (dotL a b) (dotL b b) (gV [a, b] h : Int) (m + 3) by rw [← hm], nspeculumref05_Fit_l1_0.eq_2, if_pos (by simp), if_pos (by simp), if_pos hg0]
        change nspeculumref05_Fit_l1_0 k _ _ _ _ (gV [a, b] h : Int) (m + 2) [w64 (x.tdiv (gV [a, b] h)), y] (w64 (0 + 1)) = _
        rw [w64_id (n := x.tdiv (gV [a, b] h)) (by omega) (by omega), w64_id (n := 0 + 1) (by omega) (by omega), nspeculumref05_Fit_l1_0.eq_2, if_pos (by simp), if_pos (by simp), if_pos hg0]
        change nspeculumref05_Fit_l1_0 k _ _ _ _ (gV [a, b] h : Int) (m + 1) [x.tdiv (gV [a, b] h), w64 (y.tdiv (gV [a, b] h))] (w64 (0 + 1 + 1)) = _
        rw [w64_id (n := y.tdiv (gV [a, b] h)) (by omega) (by omega), w64_id (n := 0 + 1 + 1) (by omega) (by omega), nspeculumref05_Fit_l1_0.eq_2, if_neg (by simp)]
      rw [if_pos hg0, hl1, Option.bind_some]
      rw [if_pos (by simp), w64_id (by omega) (by omega)]
      rfl
theorem dot_lv (r h : List Int) (t : List (List Int)) (f : STermFit) (n : Nat) (hr : r.length = n) (hh : h.length = n) : ∀ (d i : Nat), i + d = n →
    dotL (r.drop i) (lvL t h f i d) = f.Den * dotL (r.drop i) (h.drop i) - dotL (r.drop i) ((List.range' i d).map (sv f.Nums t)) := by
  intro d
  induction d with
  | zero => intro i hi; rw [List.drop_eq_nil_of_le (by omega)]; simp [dotL]
  | succ d ih =>
    intro i hi
    rw [dot_drop (a := r) (b := h) (i := i) (by omega) (by omega), drop_get (y := r) (i := i) (by omega) 0, lvL, dotL, ih (i + 1) (by omega), List.range'_succ, List.map_cons, dotL]
    unfold lv
    grind
theorem sv_one (r a : List Int) (x : Int) (n : Nat) (hr : r.length = n) (ha : a.length = n) : ∀ (d i : Nat), i + d = n → dotL (r.drop i) ((List.range' i d).map (sv [x] [a])) = x * dotL (r.drop i) (a.drop i) := by
  intro d
  induction d with
  | zero => intro i hi; rw [List.drop_eq_nil_of_le (by omega)]; simp [dotL]
  | succ d ih =>
    intro i hi
    rw [dot_drop (a := r) (b := a) (i := i) (by omega) (by omega), drop_get (y := r) (i := i) (by omega) 0, List.range'_succ, List.map_cons, dotL, ih (i + 1) (by omega)]
    simp only [sv]
    grind
theorem sv_two (r a b : List Int) (x y : Int) (n : Nat) (hr : r.length = n) (ha : a.length = n) (hb : b.length = n) : ∀ (d i : Nat), i + d = n → dotL (r.drop i) ((List.range' i d).map (sv [x, y] [a, b])) = x * dotL (r.drop i) (a.drop i) + y * dotL (r.drop i) (b.drop i) := by
  intro d
  induction d with
  | zero => intro i hi; rw [List.drop_eq_nil_of_le (by omega)]; simp [dotL]
  | succ d ih =>
    intro i hi
    rw [dot_drop (a := r) (b := a) (i := i) (by omega) (by omega), dot_drop (a := r) (b := b) (i := i) (by omega) (by omega), drop_get (y := r) (i := i) (by omega) 0, List.range'_succ, List.map_cons, dotL, ih (i + 1) (by omega)]
    simp only [sv]
    grind
theorem exact_div {x : Int} {g : Nat} (h : g ∣ x.natAbs) : x = (g : Int) * x.tdiv g := (Int.mul_tdiv_cancel' (Int.ofNat_dvd_left.2 h)).symm
theorem zero_of {g : Int} (hg : g ≠ 0) {x : Int} (h : g * x = 0) : x = 0 := by
  rcases Int.mul_eq_zero.1 h with h | h
  · exact absurd h hg
  · exact h
theorem fit_ok {t : List (List Int)} {h : List Int} (h0 : fE t h = 0) (hz : (solveV t h).2 ≠ 0) : cfE t h (fitV t h) = 0 := by
  obtain ⟨_, e2, e3, e4⟩ := fE_zero h0
  have hs := sol h0
  have hgp := gV_pos hz
  have hd0 := hs.d0
  have hd1 := hs.d1
  have hg0 : ((gV t h : Nat) : Int) ≠ 0 := by omega
  have xd := exact_div (g := gV t h) (x := (solveV t h).2) (gL_dvd0 _ _)
  have xn : ∀ x ∈ (solveV t h).1, x = (gV t h : Int) * x.tdiv (gV t h) := fun x hx => exact_div (gL_dvd _ _ _ hx)
  have hD : 1 ≤ (fitV t h).Den ∧ (fitV t h).Den ≤ 100000000000 := by
    show 1 ≤ (solveV t h).2.tdiv (gV t h) ∧ (solveV t h).2.tdiv (gV t h) ≤ _
    generalize (solveV t h).2.tdiv (gV t h) = D at xd
    rcases Int.lt_or_le D 1 with g | g
    · have := Int.mul_nonpos_of_nonneg_of_nonpos (show (0 : Int) ≤ gV t h by omega) (show D ≤ 0 by omega)
      omega
    · have := Int.mul_le_mul_of_nonneg_right (show (1 : Int) ≤ gV t h by omega) (show 0 ≤ D by omega)
      omega
  have hN : (fitV t h).Nums.all (inB 10000000000000) = true := by
    rw [List.all_eq_true]
    intro x hx
    obtain ⟨y, hy, rfl⟩ := List.mem_map.1 hx
    obtain ⟨i, hi, rfl⟩ := List.getElem_of_mem hy
    have h1 := hs.nb i (by rw [← hs.len]; exact hi)
    rw [List.getD_eq_getElem?_getD, List.getElem?_eq_getElem hi] at h1
    have h2 := tdiv_ab (g := gV t h) h1
    simp only [Option.getD_some] at h2
    exact decide_eq_true (by omega)
  have hL : (fitV t h).Nums.length = t.length := by
    show ((solveV t h).1.map _).length = _
    rw [List.length_map, hs.len]
  have hG : gL (fitV t h).Den.natAbs (fitV t h).Nums = 1 := by
    have e : gL (gV t h * (fitV t h).Den.natAbs) (solveV t h).1 = gV t h * gL (fitV t h).Den.natAbs (fitV t h).Nums := by
      apply gL_mul
      show _ = ((solveV t h).1.map fun x => x.tdiv (gV t h)).map _
      rw [List.map_map]
      apply List.map_congr_left
      intro x hx
      have := xn x hx
      show x.natAbs = gV t h * (x.tdiv (gV t h)).natAbs
      generalize x.tdiv (gV t h) = y at this
      rw [this, Int.natAbs_mul, Int.natAbs_natCast]
    have e2 : gV t h * (fitV t h).Den.natAbs = (solveV t h).2.natAbs := by
      have e3 : (solveV t h).2 = (gV t h : Int) * (fitV t h).Den := xd
      rw [e3, Int.natAbs_mul, Int.natAbs_natCast]
    rw [e2] at e
    have e3 : gV t h * 1 = gV t h * gL (fitV t h).Den.natAbs (fitV t h).Nums := by rw [← e, Nat.mul_one]; rfl
    exact (Nat.eq_of_mul_eq_mul_left hgp e3).symm
  have hO : t.all (orth (left h.length t h (fitV t h))) = true := by
    rcases e4 with ⟨a, rfl, ra⟩ | ⟨a, b, rfl, ra, rb⟩
    · simp only [List.all_cons, List.all_nil, Bool.and_true]
      have h1 := dot_lv a h [a] (fitV [a] h) h.length ra.len rfl h.length 0 (by omega)
      have h2 := sv_one a a ((dotL a h).tdiv (gV [a] h)) h.length ra.len ra.len h.length 0 (by omega)
      have h3 := xn (dotL a h) (by simp [solveV])
      have h4 : dotL a a = (gV [a] h : Int) * (fitV [a] h).Den := xd
      rw [List.drop_zero] at h1 h2
      apply decide_eq_true
      show dotL a (lvL [a] h (fitV [a] h) 0 h.length) = 0
      rw [h1, show (fitV [a] h).Nums = [(dotL a h).tdiv (gV [a] h)] from rfl, h2]
      generalize (dotL a h).tdiv (gV [a] h) = N at *
      generalize (fitV [a] h).Den = D at *
      rw [List.drop_zero]
      apply zero_of hg0
      grind
    · simp only [List.all_cons, List.all_nil, Bool.and_true, Bool.and_eq_true]
      have h3 := xn (dotL a h * dotL b b - dotL b h * dotL a b) (by simp [solveV])
      have h5 := xn (dotL b h * dotL a a - dotL a h * dotL a b) (by simp [solveV])
      have h4 : dotL a a * dotL b b - dotL a b * dotL a b = (gV [a, b] h : Int) * (fitV [a, b] h).Den := xd
      have hf : (fitV [a, b] h).Nums = [(dotL a h * dotL b b - dotL b h * dotL a b).tdiv (gV [a, b] h), (dotL b h * dotL a a - dotL a h * dotL a b).tdiv (gV [a, b] h)] := rfl
      have hc := dot_comm b a
      constructor
      · have h1 := dot_lv a h [a, b] (fitV [a, b] h) h.length ra.len rfl h.length 0 (by omega)
        have h2 := sv_two a a b ((dotL a h * dotL b b - dotL b h * dotL a b).tdiv (gV [a, b] h)) ((dotL b h * dotL a a - dotL a h * dotL a b).tdiv (gV [a, b] h)) h.length ra.len ra.len rb.len h.length 0 (by omega)
        rw [List.drop_zero] at h1 h2
        apply decide_eq_true
        show dotL a (lvL [a, b] h (fitV [a, b] h) 0 h.length) = 0
        rw [h1, hf, h2, List.drop_zero, List.drop_zero]
        generalize (dotL a h * dotL b b - dotL b h * dotL a b).tdiv (gV [a, b] h) = N at *
        generalize (dotL b h * dotL a a - dotL a h * dotL a b).tdiv (gV [a, b] h) = M at *
        generalize (fitV [a, b] h).Den = D at *
        apply zero_of hg0
        grind
      · have h1 := dot_lv b h [a, b] (fitV [a, b] h) h.length rb.len rfl h.length 0 (by omega)
        have h2 := sv_two b a b ((dotL a h * dotL b b - dotL b h * dotL a b).tdiv (gV [a, b] h)) ((dotL b h * dotL a a - dotL a h * dotL a b).tdiv (gV [a, b] h)) h.length rb.len ra.len rb.len h.length 0 (by omega)
        rw [List.drop_zero] at h1 h2
        apply decide_eq_true
        show dotL b (lvL [a, b] h (fitV [a, b] h) 0 h.length) = 0
        rw [h1, hf, h2, List.drop_zero, List.drop_zero]
        generalize (dotL a h * dotL b b - dotL b h * dotL a b).tdiv (gV [a, b] h) = N at *
        generalize (dotL b h * dotL a a - dotL a h * dotL a b).tdiv (gV [a, b] h) = M at *
        generalize (fitV [a, b] h).Den = D at *
        apply zero_of hg0
        grind
  unfold cfE
  rw [if_pos hL, if_pos hD, hN]
  simp only []
  rw [if_neg (by omega), hO]
theorem ints_l (k : Nat) (y : List Int) (hl : y.length < 1000000000000) : ∀ (d fuel i : Nat), y.length = i + d → d < fuel → nspeculumbase_Ints_l0_0 k y y fuel (i : Int) = some (.inr ()) := by
  intro d
  induction d with
  | zero =>
    intro fuel i h hf
    obtain ⟨g, rfl⟩ : ∃ g, fuel = g + 1 := ⟨fuel - 1, by omega⟩
    rw [nspeculumbase_Ints_l0_0.eq_2, if_neg (by omega)]
  | succ d ih =>
    intro fuel i h hf
    obtain ⟨g, rfl⟩ : ∃ g, fuel = g + 1 := ⟨fuel - 1, by omega⟩
    rw [nspeculumbase_Ints_l0_0.eq_2, if_pos (by omega), if_pos (by omega), if_pos (by omega), if_pos rfl, w64_succ (by omega)]
    exact ih g (i + 1) (by omega) (by omega)
theorem ints_self (k : Nat) (y : List Int) (hl : y.length < 1000) (hk : 1000 ≤ k) : nspeculumbase_Ints k y y = some true := by
  unfold nspeculumbase_Ints
  rw [if_pos rfl, show (0 : Int) = ((0 : Nat) : Int) from rfl, ints_l k y (by omega) y.length k 0 (by omega) (by omega)]; rfl
theorem law_fits (k : Nat) (t : List (List Int)) (h : List Int) (f : STermFit) (hk : 100000000000000 ≤ k) : nspeculumlaw05_ProfileFits k t h f = some true := by
  unfold nspeculumlaw05_ProfileFits
  rw [show nawake k = some true from rfl]
  have hf : (⟨f.Nums, f.Den⟩ : STermFit) = f := rfl
  simp only [Option.bind_some, if_true, hf]
  by_cases h3 : 3 < (t.length : Int)
  · rw [if_pos h3]
  by_cases h25 : 25 < (h.length : Int)
  · rw [if_neg h3, if_pos h25]
  by_cases h4 : 4 < (f.Nums.length : Int)
  · rw [if_neg h3, if_neg h25, if_pos h4]
  rw [if_neg h3, if_neg h25, if_neg h4]
  rcases light_l k t h f (by omega) t.length k 0 (by omega) (by omega) (fun j hj => by omega) with hl | ⟨hl, hw⟩
  · rw [show ((0 : Nat) : Int) = 0 from rfl] at hl
    rw [hl]; rfl
  · rw [show ((0 : Nat) : Int) = 0 from rfl] at hl
    rw [hl, Option.bind_some]
    simp only []
    rw [copyLists_any k t (by omega) hw (by omega), copyInts_any k h (by omega), Option.bind_some, Option.bind_some, copyInts_any k f.Nums (by omega)]
    simp only [Option.bind_some, hf, fitErr_any k t h (by omega) (by omega)]
    by_cases h0 : fE t h = 0
    · obtain ⟨c1, c2⟩ := checkFit_any k t h f h0 (by omega) hk
      rw [Fit_prog k h0 hk, c1, c2, Fit_ref k h0 hk]
      simp only [Option.bind_some, if_pos h0, if_true]
      by_cases hz : (solveV t h).2 = 0
      · simp only [if_pos hz]; rfl
      · have hs := sol h0
        have hL : (fitV t h).Nums.length = t.length := by
          show ((solveV t h).1.map _).length = _
          rw [List.length_map, hs.len]
        simp only [if_neg hz, if_true]
        rw [ints_self k _ (by omega) (by omega), Option.bind_some, if_pos rfl]
        change (nprofile_CheckFit k t h (fitV t h)).bind _ = _
        rw [(checkFit_any k t h (fitV t h) h0 (by omega) hk).1, fit_ok h0 hz]; rfl
    · simp only [if_neg h0]
      unfold nprofile_Fit nprofile_CheckFit
      simp only [fitted_any k t h (show t.length ≤ 3 by omega) (show 1000000 ≤ k by omega), Option.bind_some, if_neg h0]
      simp
theorem vc_fits (t : List (List Int)) (h : List Int) (f : STermFit) : VC Go.Proofs.Try.prog 5 [VV.tr (t.map v_41) t.length, VV.tr (h.map vi) h.length, VV.ag [VV.tr (f.Nums.map vi) f.Nums.length, vi f.Den]] (vb true) :=
  nspeculumlaw05_ProfileFits_ok 100000000000000 t h f true (law_fits 100000000000000 t h f (by decide))
end Go.Proofs.Ytbgdjjnkgjjffaa.Vg
