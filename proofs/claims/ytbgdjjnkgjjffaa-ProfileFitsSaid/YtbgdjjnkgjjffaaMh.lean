/- Law of fits, third part: the fit itself solves the normal equations, is in lowest terms, and is accepted. -/
import Derived.Test.YtbgdjjnkgjjffaaMg
set_option linter.unusedVariables false
set_option linter.unusedSimpArgs false
namespace Go.Proofs.Ytbgdjjnkgjjffaa.Vg
open Go Go.Proofs.Ytbgdjjnkgjjffaa.Ev Go.Proofs.Ytbgdjjnkgjjffaa.Vv

theorem copyInts_any (k : Nat) (a : List Int) (hl : a.length ≤ 1000000000) : nspeculumbase_CopyInts k a = some a := by
  unfold nspeculumbase_CopyInts
  rw [if_pos (by simpa using hl)]; rfl
theorem copy_l (k : Nat) (t : List (List Int)) (hl : t.length ≤ 10) (ht : ∀ i, i < t.length → (t.getD i default).length ≤ 25) : ∀ (d fuel i : Nat) (y : List (List Int)), t.length = i + d → d < fuel → y.length = i →
    nspeculumbase_CopyLists_l0_0 k t fuel y (i : Int) = some (y ++ t.drop i) := by
  intro d
  induction d with
  | zero =>
    intro fuel i y h hf hy
    obtain ⟨g, rfl⟩ : ∃ g, fuel = g + 1 := ⟨fuel - 1, by omega⟩
    rw [nspeculumbase_CopyLists_l0_0.eq_2, if_neg (by omega), List.drop_eq_nil_of_le (by omega), List.append_nil]
  | succ d ih =>
    intro fuel i y h hf hy
    obtain ⟨g, rfl⟩ : ∃ g, fuel = g + 1 := ⟨fuel - 1, by omega⟩
    have h1 := ht i (by omega)
    rw [nspeculumbase_CopyLists_l0_0.eq_2, if_pos (by omega), if_pos (by omega), Int.toNat_natCast, copyInts_any k _ (by omega), Option.bind_some, if_pos (by simp; omega), w64_succ (by omega), ih g (i + 1) _ (by omega) (by omega) (by simp; omega), drop_get (y := t) (i := i) (by omega) default, List.append_assoc]
    rfl
theorem copyLists_any (k : Nat) (t : List (List Int)) (hl : t.length ≤ 10) (ht : ∀ i, i < t.length → (t.getD i default).length ≤ 25) (hk : 100 ≤ k) : nspeculumbase_CopyLists k t = some t := by
  unfold nspeculumbase_CopyLists
  have h := copy_l k t hl ht t.length k 0 [] (by omega) (by omega) rfl
  rw [List.drop_zero, List.nil_append, show ((0 : Nat) : Int) = 0 from rfl] at h
  rw [h]; rfl
theorem light_l (k : Nat) (t : List (List Int)) (h : List Int) (f : STermFit) (hl : t.length ≤ 10) : ∀ (d fuel i : Nat), t.length = i + d → d < fuel → (∀ j, j < i → (t.getD j default).length ≤ 25) →
    nspeculumlaw05_ProfileFits_l0_0 k t h f fuel (i : Int) = some (.inl ()) ∨ (nspeculumlaw05_ProfileFits_l0_0 k t h f fuel (i : Int) = some (.inr ()) ∧ ∀ j, j < t.length → (t.getD j default).length ≤ 25) := by
  intro d
  induction d with
  | zero =>
    intro fuel i h1 hf hw
    obtain ⟨g, rfl⟩ : ∃ g, fuel = g + 1 := ⟨fuel - 1, by omega⟩
    rw [nspeculumlaw05_ProfileFits_l0_0.eq_2, if_neg (by omega)]
    exact .inr ⟨rfl, fun j hj => hw j (by omega)⟩
  | succ d ih =>
    intro fuel i h1 hf hw
    obtain ⟨g, rfl⟩ : ∃ g, fuel = g + 1 := ⟨fuel - 1, by omega⟩
    rw [nspeculumlaw05_ProfileFits_l0_0.eq_2, if_pos (by omega), if_pos (by omega), Int.toNat_natCast, w64_succ (by omega)]
    by_cases hx : 25 < ((t.getD i default).length : Int)
    · rw [if_pos hx]; exact .inl rfl
    · rw [if_neg hx]
      exact ih g (i + 1) (by omega) (by omega) (fun j hj => by
        by_cases he : j = i
        · rw [he]; omega
        · exact hw j (by omega))
def solveV : List (List Int) → List Int → List Int × Int
  | [a], h => ([dotL a h], dotL a a)
  | [a, b], h => ([dotL a h * dotL b b - dotL b h * dotL a b, dotL b h * dotL a a - dotL a h * dotL a b], dotL a a * dotL b b - dotL a b * dotL a b)
  | _, _ => ([], 0)
theorem cs (p q : Int) : ∀ (a b : List Int), a.length = b.length → 0 ≤ p * p * dotL b b - 2 * p * q * dotL a b + q * q * dotL a a
  | [], [], _ => by simp [dotL]
  | [], _ :: _, h => by simp at h
  | _ :: _, [], h => by simp at h
  | x :: xs, y :: ys, h => by
    have h1 := cs p q xs ys (by simpa using h)
    have h2 : 0 ≤ (p * y - q * x) * (p * y - q * x) := by
      rcases Int.le_total 0 (p * y - q * x) with g | g
      · exact Int.mul_nonneg g g
      · exact Int.mul_nonneg_of_nonpos_of_nonpos g g
    simp only [dotL]
    grind
theorem dot_self (a : List Int) : 0 ≤ dotL a a := by
  have := cs 0 1 a a rfl
  grind
theorem sq_pos (x : Int) : 0 ≤ x * x := by
  rcases Int.le_total 0 x with g | g
  · exact Int.mul_nonneg g g
  · exact Int.mul_nonneg_of_nonpos_of_nonpos g g
theorem den_pos (a b : List Int) (h : a.length = b.length) : 0 ≤ dotL a a * dotL b b - dotL a b * dotL a b := by
  have ha := dot_self a
  have hb := dot_self b
  rcases Int.lt_or_eq_of_le ha with hp | hz
  · have h1 := cs (dotL a a) (dotL a b) a b h
    have h2 : 0 ≤ dotL a a * (dotL a a * dotL b b - dotL a b * dotL a b) := by grind
    rcases Int.lt_or_le (dotL a a * dotL b b - dotL a b * dotL a b) 0 with g | g
    · have := Int.mul_neg_of_pos_of_neg hp g
      omega
    · exact g
  · have h1 := cs 1 ((dotL b b + 1) * dotL a b) a b h
    have hs := sq_pos (dotL a b)
    have h3 := Int.mul_nonneg hb hs
    have h4 : dotL a b * dotL a b ≤ 0 := by
      rcases Int.lt_or_le 0 (dotL a b * dotL a b) with g | g
      · have h5 : dotL b b ≤ dotL b b * (dotL a b * dotL a b) := by
          have := Int.mul_le_mul_of_nonneg_left (show 1 ≤ dotL a b * dotL a b by omega) hb
          omega
        have h6 : 0 ≤ dotL b b - 2 * (dotL b b * (dotL a b * dotL a b)) - 2 * (dotL a b * dotL a b) := by
          rw [← hz] at h1
          grind
        omega
      · exact g
    rw [← hz]
    omega
structure Sol (t : List (List Int)) (h : List Int) : Prop where
  len : (solveV t h).1.length = t.length
  nb : ∀ i, i < t.length → ((solveV t h).1.getD i 0).natAbs ≤ 10000000000000
  d0 : 0 ≤ (solveV t h).2
  d1 : (solveV t h).2 ≤ 100000000000
theorem sol {t : List (List Int)} {h : List Int} (h0 : fE t h = 0) : Sol t h := by
  obtain ⟨_, e2, e3, e4⟩ := fE_zero h0
  rcases e4 with ⟨a, rfl, ra⟩ | ⟨a, b, rfl, ra, rb⟩
  · have aa := dot_bd (ra.pr ra) (by omega) e2
    have ah := dot_bd (ra.pr e3) (by omega) e2
    refine ⟨rfl, fun i hi => ?_, dot_self a, ?_⟩
    · simp at hi; subst hi; show (dotL a h).natAbs ≤ _; omega
    · show dotL a a ≤ _; omega
  · have aa := dot_bd (ra.pr ra) (by omega) e2
    have bb := dot_bd (rb.pr rb) (by omega) e2
    have ab := dot_bd (ra.pr rb) (by omega) e2
    have ah := dot_bd (ra.pr e3) (by omega) e2
    have bh := dot_bd (rb.pr e3) (by omega) e2
    have m1 := mb ah bb
    have m2 := mb bh ab
    have m3 := mb bh aa
    have m4 := mb ah ab
    have m5 := mb aa bb
    have m6 := mb ab ab
    refine ⟨rfl, fun i hi => ?_, den_pos a b (by rw [ra.len, rb.len]), ?_⟩
    · rcases i with _ | i
      · show (dotL a h * dotL b b - dotL b h * dotL a b).natAbs ≤ _; omega
      · simp at hi; obtain rfl : i = 0 := by omega
        show (dotL b h * dotL a a - dotL a h * dotL a b).natAbs ≤ _; omega
    · show dotL a a * dotL b b - dotL a b * dotL a b ≤ _; omega
theorem solve_any (k : Nat) {t : List (List Int)} {h : List Int} (h0 : fE t h = 0) (hk : 100 ≤ k) : nprofile_solve k t h = some (solveV t h) := by
  obtain ⟨_, e2, e3, e4⟩ := fE_zero h0
  unfold nprofile_solve
  rcases e4 with ⟨a, rfl, ra⟩ | ⟨a, b, rfl, ra, rb⟩
  · have aa := (prod_any k (ra.pr ra) (by omega) e2 (by omega) hk).1
    have ah := (prod_any k (ra.pr e3) (by omega) e2 (by omega) hk).1
    rw [if_pos (by simp), if_pos (by simp)]
    change (nprofile_product k a h).bind (fun r236 => (nprofile_product k a a).bind fun r238 => some ([r236], r238)) = _
    rw [aa, ah]; rfl
  · have aa := (prod_any k (ra.pr ra) (by omega) e2 (by omega) hk).1
    have ah := (prod_any k (ra.pr e3) (by omega) e2 (by omega) hk).1
    have bb := (prod_any k (rb.pr rb) (by omega) e2 (by omega) hk).1
    have ab := (prod_any k (ra.pr rb) (by omega) e2 (by omega) hk).1
    have bh := (prod_any k (rb.pr e3) (by omega) e2 (by omega) hk).1
    have baa := dot_bd (ra.pr ra) (by omega) e2
    have bbb := dot_bd (rb.pr rb) (by omega) e2
    have bab := dot_bd (ra.pr rb) (by omega) e2
    have bah := dot_bd (ra.pr e3) (by omega) e2
    have bbh := dot_bd (rb.pr e3) (by omega) e2
    have m1 := mb bah bbb
    have m2 := mb bbh bab
    have m3 := mb bbh baa
    have m4 := mb bah bab
    have m5 := mb baa bbb
    have m6 := mb bab bab
    rw [if_pos (by simp), if_neg (by simp), if_pos (by simp)]
    change (nprofile_product k a a).bind (fun r241 => (nprofile_product k a b).bind fun r243 => (nprofile_product k b b).bind fun r245 => (nprofile_product k a h).bind fun r247 => (nprofile_product k b h).bind fun r249 => _) = _
    rw [aa, ab, bb, ah, bh]
    simp only [Option.bind_some]
    rw [w64_id (n := dotL a h * dotL b b) (by omega) (by omega), w64_id (n := dotL b h * dotL a b) (by omega) (by omega), w64_id (n := dotL b h * dotL a a) (by omega) (by omega), w64_id (n := dotL a h * dotL a b) (by omega) (by omega),
      w64_id (n := dotL a a * dotL b b) (by omega) (by omega), w64_id (n := dotL a b * dotL a b) (by omega) (by omega), w64_id (by omega) (by omega), w64_id (by omega) (by omega), w64_id (by omega) (by omega)]
    rfl
def gV (t : List (List Int)) (h : List Int) : Nat := gL (solveV t h).2.natAbs (solveV t h).1
def fitV (t : List (List Int)) (h : List Int) : STermFit := ⟨(solveV t h).1.map (fun x => x.tdiv (gV t h)), (solveV t h).2.tdiv (gV t h)⟩
theorem gV_pos {t : List (List Int)} {h : List Int} (hd : (solveV t h).2 ≠ 0) : 0 < gV t h := Nat.pos_of_dvd_of_pos (gL_dvd0 _ _) (by omega)
theorem tdiv_ab {x : Int} {g : Nat} (hx : x.natAbs ≤ 10000000000000) : (x.tdiv g).natAbs ≤ 10000000000000 := by
  rw [Int.natAbs_tdiv]; exact Nat.le_trans (Nat.div_le_self _ _) hx
theorem set1 (k : Nat) (r : List Int × Int) (x : Int) (g : Int) (hg : g ≠ 0) (hr : r.1.length = 1) (hx : (x.tdiv g).natAbs ≤ 10000000000000) (m : Nat) : nprofile_Fit_l0_0 k r g (m + 2) [x] 0 = some [x.tdiv g] := by
  rw [nprofile_Fit_l0_0.eq_2, if_pos (by omega), if_pos (by simp), if_pos hg]
  change nprofile_Fit_l0_0 k r g (m + 1) [w64 (x.tdiv g)] (w64 (0 + 1)) = _
  rw [w64_id (n := x.tdiv g) (by omega) (by omega), w64_id (n := 0 + 1) (by omega) (by omega), nprofile_Fit_l0_0.eq_2, if_neg (by omega)]
theorem set2 (k : Nat) (r : List Int × Int) (x y : Int) (g : Int) (hg : g ≠ 0) (hr : r.1.length = 2) (hx : (x.tdiv g).natAbs ≤ 10000000000000) (hy : (y.tdiv g).natAbs ≤ 10000000000000) (m : Nat) : nprofile_Fit_l0_0 k r g (m + 3) [x, y] 0 = some [x.tdiv g, y.tdiv g] := by
  rw [nprofile_Fit_l0_0.eq_2, if_pos (by omega), if_pos (by simp), if_pos hg]
  change nprofile_Fit_l0_0 k r g (m + 2) [w64 (x.tdiv g), y] (w64 (0 + 1)) = _
  rw [w64_id (n := x.tdiv g) (by omega) (by omega), w64_id (n := 0 + 1) (by omega) (by omega), nprofile_Fit_l0_0.eq_2, if_pos (by omega), if_pos (by simp), if_pos hg]
  change nprofile_Fit_l0_0 k r g (m + 1) [x.tdiv g, w64 (y.tdiv g)] (w64 (0 + 1 + 1)) = _
  rw [w64_id (n := y.tdiv g) (by omega) (by omega), w64_id (n := 0 + 1 + 1) (by omega) (by omega), nprofile_Fit_l0_0.eq_2, if_neg (by omega)]
theorem Fit_prog (k : Nat) {t : List (List Int)} {h : List Int} (h0 : fE t h = 0) (hk : 100000000000000 ≤ k) : nprofile_Fit k t h = some (if (solveV t h).2 = 0 then (⟨[], 0⟩, 11) else (fitV t h, 0)) := by
  obtain ⟨_, e2, e3, e4⟩ := fE_zero h0
  have hs := sol h0
  have htl : t.length ≤ 2 := by rcases e4 with ⟨a, rfl, _⟩ | ⟨a, b, rfl, _⟩ <;> simp
  have hlen := hs.len
  have hd0 := hs.d0
  have hd1 := hs.d1
  unfold nprofile_Fit
  rw [fitted_any k t h (by omega) (by omega), Option.bind_some, if_pos h0, solve_any k h0 (by omega), Option.bind_some]
  by_cases hz : (solveV t h).2 = 0
  · rw [if_pos hz, if_pos hz]
  · have hgp := gV_pos hz
    have hdv := div_any k ([(solveV t h).2] ++ (solveV t h).1) (by simp; omega) hk (fun i hi => by
      rcases i with _ | i
      · simp; omega
      · simp only [List.cons_append, List.nil_append, List.getD_cons_succ]
        exact hs.nb i (by simp at hi; omega))
    have e5 : gL 0 ([(solveV t h).2] ++ (solveV t h).1) = gV t h := by simp [gL, gV]
    rw [if_neg hz, if_neg hz, if_pos (by simp; omega), hdv, e5, Option.bind_some]
    have hg0 : ((gV t h : Nat) : Int) ≠ 0 := by omega
    have hdd := tdiv_ab (x := (solveV t h).2) (g := gV t h) (by omega)
    have hl : nprofile_Fit_l0_0 k (solveV t h) (gV t h : Int) k (solveV t h).1 0 = some ((solveV t h).1.map fun x => x.tdiv (gV t h)) := by
      obtain ⟨m, rfl⟩ : ∃ m, k = m + 3 := ⟨k - 3, by omega⟩
      rcases e4 with ⟨a, rfl, _⟩ | ⟨a, b, rfl, _⟩
      · exact set1 _ _ _ _ hg0 rfl (tdiv_ab (hs.nb 0 (by simp))) (m + 1)
      · exact set2 _ _ _ _ _ hg0 rfl (tdiv_ab (hs.nb 0 (by simp))) (tdiv_ab (hs.nb 1 (by simp))) m
    rw [hl, Option.bind_some, if_pos hg0, w64_id (by omega) (by omega)]
    rfl
end Go.Proofs.Ytbgdjjnkgjjffaa.Vg
