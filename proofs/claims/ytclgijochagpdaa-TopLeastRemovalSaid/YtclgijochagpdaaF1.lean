import Derived.Test.YtclgijochagpdaaF0
set_option linter.unusedVariables false
set_option linter.unusedSimpArgs false
namespace Go.Proofs.Ytclgijochagpdaa.Vg.Fg
open Go Go.Proofs.Ytclgijochagpdaa.Ev Go.Proofs.Ytclgijochagpdaa.Vv Go.Proofs.Ytclgijochagpdaa.Vg
theorem mem_inner (i : Int) : ∀ (d : Nat) (j : Int) (x : Int × Int), x ∈ innerL i j d ↔ x.1 = i /\ j <= x.2 /\ x.2 < j + d /\ x.2 ≠ i := by
 intro d
 induction d with
 | zero => intro j x; simp only [innerL, List.not_mem_nil, false_iff]; omega
 | succ d ih =>
   intro j x
   rw [innerL_eq]
   by_cases h : i = j
   ·rw [if_pos h, ih]
    constructor
    ·rintro ⟨h1, h2, h3, h4⟩; exact ⟨h1, by omega, by omega, h4⟩
    ·rintro ⟨h1, h2, h3, h4⟩; exact ⟨h1, by omega, by omega, h4⟩
   ·rw [if_neg h, List.mem_cons, ih]
    constructor
    ·rintro (rfl | ⟨h1, h2, h3, h4⟩)
     ·exact ⟨rfl, Int.le_refl _, by show j < _; omega, fun e => h e.symm⟩
     ·exact ⟨h1, by omega, by omega, h4⟩
    ·rintro ⟨h1, h2, h3, h4⟩
     by_cases e : x.2 = j
     ·left; obtain ⟨x1, x2⟩ := x; simp only at h1 e; rw [h1, e]
     ·right; exact ⟨h1, by omega, by omega, h4⟩
theorem mem_outer (n : Nat) : ∀ (d : Nat) (i : Int) (x : Int × Int), x ∈ outerL n i d ↔ i <= x.1 /\ x.1 < i + d /\ 0 <= x.2 /\ x.2 < n /\ x.2 ≠ x.1 := by
 intro d
 induction d with
 | zero => intro i x; simp only [outerL, List.not_mem_nil, false_iff]; omega
 | succ d ih =>
   intro i x
   rw [outerL_eq, List.mem_append, ih, mem_inner]
   constructor
   ·rintro (⟨h1, h2, h3, h4⟩ | ⟨h1, h2, h3, h4, h5⟩)
    ·exact ⟨by omega, by omega, by omega, by omega, by omega⟩
    ·exact ⟨by omega, by omega, by omega, by omega, by omega⟩
   ·rintro ⟨h1, h2, h3, h4, h5⟩
    by_cases e : x.1 = i
    ·left; exact ⟨e, by omega, by omega, by omega⟩
    ·right; exact ⟨by omega, by omega, by omega, by omega, by omega⟩
theorem mem_pairs (n : Nat) (x : Int × Int) : x ∈ pairsL (n : Int) ↔ 0 <= x.1 /\ x.1 < n /\ 0 <= x.2 /\ x.2 < n /\ x.2 ≠ x.1 := by
 unfold pairsL
 rw [mem_outer, Int.toNat_natCast, Int.zero_add]
section
variable {k : Nat} {m : SRemovalMap} {n : Nat}
theorem qden_bd (M : OKM m n) {i : Nat} (hi : i < n) : (qq m i * (mn m n).Den).natAbs <= 40000000 := by
 have h1 := M.q i hi
 have h2 := (mn_low M).2.1
 have h3 := (mn_low M).1.d
 exact Nat.le_trans (abs_mul (a := 1000) (b := 40000) (by omega) (by omega)) (by omega)
def arnd (m : SRemovalMap) (n i j : Nat) : Bool := decide (qq m i * (mn m n).Den <= (mn m n).Num /\ (mn m n).Num <= qq m j * (mn m n).Den)
theorem areAround_p (hk : 9223372036854775808 < k) (M : OKM m n) {i j : Nat} (hi : i < n) (hj : j < n) : nfigure_areAround k m (i : Int) (j : Int) = some (arnd m n i j) := by
 have b1 := qden_bd M hi
 have b2 := qden_bd M hj
 have hq := M.lq
 unfold nfigure_areAround arnd
 rw [(means hk M).1, Option.bind_some, if_pos (by omega), Int.toNat_natCast, Int.toNat_natCast]
 show (if w64 (qq m i * (mn m n).Den) <= _ then (if _ then some (decide (_ <= w64 (qq m j * (mn m n).Den))) else none) else _) = _
 rw [w64_id (n := qq m i * _) (by omega) (by omega), w64_id (n := qq m j * _) (by omega) (by omega)]
 by_cases c : qq m i * (mn m n).Den <= (mn m n).Num
 ·rw [if_pos c, if_pos (by omega)]; simp [c]
 ·rw [if_neg c]; simp [c]
theorem through_p (hk : 9223372036854775808 < k) (M : OKM m n) {i j : Nat} (hi : i < n) (hj : j < n) (hq : qq m i < qq m j) : nfigure_through k m (i : Int) (j : Int) = some (thr m i j) := by
 obtain ⟨b1, b2⟩ := thr_bd M hi hj hq
 have h1 := M.h i hi
 have h2 := M.h j hj
 have h3 := M.q i hi
 have h4 := M.q j hj
 have hl := M.ln
 have hlq := M.lq
 unfold nfigure_through
 rw [if_pos (by omega), if_pos (by omega), if_pos (by omega), if_pos (by omega), Int.toNat_natCast, Int.toNat_natCast]
 show ((nfigure_lowest k (w64 (w64 (hh m i * w64 (qq m j - qq m i)) - w64 (w64 (hh m j - hh m i) * qq m i))) (w64 (qq m j - qq m i))).bind fun r1100 => ((nfigure_lowest k (w64 (hh m j - hh m i)) (w64 (qq m j - qq m i))).bind fun r1103 => (some (⟨r1100, r1103, (⟨(i : Int), (j : Int)⟩ : A43)⟩ : SLowerLine)))) = _
 rw [w64_id (n := qq m j - qq m i) (by omega) (by omega), w64_id (n := hh m j - hh m i) (by omega) (by omega), w64_id (n := hh m i * _) (by omega) (by omega), w64_id (n := (hh m j - hh m i) * _) (by omega) (by omega), w64_id (n := hh m i * _ - _) (by omega) (by omega)]
 rw [(lowests k hk (x := hh m i * (qq m j - qq m i) - (hh m j - hh m i) * qq m i) (y := qq m j - qq m i) (by omega) (by omega) (by omega)).2, Option.bind_some, (lowests k hk (x := hh m j - hh m i) (y := qq m j - qq m i) (by omega) (by omega) (by omega)).2]
 rfl
def encL (l : SLowerLine) : Int × Int × Int × Int × Int × Int := (l.Start.Num, l.Start.Den, l.Slope.Num, l.Slope.Den, l.Touch.e0, l.Touch.e1)
theorem r0_l (hk : 9223372036854775808 < k) (M : OKM m n) (r : Int) : ∀ xs : List (Int × Int), (∀ x, x ∈ xs -> 0 <= x.1 /\ x.1 < n /\ 0 <= x.2 /\ x.2 < n) -> ∀ z : Int × Int × Int × Int × Int × Int,
 (∃ i j, i < n /\ j < n /\ goodP m n i j /\ nfigure_reference_r0 k m r xs z.1 z.2.1 z.2.2.1 z.2.2.2.1 z.2.2.2.2.1 z.2.2.2.2.2 = some (.inr (encL (thr m i j)))) \/ ((∃ b, nfigure_reference_r0 k m r xs z.1 z.2.1 z.2.2.1 z.2.2.2.1 z.2.2.2.2.1 z.2.2.2.2.2 = some (.inl b)) /\ ∀ x, x ∈ xs -> ¬ goodP m n x.1.toNat x.2.toNat) := by
 intro xs
 induction xs with
 | nil => intro _ z; exact .inr ⟨⟨_, rfl⟩, fun x hx => by cases hx⟩
 | cons x xs ih =>
   intro hx z
   have h0 := hx x (by simp)
   have ih' := ih (fun y hy => hx y (by simp [hy])) z
   obtain ⟨i, hi⟩ : ∃ i : Nat, x.1 = i := ⟨x.1.toNat, by omega⟩
   obtain ⟨j, hj⟩ : ∃ j : Nat, x.2 = j := ⟨x.2.toNat, by omega⟩
   have li : i < n := by omega
   have lj : j < n := by omega
   have hq := M.lq
   have skip : ¬ goodP m n i j -> nfigure_reference_r0 k m r (x :: xs) z.1 z.2.1 z.2.2.1 z.2.2.2.1 z.2.2.2.2.1 z.2.2.2.2.2 = nfigure_reference_r0 k m r xs z.1 z.2.1 z.2.2.1 z.2.2.2.1 z.2.2.2.2.1 z.2.2.2.2.2 ->
    (∃ i j, i < n /\ j < n /\ goodP m n i j /\ nfigure_reference_r0 k m r (x :: xs) z.1 z.2.1 z.2.2.1 z.2.2.2.1 z.2.2.2.2.1 z.2.2.2.2.2 = some (.inr (encL (thr m i j)))) \/ ((∃ b, nfigure_reference_r0 k m r (x :: xs) z.1 z.2.1 z.2.2.1 z.2.2.2.1 z.2.2.2.2.1 z.2.2.2.2.2 = some (.inl b)) /\ ∀ y, y ∈ x :: xs -> ¬ goodP m n y.1.toNat y.2.toNat) := by
    intro hg he
    rw [he]
    rcases ih' with c | ⟨c1, c2⟩
    ·exact .inl c
    ·refine .inr ⟨c1, fun y hy => ?_⟩
     rcases List.mem_cons.1 hy with rfl | hy
     ·rw [hi, hj, Int.toNat_natCast, Int.toNat_natCast]; exact hg
     ·exact c2 y hy
   have e0 : ∀ R, ((if (m.Q.getD i 0) = (m.Q.getD j 0) then (nfigure_reference_r0 k m r xs z.1 z.2.1 z.2.2.1 z.2.2.2.1 z.2.2.2.2.1 z.2.2.2.2.2) else ((nfigure_areAround k m (i : Int) (j : Int)).bind fun r1350 => (if r1350 = true then ((nfigure_through k m (i : Int) (j : Int)).bind fun r1355 => ((nfigure_firstDug k m r1355).bind fun r1358 => (if r1358.2 = true then (nfigure_reference_r0 k m r xs z.1 z.2.1 z.2.2.1 z.2.2.2.1 z.2.2.2.2.1 z.2.2.2.2.2) else (some (.inr (encL r1355)))))) else (nfigure_reference_r0 k m r xs z.1 z.2.1 z.2.2.1 z.2.2.2.1 z.2.2.2.2.1 z.2.2.2.2.2)))) = R) -> nfigure_reference_r0 k m r (x :: xs) z.1 z.2.1 z.2.2.1 z.2.2.2.1 z.2.2.2.2.1 z.2.2.2.2.2 = R := by
    intro R hR
    rw [nfigure_reference_r0.eq_2, hi, hj, if_pos (by omega), if_pos (by omega), Int.toNat_natCast, Int.toNat_natCast]
    exact hR
   by_cases c1 : qq m i = qq m j
   ·have c1' : m.Q.getD i 0 = m.Q.getD j 0 := c1
    exact skip (fun g => g.1 c1) (e0 _ (by rw [if_pos c1']))
   ·have c1' : ¬ m.Q.getD i 0 = m.Q.getD j 0 := c1
    cases c2 : arnd m n i j with
    | false =>
      exact skip (fun g => by have : arnd m n i j = true := decide_eq_true ⟨g.2.1, g.2.2.1⟩; rw [c2] at this; cases this) (e0 _ (by rw [if_neg c1', areAround_p hk M li lj, c2]; rfl))
    | true =>
      have c2' := of_decide_eq_true c2
      have hlt := goodP_lt M c1 c2'.1 c2'.2
      obtain ⟨t1, _, _⟩ := thr_lo M li lj hlt
      obtain ⟨d, e1, e2⟩ := dug_p hk M t1
      have hd := (dD_bd t1).1
      rcases e2 with ⟨e2, _, e3⟩ | ⟨e2, p, e3, e4⟩
      ·refine .inl ⟨i, j, li, lj, ⟨c1, c2'.1, c2'.2, fun p hp => ?_⟩, ?_⟩
       ·have h1 := thr_rem hlt p
        have h2 := Int.mul_nonneg (show 0 <= qq m j - qq m i by omega) (e3 p hp)
        rw [h1] at h2
        rcases Int.lt_or_le (DqM m i j p) 0 with c | c
        ·have := Int.mul_neg_of_pos_of_neg hd c; omega
        ·exact c
       ·refine e0 _ ?_
        rw [if_neg c1', areAround_p hk M li lj, c2, Option.bind_some, if_pos rfl, through_p hk M li lj hlt, Option.bind_some, e1, Option.bind_some, if_neg (by rw [e2]; decide)]
      ·refine skip (fun g => ?_) (e0 _ (by rw [if_neg c1', areAround_p hk M li lj, c2, Option.bind_some, if_pos rfl, through_p hk M li lj hlt, Option.bind_some, e1, Option.bind_some, if_pos e2]))
       have h1 := thr_rem hlt p
       have h2 := Int.mul_neg_of_pos_of_neg (show 0 < qq m j - qq m i by omega) e4
       have h3 := Int.mul_nonneg (Int.le_of_lt hd) (g.2.2.2 p e3)
       omega
theorem mean_at (M : OKM m n) : (∃ i, i < n /\ qq m i * (mn m n).Den <= (mn m n).Num) /\ ∃ j, j < n /\ (mn m n).Num <= qq m j * (mn m n).Den := by
 have hc := (mn_low M).2.2.2
 have key : ∀ c : Int, sumF (fun i => ww m i * (c * (qq m i * (mn m n).Den - (mn m n).Num))) n = 0 := by
  intro c
  have : ∀ i, sumF (fun i => ww m i * (c * (qq m i * (mn m n).Den - (mn m n).Num))) i = c * (sumF (wq m) i * (mn m n).Den - (mn m n).Num * sumF (ww m) i) := by
   intro i
   induction i with
   | zero => simp [sumF]
   | succ i ih => simp only [sumF]; rw [ih]; unfold wq; grind
  rw [this]
  have h2 : (mn m n).Num * sumF (ww m) n = sumF (wq m) n * (mn m n).Den := hc
  rw [h2, Int.sub_self, Int.mul_zero]
 have pos : ∀ c : Int, ¬ (∀ i, i < n -> 0 < c * (qq m i * (mn m n).Den - (mn m n).Num)) := by
  intro c h
  have hw : ∃ i, i < n /\ 0 < ww m i := by
   apply Classical.byContradiction
   intro hno
   have : sumF (ww m) n <= (n : Int) * 0 := sumF_le n (fun i hi => by
    rcases Int.lt_or_le 0 (ww m i) with h1 | h1
    ·exact absurd ⟨i, hi, h1⟩ hno
    ·exact h1)
   have := M.W
   omega
  obtain ⟨i, hi, hwi⟩ := hw
  have := sumF_pos (f := fun i => ww m i * (c * (qq m i * (mn m n).Den - (mn m n).Num))) n (fun i hi => Int.mul_nonneg (M.w i hi).1 (Int.le_of_lt (h i hi))) ⟨i, hi, Int.mul_pos hwi (h i hi)⟩
  rw [key c] at this
  omega
 constructor
 ·apply Classical.byContradiction
  intro hno
  refine pos 1 fun i hi => ?_
  rcases Int.lt_or_le (mn m n).Num (qq m i * (mn m n).Den) with h | h
  ·omega
  ·exact absurd ⟨i, hi, h⟩ hno
 ·apply Classical.byContradiction
  intro hno
  refine pos (-1) fun i hi => ?_
  rcases Int.lt_or_le (qq m i * (mn m n).Den) (mn m n).Num with h | h
  ·omega
  ·exact absurd ⟨i, hi, h⟩ hno
theorem good_ex (M : OKM m n) : (∃ i j, i < n /\ j < n /\ i ≠ j /\ goodP m n i j) \/ ∀ i, i < n -> qq m i * (mn m n).Den = (mn m n).Num := by
 obtain ⟨⟨i0, hi0, hi1⟩, j0, hj0, hj1⟩ := mean_at M
 have hd := (mn_low M).1.d
 have fin : ∀ mm : Int, (∀ p, p < n -> 2 * (qq m p * (mn m n).Den) ≠ mm) -> (∃ i, i < n /\ 2 * (qq m i * (mn m n).Den) < mm) -> (∃ j, j < n /\ mm < 2 * (qq m j * (mn m n).Den)) -> (∀ x : Int, 2 * x < mm -> x <= (mn m n).Num) -> (∀ x : Int, mm < 2 * x -> (mn m n).Num <= x) -> ∃ i j, i < n /\ j < n /\ i ≠ j /\ goodP m n i j := by
  intro mm h1 h2 h3 h4 h5
  obtain ⟨i, j, a1, a2, a3, a4, a5⟩ := Hull.hull n (fun i => qq m i * (mn m n).Den) (hh m) mm h1 h2 h3
  have hne : qq m i ≠ qq m j := fun e => by
   have a3' : 2 * (qq m i * (mn m n).Den) < mm := a3
   have a4' : mm < 2 * (qq m j * (mn m n).Den) := a4
   rw [e] at a3'; omega
  refine ⟨i, j, a1, a2, fun e => hne (by rw [e]), hne, h4 _ a3, h5 _ a4, fun p hp => ?_⟩
  have h6 := a5 p hp
  have h7 : Hull.Dq (fun i => qq m i * (mn m n).Den) (hh m) i j p = (mn m n).Den * DqM m i j p := by
   unfold DqM Hull.Dq; grind
  rw [h7] at h6
  rcases Int.lt_or_le (DqM m i j p) 0 with c | c
  ·have := Int.mul_neg_of_pos_of_neg hd c; omega
  ·exact c
 by_cases h1 : ∃ j, j < n /\ (mn m n).Num < qq m j * (mn m n).Den
 ·obtain ⟨j, h2, h3⟩ := h1
  exact .inl (fin (2 * (mn m n).Num + 1) (fun p _ => by omega) ⟨i0, hi0, by omega⟩ ⟨j, h2, by omega⟩ (fun x hx => by omega) (fun x hx => by omega))
 ·by_cases h2 : ∃ i, i < n /\ qq m i * (mn m n).Den < (mn m n).Num
  ·obtain ⟨i, h3, h4⟩ := h2
   exact .inl (fin (2 * (mn m n).Num - 1) (fun p _ => by omega) ⟨i, h3, by omega⟩ ⟨j0, hj0, by omega⟩ (fun x hx => by omega) (fun x hx => by omega))
  ·right
   intro i hi
   rcases Int.lt_trichotomy (qq m i * (mn m n).Den) (mn m n).Num with c | c | c
   ·exact absurd ⟨i, hi, c⟩ h2
   ·exact c
   ·exact absurd ⟨i, hi, c⟩ h1
theorem min_l (a : List Int) (ha : a.length < 1000000000000) : ∀ (d fuel i : Nat) (x : Int), a.length = i + d -> d < fuel -> ∃ r, nslices_Min_int_int__l0_0 k a fuel x (i : Int) = some r /\ r <= x /\ (∀ j, i <= j -> j < a.length -> r <= a.getD j 0) /\ (r = x \/ ∃ j, i <= j /\ j < a.length /\ r = a.getD j 0) := by
 intro d
 induction d with
 | zero =>
   intro fuel i x he hf
   obtain ⟨f, rfl⟩ : ∃ f, fuel = f + 1 := ⟨fuel - 1, by omega⟩
   exact ⟨x, by rw [nslices_Min_int_int__l0_0.eq_2, if_neg (by omega)], Int.le_refl _, fun j h1 h2 => by omega, .inl rfl⟩
 | succ d ih =>
   intro fuel i x he hf
   obtain ⟨f, rfl⟩ : ∃ f, fuel = f + 1 := ⟨fuel - 1, by omega⟩
   obtain ⟨r, e1, e2, e3, e4⟩ := ih f (i + 1) (minI x (a.getD i 0)) (by omega) (by omega)
   have hm : minI x (a.getD i 0) <= x /\ minI x (a.getD i 0) <= a.getD i 0 /\ (minI x (a.getD i 0) = x \/ minI x (a.getD i 0) = a.getD i 0) := by
    unfold minI; split <;> omega
   refine ⟨r, ?_, by omega, fun j h1 h2 => ?_, ?_⟩
   ·rw [nslices_Min_int_int__l0_0.eq_2, if_pos (by omega), if_pos (by omega), Int.toNat_natCast, w64_succ (by omega)]; exact e1
   ·by_cases e : j = i
    ·subst e; omega
    ·exact e3 j (by omega) h2
   ·rcases e4 with e4 | ⟨j, h1, h2, h3⟩
    ·rcases hm.2.2 with h | h
     ·left; omega
     ·right; exact ⟨i, Nat.le_refl _, by omega, by omega⟩
    ·right; exact ⟨j, by omega, h2, h3⟩
theorem index_l (a : List Int) (v : Int) (ha : a.length < 1000000000000) : ∀ (d fuel i : Nat), a.length = i + d -> d < fuel -> (∃ j, i <= j /\ j < a.length /\ v = a.getD j 0) -> ∃ j : Nat, nslices_Index_int_int__l0_0 k a v fuel (i : Int) = some (.inl (j : Int)) /\ j < a.length /\ v = a.getD j 0 := by
 intro d
 induction d with
 | zero => intro fuel i he hf ⟨j, h1, h2, _⟩; omega
 | succ d ih =>
   intro fuel i he hf ⟨j, h1, h2, h3⟩
   obtain ⟨f, rfl⟩ : ∃ f, fuel = f + 1 := ⟨fuel - 1, by omega⟩
   rw [nslices_Index_int_int__l0_0.eq_2, if_pos (by omega), if_pos (by omega), Int.toNat_natCast]
   by_cases c : v = a.getD i 0
   ·rw [if_pos c]; exact ⟨i, rfl, by omega, c⟩
   ·rw [if_neg c, w64_succ (by omega)]
    refine ih f (i + 1) (by omega) (by omega) ⟨j, ?_, h2, h3⟩
    rcases Nat.lt_or_ge i j with h | h
    ·omega
    ·have : j = i := by omega
     rw [this] at h3; exact absurd h3 c
theorem lw_one (x : Int) : lw x 1 = ⟨x, 1⟩ := by
 unfold lw
 have : Nat.gcd x.natAbs (1 : Int).natAbs = 1 := by show Nat.gcd _ 1 = 1; exact Nat.gcd_one_right _
 rw [this]; simp
theorem deep_p (hk : 9223372036854775808 < k) (M : OKM m n) (hf : ∀ i, i < n -> qq m i * (mn m n).Den = (mn m n).Num) : ∃ v d : Int, nslices_Min_int_int_ k m.Heights = some v /\ nslices_Index_int_int_ k m.Heights v = some d /\ (0 <= d /\ d < (m.Heights.length : Int)) /\ ∃ a : Nat, d = a /\ Found m n ⟨lw (m.Heights.getD d.toNat 0) 1, lw 0 1, ⟨d, d⟩⟩ a a := by
 have hn := M.ln
 have h1 := M.n1
 have h2 := M.n2
 obtain ⟨v, e1, e2, e3, e4⟩ := min_l (k := k) m.Heights (by omega) (n - 1) k 1 (m.Heights.getD 0 0) (by omega) (by omega)
 have hv : ∀ j, j < n -> v <= hh m j := fun j hj => by
  by_cases c : j = 0
  ·subst c; exact e2
  ·exact e3 j (by omega) (by omega)
 have hx : ∃ j, 0 <= j /\ j < m.Heights.length /\ v = m.Heights.getD j 0 := by
  rcases e4 with e4 | ⟨j, g1, g2, g3⟩
  ·exact ⟨0, Nat.le_refl _, by omega, e4⟩
  ·exact ⟨j, by omega, g2, g3⟩
 obtain ⟨a, f1, f2, f3⟩ := index_l (k := k) m.Heights v (by omega) n k 0 (by omega) (by omega) hx
 refine ⟨v, (a : Int), ?_, ?_, ⟨by omega, by omega⟩, a, rfl, ?_⟩
 ·unfold nslices_Min_int_int_
  rw [if_neg (by omega), if_pos (by omega)]
  show (nslices_Min_int_int__l0_0 k m.Heights k (m.Heights.getD 0 0) 1).bind _ = _
  rw [show nslices_Min_int_int__l0_0 k m.Heights k (m.Heights.getD 0 0) 1 = _ from e1]; rfl
 ·unfold nslices_Index_int_int_
  rw [show nslices_Index_int_int__l0_0 k m.Heights v k 0 = _ from f1]; rfl
 ·rw [Int.toNat_natCast, lw_one, lw_one]
  have ha : a < n := by omega
  have hb := M.h a ha
  have hb' : -100000 <= m.Heights.getD a 0 /\ m.Heights.getD a 0 <= 100000 := hb
  have hr : ∀ p, rem m ⟨⟨m.Heights.getD a 0, 1⟩, ⟨0, 1⟩, ⟨(a : Int), (a : Int)⟩⟩ p = hh m p - hh m a := fun p => by
   unfold rem dD
   show hh m p * (1 * 1) - hh m a * 1 - 0 * qq m p * 1 = _
   omega
  refine ⟨⟨⟨(show (0 : Int) < 1 by decide), ?_⟩, ⟨(show (0 : Int) < 1 by decide), (show Nat.gcd (0 : Int).natAbs (1 : Int).natAbs = 1 by decide)⟩, (show (1 : Int) <= 1000 by decide), (show (1 : Int) <= 1000 by decide), ?_, (show (0 : Int).natAbs <= 1000000000 by decide)⟩, ?_, (show (0 : Int).natAbs <= 200000 by decide), rfl, rfl, ha, ha, ?_, ?_, ?_, ?_, ?_⟩
  ·show Nat.gcd _ 1 = 1; exact Nat.gcd_one_right _
  ·show (m.Heights.getD a 0).natAbs <= _; omega
  ·show (m.Heights.getD a 0).natAbs <= _; omega
  ·rw [hr]; omega
  ·rw [hr]; omega
  ·exact Int.le_of_eq (hf a ha)
  ·exact Int.le_of_eq (hf a ha).symm
  ·intro p hp
   rw [hr]
   have := hv p hp
   have f3' : v = hh m a := f3
   omega
theorem reference_p (hk : 9223372036854775808 < k) (M : OKM m n) : ∃ l a b, nfigure_reference k m = some l /\ Found m n l a b := by
 have hn := M.ln
 have h2 := M.n2
 unfold nfigure_reference
 rw [show nfigure_pairs k (m.Heights.length : Int) = some (m.Heights.length : Int) from rfl, Option.bind_some, if_pos (by omega), <- hn]
 have hb : ∀ x, x ∈ pairsL (n : Int) -> 0 <= x.1 /\ x.1 < n /\ 0 <= x.2 /\ x.2 < n := fun x hx => by
  obtain ⟨a1, a2, a3, a4, _⟩ := (mem_pairs n x).1 hx
  exact ⟨a1, a2, a3, a4⟩
 rcases r0_l hk M (n : Int) (pairsL (n : Int)) hb (0, 0, 0, 0, 0, 0) with ⟨i, j, hi, hj, hg, e⟩ | ⟨⟨b, e⟩, hno⟩
 ·dsimp only at e
  rw [e, Option.bind_some]
  exact ⟨thr m i j, i, j, rfl, goodP_found M hi hj hg⟩
 ·dsimp only at e
  rw [e, Option.bind_some]
  rcases good_ex M with ⟨i, j, hi, hj, hne, hg⟩ | hall
  ·exact absurd hg (hno ((i : Int), (j : Int)) ((mem_pairs n _).2 ⟨by show (0 : Int) <= i; omega, by show (i : Int) < n; omega, by show (0 : Int) <= j; omega, by show (j : Int) < n; omega, by show (j : Int) ≠ i; omega⟩))
  ·obtain ⟨v, d, g1, g2, g3, a, g4, g5⟩ := deep_p hk M hall
   have hbd := M.h a g5.an
   have hbd' : -100000 <= m.Heights.getD a 0 /\ m.Heights.getD a 0 <= 100000 := hbd
   have hd' : d.toNat = a := by omega
   dsimp only
   rw [g1, Option.bind_some, g2, Option.bind_some, <- hn] at *
   rw [if_pos g3, (lowests k hk (x := m.Heights.getD d.toNat 0) (y := 1) (by rw [hd']; omega) (by omega) (by omega)).2, Option.bind_some, (lowests k hk (x := 0) (y := 1) (by omega) (by omega) (by omega)).2, Option.bind_some]
   exact ⟨_, a, a, rfl, g5⟩
def wr (m : SRemovalMap) (l : SLowerLine) (i : Nat) : Int := ww m i * rem m l i
def RB (m : SRemovalMap) (n : Nat) (l : SLowerLine) : Prop := ∀ i, i < n -> (rem m l i).natAbs <= 20000000000000
theorem rb_of (M : OKM m n) {l : SLowerLine} (h : LO l) (hs : l.Start.Num.natAbs <= 300000000) (ht : l.Slope.Num.natAbs <= 10000000) : RB m n l := fun i hi => by
 obtain ⟨p1, p2, p3, p4⟩ := rem_parts M h hi hs ht
 unfold rem; omega
theorem Found.rb (M : OKM m n) {l : SLowerLine} {a b : Nat} (h : Found m n l a b) : RB m n l := rb_of M h.lo h.sn (by have := h.tn; omega)
theorem wr_bd (M : OKM m n) {l : SLowerLine} (h : RB m n l) {i : Nat} (hi : i < n) : (wr m l i).natAbs <= 20000000000000000 := by
 have h1 := M.w i hi
 have h2 := h i hi
 exact Nat.le_trans (abs_mul (a := 1000) (b := 20000000000000) (by omega) h2) (by omega)
theorem wr_sum (M : OKM m n) {l : SLowerLine} (h : RB m n l) {i : Nat} (hi : i <= n) : (sumF (wr m l) i).natAbs <= 800000000000000000 := by
 have h1 := sumF_le (f := wr m l) (a := 20000000000000000) i (fun j hj => by have := wr_bd M h (i := j) (by omega); omega)
 have h2 := sumF_ge (f := wr m l) (a := -20000000000000000) i (fun j hj => by have := wr_bd M h (i := j) (by omega); omega)
 have := M.n2
 omega
theorem least_l (M : OKM m n) {l : SLowerLine} (hl : LO l) (h : RB m n l) (e : Int) : ∀ (d fuel i : Nat), n = i + d -> d < fuel -> nfigure_Least_l0_0 k m (l, e) fuel (i : Int) (sumF (wr m l) i) = some (sumF (wr m l) n) := by
 have hn := M.n2
 have hw := M.lw
 intro d
 induction d with
 | zero =>
   intro fuel i he hf
   obtain ⟨f, rfl⟩ : ∃ f, fuel = f + 1 := ⟨fuel - 1, by omega⟩
   rw [nfigure_Least_l0_0.eq_2, if_neg (by omega), show i = n by omega]
 | succ d ih =>
   intro fuel i he hf
   obtain ⟨f, rfl⟩ : ∃ f, fuel = f + 1 := ⟨fuel - 1, by omega⟩
   have b1 := wr_bd M h (i := i) (by omega)
   have b2 := wr_sum M h (i := i) (by omega)
   rw [nfigure_Least_l0_0.eq_2, if_pos (by omega), if_pos (by omega)]
   show (nfigure_removalTimesDen k m l (i : Int)).bind _ = _
   rw [(remTD_p M hl (i := i) (by omega)).1, Option.bind_some, Int.toNat_natCast, w64_succ (by omega)]
   show nfigure_Least_l0_0 k m (l, e) f _ (w64 (_ + w64 (wr m l i))) = _
   rw [w64_id (n := wr m l i) (by omega) (by omega), w64_id (n := _ + wr m l i) (by omega) (by omega)]
   exact ih f (i + 1) (by omega) (by omega)
def leastV (m : SRemovalMap) (n : Nat) (l : SLowerLine) : SFrac := lw (sumF (wr m l) n) (dD l)
theorem figure_p (hk : 9223372036854775808 < k) (h0 : mapE m = 0) : ∃ l a b, Found m m.Heights.length l a b /\ nfigure_Reference (k + 2) m = some (l, 0) /\ nfigure_Least (k + 2) m = some (leastV m m.Heights.length l, 0) := by
 have M := mapE_ok h0
 obtain ⟨l, a, b, e, hf⟩ := reference_p (k := k + 2) (by omega) M
 have hR : nfigure_Reference (k + 2) m = some (l, 0) := by
  unfold nfigure_Reference
  show (nfigure_CheckMap (k + 2) m).bind (fun r => if r = 0 then _ else _) = _
  rw [(checkMap_any k m (by omega)).1, Option.bind_some, if_pos h0, e]; rfl
 refine ⟨l, a, b, hf, hR, ?_⟩
 have hb := wr_sum M (hf.rb M) (i := m.Heights.length) (Nat.le_refl _)
 have hd := dD_bd hf.lo
 unfold nfigure_Least
 have hn := M.n2
 have hL : nfigure_Least_l0_0 (k + 2) m (l, 0) (k + 2) 0 0 = _ := least_l M hf.lo (hf.rb M) 0 m.Heights.length (k + 2) 0 (by omega) (by omega)
 rw [hR, Option.bind_some, if_pos rfl, hL, Option.bind_some, (remTD_p M hf.lo (i := 0) (by have := M.n1; omega)).2, Option.bind_some, (lowests (k + 2) (by omega) (x := sumF (wr m l) m.Heights.length) (y := dD l) (by omega) hd.1 (by omega)).2]
 rfl
theorem isOfLine_p (l : SFrac) (h1 : 0 < l.Den) (h2 : l.Den <= 1000) (h3 : l.Num.natAbs <= 1000000000) : nfigure_isOfLine k l = some true := by
 unfold nfigure_isOfLine
 rw [within_fig, within_fig, Option.bind_some, if_pos (decide_eq_true (by omega))]
 show some (decide _) = _
 rw [decide_eq_true (by omega)]
theorem checkLine_p (hk : 9223372036854775808 < k) (h0 : mapE m = 0) {l : SLowerLine} (h : LO l) : nfigure_checkLine (k + 2) m l = some 0 := by
 have s1 := h.sd
 have s2 := h.td
 unfold nfigure_checkLine
 show (nfigure_CheckMap (k + 2) m).bind (fun r => if r = 0 then _ else _) = _
 rw [(checkMap_any k m (by omega)).1, Option.bind_some, if_pos h0, (isLow_b (k + 2) (by omega) h.s (by omega)).2, Option.bind_some, if_pos rfl, (isLow_b (k + 2) (by omega) h.t (by omega)).2, Option.bind_some, if_pos rfl, isOfLine_p _ h.s.d h.sd h.sn, Option.bind_some, if_pos rfl, isOfLine_p _ h.t.d h.td h.tn, Option.bind_some, if_pos rfl]
theorem interp {A B qa qb N D : Int} (hD : 0 < D) (h1 : 0 <= A + B * qa) (h2 : 0 <= A + B * qb) (h3 : qa * D <= N) (h4 : N <= qb * D) : 0 <= A * D + B * N := by
 rcases Int.le_total 0 B with hB | hB
 ·have e1 := Int.mul_le_mul_of_nonneg_left h3 hB
  have e2 := Int.mul_nonneg h1 (Int.le_of_lt hD)
  have e3 : (A + B * qa) * D = A * D + B * (qa * D) := by grind
  omega
 ·have e1 := Int.mul_le_mul_of_nonpos_left hB h4
  have e2 := Int.mul_nonneg h2 (Int.le_of_lt hD)
  have e3 : (A + B * qb) * D = A * D + B * (qb * D) := by grind
  omega
theorem dif (l l0 : SLowerLine) (p : Nat) : dD l0 * rem m l p - dD l * rem m l0 p = (dD l * (l0.Start.Num * l0.Slope.Den) - dD l0 * (l.Start.Num * l.Slope.Den)) + (dD l * (l0.Slope.Num * l0.Start.Den) - dD l0 * (l.Slope.Num * l.Start.Den)) * qq m p := by
 unfold rem; grind
theorem dif_sum (l l0 : SLowerLine) (i : Nat) : dD l0 * sumF (wr m l) i - dD l * sumF (wr m l0) i = (dD l * (l0.Start.Num * l0.Slope.Den) - dD l0 * (l.Start.Num * l.Slope.Den)) * sumF (ww m) i + (dD l * (l0.Slope.Num * l0.Start.Den) - dD l0 * (l.Slope.Num * l.Start.Den)) * sumF (wq m) i := by
 induction i with
 | zero => simp [sumF]
 | succ i ih =>
   have h := dif (m := m) l l0 i
   simp only [sumF]
   generalize (dD l * (l0.Start.Num * l0.Slope.Den) - dD l0 * (l.Start.Num * l.Slope.Den)) = A at *
   generalize (dD l * (l0.Slope.Num * l0.Start.Den) - dD l0 * (l.Slope.Num * l.Start.Den)) = B at *
   have h2 : ww m i * (dD l0 * rem m l i - dD l * rem m l0 i) = ww m i * (A + B * qq m i) := by rw [h]
   unfold wr wq at *
   grind
theorem least_le (M : OKM m n) {l l0 : SLowerLine} {a b : Nat} (h : Found m n l0 a b) (hl : LO l) (hp : ∀ i, i < n -> 0 <= rem m l i) : dD l * sumF (wr m l0) n <= dD l0 * sumF (wr m l) n := by
 have hd := (mn_low M).1.d
 have hc := (mn_low M).2.2.2
 have hd0 := (dD_bd h.lo).1
 have hW := (mean_bd M).2.1
 have ea := dif (m := m) l l0 a
 have eb := dif (m := m) l l0 b
 have es := dif_sum (m := m) l l0 n
 rw [h.r0, Int.mul_zero, Int.sub_zero] at ea
 rw [h.r1, Int.mul_zero, Int.sub_zero] at eb
 have pa := Int.mul_nonneg (Int.le_of_lt hd0) (hp a h.an)
 have pb := Int.mul_nonneg (Int.le_of_lt hd0) (hp b h.bn)
 rw [ea] at pa
 rw [eb] at pb
 have key := interp hd pa pb h.qa h.qb
 generalize (dD l * (l0.Start.Num * l0.Slope.Den) - dD l0 * (l.Start.Num * l.Slope.Den)) = A at *
 generalize (dD l * (l0.Slope.Num * l0.Start.Den) - dD l0 * (l.Slope.Num * l.Start.Den)) = B at *
 have k2 := Int.mul_nonneg (Int.le_of_lt hW) key
 have k3 : meanW m n * (A * (mn m n).Den + B * (mn m n).Num) = (mn m n).Den * (A * sumF (ww m) n + B * sumF (wq m) n) := by
  unfold meanW meanS at *
  have : B * ((mn m n).Num * sumF (ww m) n) = B * (sumF (wq m) n * (mn m n).Den) := by rw [hc]
  grind
 rw [k3, <- es] at k2
 rcases Int.lt_or_le (dD l0 * sumF (wr m l) n - dD l * sumF (wr m l0) n) 0 with c | c
 ·have := Int.mul_neg_of_pos_of_neg hd c; omega
 ·omega
end
end Go.Proofs.Ytclgijochagpdaa.Vg.Fg
