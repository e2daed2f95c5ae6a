/- Walks: the law of directions. -/
import Derived.Test.YtlkfkekglmjhhaaT2
import Derived.Test.YtlkfkekglmjhhaaT3
set_option linter.unusedVariables false
set_option linter.unusedSimpArgs false
namespace Go.Proofs.Ytlkfkekglmjhhaa
open Go.RowKit

theorem quiet_add {P : Program} {f : FuncId} {args : Array Value} {w : World} {n : Nat} {v : Value}
    (h : Calls P f args (w.drewN n) fun e w' => e = .returned v ∧ ∃ m, w' = (w.drewN n).drewN m) :
    Calls P f args (w.drewN n) fun e w'' => e = .returned v ∧ ∃ m, w'' = w.drewN m :=
  h.mono fun _ _ ⟨he, m, hm⟩ => ⟨he, n + m, by rw [hm, World.drewN_drewN]⟩
theorem sinR_bd (a : Int) : -1000000100 ≤ sinR a ∧ sinR a ≤ 1000000100 := by
  obtain ⟨⟨h1, h2⟩, _⟩ := sine_near a
  have := ar_le a
  omega

set_option maxRecDepth 100000 in
set_option maxHeartbeats 4000000 in
theorem directs_N (lo hi x y : Int) (w : World) (D : Bx (Dir lo hi x y)) (x0 : -10000 ≤ x) (x1 : x ≤ 10000) (y0 : -10000 ≤ y) (y1 : y ≤ 10000) (hy : y < 0) :
    Calls Try.prog 62 #[.agg #[.int .i64 lo, .int .i64 hi], .int .i64 x, .int .i64 y] w fun e w' => e = .returned (.bool true) ∧ Below w.heap.size w w' := by
  have b1 := D.out.b1
  have b2 := D.out.b2
  have b3 := D.out.b3
  have b4 := D.out.b4
  have HW := Bx.mk (show wtB lo (-3) hi = true by unfold wtB; rw [decide_eq_true (show -3 ≤ lo by omega), decide_eq_true b2]; rfl)
  have h2 := D.out.h2 hy
  have hn : ¬ 0 ≤ y := by omega
  have he : (y == 0) = false := by simp; omega
  have hf : ¬ hi < 648000 := by omega
  have s1 := sz_nonneg x
  have s2 := sz_nonneg y
  have s3 := sz_le (b := 10000) x0 x1
  have s4 := sz_le (b := 10000) y0 y1
  have d1 := D.out.d1
  have d2 := D.out.d2
  have d3 := D.out.d3
  have d4 := D.out.d4
  unfold acr at d1 d2
  unfold alo at d3 d4
  obtain ⟨l1, l2⟩ := sinR_bd lo
  obtain ⟨l3, l4⟩ := sinR_bd (lo + 324000)
  obtain ⟨l5, l6⟩ := sinR_bd hi
  obtain ⟨l7, l8⟩ := sinR_bd (hi + 324000)
  clear D
  have e2 : -(40 * (sz x + sz y)) ≤ x * sinR hi - y * sinR (hi + 324000) := by rw [Int.mul_comm x, Int.mul_comm y]; omega
  clear d2
  have m1 := mul_bd (x := sinR (lo + 324000)) (y := y) (A := 1000000100) (B := 10000) (by omega) (by omega) (by omega) (by omega)
  have m2 := mul_bd (x := sinR lo) (y := x) (A := 1000000100) (B := 10000) (by omega) (by omega) (by omega) (by omega)
  have m3 := mul_bd (x := x) (y := sinR hi) (A := 10000) (B := 1000000100) (by omega) (by omega) (by omega) (by omega)
  have m4 := mul_bd (x := y) (y := sinR (hi + 324000)) (A := 10000) (B := 1000000100) (by omega) (by omega) (by omega) (by omega)
  have m5 := mul_bd (x := sinR (lo + 324000)) (y := x) (A := 1000000100) (B := 10000) (by omega) (by omega) (by omega) (by omega)
  have m6 := mul_bd (x := sinR lo) (y := y) (A := 1000000100) (B := 10000) (by omega) (by omega) (by omega) (by omega)
  have m7 := mul_bd (x := sinR (hi + 324000)) (y := x) (A := 1000000100) (B := 10000) (by omega) (by omega) (by omega) (by omega)
  have m8 := mul_bd (x := sinR hi) (y := y) (A := 1000000100) (B := 10000) (by omega) (by omega) (by omega) (by omega)
  go_enter Try.func62, Try.ntmps62
  go_wp2_with (first
    | (go_at_call 35; (with_reducible refine (within_any lo (-3) hi _).mono ?_); rw [HW.out]; rintro e wx ⟨rfl, rfl⟩)
    | (go_at_call 63; (with_reducible refine (absB_any x _ (by omega) (by omega)).mono ?_); rintro e wx ⟨rfl, rfl⟩)
    | (go_at_call 63; (with_reducible refine (absB_any y _ (by omega) (by omega)).mono ?_); rintro e wx ⟨rfl, rfl⟩))
  go_quiet (first
    | (go_at_call 59; exact quiet_add (sineR_any _ _ (by omega) (by omega)))
    | (go_at_call 60; exact quiet_add (cosineR_any _ _ (by omega) (by omega))))
  go_wp2
  go_ret
  refine ⟨?_, by repeat (first | exact Below.refl _ _ | refine Below.drew ?_ | refine Below.drewN' ?_ _ | refine Below.alloc ?_ (by first | exact Nat.le_refl _ | (simp; done) | (simp; omega)) _)⟩
  first
  | rfl
  | (simp [d1, e2, d3, d4]; done)

set_option maxRecDepth 100000 in
set_option maxHeartbeats 4000000 in
theorem directs_P (lo hi x y : Int) (w : World) (D : Bx (Dir lo hi x y)) (x0 : -10000 ≤ x) (x1 : x ≤ 10000) (y0 : -10000 ≤ y) (y1 : y ≤ 10000) (hy : 0 < y) :
    Calls Try.prog 62 #[.agg #[.int .i64 lo, .int .i64 hi], .int .i64 x, .int .i64 y] w fun e w' => e = .returned (.bool true) ∧ Below w.heap.size w w' := by
  have b1 := D.out.b1
  have b2 := D.out.b2
  have b3 := D.out.b3
  have b4 := D.out.b4
  have HW := Bx.mk (show wtB lo (-3) hi = true by unfold wtB; rw [decide_eq_true (show -3 ≤ lo by omega), decide_eq_true b2]; rfl)
  have h1 := D.out.h1 (by omega) (by omega)
  have hn : 0 ≤ y := by omega
  have hn' : ¬ y < 0 := by omega
  have he : (y == 0) = false := by simp; omega
  have hf : ¬ 648000 < lo := by omega
  have s1 := sz_nonneg x
  have s2 := sz_nonneg y
  have s3 := sz_le (b := 10000) x0 x1
  have s4 := sz_le (b := 10000) y0 y1
  have d1 := D.out.d1
  have d2 := D.out.d2
  have d3 := D.out.d3
  have d4 := D.out.d4
  unfold acr at d1 d2
  unfold alo at d3 d4
  obtain ⟨l1, l2⟩ := sinR_bd lo
  obtain ⟨l3, l4⟩ := sinR_bd (lo + 324000)
  obtain ⟨l5, l6⟩ := sinR_bd hi
  obtain ⟨l7, l8⟩ := sinR_bd (hi + 324000)
  clear D
  have e2 : -(40 * (sz x + sz y)) ≤ x * sinR hi - y * sinR (hi + 324000) := by rw [Int.mul_comm x, Int.mul_comm y]; omega
  clear d2
  have m1 := mul_bd (x := sinR (lo + 324000)) (y := y) (A := 1000000100) (B := 10000) (by omega) (by omega) (by omega) (by omega)
  have m2 := mul_bd (x := sinR lo) (y := x) (A := 1000000100) (B := 10000) (by omega) (by omega) (by omega) (by omega)
  have m3 := mul_bd (x := x) (y := sinR hi) (A := 10000) (B := 1000000100) (by omega) (by omega) (by omega) (by omega)
  have m4 := mul_bd (x := y) (y := sinR (hi + 324000)) (A := 10000) (B := 1000000100) (by omega) (by omega) (by omega) (by omega)
  have m5 := mul_bd (x := sinR (lo + 324000)) (y := x) (A := 1000000100) (B := 10000) (by omega) (by omega) (by omega) (by omega)
  have m6 := mul_bd (x := sinR lo) (y := y) (A := 1000000100) (B := 10000) (by omega) (by omega) (by omega) (by omega)
  have m7 := mul_bd (x := sinR (hi + 324000)) (y := x) (A := 1000000100) (B := 10000) (by omega) (by omega) (by omega) (by omega)
  have m8 := mul_bd (x := sinR hi) (y := y) (A := 1000000100) (B := 10000) (by omega) (by omega) (by omega) (by omega)
  go_enter Try.func62, Try.ntmps62
  go_wp2_with (first
    | (go_at_call 35; (with_reducible refine (within_any lo (-3) hi _).mono ?_); rw [HW.out]; rintro e wx ⟨rfl, rfl⟩)
    | (go_at_call 63; (with_reducible refine (absB_any x _ (by omega) (by omega)).mono ?_); rintro e wx ⟨rfl, rfl⟩)
    | (go_at_call 63; (with_reducible refine (absB_any y _ (by omega) (by omega)).mono ?_); rintro e wx ⟨rfl, rfl⟩))
  go_quiet (first
    | (go_at_call 59; exact quiet_add (sineR_any _ _ (by omega) (by omega)))
    | (go_at_call 60; exact quiet_add (cosineR_any _ _ (by omega) (by omega))))
  go_wp2
  go_ret
  refine ⟨?_, by repeat (first | exact Below.refl _ _ | refine Below.drew ?_ | refine Below.drewN' ?_ _ | refine Below.alloc ?_ (by first | exact Nat.le_refl _ | (simp; done) | (simp; omega)) _)⟩
  first
  | rfl
  | (simp [d1, e2, d3, d4]; done)

set_option maxRecDepth 100000 in
set_option maxHeartbeats 4000000 in
theorem directs_Q (lo hi x y : Int) (w : World) (D : Bx (Dir lo hi x y)) (x0 : -10000 ≤ x) (x1 : x ≤ 10000) (y0 : -10000 ≤ y) (y1 : y ≤ 10000) (hy : 0 ≤ y) (hy2 : y ≤ 0) (hx : x < 0) :
    Calls Try.prog 62 #[.agg #[.int .i64 lo, .int .i64 hi], .int .i64 x, .int .i64 y] w fun e w' => e = .returned (.bool true) ∧ Below w.heap.size w w' := by
  have b1 := D.out.b1
  have b2 := D.out.b2
  have b3 := D.out.b3
  have b4 := D.out.b4
  have HW := Bx.mk (show wtB lo (-3) hi = true by unfold wtB; rw [decide_eq_true (show -3 ≤ lo by omega), decide_eq_true b2]; rfl)
  have hn' : ¬ y < 0 := by omega
  have he : (y == 0) = true := by simp; omega
  have hf : ¬ 0 < x := by omega
  have s1 := sz_nonneg x
  have s2 := sz_nonneg y
  have s3 := sz_le (b := 10000) x0 x1
  have s4 := sz_le (b := 10000) y0 y1
  have d1 := D.out.d1
  have d2 := D.out.d2
  have d3 := D.out.d3
  have d4 := D.out.d4
  unfold acr at d1 d2
  unfold alo at d3 d4
  obtain ⟨l1, l2⟩ := sinR_bd lo
  obtain ⟨l3, l4⟩ := sinR_bd (lo + 324000)
  obtain ⟨l5, l6⟩ := sinR_bd hi
  obtain ⟨l7, l8⟩ := sinR_bd (hi + 324000)
  clear D
  have e2 : -(40 * (sz x + sz y)) ≤ x * sinR hi - y * sinR (hi + 324000) := by rw [Int.mul_comm x, Int.mul_comm y]; omega
  clear d2
  have m1 := mul_bd (x := sinR (lo + 324000)) (y := y) (A := 1000000100) (B := 10000) (by omega) (by omega) (by omega) (by omega)
  have m2 := mul_bd (x := sinR lo) (y := x) (A := 1000000100) (B := 10000) (by omega) (by omega) (by omega) (by omega)
  have m3 := mul_bd (x := x) (y := sinR hi) (A := 10000) (B := 1000000100) (by omega) (by omega) (by omega) (by omega)
  have m4 := mul_bd (x := y) (y := sinR (hi + 324000)) (A := 10000) (B := 1000000100) (by omega) (by omega) (by omega) (by omega)
  have m5 := mul_bd (x := sinR (lo + 324000)) (y := x) (A := 1000000100) (B := 10000) (by omega) (by omega) (by omega) (by omega)
  have m6 := mul_bd (x := sinR lo) (y := y) (A := 1000000100) (B := 10000) (by omega) (by omega) (by omega) (by omega)
  have m7 := mul_bd (x := sinR (hi + 324000)) (y := x) (A := 1000000100) (B := 10000) (by omega) (by omega) (by omega) (by omega)
  have m8 := mul_bd (x := sinR hi) (y := y) (A := 1000000100) (B := 10000) (by omega) (by omega) (by omega) (by omega)
  go_enter Try.func62, Try.ntmps62
  go_wp2_with (first
    | (go_at_call 35; (with_reducible refine (within_any lo (-3) hi _).mono ?_); rw [HW.out]; rintro e wx ⟨rfl, rfl⟩)
    | (go_at_call 63; (with_reducible refine (absB_any x _ (by omega) (by omega)).mono ?_); rintro e wx ⟨rfl, rfl⟩)
    | (go_at_call 63; (with_reducible refine (absB_any y _ (by omega) (by omega)).mono ?_); rintro e wx ⟨rfl, rfl⟩))
  go_quiet (first
    | (go_at_call 59; exact quiet_add (sineR_any _ _ (by omega) (by omega)))
    | (go_at_call 60; exact quiet_add (cosineR_any _ _ (by omega) (by omega))))
  go_wp2
  go_ret
  refine ⟨?_, by repeat (first | exact Below.refl _ _ | refine Below.drew ?_ | refine Below.drewN' ?_ _ | refine Below.alloc ?_ (by first | exact Nat.le_refl _ | (simp; done) | (simp; omega)) _)⟩
  first
  | rfl
  | (simp [d1, e2, d3, d4]; done)

set_option maxRecDepth 100000 in
set_option maxHeartbeats 4000000 in
theorem directs_R (lo hi x y : Int) (w : World) (D : Bx (Dir lo hi x y)) (x0 : -10000 ≤ x) (x1 : x ≤ 10000) (y0 : -10000 ≤ y) (y1 : y ≤ 10000) (hy : 0 ≤ y) (hy2 : y ≤ 0) (hx : 0 < x) :
    Calls Try.prog 62 #[.agg #[.int .i64 lo, .int .i64 hi], .int .i64 x, .int .i64 y] w fun e w' => e = .returned (.bool true) ∧ Below w.heap.size w w' := by
  have b1 := D.out.b1
  have b2 := D.out.b2
  have b3 := D.out.b3
  have b4 := D.out.b4
  have HW := Bx.mk (show wtB lo (-3) hi = true by unfold wtB; rw [decide_eq_true (show -3 ≤ lo by omega), decide_eq_true b2]; rfl)
  have h1 := D.out.h1 (by omega) (by omega)
  have h3 := D.out.h3 (by omega) hx
  have hn' : ¬ y < 0 := by omega
  have he : (y == 0) = true := by simp; omega
  have hf : ¬ 648000 < lo := by omega
  have hg : ¬ 0 < lo := by omega
  have hg' : ¬ x < 0 := by omega
  have s1 := sz_nonneg x
  have s2 := sz_nonneg y
  have s3 := sz_le (b := 10000) x0 x1
  have s4 := sz_le (b := 10000) y0 y1
  have d1 := D.out.d1
  have d2 := D.out.d2
  have d3 := D.out.d3
  have d4 := D.out.d4
  unfold acr at d1 d2
  unfold alo at d3 d4
  obtain ⟨l1, l2⟩ := sinR_bd lo
  obtain ⟨l3, l4⟩ := sinR_bd (lo + 324000)
  obtain ⟨l5, l6⟩ := sinR_bd hi
  obtain ⟨l7, l8⟩ := sinR_bd (hi + 324000)
  clear D
  have e2 : -(40 * (sz x + sz y)) ≤ x * sinR hi - y * sinR (hi + 324000) := by rw [Int.mul_comm x, Int.mul_comm y]; omega
  clear d2
  have m1 := mul_bd (x := sinR (lo + 324000)) (y := y) (A := 1000000100) (B := 10000) (by omega) (by omega) (by omega) (by omega)
  have m2 := mul_bd (x := sinR lo) (y := x) (A := 1000000100) (B := 10000) (by omega) (by omega) (by omega) (by omega)
  have m3 := mul_bd (x := x) (y := sinR hi) (A := 10000) (B := 1000000100) (by omega) (by omega) (by omega) (by omega)
  have m4 := mul_bd (x := y) (y := sinR (hi + 324000)) (A := 10000) (B := 1000000100) (by omega) (by omega) (by omega) (by omega)
  have m5 := mul_bd (x := sinR (lo + 324000)) (y := x) (A := 1000000100) (B := 10000) (by omega) (by omega) (by omega) (by omega)
  have m6 := mul_bd (x := sinR lo) (y := y) (A := 1000000100) (B := 10000) (by omega) (by omega) (by omega) (by omega)
  have m7 := mul_bd (x := sinR (hi + 324000)) (y := x) (A := 1000000100) (B := 10000) (by omega) (by omega) (by omega) (by omega)
  have m8 := mul_bd (x := sinR hi) (y := y) (A := 1000000100) (B := 10000) (by omega) (by omega) (by omega) (by omega)
  go_enter Try.func62, Try.ntmps62
  go_wp2_with (first
    | (go_at_call 35; (with_reducible refine (within_any lo (-3) hi _).mono ?_); rw [HW.out]; rintro e wx ⟨rfl, rfl⟩)
    | (go_at_call 63; (with_reducible refine (absB_any x _ (by omega) (by omega)).mono ?_); rintro e wx ⟨rfl, rfl⟩)
    | (go_at_call 63; (with_reducible refine (absB_any y _ (by omega) (by omega)).mono ?_); rintro e wx ⟨rfl, rfl⟩))
  go_quiet (first
    | (go_at_call 59; exact quiet_add (sineR_any _ _ (by omega) (by omega)))
    | (go_at_call 60; exact quiet_add (cosineR_any _ _ (by omega) (by omega))))
  go_wp2
  go_ret
  refine ⟨?_, by repeat (first | exact Below.refl _ _ | refine Below.drew ?_ | refine Below.drewN' ?_ _ | refine Below.alloc ?_ (by first | exact Nat.le_refl _ | (simp; done) | (simp; omega)) _)⟩
  first
  | rfl
  | (simp [d1, e2, d3, d4]; done)

theorem directs_any (lo hi x y : Int) (w : World) (D : Bx (Dir lo hi x y)) (x0 : -10000 ≤ x) (x1 : x ≤ 10000) (y0 : -10000 ≤ y) (y1 : y ≤ 10000) (hz : ¬ (x = 0 ∧ y = 0)) :
    Calls Try.prog 62 #[.agg #[.int .i64 lo, .int .i64 hi], .int .i64 x, .int .i64 y] w fun e w' => e = .returned (.bool true) ∧ Below w.heap.size w w' := by
  rcases (by omega : y < 0 ∨ 0 < y ∨ (y = 0 ∧ x < 0) ∨ (y = 0 ∧ 0 < x)) with h | h | ⟨h, h'⟩ | ⟨h, h'⟩
  · exact directs_N lo hi x y w D x0 x1 y0 y1 h
  · exact directs_P lo hi x y w D x0 x1 y0 y1 h
  · exact directs_Q lo hi x y w D x0 x1 y0 y1 (by omega) (by omega) h'
  · exact directs_R lo hi x y w D x0 x1 y0 y1 (by omega) (by omega) h'

set_option maxHeartbeats 1000000 in
theorem angle_x (x y : Int) (w : World) (ix : I64 x) (h : 10000 < sz x) :
    Calls Try.prog 61 #[.int .i64 x, .int .i64 y] w fun e w' => e = .returned (.tuple #[.agg #[.int .i64 0, .int .i64 0], .int .i64 2]) ∧ Below w.heap.size w w' := by
  obtain ⟨i1, i2⟩ := ix
  have s2 := sz_max i1 i2
  go_enter Try.func61, Try.ntmps61
  go_wp2_with (go_at_call 87; (with_reducible refine (size_any x _ i1 i2).mono ?_); rintro e w' ⟨rfl, rfl⟩)
  refine bodyPost_ret (ret_range rfl _ _ _ _ _ _ rfl rfl (by simp [go_sem]; first | done | rfl) (by simp [go_sem]; first | done | rfl)) rfl ⟨rfl, (Below.refl _ _).alloc (Nat.le_refl _) _⟩
set_option maxHeartbeats 1000000 in
theorem angle_y (x y : Int) (w : World) (ix : I64 x) (iy : I64 y) (h : sz x ≤ 10000) (h' : 10000 < sz y) :
    Calls Try.prog 61 #[.int .i64 x, .int .i64 y] w fun e w' => e = .returned (.tuple #[.agg #[.int .i64 0, .int .i64 0], .int .i64 2]) ∧ Below w.heap.size w w' := by
  obtain ⟨i1, i2⟩ := ix
  obtain ⟨i3, i4⟩ := iy
  have s1 := sz_nonneg x
  have s2 := sz_max i3 i4
  go_enter Try.func61, Try.ntmps61
  go_wp2_with (first
    | (go_at_call 87; (with_reducible refine (size_any x _ i1 i2).mono ?_); rintro e w' ⟨rfl, rfl⟩)
    | (go_at_call 87; (with_reducible refine (size_any y _ i3 i4).mono ?_); rintro e w' ⟨rfl, rfl⟩))
  refine bodyPost_ret (ret_range rfl _ _ _ _ _ _ rfl rfl (by simp [go_sem]; first | done | rfl) (by simp [go_sem]; first | done | rfl)) rfl ⟨rfl, (Below.refl _ _).alloc (Nat.le_refl _) _⟩
set_option maxHeartbeats 1000000 in
theorem angle_z (w : World) :
    Calls Try.prog 61 #[.int .i64 0, .int .i64 0] w fun e w' => e = .returned (.tuple #[.agg #[.int .i64 0, .int .i64 0], .int .i64 11]) ∧ Below w.heap.size w w' := by
  have s1 : sz 0 ≤ 0 := by unfold sz; omega
  have s2 := sz_nonneg 0
  go_enter Try.func61, Try.ntmps61
  go_wp2_with (go_at_call 87; (with_reducible refine (size_any 0 _ (by omega) (by omega)).mono ?_); rintro e w' ⟨rfl, rfl⟩)
  refine bodyPost_ret (ret_range rfl _ _ _ _ _ _ rfl rfl (by simp [go_sem]; first | done | rfl) (by simp [go_sem]; first | done | rfl)) rfl ⟨rfl, (Below.refl _ _).alloc (Nat.le_refl _) _⟩
theorem angle_any (x y : Int) (w : World) (x0 : -10000 ≤ x) (x1 : x ≤ 10000) (y0 : -10000 ≤ y) (y1 : y ≤ 10000) (hz : ¬ (x = 0 ∧ y = 0)) :
    Calls Try.prog 61 #[.int .i64 x, .int .i64 y] w (Angled x y w) := by
  rcases (by omega : (1 ≤ x ∧ 0 ≤ y) ∨ (x ≤ 0 ∧ 1 ≤ y) ∨ (x ≤ -1 ∧ y ≤ 0) ∨ (0 ≤ x ∧ y ≤ -1)) with ⟨h, h'⟩ | ⟨h, h'⟩ | ⟨h, h'⟩ | ⟨h, h'⟩
  · exact angle_0 x y w x0 x1 y0 y1 h h'
  · exact angle_1 x y w x0 x1 y0 y1 h h'
  · exact angle_2 x y w x0 x1 y0 y1 h h'
  · exact angle_3 x y w x0 x1 y0 y1 h h'

set_option maxRecDepth 100000 in
set_option maxHeartbeats 4000000 in
theorem angles_A (HAW : Awake) (x y : Int) (w : World) (ix : I64 x) (h : 10000 < sz x) (HX : Bx (wtB x (-10000) 10000 = false)) :
    Calls Try.prog 9 #[.int .i64 x, .int .i64 y] w fun e w' => e = .returned (.bool true) ∧ Below w.heap.size w w' := by
  go_enter Try.func9, Try.ntmps9
  go_wp2_with (go_at_call 20; refine (HAW _).mono ?_; rintro e w0 ⟨rfl, B0⟩)
  go_wp2_with (go_at_call 61; (with_reducible refine (angle_x x y _ ix h).mono ?_); rintro e w1 ⟨rfl, B1⟩; have M1 := below_call0 B0 B1)
  go_wp2_with (first
    | (go_at_call 35; (with_reducible refine (within_any x (-10000) 10000 _).mono ?_); rw [HX.out]; rintro e wx ⟨rfl, rfl⟩))
  go_ret
  exact ⟨rfl, by first | exact M1.alloc M1.size _ | exact (M1.alloc M1.size _).drew | exact below_drewN (M1.alloc M1.size _) _⟩

set_option maxRecDepth 100000 in
set_option maxHeartbeats 4000000 in
theorem angles_B (HAW : Awake) (x y : Int) (w : World) (ix : I64 x) (iy : I64 y) (h : sz x ≤ 10000) (h2 : 10000 < sz y) (HX : Bx (wtB x (-10000) 10000 = true)) (HY : Bx (wtB y (-10000) 10000 = false)) :
    Calls Try.prog 9 #[.int .i64 x, .int .i64 y] w fun e w' => e = .returned (.bool true) ∧ Below w.heap.size w w' := by
  go_enter Try.func9, Try.ntmps9
  go_wp2_with (go_at_call 20; refine (HAW _).mono ?_; rintro e w0 ⟨rfl, B0⟩)
  go_wp2_with (go_at_call 61; (with_reducible refine (angle_y x y _ ix iy h h2).mono ?_); rintro e w1 ⟨rfl, B1⟩; have M1 := below_call0 B0 B1)
  go_wp2_with (first
    | (go_at_call 35; (with_reducible refine (within_any x (-10000) 10000 _).mono ?_); rw [HX.out]; rintro e wx ⟨rfl, rfl⟩)
    | (go_at_call 35; (with_reducible refine (within_any y (-10000) 10000 _).mono ?_); rw [HY.out]; rintro e wx ⟨rfl, rfl⟩))
  go_ret
  exact ⟨rfl, by first | exact M1.alloc M1.size _ | exact (M1.alloc M1.size _).drew | exact below_drewN (M1.alloc M1.size _) _⟩

set_option maxRecDepth 100000 in
set_option maxHeartbeats 4000000 in
theorem angles_Z (HAW : Awake) (w : World) (HX : Bx (wtB 0 (-10000) 10000 = true)) :
    Calls Try.prog 9 #[.int .i64 0, .int .i64 0] w fun e w' => e = .returned (.bool true) ∧ Below w.heap.size w w' := by
  go_enter Try.func9, Try.ntmps9
  go_wp2_with (go_at_call 20; refine (HAW _).mono ?_; rintro e w0 ⟨rfl, B0⟩)
  go_wp2_with (go_at_call 61; (with_reducible refine (angle_z _).mono ?_); rintro e w1 ⟨rfl, B1⟩; have M1 := below_call0 B0 B1)
  go_wp2_with (first
    | (go_at_call 35; (with_reducible refine (within_any 0 (-10000) 10000 _).mono ?_); rw [HX.out]; rintro e wx ⟨rfl, rfl⟩))
  go_ret
  exact ⟨rfl, by first | exact M1.alloc M1.size _ | exact (M1.alloc M1.size _).drew | exact below_drewN (M1.alloc M1.size _) _⟩

set_option maxRecDepth 100000 in
set_option maxHeartbeats 4000000 in
theorem angles_G (HAW : Awake) (x y : Int) (w : World) (x0 : -10000 ≤ x) (x1 : x ≤ 10000) (y0 : -10000 ≤ y) (y1 : y ≤ 10000) (hz : Bx (¬ (x = 0 ∧ y = 0))) (HX : Bx (wtB x (-10000) 10000 = true)) (HY : Bx (wtB y (-10000) 10000 = true)) (hx : (x == 0) = false) :
    Calls Try.prog 9 #[.int .i64 x, .int .i64 y] w fun e w' => e = .returned (.bool true) ∧ Below w.heap.size w w' := by
  go_enter Try.func9, Try.ntmps9
  go_wp2_with (go_at_call 20; refine (HAW _).mono ?_; rintro e w0 ⟨rfl, B0⟩)
  go_wp2_with (go_at_call 61; (with_reducible refine (angle_any x y _ x0 x1 y0 y1 hz.out).mono ?_); rintro e w1 ⟨lo, hi, rfl, F, B1⟩; have M1 := below_call0 B0 B1; replace F := Bx.mk F)
  go_wp2_with (first
    | (go_at_call 35; (with_reducible refine (within_any x (-10000) 10000 _).mono ?_); rw [HX.out]; rintro e wx ⟨rfl, rfl⟩)
    | (go_at_call 35; (with_reducible refine (within_any y (-10000) 10000 _).mono ?_); rw [HY.out]; rintro e wx ⟨rfl, rfl⟩)
    | (go_at_call 62; (with_reducible refine (directs_any lo hi x y _ F x0 x1 y0 y1 hz.out).mono ?_); rintro e w2 ⟨rfl, B2⟩; have M2 := below_call M1 B2))
  go_ret
  exact ⟨rfl, by first | exact M2 | exact (M2).drew | exact below_drewN (M2) _⟩

set_option maxRecDepth 100000 in
set_option maxHeartbeats 4000000 in
theorem angles_H (HAW : Awake) (x y : Int) (w : World) (x0 : -10000 ≤ x) (x1 : x ≤ 10000) (y0 : -10000 ≤ y) (y1 : y ≤ 10000) (hz : Bx (¬ (x = 0 ∧ y = 0))) (HX : Bx (wtB x (-10000) 10000 = true)) (HY : Bx (wtB y (-10000) 10000 = true)) (hy : (y == 0) = false) (hx : (x == 0) = true) :
    Calls Try.prog 9 #[.int .i64 x, .int .i64 y] w fun e w' => e = .returned (.bool true) ∧ Below w.heap.size w w' := by
  go_enter Try.func9, Try.ntmps9
  go_wp2_with (go_at_call 20; refine (HAW _).mono ?_; rintro e w0 ⟨rfl, B0⟩)
  go_wp2_with (go_at_call 61; (with_reducible refine (angle_any x y _ x0 x1 y0 y1 hz.out).mono ?_); rintro e w1 ⟨lo, hi, rfl, F, B1⟩; have M1 := below_call0 B0 B1; replace F := Bx.mk F)
  go_wp2_with (first
    | (go_at_call 35; (with_reducible refine (within_any x (-10000) 10000 _).mono ?_); rw [HX.out]; rintro e wx ⟨rfl, rfl⟩)
    | (go_at_call 35; (with_reducible refine (within_any y (-10000) 10000 _).mono ?_); rw [HY.out]; rintro e wx ⟨rfl, rfl⟩)
    | (go_at_call 62; (with_reducible refine (directs_any lo hi x y _ F x0 x1 y0 y1 hz.out).mono ?_); rintro e w2 ⟨rfl, B2⟩; have M2 := below_call M1 B2))
  go_ret
  exact ⟨rfl, by first | exact M2 | exact (M2).drew | exact below_drewN (M2) _⟩

theorem numberAngles_any (HAW : Awake) (x y : Int) (w : World) (ix : I64 x) (iy : I64 y) :
    Calls Try.prog 9 #[.int .i64 x, .int .i64 y] w fun e w' => e = .returned (.bool true) ∧ Below w.heap.size w w' := by
  by_cases cx : -10000 ≤ x ∧ x ≤ 10000
  · by_cases cy : -10000 ≤ y ∧ y ≤ 10000
    · by_cases hx : x = 0
      · by_cases hy : y = 0
        · subst hx hy; exact angles_Z HAW w ⟨wtB_true cx.1 cx.2⟩
        · exact angles_H HAW x y w cx.1 cx.2 cy.1 cy.2 ⟨fun h => hy h.2⟩ ⟨wtB_true cx.1 cx.2⟩ ⟨wtB_true cy.1 cy.2⟩ (by simpa using hy) (by simpa using hx)
      · exact angles_G HAW x y w cx.1 cx.2 cy.1 cy.2 ⟨fun h => hx h.1⟩ ⟨wtB_true cx.1 cx.2⟩ ⟨wtB_true cy.1 cy.2⟩ (by simpa using hx)
    · exact angles_B HAW x y w ix iy (sz_le cx.1 cx.2) (by unfold sz; omega) ⟨wtB_true cx.1 cx.2⟩ ⟨wtB_false cy⟩
  · exact angles_A HAW x y w ix (by unfold sz; omega) ⟨wtB_false cx⟩

end Go.Proofs.Ytlkfkekglmjhhaa