/- Walks: enclosed sines and cosines. -/
import Derived.Test.YtdlddfmodbcnmaaW05
set_option linter.unusedVariables false
set_option linter.unusedSimpArgs false
namespace Go.Proofs.Ytdlddfmodbcnmaa
open Go.RowKit

set_option maxHeartbeats 1000000 in
theorem slipped_any (v t : Int) (w : World) (hv : -100000000000 ≤ v) (hv' : v ≤ 100000000000) (ht : 1 ≤ t) (ht' : t ≤ 1000000) :
    Calls Try.prog 100 #[.int .i64 v, .int .i64 t] w fun e w' => e = .returned (.agg #[.int .i64 (slN v t).1, .int .i64 (slN v t).2]) ∧ Below w.heap.size w w' := by
  have m1 := mul_bd (x := v - 20) (y := t) (A := 100000000020) (B := 1000000) (by omega) (by omega) (by omega) (by omega)
  have m2 := mul_bd (x := v + 20) (y := t) (A := 100000000020) (B := 1000000) (by omega) (by omega) (by omega) (by omega)
  go_enter Try.func100, Try.ntmps100
  go_wp2_with (first
    | (go_at_call 118; refine (down_any _ _ _ (by omega) (by omega) (by omega) (by omega)).mono ?_; rintro e w' ⟨rfl, rfl⟩)
    | (go_at_call 120; refine (up_any _ _ _ (by omega) (by omega) (by omega) (by omega)).mono ?_; rintro e w' ⟨rfl, rfl⟩))
  refine bodyPost_ret (ret_range1 rfl _ _ _ _ _ rfl (by simp [go_sem]; rfl) (by simp [go_sem]; rfl)) rfl ⟨rfl, (Below.refl _ _).alloc (Nat.le_refl _) _⟩

set_option maxHeartbeats 1000000 in
theorem sine_any (a t : Int) (w : World) (ha : I64 a) (ht : I64 t) :
    Calls Try.prog 56 #[.int .i64 a, .int .i64 t] w fun e w' => e = .returned (.tuple #[.agg #[.int .i64 (sinN a t).1, .int .i64 (sinN a t).2.1], .int .i64 (sinN a t).2.2]) ∧ Below w.heap.size w w' := by
  have s1 := sz_nonneg a
  have s2 := sz_max ha.1 ha.2
  have t1 := ht.1
  have t2 := ht.2
  by_cases hr : 1000000000 < sz a ∨ t < 1 ∨ 1000000 < t
  · have HR := Lib.hid (show sinN a t = (0, 0, 2) by unfold sinN; rw [if_pos hr])
    rcases Int.lt_or_le 1000000000 (sz a) with g1 | g1
    · clear hr
      go_enter Try.func56, Try.ntmps56
      go_wp2_with (go_at_call 87; refine (size_any _ _ ha.1 ha.2).mono ?_; rintro e w' ⟨rfl, rfl⟩)
      refine bodyPost_ret (ret_range rfl _ _ _ _ _ _ rfl rfl (by simp [go_sem]; rfl) (by simp [go_sem]; rfl)) rfl ⟨by rw [HR.out]; rfl, (Below.refl _ _).alloc (Nat.le_refl _) _⟩
    rcases Int.lt_or_le t 1 with g2 | g2
    · clear hr
      go_enter Try.func56, Try.ntmps56
      go_wp2_with (go_at_call 87; refine (size_any _ _ ha.1 ha.2).mono ?_; rintro e w' ⟨rfl, rfl⟩)
      refine bodyPost_ret (ret_range rfl _ _ _ _ _ _ rfl rfl (by simp [go_sem]; rfl) (by simp [go_sem]; rfl)) rfl ⟨by rw [HR.out]; rfl, (Below.refl _ _).alloc (Nat.le_refl _) _⟩
    have g3 : 1000000 < t := by omega
    clear hr
    go_enter Try.func56, Try.ntmps56
    go_wp2_with (go_at_call 87; refine (size_any _ _ ha.1 ha.2).mono ?_; rintro e w' ⟨rfl, rfl⟩)
    refine bodyPost_ret (ret_range rfl _ _ _ _ _ _ rfl rfl (by simp [go_sem]; rfl) (by simp [go_sem]; rfl)) rfl ⟨by rw [HR.out]; rfl, (Below.refl _ _).alloc (Nat.le_refl _) _⟩
  · have HR := Lib.hid (show sinN a t = ((slN (arN a).1 t).1, (slN (arN a).1 t).2, 0) by unfold sinN; rw [if_neg hr])
    have g1 : sz a ≤ 1000000000 := by omega
    have g2 : 1 ≤ t := by omega
    have g3 : t ≤ 1000000 := by omega
    have g4 : -1000000000 ≤ a ∧ a ≤ 1000000000 := by unfold sz at g1; omega
    have hb := arN_bd a
    clear hr
    go_enter Try.func56, Try.ntmps56
    go_wp2_with (first
      | (go_at_call 87; refine (size_any _ _ ha.1 ha.2).mono ?_; rintro e w' ⟨rfl, rfl⟩)
      | (go_at_call 99; refine (around_any _ _ (by omega) (by omega)).mono ?_; rintro e w' ⟨rfl, rfl⟩)
      | (go_at_call 100; refine (slipped_any _ _ _ (by omega) (by omega) g2 g3).mono ?_; rintro e w1 ⟨rfl, hB1⟩; obtain ⟨hc1, hf1⟩ := bcell hB1; have hz1 : w.heap.size + 1 ≤ w1.heap.size := (by have := hB1.size; simp at this; omega); have k0 : w1.cell? ⟨w.heap.size, 0, none⟩ = some (.int .i64 0) := (by rw [hc1 _ _ (by simp)]; simp [go_sem, World.cell?_alloc_past]); have k1 : w1.cell? ⟨w.heap.size, 1, none⟩ = some (.int .i64 0) := (by rw [hc1 _ _ (by simp)]; simp [go_sem, World.cell?_alloc_past]); have k2 : w1.frozen? ⟨w.heap.size, 0, none⟩ = false := (by rw [hf1 _ _ (by simp)]; simp [go_sem, World.frozen?_alloc_past]); have k3 : w1.frozen? ⟨w.heap.size, 1, none⟩ = false := (by rw [hf1 _ _ (by simp)]; simp [go_sem, World.frozen?_alloc_past])))
    obtain ⟨r0, r1⟩ := set2 (w := w1) (b := w.heap.size) (x := .int .i64 0) (y := .int .i64 0) (.int .i64 (slN (arN a).1 t).1) (.int .i64 (slN (arN a).1 t).2) k0 k1
    refine bodyPost_ret (ret_range rfl _ _ _ _ _ _ rfl rfl r0 r1) rfl ⟨by rw [HR.out]; rfl, ?_⟩
    exact ((((Below.refl w.heap.size w).alloc (Nat.le_refl _) _).trans (hB1.mono (by simp))).setCell (by simp) _).setCell (by simp) _

set_option maxHeartbeats 1000000 in
theorem cosine_any (a t : Int) (w : World) (ha : I64 a) (ht : I64 t) :
    Calls Try.prog 57 #[.int .i64 a, .int .i64 t] w fun e w' => e = .returned (.tuple #[.agg #[.int .i64 (cosN a t).1, .int .i64 (cosN a t).2.1], .int .i64 (cosN a t).2.2]) ∧ Below w.heap.size w w' := by
  have s1 := sz_nonneg a
  have s2 := sz_max ha.1 ha.2
  have t1 := ht.1
  have t2 := ht.2
  by_cases hr : 1000000000 < sz a ∨ t < 1 ∨ 1000000 < t
  · have HR := Lib.hid (show cosN a t = (0, 0, 2) by unfold cosN; rw [if_pos hr])
    rcases Int.lt_or_le 1000000000 (sz a) with g1 | g1
    · clear hr
      go_enter Try.func57, Try.ntmps57
      go_wp2_with (go_at_call 87; refine (size_any _ _ ha.1 ha.2).mono ?_; rintro e w' ⟨rfl, rfl⟩)
      refine bodyPost_ret (ret_range rfl _ _ _ _ _ _ rfl rfl (by simp [go_sem]; rfl) (by simp [go_sem]; rfl)) rfl ⟨by rw [HR.out]; rfl, (Below.refl _ _).alloc (Nat.le_refl _) _⟩
    rcases Int.lt_or_le t 1 with g2 | g2
    · clear hr
      go_enter Try.func57, Try.ntmps57
      go_wp2_with (go_at_call 87; refine (size_any _ _ ha.1 ha.2).mono ?_; rintro e w' ⟨rfl, rfl⟩)
      refine bodyPost_ret (ret_range rfl _ _ _ _ _ _ rfl rfl (by simp [go_sem]; rfl) (by simp [go_sem]; rfl)) rfl ⟨by rw [HR.out]; rfl, (Below.refl _ _).alloc (Nat.le_refl _) _⟩
    have g3 : 1000000 < t := by omega
    clear hr
    go_enter Try.func57, Try.ntmps57
    go_wp2_with (go_at_call 87; refine (size_any _ _ ha.1 ha.2).mono ?_; rintro e w' ⟨rfl, rfl⟩)
    refine bodyPost_ret (ret_range rfl _ _ _ _ _ _ rfl rfl (by simp [go_sem]; rfl) (by simp [go_sem]; rfl)) rfl ⟨by rw [HR.out]; rfl, (Below.refl _ _).alloc (Nat.le_refl _) _⟩
  · have HR := Lib.hid (show cosN a t = ((slN (arN a).2 t).1, (slN (arN a).2 t).2, 0) by unfold cosN; rw [if_neg hr])
    have g1 : sz a ≤ 1000000000 := by omega
    have g2 : 1 ≤ t := by omega
    have g3 : t ≤ 1000000 := by omega
    have g4 : -1000000000 ≤ a ∧ a ≤ 1000000000 := by unfold sz at g1; omega
    have hb := arN_bd a
    clear hr
    go_enter Try.func57, Try.ntmps57
    go_wp2_with (first
      | (go_at_call 87; refine (size_any _ _ ha.1 ha.2).mono ?_; rintro e w' ⟨rfl, rfl⟩)
      | (go_at_call 99; refine (around_any _ _ (by omega) (by omega)).mono ?_; rintro e w' ⟨rfl, rfl⟩)
      | (go_at_call 100; refine (slipped_any _ _ _ (by omega) (by omega) g2 g3).mono ?_; rintro e w1 ⟨rfl, hB1⟩; obtain ⟨hc1, hf1⟩ := bcell hB1; have hz1 : w.heap.size + 1 ≤ w1.heap.size := (by have := hB1.size; simp at this; omega); have k0 : w1.cell? ⟨w.heap.size, 0, none⟩ = some (.int .i64 0) := (by rw [hc1 _ _ (by simp)]; simp [go_sem, World.cell?_alloc_past]); have k1 : w1.cell? ⟨w.heap.size, 1, none⟩ = some (.int .i64 0) := (by rw [hc1 _ _ (by simp)]; simp [go_sem, World.cell?_alloc_past]); have k2 : w1.frozen? ⟨w.heap.size, 0, none⟩ = false := (by rw [hf1 _ _ (by simp)]; simp [go_sem, World.frozen?_alloc_past]); have k3 : w1.frozen? ⟨w.heap.size, 1, none⟩ = false := (by rw [hf1 _ _ (by simp)]; simp [go_sem, World.frozen?_alloc_past])))
    obtain ⟨r0, r1⟩ := set2 (w := w1) (b := w.heap.size) (x := .int .i64 0) (y := .int .i64 0) (.int .i64 (slN (arN a).2 t).1) (.int .i64 (slN (arN a).2 t).2) k0 k1
    refine bodyPost_ret (ret_range rfl _ _ _ _ _ _ rfl rfl r0 r1) rfl ⟨by rw [HR.out]; rfl, ?_⟩
    exact ((((Below.refl w.heap.size w).alloc (Nat.le_refl _) _).trans (hB1.mono (by simp))).setCell (by simp) _).setCell (by simp) _

end Go.Proofs.Ytdlddfmodbcnmaa
