/- Walks: the reference's sums, differences, products, quotients and comparisons of valid fractions. -/
import Derived.Test.YtdlddfmodbcnmaaW29
import Derived.Test.YtdlddfmodbcnmaaW03
set_option linter.unusedVariables false
set_option linter.unusedSimpArgs false
namespace Go.Proofs.Ytdlddfmodbcnmaa
open Go.RowKit

set_option maxHeartbeats 1000000 in
theorem addR_any (a b c d : Int) (w : World) (ha : ckF a b = 0) (hc : ckF c d = 0) :
    Calls Try.prog 29 #[.agg #[.int .i64 a, .int .i64 b], .agg #[.int .i64 c, .int .i64 d]] w fun e w' => e = .returned (.tuple #[.agg #[.int .i64 (lowN (a * d + c * b) (b * d)).1, .int .i64 (lowN (a * d + c * b) (b * d)).2.1], .int .i64 (lowN (a * d + c * b) (b * d)).2.2]) ∧ Below w.heap.size w w' := by
  obtain ⟨a1, a2, b1, b2, _⟩ := ckF_zero ha
  obtain ⟨c1, c2, d1, d2, _⟩ := ckF_zero hc
  clear ha hc
  have m1 := mul_b9 a1 a2 (y := d) (by omega) (by omega)
  have m2 := mul_b9 c1 c2 (y := b) (by omega) (by omega)
  have m3 := mul_b9 (x := b) (y := d) (by omega) (by omega) (by omega) (by omega)
  have m4 := mul_pos9 b1 d1
  have m5 := mul_b9 a1 a2 c1 c2
  have m6 := mul_b9 (x := b) (by omega) b2 c1 c2
  go_enter Try.func29, Try.ntmps29
  go_wp2_with (go_at_call 89; refine (madeR_any _ _ _ (by omega) (by omega) (by omega) (by omega) (by omega)).mono ?_; rintro e w2 ⟨rfl, B2⟩; obtain ⟨hc2, hf2⟩ := bcell B2; have hz2 : w.heap.size + 3 ≤ w2.heap.size := (by have := B2.size; simp at this; omega); have j0 : w2.cell? ⟨w.heap.size + 1 + 1, 0, none⟩ = some (.int .i64 0) := (by rw [hc2 _ _ (by simp)]; simp [go_sem, World.cell?_alloc_past]); have j1 : w2.cell? ⟨w.heap.size + 1 + 1, 1, none⟩ = some (.int .i64 0) := (by rw [hc2 _ _ (by simp)]; simp [go_sem, World.cell?_alloc_past]); have j2 : w2.frozen? ⟨w.heap.size + 1 + 1, 0, none⟩ = false := (by rw [hf2 _ _ (by simp)]; simp [go_sem, World.frozen?_alloc_past]); have j3 : w2.frozen? ⟨w.heap.size + 1 + 1, 1, none⟩ = false := (by rw [hf2 _ _ (by simp)]; simp [go_sem, World.frozen?_alloc_past]))
  obtain ⟨r0, r1⟩ := set2 (w := w2) (b := w.heap.size + 1 + 1) (x := .int .i64 0) (y := .int .i64 0) (.int .i64 (lowN (a * d + c * b) (b * d)).1) (.int .i64 (lowN (a * d + c * b) (b * d)).2.1) j0 j1
  refine bodyPost_ret (ret_frac rfl _ _ _ _ _ _ rfl rfl r0 r1) rfl ⟨rfl, ?_⟩
  exact (((((((Below.refl w.heap.size w).alloc (Nat.le_refl _) _).alloc (by simp) _).alloc (by simp; omega) _).trans (B2.mono (by simp; omega))).setCell (by simp; omega) _).setCell (by simp; omega) _)

set_option maxHeartbeats 1000000 in
theorem subR_any (a b c d : Int) (w : World) (ha : ckF a b = 0) (hc : ckF c d = 0) :
    Calls Try.prog 30 #[.agg #[.int .i64 a, .int .i64 b], .agg #[.int .i64 c, .int .i64 d]] w fun e w' => e = .returned (.tuple #[.agg #[.int .i64 (lowN (a * d - c * b) (b * d)).1, .int .i64 (lowN (a * d - c * b) (b * d)).2.1], .int .i64 (lowN (a * d - c * b) (b * d)).2.2]) ∧ Below w.heap.size w w' := by
  obtain ⟨a1, a2, b1, b2, _⟩ := ckF_zero ha
  obtain ⟨c1, c2, d1, d2, _⟩ := ckF_zero hc
  clear ha hc
  have m1 := mul_b9 a1 a2 (y := d) (by omega) (by omega)
  have m2 := mul_b9 c1 c2 (y := b) (by omega) (by omega)
  have m3 := mul_b9 (x := b) (y := d) (by omega) (by omega) (by omega) (by omega)
  have m4 := mul_pos9 b1 d1
  have m5 := mul_b9 a1 a2 c1 c2
  have m6 := mul_b9 (x := b) (by omega) b2 c1 c2
  go_enter Try.func30, Try.ntmps30
  go_wp2_with (go_at_call 89; refine (madeR_any _ _ _ (by omega) (by omega) (by omega) (by omega) (by omega)).mono ?_; rintro e w2 ⟨rfl, B2⟩; obtain ⟨hc2, hf2⟩ := bcell B2; have hz2 : w.heap.size + 3 ≤ w2.heap.size := (by have := B2.size; simp at this; omega); have j0 : w2.cell? ⟨w.heap.size + 1 + 1, 0, none⟩ = some (.int .i64 0) := (by rw [hc2 _ _ (by simp)]; simp [go_sem, World.cell?_alloc_past]); have j1 : w2.cell? ⟨w.heap.size + 1 + 1, 1, none⟩ = some (.int .i64 0) := (by rw [hc2 _ _ (by simp)]; simp [go_sem, World.cell?_alloc_past]); have j2 : w2.frozen? ⟨w.heap.size + 1 + 1, 0, none⟩ = false := (by rw [hf2 _ _ (by simp)]; simp [go_sem, World.frozen?_alloc_past]); have j3 : w2.frozen? ⟨w.heap.size + 1 + 1, 1, none⟩ = false := (by rw [hf2 _ _ (by simp)]; simp [go_sem, World.frozen?_alloc_past]))
  obtain ⟨r0, r1⟩ := set2 (w := w2) (b := w.heap.size + 1 + 1) (x := .int .i64 0) (y := .int .i64 0) (.int .i64 (lowN (a * d - c * b) (b * d)).1) (.int .i64 (lowN (a * d - c * b) (b * d)).2.1) j0 j1
  refine bodyPost_ret (ret_frac rfl _ _ _ _ _ _ rfl rfl r0 r1) rfl ⟨rfl, ?_⟩
  exact (((((((Below.refl w.heap.size w).alloc (Nat.le_refl _) _).alloc (by simp) _).alloc (by simp; omega) _).trans (B2.mono (by simp; omega))).setCell (by simp; omega) _).setCell (by simp; omega) _)

set_option maxHeartbeats 1000000 in
theorem mulR_any (a b c d : Int) (w : World) (ha : ckF a b = 0) (hc : ckF c d = 0) :
    Calls Try.prog 31 #[.agg #[.int .i64 a, .int .i64 b], .agg #[.int .i64 c, .int .i64 d]] w fun e w' => e = .returned (.tuple #[.agg #[.int .i64 (lowN (a * c) (b * d)).1, .int .i64 (lowN (a * c) (b * d)).2.1], .int .i64 (lowN (a * c) (b * d)).2.2]) ∧ Below w.heap.size w w' := by
  obtain ⟨a1, a2, b1, b2, _⟩ := ckF_zero ha
  obtain ⟨c1, c2, d1, d2, _⟩ := ckF_zero hc
  clear ha hc
  have m1 := mul_b9 a1 a2 (y := d) (by omega) (by omega)
  have m2 := mul_b9 c1 c2 (y := b) (by omega) (by omega)
  have m3 := mul_b9 (x := b) (y := d) (by omega) (by omega) (by omega) (by omega)
  have m4 := mul_pos9 b1 d1
  have m5 := mul_b9 a1 a2 c1 c2
  have m6 := mul_b9 (x := b) (by omega) b2 c1 c2
  go_enter Try.func31, Try.ntmps31
  go_wp2_with (go_at_call 89; refine (madeR_any _ _ _ (by omega) (by omega) (by omega) (by omega) (by omega)).mono ?_; rintro e w2 ⟨rfl, B2⟩; obtain ⟨hc2, hf2⟩ := bcell B2; have hz2 : w.heap.size + 3 ≤ w2.heap.size := (by have := B2.size; simp at this; omega); have j0 : w2.cell? ⟨w.heap.size + 1 + 1, 0, none⟩ = some (.int .i64 0) := (by rw [hc2 _ _ (by simp)]; simp [go_sem, World.cell?_alloc_past]); have j1 : w2.cell? ⟨w.heap.size + 1 + 1, 1, none⟩ = some (.int .i64 0) := (by rw [hc2 _ _ (by simp)]; simp [go_sem, World.cell?_alloc_past]); have j2 : w2.frozen? ⟨w.heap.size + 1 + 1, 0, none⟩ = false := (by rw [hf2 _ _ (by simp)]; simp [go_sem, World.frozen?_alloc_past]); have j3 : w2.frozen? ⟨w.heap.size + 1 + 1, 1, none⟩ = false := (by rw [hf2 _ _ (by simp)]; simp [go_sem, World.frozen?_alloc_past]))
  obtain ⟨r0, r1⟩ := set2 (w := w2) (b := w.heap.size + 1 + 1) (x := .int .i64 0) (y := .int .i64 0) (.int .i64 (lowN (a * c) (b * d)).1) (.int .i64 (lowN (a * c) (b * d)).2.1) j0 j1
  refine bodyPost_ret (ret_frac rfl _ _ _ _ _ _ rfl rfl r0 r1) rfl ⟨rfl, ?_⟩
  exact (((((((Below.refl w.heap.size w).alloc (Nat.le_refl _) _).alloc (by simp) _).alloc (by simp; omega) _).trans (B2.mono (by simp; omega))).setCell (by simp; omega) _).setCell (by simp; omega) _)

def quoR (a b c d : Int) : Int × Int × Int := if c = 0 then (0, 0, 11) else lowN (a * d) (b * c)
set_option maxHeartbeats 1000000 in
theorem quoR_any (a b c d : Int) (w : World) (ha : ckF a b = 0) (hc : ckF c d = 0) :
    Calls Try.prog 32 #[.agg #[.int .i64 a, .int .i64 b], .agg #[.int .i64 c, .int .i64 d]] w fun e w' => e = .returned (.tuple #[.agg #[.int .i64 (quoR a b c d).1, .int .i64 (quoR a b c d).2.1], .int .i64 (quoR a b c d).2.2]) ∧ Below w.heap.size w w' := by
  obtain ⟨a1, a2, b1, b2, _⟩ := ckF_zero ha
  obtain ⟨c1, c2, d1, d2, _⟩ := ckF_zero hc
  clear ha hc
  have m1 := mul_b9 a1 a2 (y := d) (by omega) (by omega)
  have m2 := mul_b9 c1 c2 (y := b) (by omega) (by omega)
  have m3 := mul_b9 (x := b) (y := d) (by omega) (by omega) (by omega) (by omega)
  have m4 := mul_pos9 b1 d1
  have m5 := mul_b9 a1 a2 c1 c2
  have m6 := mul_b9 (x := b) (by omega) b2 c1 c2
  by_cases h0 : c = 0
  · subst h0
    have HR := Lib.hid (show quoR a b 0 d = (0, 0, 11) from rfl)
    go_enter Try.func32, Try.ntmps32
    go_wp2
    refine bodyPost_ret (ret_frac rfl _ _ (w.heap.size + 1 + 1) (.int .i64 0) (.int .i64 0) (.int .i64 11) rfl rfl (by simp [go_sem, World.cell?_alloc_past]) (by simp [go_sem, World.cell?_alloc_past])) rfl ⟨by rw [HR.out], ?_⟩
    exact (((Below.refl w.heap.size w).alloc (Nat.le_refl _) _).alloc (by simp) _).alloc (by simp; omega) _
  · have h0' : (c == 0) = false := by simpa using h0
    have HR := Lib.hid (show quoR a b c d = lowN (a * d) (b * c) by unfold quoR; rw [if_neg h0])
    have M7 := Lib.hid (show b * c ≠ 0 from fun h => by rcases Int.mul_eq_zero.1 h with h | h <;> omega)
    go_enter Try.func32, Try.ntmps32
    go_wp2_with (go_at_call 89; refine (madeR_any _ _ _ (by omega) (by omega) (by omega) (by omega) (M7.out)).mono ?_; rintro e w2 ⟨rfl, B2⟩; obtain ⟨hc2, hf2⟩ := bcell B2; have hz2 : w.heap.size + 3 ≤ w2.heap.size := (by have := B2.size; simp at this; omega); have j0 : w2.cell? ⟨w.heap.size + 1 + 1, 0, none⟩ = some (.int .i64 0) := (by rw [hc2 _ _ (by simp)]; simp [go_sem, World.cell?_alloc_past]); have j1 : w2.cell? ⟨w.heap.size + 1 + 1, 1, none⟩ = some (.int .i64 0) := (by rw [hc2 _ _ (by simp)]; simp [go_sem, World.cell?_alloc_past]); have j2 : w2.frozen? ⟨w.heap.size + 1 + 1, 0, none⟩ = false := (by rw [hf2 _ _ (by simp)]; simp [go_sem, World.frozen?_alloc_past]); have j3 : w2.frozen? ⟨w.heap.size + 1 + 1, 1, none⟩ = false := (by rw [hf2 _ _ (by simp)]; simp [go_sem, World.frozen?_alloc_past]))
    obtain ⟨r0, r1⟩ := set2 (w := w2) (b := w.heap.size + 1 + 1) (x := .int .i64 0) (y := .int .i64 0) (.int .i64 (lowN (a * d) (b * c)).1) (.int .i64 (lowN (a * d) (b * c)).2.1) j0 j1
    refine bodyPost_ret (ret_frac rfl _ _ _ _ _ _ rfl rfl r0 r1) rfl ⟨by rw [HR.out]; rfl, ?_⟩
    exact (((((((Below.refl w.heap.size w).alloc (Nat.le_refl _) _).alloc (by simp) _).alloc (by simp; omega) _).trans (B2.mono (by simp; omega))).setCell (by simp; omega) _).setCell (by simp; omega) _)

set_option maxHeartbeats 1000000 in
theorem cmpR_any (a b c d : Int) (w : World) (ha : ckF a b = 0) (hc : ckF c d = 0) :
    Calls Try.prog 33 #[.agg #[.int .i64 a, .int .i64 b], .agg #[.int .i64 c, .int .i64 d]] w fun e w' => e = .returned (.int .i64 (cmpI (a * d) (c * b))) ∧ Below w.heap.size w w' := by
  obtain ⟨a1, a2, b1, b2, _⟩ := ckF_zero ha
  obtain ⟨c1, c2, d1, d2, _⟩ := ckF_zero hc
  clear ha hc
  have m1 := mul_b9 a1 a2 (y := d) (by omega) (by omega)
  have m2 := mul_b9 c1 c2 (y := b) (by omega) (by omega)
  have m3 := mul_b9 (x := b) (y := d) (by omega) (by omega) (by omega) (by omega)
  have m4 := mul_pos9 b1 d1
  have m5 := mul_b9 a1 a2 c1 c2
  have m6 := mul_b9 (x := b) (by omega) b2 c1 c2
  by_cases k1 : a * d < c * b
  · have HR := Lib.hid (show cmpI (a * d) (c * b) = -1 by unfold cmpI; rw [if_pos k1])
    go_enter Try.func33, Try.ntmps33
    go_wp2
    go_quiet (fail)
    go_wp2
    go_ret
    exact ⟨ret_int HR.out.symm, (((Below.refl w.heap.size w).alloc (Nat.le_refl _) _).alloc (by simp) _).drewN' _⟩
  · by_cases k2 : c * b < a * d
    · have HR := Lib.hid (show cmpI (a * d) (c * b) = 1 by unfold cmpI; rw [if_neg k1, if_pos k2])
      go_enter Try.func33, Try.ntmps33
      go_wp2
      go_quiet (fail)
      go_wp2
      go_ret
      exact ⟨ret_int HR.out.symm, (((Below.refl w.heap.size w).alloc (Nat.le_refl _) _).alloc (by simp) _).drewN' _⟩
    · have HR := Lib.hid (show cmpI (a * d) (c * b) = 0 by unfold cmpI; rw [if_neg k1, if_neg k2])
      go_enter Try.func33, Try.ntmps33
      go_wp2
      go_quiet (fail)
      go_wp2
      go_ret
      exact ⟨ret_int HR.out.symm, (((Below.refl w.heap.size w).alloc (Nat.le_refl _) _).alloc (by simp) _).drewN' _⟩

end Go.Proofs.Ytdlddfmodbcnmaa
