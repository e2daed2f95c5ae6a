/- Walks: directions of vectors. -/
import Derived.Test.YtlkfkekglmjhhaaT1
import Derived.Test.YtlkfkekglmjhhaaSq
import Derived.Test.YtlkfkekglmjhhaaBg
set_option linter.unusedVariables false
set_option linter.unusedSimpArgs false
namespace Go.Proofs.Ytlkfkekglmjhhaa
open Go.RowKit

def FQr (x y : Int) (w : World) (e : Ending) (w' : World) : Prop := ∃ lo hi : Int, e = .returned (.agg #[.int .i64 lo, .int .i64 hi]) ∧ FQ x y lo hi ∧ Below w.heap.size w w'

set_option maxHeartbeats 2000000 in
theorem firstQuarter_any (x y : Int) (w : World) (x0 : 1 ≤ x) (x1 : x ≤ 10000) (y0 : 0 ≤ y) (y1 : y ≤ 10000) :
    Calls Try.prog 103 #[.int .i64 x, .int .i64 y] w (FQr x y w) := by
  have us0 : 0 ≤ (x + y) * 20 := by omega
  have us1 : (x + y) * 20 ≤ 400000 := by omega
  go_enter Try.func103, Try.ntmps103
  go_wp2
  go_loop [5, 6] (fun l h => ∃ a b : Int, l = .int .i64 a ∧ h = .int .i64 b ∧ 0 ≤ a ∧ a < b ∧ b ≤ 324000 ∧ Bx (a = 0 ∨ 20 * (x + y) < ahN x y a) ∧ Bx (b = 324000 ∨ ahN x y b < -(20 * (x + y)))) (fun l h => (intOf h - intOf l).toNat)
  case atStart => exact ⟨0, 324000, rfl, rfl, by omega, by omega, by omega, ⟨Or.inl rfl⟩, ⟨Or.inl rfl⟩⟩
  case round =>
    obtain ⟨a, b, rfl, rfl, a0, ab, b1, HL, HH⟩ := hrel
    by_cases hlt : 1 < b - a
    · obtain ⟨m, hm⟩ : ∃ m, (a + b) / 2 = m := ⟨_, rfl⟩
      have ma : a < m := by omega
      have mb : m < b := by omega
      obtain ⟨g1, g2, g3, g4⟩ := ah_bd (x := x) (y := y) (m := m) (by omega) x1 y0 y1
      have HM := Bx.mk (show ahN x y m = y * (arN m).2 - x * (arN m).1 from rfl)
      have HU := Bx.mk (show 20 * (x + y) = (x + y) * 20 by omega)
      rcases (by omega : (x + y) * 20 < y * (arN m).2 - x * (arN m).1 ∨ y * (arN m).2 - x * (arN m).1 < -((x + y) * 20) ∨ (y * (arN m).2 - x * (arN m).1 ≤ (x + y) * 20 ∧ -((x + y) * 20) ≤ y * (arN m).2 - x * (arN m).1)) with c | c | ⟨c, c'⟩
      · go_wp2_with (go_at_call 99; refine (around_any m _ (by omega) (by omega)).mono ?_; rintro e w' ⟨rfl, rfl⟩)
        go_round
        case rel => exact ⟨m, b, rfl, rfl, by omega, by omega, by omega, ⟨Or.inr (by rw [HM.out, HU.out]; exact c)⟩, HH⟩
        case measure => simp [intOf]; omega
      · have cn : ¬ (x + y) * 20 < y * (arN m).2 - x * (arN m).1 := by omega
        go_wp2_with (go_at_call 99; refine (around_any m _ (by omega) (by omega)).mono ?_; rintro e w' ⟨rfl, rfl⟩)
        go_round
        case rel => exact ⟨a, m, rfl, rfl, by omega, by omega, by omega, HL, ⟨Or.inr (by rw [HM.out, HU.out]; exact c)⟩⟩
        case measure => simp [intOf]; omega
      · have cn : ¬ (x + y) * 20 < y * (arN m).2 - x * (arN m).1 := by omega
        have cn' : ¬ y * (arN m).2 - x * (arN m).1 < -((x + y) * 20) := by omega
        have HF := Bx.mk (fq_around (x := x) (y := y) (m := m) x0 y0 (by omega) (by omega) (by rw [HM.out, HU.out]; exact c) (by rw [HM.out, HU.out]; exact c'))
        clear c c'
        go_wp2_with (go_at_call 99; refine (around_any m _ (by omega) (by omega)).mono ?_; rintro e w' ⟨rfl, rfl⟩)
        refine bodyPost_ret (ret_range1 rfl _ _ _ _ _ rfl (by simp [go_sem]; first | done | rfl) (by simp [go_sem]; first | done | rfl)) rfl ⟨_, _, rfl, HF.out, ?_⟩
        repeat (first | exact Below.refl _ _ | refine Below.drew ?_ | refine Below.drewN' ?_ _ | refine Below.setCell ?_ (by simp) _ | refine Below.alloc ?_ (by first | exact Nat.le_refl _ | (simp; done) | (simp; omega)) _)
    · obtain ⟨c, hc⟩ : ∃ c, b = c := ⟨_, rfl⟩
      have HF := Bx.mk (show FQ x y a b by
        have hb : b = a + 1 := by omega
        have h1 := HL.out
        have h2 := HH.out
        rw [hb] at h2 ⊢
        exact fq_next x0 y0 a0 (by omega) h1 h2)
      clear hc
      go_wp2
      refine bodyPost_ret (ret_range1 rfl _ _ _ _ _ rfl (by simp [go_sem]; first | done | rfl) (by simp [go_sem]; first | done | rfl)) rfl ⟨_, _, rfl, HF.out, ?_⟩
      repeat (first | exact Below.refl _ _ | refine Below.drew ?_ | refine Below.drewN' ?_ _ | refine Below.setCell ?_ (by simp) _ | refine Below.alloc ?_ (by first | exact Nat.le_refl _ | (simp; done) | (simp; omega)) _)

theorem boxed_on {w : World} {o : Obj} {b : Nat} {x y : Value} (h : b < w.heap.size) (k0 : w.cell? ⟨b, 0, none⟩ = some x) (k1 : w.cell? ⟨b, 1, none⟩ = some y) (k2 : w.frozen? ⟨b, 0, none⟩ = false) (k3 : w.frozen? ⟨b, 1, none⟩ = false) :
    (w.alloc o).cell? ⟨b, 0, none⟩ = some x ∧ (w.alloc o).cell? ⟨b, 1, none⟩ = some y ∧ (w.alloc o).frozen? ⟨b, 0, none⟩ = false ∧ (w.alloc o).frozen? ⟨b, 1, none⟩ = false := by
  obtain ⟨c, f⟩ := bcell (below_alloc1 w o)
  exact ⟨(c b 0 h).trans k0, (c b 1 h).trans k1, (f b 0 h).trans k2, (f b 1 h).trans k3⟩
theorem boxed_cells {w : World} {o : Obj} {b : Nat} {x y : Value} (h : b < w.heap.size) (k0 : w.cell? ⟨b, 0, none⟩ = some x) (k1 : w.cell? ⟨b, 1, none⟩ = some y) :
    (w.alloc o).cell? ⟨b, 0, none⟩ = some x ∧ (w.alloc o).cell? ⟨b, 1, none⟩ = some y := by
  obtain ⟨c, f⟩ := bcell (below_alloc1 w o)
  exact ⟨(c b 0 h).trans k0, (c b 1 h).trans k1⟩
/-- What the program's direction is. -/
def Angled (x y : Int) (w : World) (e : Ending) (w' : World) : Prop := ∃ lo hi : Int, e = .returned (.tuple #[.agg #[.int .i64 lo, .int .i64 hi], .int .i64 0]) ∧ Dir lo hi x y ∧ Below w.heap.size w w'


set_option maxHeartbeats 2000000 in
theorem angle_0 (x y : Int) (w : World) (x0 : -10000 ≤ x) (x1 : x ≤ 10000) (y0 : -10000 ≤ y) (y1 : y ≤ 10000) (hx : 1 ≤ x) (hy : 0 ≤ y) :
    Calls Try.prog 61 #[.int .i64 x, .int .i64 y] w (Angled x y w) := by
  have s1 : ¬ 10000 < sz x := by unfold sz; omega
  have s2 : ¬ 10000 < sz y := by unfold sz; omega
  have s3 := sz_nonneg x
  have s4 := sz_nonneg y
  have e0 : (x == 0) = false := by simp; omega
  go_enter Try.func61, Try.ntmps61
  go_wp2_with (first
    | (go_at_call 87; (with_reducible refine (size_any x _ (by omega) (by omega)).mono ?_); rintro e w' ⟨rfl, rfl⟩)
    | (go_at_call 87; (with_reducible refine (size_any y _ (by omega) (by omega)).mono ?_); rintro e w' ⟨rfl, rfl⟩))
  go_loop [0, 1, 6] (fun a b t => (a = .int .i64 (x) ∧ b = .int .i64 (y) ∧ t = .int .i64 0)) (fun _ _ t => (2000000 - intOf t).toNat)
  case atStart => exact ⟨rfl, rfl, rfl⟩
  case round =>
    obtain ⟨rfl, rfl, rfl⟩ := hrel
    have q0 : ¬ x ≤ 0 := by omega
    have q1 : ¬ y < 0 := by omega
    go_wp2_with (go_at_call 103; refine (firstQuarter_any (x) (y) _ (by omega) (by omega) (by omega) (by omega)).mono ?_; rintro e w1 ⟨lo, hi, rfl, F, hB1⟩; have HF := Bx.mk F; have f1 := F.b1; have f2 := F.b2; have f3 := F.b3; clear F; obtain ⟨hc1, hf1⟩ := bcell hB1; have hz1 : w.heap.size + 1 ≤ w1.heap.size := (by have := hB1.size; simp at this; omega); have hz2 : w.heap.size < w1.heap.size := (by omega); have k0 : w1.cell? ⟨w.heap.size, 0, none⟩ = some (.int .i64 0) := (by rw [hc1 _ _ (by simp)]; simp [go_sem, World.cell?_alloc_past]); have k1 : w1.cell? ⟨w.heap.size, 1, none⟩ = some (.int .i64 0) := (by rw [hc1 _ _ (by simp)]; simp [go_sem, World.cell?_alloc_past]); have k2 : w1.frozen? ⟨w.heap.size, 0, none⟩ = false := (by rw [hf1 _ _ (by simp)]; simp [go_sem, World.frozen?_alloc_past]); have k3 : w1.frozen? ⟨w.heap.size, 1, none⟩ = false := (by rw [hf1 _ _ (by simp)]; simp [go_sem, World.frozen?_alloc_past]); obtain ⟨kk0, kk1, kk2, kk3⟩ := boxed_on (o := .cells #[.int .i64 lo, .int .i64 hi] 38) hz2 k0 k1 k2 k3)
    obtain ⟨r0, r1⟩ := set2 (w := w1) (b := w.heap.size) (x := .int .i64 0) (y := .int .i64 0) (.int .i64 (lo)) (.int .i64 (hi)) k0 k1
    obtain ⟨r2, r3⟩ := boxed_cells (o := .cells #[.int .i64 lo, .int .i64 hi] 38) (by simpa [World.setCell] using hz2) r0 r1
    refine bodyPost_ret (ret_range rfl _ _ _ _ _ _ rfl rfl r2 r3) rfl ⟨_, _, rfl, dir0 (by omega) (by omega) HF.out, ?_⟩
    exact (((((Below.refl w.heap.size w).alloc (Nat.le_refl _) _).trans (hB1.mono (by simp))).setCell (by simp) _).setCell (by simp) _).alloc (by simp [World.setCell]; omega) _


set_option maxHeartbeats 2000000 in
theorem angle_1 (x y : Int) (w : World) (x0 : -10000 ≤ x) (x1 : x ≤ 10000) (y0 : -10000 ≤ y) (y1 : y ≤ 10000) (hx : x ≤ 0) (hy : 1 ≤ y) :
    Calls Try.prog 61 #[.int .i64 x, .int .i64 y] w (Angled x y w) := by
  have s1 : ¬ 10000 < sz x := by unfold sz; omega
  have s2 : ¬ 10000 < sz y := by unfold sz; omega
  have s3 := sz_nonneg x
  have s4 := sz_nonneg y
  have e0 : (y == 0) = false := by simp; omega
  rcases Bool.eq_false_or_eq_true (x == 0) with ex | ex
  all_goals
    go_enter Try.func61, Try.ntmps61
    go_wp2_with (first
      | (go_at_call 87; (with_reducible refine (size_any x _ (by omega) (by omega)).mono ?_); rintro e w' ⟨rfl, rfl⟩)
      | (go_at_call 87; (with_reducible refine (size_any y _ (by omega) (by omega)).mono ?_); rintro e w' ⟨rfl, rfl⟩))
    go_loop [0, 1, 6] (fun a b t => (a = .int .i64 (x) ∧ b = .int .i64 (y) ∧ t = .int .i64 0) ∨ (a = .int .i64 (y) ∧ b = .int .i64 (-x) ∧ t = .int .i64 324000)) (fun _ _ t => (2000000 - intOf t).toNat)
    case atStart => exact Or.inl ⟨rfl, rfl, rfl⟩
    case round =>
      rcases hrel with ⟨rfl, rfl, rfl⟩ | ⟨rfl, rfl, rfl⟩
      · rcases (by omega : x ≤ 0 ∨ (¬ x ≤ 0 ∧ y < 0)) with q0 | ⟨q0, q1⟩
        all_goals (try (exfalso; omega))
        all_goals
          go_wp2
          go_round
          case rel => exact Or.inr (⟨by simp, by simp, rfl⟩)
          case measure => simp [intOf]
      · have q0 : ¬ y ≤ 0 := by omega
        have q1 : ¬ -x < 0 := by omega
        go_wp2_with (go_at_call 103; refine (firstQuarter_any (y) (-x) _ (by omega) (by omega) (by omega) (by omega)).mono ?_; rintro e w1 ⟨lo, hi, rfl, F, hB1⟩; have HF := Bx.mk F; have f1 := F.b1; have f2 := F.b2; have f3 := F.b3; clear F; obtain ⟨hc1, hf1⟩ := bcell hB1; have hz1 : w.heap.size + 1 ≤ w1.heap.size := (by have := hB1.size; simp at this; omega); have hz2 : w.heap.size < w1.heap.size := (by omega); have k0 : w1.cell? ⟨w.heap.size, 0, none⟩ = some (.int .i64 0) := (by rw [hc1 _ _ (by simp)]; simp [go_sem, World.cell?_alloc_past]); have k1 : w1.cell? ⟨w.heap.size, 1, none⟩ = some (.int .i64 0) := (by rw [hc1 _ _ (by simp)]; simp [go_sem, World.cell?_alloc_past]); have k2 : w1.frozen? ⟨w.heap.size, 0, none⟩ = false := (by rw [hf1 _ _ (by simp)]; simp [go_sem, World.frozen?_alloc_past]); have k3 : w1.frozen? ⟨w.heap.size, 1, none⟩ = false := (by rw [hf1 _ _ (by simp)]; simp [go_sem, World.frozen?_alloc_past]); obtain ⟨kk0, kk1, kk2, kk3⟩ := boxed_on (o := .cells #[.int .i64 lo, .int .i64 hi] 38) hz2 k0 k1 k2 k3)
        obtain ⟨r0, r1⟩ := set2 (w := w1) (b := w.heap.size) (x := .int .i64 0) (y := .int .i64 0) (.int .i64 (lo + 324000)) (.int .i64 (hi + 324000)) k0 k1
        obtain ⟨r2, r3⟩ := boxed_cells (o := .cells #[.int .i64 lo, .int .i64 hi] 38) (by simpa [World.setCell] using hz2) r0 r1
        refine bodyPost_ret (ret_range rfl _ _ _ _ _ _ rfl rfl r2 r3) rfl ⟨_, _, rfl, dir_turn1 (by omega) (by omega) HF.out, ?_⟩
        exact (((((Below.refl w.heap.size w).alloc (Nat.le_refl _) _).trans (hB1.mono (by simp))).setCell (by simp) _).setCell (by simp) _).alloc (by simp [World.setCell]; omega) _


set_option maxHeartbeats 2000000 in
theorem angle_2 (x y : Int) (w : World) (x0 : -10000 ≤ x) (x1 : x ≤ 10000) (y0 : -10000 ≤ y) (y1 : y ≤ 10000) (hx : x ≤ -1) (hy : y ≤ 0) :
    Calls Try.prog 61 #[.int .i64 x, .int .i64 y] w (Angled x y w) := by
  have s1 : ¬ 10000 < sz x := by unfold sz; omega
  have s2 : ¬ 10000 < sz y := by unfold sz; omega
  have s3 := sz_nonneg x
  have s4 := sz_nonneg y
  have e0 : (x == 0) = false := by simp; omega
  go_enter Try.func61, Try.ntmps61
  go_wp2_with (first
    | (go_at_call 87; (with_reducible refine (size_any x _ (by omega) (by omega)).mono ?_); rintro e w' ⟨rfl, rfl⟩)
    | (go_at_call 87; (with_reducible refine (size_any y _ (by omega) (by omega)).mono ?_); rintro e w' ⟨rfl, rfl⟩))
  go_loop [0, 1, 6] (fun a b t => (a = .int .i64 (x) ∧ b = .int .i64 (y) ∧ t = .int .i64 0) ∨ (a = .int .i64 (y) ∧ b = .int .i64 (-x) ∧ t = .int .i64 324000) ∨ (a = .int .i64 (-x) ∧ b = .int .i64 (-y) ∧ t = .int .i64 648000)) (fun _ _ t => (2000000 - intOf t).toNat)
  case atStart => exact Or.inl ⟨rfl, rfl, rfl⟩
  case round =>
    rcases hrel with ⟨rfl, rfl, rfl⟩ | ⟨rfl, rfl, rfl⟩ | ⟨rfl, rfl, rfl⟩
    · rcases (by omega : x ≤ 0 ∨ (¬ x ≤ 0 ∧ y < 0)) with q0 | ⟨q0, q1⟩
      all_goals (try (exfalso; omega))
      all_goals
        go_wp2
        go_round
        case rel => exact Or.inr (Or.inl ⟨by simp, by simp, rfl⟩)
        case measure => simp [intOf]
    · rcases (by omega : y ≤ 0 ∨ (¬ y ≤ 0 ∧ -x < 0)) with q0 | ⟨q0, q1⟩
      all_goals (try (exfalso; omega))
      all_goals
        go_wp2
        go_round
        case rel => exact Or.inr (Or.inr (⟨by simp, by simp, rfl⟩))
        case measure => simp [intOf]
    · have q0 : ¬ -x ≤ 0 := by omega
      have q1 : ¬ -y < 0 := by omega
      go_wp2_with (go_at_call 103; refine (firstQuarter_any (-x) (-y) _ (by omega) (by omega) (by omega) (by omega)).mono ?_; rintro e w1 ⟨lo, hi, rfl, F, hB1⟩; have HF := Bx.mk F; have f1 := F.b1; have f2 := F.b2; have f3 := F.b3; clear F; obtain ⟨hc1, hf1⟩ := bcell hB1; have hz1 : w.heap.size + 1 ≤ w1.heap.size := (by have := hB1.size; simp at this; omega); have hz2 : w.heap.size < w1.heap.size := (by omega); have k0 : w1.cell? ⟨w.heap.size, 0, none⟩ = some (.int .i64 0) := (by rw [hc1 _ _ (by simp)]; simp [go_sem, World.cell?_alloc_past]); have k1 : w1.cell? ⟨w.heap.size, 1, none⟩ = some (.int .i64 0) := (by rw [hc1 _ _ (by simp)]; simp [go_sem, World.cell?_alloc_past]); have k2 : w1.frozen? ⟨w.heap.size, 0, none⟩ = false := (by rw [hf1 _ _ (by simp)]; simp [go_sem, World.frozen?_alloc_past]); have k3 : w1.frozen? ⟨w.heap.size, 1, none⟩ = false := (by rw [hf1 _ _ (by simp)]; simp [go_sem, World.frozen?_alloc_past]); obtain ⟨kk0, kk1, kk2, kk3⟩ := boxed_on (o := .cells #[.int .i64 lo, .int .i64 hi] 38) hz2 k0 k1 k2 k3)
      obtain ⟨r0, r1⟩ := set2 (w := w1) (b := w.heap.size) (x := .int .i64 0) (y := .int .i64 0) (.int .i64 (lo + 648000)) (.int .i64 (hi + 648000)) k0 k1
      obtain ⟨r2, r3⟩ := boxed_cells (o := .cells #[.int .i64 lo, .int .i64 hi] 38) (by simpa [World.setCell] using hz2) r0 r1
      refine bodyPost_ret (ret_range rfl _ _ _ _ _ _ rfl rfl r2 r3) rfl ⟨_, _, rfl, dir_turn2 (by omega) (by omega) HF.out, ?_⟩
      exact (((((Below.refl w.heap.size w).alloc (Nat.le_refl _) _).trans (hB1.mono (by simp))).setCell (by simp) _).setCell (by simp) _).alloc (by simp [World.setCell]; omega) _


set_option maxHeartbeats 2000000 in
theorem angle_3 (x y : Int) (w : World) (x0 : -10000 ≤ x) (x1 : x ≤ 10000) (y0 : -10000 ≤ y) (y1 : y ≤ 10000) (hx : 0 ≤ x) (hy : y ≤ -1) :
    Calls Try.prog 61 #[.int .i64 x, .int .i64 y] w (Angled x y w) := by
  have s1 : ¬ 10000 < sz x := by unfold sz; omega
  have s2 : ¬ 10000 < sz y := by unfold sz; omega
  have s3 := sz_nonneg x
  have s4 := sz_nonneg y
  have e0 : (y == 0) = false := by simp; omega
  rcases Bool.eq_false_or_eq_true (x == 0) with ex | ex
  all_goals
    go_enter Try.func61, Try.ntmps61
    go_wp2_with (first
      | (go_at_call 87; (with_reducible refine (size_any x _ (by omega) (by omega)).mono ?_); rintro e w' ⟨rfl, rfl⟩)
      | (go_at_call 87; (with_reducible refine (size_any y _ (by omega) (by omega)).mono ?_); rintro e w' ⟨rfl, rfl⟩))
    go_loop [0, 1, 6] (fun a b t => (a = .int .i64 (x) ∧ b = .int .i64 (y) ∧ t = .int .i64 0) ∨ (a = .int .i64 (y) ∧ b = .int .i64 (-x) ∧ t = .int .i64 324000) ∨ (a = .int .i64 (-x) ∧ b = .int .i64 (-y) ∧ t = .int .i64 648000) ∨ (a = .int .i64 (-y) ∧ b = .int .i64 (x) ∧ t = .int .i64 972000)) (fun _ _ t => (2000000 - intOf t).toNat)
    case atStart => exact Or.inl ⟨rfl, rfl, rfl⟩
    case round =>
      rcases hrel with ⟨rfl, rfl, rfl⟩ | ⟨rfl, rfl, rfl⟩ | ⟨rfl, rfl, rfl⟩ | ⟨rfl, rfl, rfl⟩
      · rcases (by omega : x ≤ 0 ∨ (¬ x ≤ 0 ∧ y < 0)) with q0 | ⟨q0, q1⟩
        all_goals (try (exfalso; omega))
        all_goals
          go_wp2
          go_round
          case rel => exact Or.inr (Or.inl ⟨by simp, by simp, rfl⟩)
          case measure => simp [intOf]
      · rcases (by omega : y ≤ 0 ∨ (¬ y ≤ 0 ∧ -x < 0)) with q0 | ⟨q0, q1⟩
        all_goals (try (exfalso; omega))
        all_goals
          go_wp2
          go_round
          case rel => exact Or.inr (Or.inr (Or.inl ⟨by simp, by simp, rfl⟩))
          case measure => simp [intOf]
      · rcases (by omega : -x ≤ 0 ∨ (¬ -x ≤ 0 ∧ -y < 0)) with q0 | ⟨q0, q1⟩
        all_goals (try (exfalso; omega))
        all_goals
          go_wp2
          go_round
          case rel => exact Or.inr (Or.inr (Or.inr (⟨by simp, by simp, rfl⟩)))
          case measure => simp [intOf]
      · have q0 : ¬ -y ≤ 0 := by omega
        have q1 : ¬ x < 0 := by omega
        go_wp2_with (go_at_call 103; refine (firstQuarter_any (-y) (x) _ (by omega) (by omega) (by omega) (by omega)).mono ?_; rintro e w1 ⟨lo, hi, rfl, F, hB1⟩; have HF := Bx.mk F; have f1 := F.b1; have f2 := F.b2; have f3 := F.b3; clear F; obtain ⟨hc1, hf1⟩ := bcell hB1; have hz1 : w.heap.size + 1 ≤ w1.heap.size := (by have := hB1.size; simp at this; omega); have hz2 : w.heap.size < w1.heap.size := (by omega); have k0 : w1.cell? ⟨w.heap.size, 0, none⟩ = some (.int .i64 0) := (by rw [hc1 _ _ (by simp)]; simp [go_sem, World.cell?_alloc_past]); have k1 : w1.cell? ⟨w.heap.size, 1, none⟩ = some (.int .i64 0) := (by rw [hc1 _ _ (by simp)]; simp [go_sem, World.cell?_alloc_past]); have k2 : w1.frozen? ⟨w.heap.size, 0, none⟩ = false := (by rw [hf1 _ _ (by simp)]; simp [go_sem, World.frozen?_alloc_past]); have k3 : w1.frozen? ⟨w.heap.size, 1, none⟩ = false := (by rw [hf1 _ _ (by simp)]; simp [go_sem, World.frozen?_alloc_past]); obtain ⟨kk0, kk1, kk2, kk3⟩ := boxed_on (o := .cells #[.int .i64 lo, .int .i64 hi] 38) hz2 k0 k1 k2 k3)
        obtain ⟨r0, r1⟩ := set2 (w := w1) (b := w.heap.size) (x := .int .i64 0) (y := .int .i64 0) (.int .i64 (lo + 972000)) (.int .i64 (hi + 972000)) k0 k1
        obtain ⟨r2, r3⟩ := boxed_cells (o := .cells #[.int .i64 lo, .int .i64 hi] 38) (by simpa [World.setCell] using hz2) r0 r1
        refine bodyPost_ret (ret_range rfl _ _ _ _ _ _ rfl rfl r2 r3) rfl ⟨_, _, rfl, dir_turn3 (by omega) (by omega) HF.out, ?_⟩
        exact (((((Below.refl w.heap.size w).alloc (Nat.le_refl _) _).trans (hB1.mono (by simp))).setCell (by simp) _).setCell (by simp) _).alloc (by simp [World.setCell]; omega) _

end Go.Proofs.Ytlkfkekglmjhhaa