/- Walks: sums, differences, products, quotients of fractions. -/
import Derived.Test.YtdlddfmodbcnmaaW02
set_option linter.unusedVariables false
set_option linter.unusedSimpArgs false
namespace Go.Proofs.Ytdlddfmodbcnmaa
open Go.RowKit

theorem checkFracs1 (a b : Int) (g : Nat) (w : World) (hg : g < w.heap.size) (ha : I64 a) (hb : I64 b)
    (h0 : w.cell? ⟨g, 0, none⟩ = some (.int .i64 a)) (h1 : w.cell? ⟨g, 1, none⟩ = some (.int .i64 b)) :
    Calls Try.prog 83 #[.slice (some ⟨g, 0, none⟩) 1 1] w fun e w' => e = .returned (.int .i64 (ckFs [(a, b)])) ∧ Below w.heap.size w w' :=
  checkFracs_any g 1 [(a, b)] w hg rfl (by omega) (fun k hk => by obtain rfl : k = 0 := by omega
                                                                  exact ⟨ha, hb⟩)
    (fun k hk => by obtain rfl : k = 0 := by omega
                    exact ⟨h0, h1⟩)
theorem checkFracs2 (a b c d : Int) (g : Nat) (w : World) (hg : g < w.heap.size) (ha : I64 a) (hb : I64 b) (hc : I64 c) (hd : I64 d)
    (h0 : w.cell? ⟨g, 0, none⟩ = some (.int .i64 a)) (h1 : w.cell? ⟨g, 1, none⟩ = some (.int .i64 b)) (h2 : w.cell? ⟨g, 2, none⟩ = some (.int .i64 c)) (h3 : w.cell? ⟨g, 3, none⟩ = some (.int .i64 d)) :
    Calls Try.prog 83 #[.slice (some ⟨g, 0, none⟩) 2 2] w fun e w' => e = .returned (.int .i64 (ckFs [(a, b), (c, d)])) ∧ Below w.heap.size w w' :=
  checkFracs_any g 2 [(a, b), (c, d)] w hg rfl (by omega)
    (fun k hk => by
      rcases Nat.lt_or_ge k 1 with h | h
      · obtain rfl : k = 0 := by omega
        exact ⟨ha, hb⟩
      · obtain rfl : k = 1 := by omega
        exact ⟨hc, hd⟩)
    (fun k hk => by
      rcases Nat.lt_or_ge k 1 with h | h
      · obtain rfl : k = 0 := by omega
        exact ⟨h0, h1⟩
      · obtain rfl : k = 1 := by omega
        exact ⟨h2, h3⟩)

set_option maxHeartbeats 1000000 in
theorem add_any (a b c d : Int) (w : World) (ha : I64 a) (hb : I64 b) (hc : I64 c) (hd : I64 d) :
    Calls Try.prog 21 #[.agg #[.int .i64 a, .int .i64 b], .agg #[.int .i64 c, .int .i64 d]] w fun e w' => e = .returned (.tuple #[.agg #[.int .i64 (addN a b c d).1, .int .i64 (addN a b c d).2.1], .int .i64 (addN a b c d).2.2]) ∧ Below w.heap.size w w' := by
  by_cases he : ckFs [(a, b), (c, d)] = 0
  · have he' : (ckFs [(a, b), (c, d)] != 0) = false := by rw [he]; rfl
    have HR := Lib.hid (show addN a b c d = lowN (a * d + c * b) (b * d) by unfold addN; rw [if_neg (by simpa using he)])
    obtain ⟨z1, z2⟩ := ckFs_two_zero he
    obtain ⟨a1, a2, b1, b2, _⟩ := ckF_zero z1
    obtain ⟨c1, c2, d1, d2, _⟩ := ckF_zero z2
    dsimp only at a1 a2 b1 b2 c1 c2 d1 d2
    clear z1 z2 he
    have m1 := mul_b9 a1 a2 (y := d) (by omega) (by omega)
    have m2 := mul_b9 c1 c2 (y := b) (by omega) (by omega)
    have m3 := mul_b9 (x := b) (y := d) (by omega) (by omega) (by omega) (by omega)
    have m4 := mul_pos9 b1 d1
    have m5 := mul_b9 a1 a2 c1 c2
    go_enter Try.func21, Try.ntmps21
    go_wp2_with (first
      | (go_at_call 83; refine (checkFracs2 a b c d _ _ (by simp) ha hb hc hd (by simp [go_sem, World.cell?_alloc_past]) (by simp [go_sem, World.cell?_alloc_past]) (by simp [go_sem, World.cell?_alloc_past]) (by simp [go_sem, World.cell?_alloc_past])).mono ?_; rintro e w1 ⟨rfl, hB1⟩; obtain ⟨hc1, hf1⟩ := bcell hB1; have hz1 : w.heap.size + 4 ≤ w1.heap.size := (by have := hB1.size; simp at this; omega); have k0 : w1.cell? ⟨w.heap.size + 1 + 1, 0, none⟩ = some (.int .i64 0) := (by rw [hc1 _ _ (by simp)]; simp [go_sem, World.cell?_alloc_past]); have k1 : w1.cell? ⟨w.heap.size + 1 + 1, 1, none⟩ = some (.int .i64 0) := (by rw [hc1 _ _ (by simp)]; simp [go_sem, World.cell?_alloc_past]); have k2 : w1.frozen? ⟨w.heap.size + 1 + 1, 0, none⟩ = false := (by rw [hf1 _ _ (by simp)]; simp [go_sem, World.frozen?_alloc_past]); have k3 : w1.frozen? ⟨w.heap.size + 1 + 1, 1, none⟩ = false := (by rw [hf1 _ _ (by simp)]; simp [go_sem, World.frozen?_alloc_past]))
      | (go_at_call 84; refine (lowest_any _ _ _ (by omega) (by omega) (by omega) (by omega) (by omega)).mono ?_; rintro e w2 ⟨rfl, hB2⟩; obtain ⟨hc2, hf2⟩ := bcell hB2; have hz2 := hB2.size; have j0 := (hc2 (w.heap.size + 1 + 1) 0 (by omega)).trans k0; have j1 := (hc2 (w.heap.size + 1 + 1) 1 (by omega)).trans k1; have j2 := (hf2 (w.heap.size + 1 + 1) 0 (by omega)).trans k2; have j3 := (hf2 (w.heap.size + 1 + 1) 1 (by omega)).trans k3))
    obtain ⟨r0, r1⟩ := set2 (w := w2) (b := w.heap.size + 1 + 1) (x := .int .i64 0) (y := .int .i64 0) (.int .i64 (lowN (a * d + c * b) (b * d)).1) (.int .i64 (lowN (a * d + c * b) (b * d)).2.1)
      j0 j1
    refine bodyPost_ret (ret_frac rfl _ _ _ _ _ _ rfl rfl r0 r1) rfl ⟨by rw [HR.out]; rfl, ?_⟩
    exact (((((((((Below.refl w.heap.size w).alloc (Nat.le_refl _) _).alloc (by simp) _).alloc (by simp; omega) _).alloc (by simp; omega) _).trans (hB1.mono (by simp; omega))).trans (hB2.mono (by omega))).setCell (by simp; omega) _).setCell (by simp; omega) _)
  · have he' : (ckFs [(a, b), (c, d)] != 0) = true := by simpa using he
    have HR := Lib.hid (show addN a b c d = (0, 0, ckFs [(a, b), (c, d)]) by unfold addN; rw [if_pos he])
    clear he
    go_enter Try.func21, Try.ntmps21
    go_wp2_with (go_at_call 83; refine (checkFracs2 a b c d _ _ (by simp) ha hb hc hd (by simp [go_sem, World.cell?_alloc_past]) (by simp [go_sem, World.cell?_alloc_past]) (by simp [go_sem, World.cell?_alloc_past]) (by simp [go_sem, World.cell?_alloc_past])).mono ?_; rintro e w1 ⟨rfl, hB1⟩; obtain ⟨hc1, hf1⟩ := bcell hB1; have hz1 : w.heap.size + 4 ≤ w1.heap.size := (by have := hB1.size; simp at this; omega); have k0 : w1.cell? ⟨w.heap.size + 1 + 1, 0, none⟩ = some (.int .i64 0) := (by rw [hc1 _ _ (by simp)]; simp [go_sem, World.cell?_alloc_past]); have k1 : w1.cell? ⟨w.heap.size + 1 + 1, 1, none⟩ = some (.int .i64 0) := (by rw [hc1 _ _ (by simp)]; simp [go_sem, World.cell?_alloc_past]); have k2 : w1.frozen? ⟨w.heap.size + 1 + 1, 0, none⟩ = false := (by rw [hf1 _ _ (by simp)]; simp [go_sem, World.frozen?_alloc_past]); have k3 : w1.frozen? ⟨w.heap.size + 1 + 1, 1, none⟩ = false := (by rw [hf1 _ _ (by simp)]; simp [go_sem, World.frozen?_alloc_past]))
    obtain ⟨r0, r1⟩ := set2 (w := w1) (b := w.heap.size + 1 + 1) (x := .int .i64 0) (y := .int .i64 0) (.int .i64 0) (.int .i64 0)
      k0 k1
    refine bodyPost_ret (ret_frac rfl _ _ _ _ _ _ rfl rfl r0 r1) rfl ⟨by rw [HR.out]; rfl, ?_⟩
    exact ((((((((Below.refl w.heap.size w).alloc (Nat.le_refl _) _).alloc (by simp) _).alloc (by simp; omega) _).alloc (by simp; omega) _).trans (hB1.mono (by simp; omega))).setCell (by simp; omega) _).setCell (by simp; omega) _)

set_option maxHeartbeats 1000000 in
theorem sub_any (a b c d : Int) (w : World) (ha : I64 a) (hb : I64 b) (hc : I64 c) (hd : I64 d) :
    Calls Try.prog 22 #[.agg #[.int .i64 a, .int .i64 b], .agg #[.int .i64 c, .int .i64 d]] w fun e w' => e = .returned (.tuple #[.agg #[.int .i64 (subN a b c d).1, .int .i64 (subN a b c d).2.1], .int .i64 (subN a b c d).2.2]) ∧ Below w.heap.size w w' := by
  by_cases he : ckFs [(a, b), (c, d)] = 0
  · have he' : (ckFs [(a, b), (c, d)] != 0) = false := by rw [he]; rfl
    have HR := Lib.hid (show subN a b c d = lowN (a * d - c * b) (b * d) by unfold subN; rw [if_neg (by simpa using he)])
    obtain ⟨z1, z2⟩ := ckFs_two_zero he
    obtain ⟨a1, a2, b1, b2, _⟩ := ckF_zero z1
    obtain ⟨c1, c2, d1, d2, _⟩ := ckF_zero z2
    dsimp only at a1 a2 b1 b2 c1 c2 d1 d2
    clear z1 z2 he
    have m1 := mul_b9 a1 a2 (y := d) (by omega) (by omega)
    have m2 := mul_b9 c1 c2 (y := b) (by omega) (by omega)
    have m3 := mul_b9 (x := b) (y := d) (by omega) (by omega) (by omega) (by omega)
    have m4 := mul_pos9 b1 d1
    have m5 := mul_b9 a1 a2 c1 c2
    go_enter Try.func22, Try.ntmps22
    go_wp2_with (first
      | (go_at_call 83; refine (checkFracs2 a b c d _ _ (by simp) ha hb hc hd (by simp [go_sem, World.cell?_alloc_past]) (by simp [go_sem, World.cell?_alloc_past]) (by simp [go_sem, World.cell?_alloc_past]) (by simp [go_sem, World.cell?_alloc_past])).mono ?_; rintro e w1 ⟨rfl, hB1⟩; obtain ⟨hc1, hf1⟩ := bcell hB1; have hz1 : w.heap.size + 4 ≤ w1.heap.size := (by have := hB1.size; simp at this; omega); have k0 : w1.cell? ⟨w.heap.size + 1 + 1, 0, none⟩ = some (.int .i64 0) := (by rw [hc1 _ _ (by simp)]; simp [go_sem, World.cell?_alloc_past]); have k1 : w1.cell? ⟨w.heap.size + 1 + 1, 1, none⟩ = some (.int .i64 0) := (by rw [hc1 _ _ (by simp)]; simp [go_sem, World.cell?_alloc_past]); have k2 : w1.frozen? ⟨w.heap.size + 1 + 1, 0, none⟩ = false := (by rw [hf1 _ _ (by simp)]; simp [go_sem, World.frozen?_alloc_past]); have k3 : w1.frozen? ⟨w.heap.size + 1 + 1, 1, none⟩ = false := (by rw [hf1 _ _ (by simp)]; simp [go_sem, World.frozen?_alloc_past]))
      | (go_at_call 84; refine (lowest_any _ _ _ (by omega) (by omega) (by omega) (by omega) (by omega)).mono ?_; rintro e w2 ⟨rfl, hB2⟩; obtain ⟨hc2, hf2⟩ := bcell hB2; have hz2 := hB2.size; have j0 := (hc2 (w.heap.size + 1 + 1) 0 (by omega)).trans k0; have j1 := (hc2 (w.heap.size + 1 + 1) 1 (by omega)).trans k1; have j2 := (hf2 (w.heap.size + 1 + 1) 0 (by omega)).trans k2; have j3 := (hf2 (w.heap.size + 1 + 1) 1 (by omega)).trans k3))
    obtain ⟨r0, r1⟩ := set2 (w := w2) (b := w.heap.size + 1 + 1) (x := .int .i64 0) (y := .int .i64 0) (.int .i64 (lowN (a * d - c * b) (b * d)).1) (.int .i64 (lowN (a * d - c * b) (b * d)).2.1)
      j0 j1
    refine bodyPost_ret (ret_frac rfl _ _ _ _ _ _ rfl rfl r0 r1) rfl ⟨by rw [HR.out]; rfl, ?_⟩
    exact (((((((((Below.refl w.heap.size w).alloc (Nat.le_refl _) _).alloc (by simp) _).alloc (by simp; omega) _).alloc (by simp; omega) _).trans (hB1.mono (by simp; omega))).trans (hB2.mono (by omega))).setCell (by simp; omega) _).setCell (by simp; omega) _)
  · have he' : (ckFs [(a, b), (c, d)] != 0) = true := by simpa using he
    have HR := Lib.hid (show subN a b c d = (0, 0, ckFs [(a, b), (c, d)]) by unfold subN; rw [if_pos he])
    clear he
    go_enter Try.func22, Try.ntmps22
    go_wp2_with (go_at_call 83; refine (checkFracs2 a b c d _ _ (by simp) ha hb hc hd (by simp [go_sem, World.cell?_alloc_past]) (by simp [go_sem, World.cell?_alloc_past]) (by simp [go_sem, World.cell?_alloc_past]) (by simp [go_sem, World.cell?_alloc_past])).mono ?_; rintro e w1 ⟨rfl, hB1⟩; obtain ⟨hc1, hf1⟩ := bcell hB1; have hz1 : w.heap.size + 4 ≤ w1.heap.size := (by have := hB1.size; simp at this; omega); have k0 : w1.cell? ⟨w.heap.size + 1 + 1, 0, none⟩ = some (.int .i64 0) := (by rw [hc1 _ _ (by simp)]; simp [go_sem, World.cell?_alloc_past]); have k1 : w1.cell? ⟨w.heap.size + 1 + 1, 1, none⟩ = some (.int .i64 0) := (by rw [hc1 _ _ (by simp)]; simp [go_sem, World.cell?_alloc_past]); have k2 : w1.frozen? ⟨w.heap.size + 1 + 1, 0, none⟩ = false := (by rw [hf1 _ _ (by simp)]; simp [go_sem, World.frozen?_alloc_past]); have k3 : w1.frozen? ⟨w.heap.size + 1 + 1, 1, none⟩ = false := (by rw [hf1 _ _ (by simp)]; simp [go_sem, World.frozen?_alloc_past]))
    obtain ⟨r0, r1⟩ := set2 (w := w1) (b := w.heap.size + 1 + 1) (x := .int .i64 0) (y := .int .i64 0) (.int .i64 0) (.int .i64 0)
      k0 k1
    refine bodyPost_ret (ret_frac rfl _ _ _ _ _ _ rfl rfl r0 r1) rfl ⟨by rw [HR.out]; rfl, ?_⟩
    exact ((((((((Below.refl w.heap.size w).alloc (Nat.le_refl _) _).alloc (by simp) _).alloc (by simp; omega) _).alloc (by simp; omega) _).trans (hB1.mono (by simp; omega))).setCell (by simp; omega) _).setCell (by simp; omega) _)

set_option maxHeartbeats 1000000 in
theorem mul_any (a b c d : Int) (w : World) (ha : I64 a) (hb : I64 b) (hc : I64 c) (hd : I64 d) :
    Calls Try.prog 23 #[.agg #[.int .i64 a, .int .i64 b], .agg #[.int .i64 c, .int .i64 d]] w fun e w' => e = .returned (.tuple #[.agg #[.int .i64 (mulN a b c d).1, .int .i64 (mulN a b c d).2.1], .int .i64 (mulN a b c d).2.2]) ∧ Below w.heap.size w w' := by
  by_cases he : ckFs [(a, b), (c, d)] = 0
  · have he' : (ckFs [(a, b), (c, d)] != 0) = false := by rw [he]; rfl
    have HR := Lib.hid (show mulN a b c d = lowN (a * c) (b * d) by unfold mulN; rw [if_neg (by simpa using he)])
    obtain ⟨z1, z2⟩ := ckFs_two_zero he
    obtain ⟨a1, a2, b1, b2, _⟩ := ckF_zero z1
    obtain ⟨c1, c2, d1, d2, _⟩ := ckF_zero z2
    dsimp only at a1 a2 b1 b2 c1 c2 d1 d2
    clear z1 z2 he
    have m1 := mul_b9 a1 a2 (y := d) (by omega) (by omega)
    have m2 := mul_b9 c1 c2 (y := b) (by omega) (by omega)
    have m3 := mul_b9 (x := b) (y := d) (by omega) (by omega) (by omega) (by omega)
    have m4 := mul_pos9 b1 d1
    have m5 := mul_b9 a1 a2 c1 c2
    go_enter Try.func23, Try.ntmps23
    go_wp2_with (first
      | (go_at_call 83; refine (checkFracs2 a b c d _ _ (by simp) ha hb hc hd (by simp [go_sem, World.cell?_alloc_past]) (by simp [go_sem, World.cell?_alloc_past]) (by simp [go_sem, World.cell?_alloc_past]) (by simp [go_sem, World.cell?_alloc_past])).mono ?_; rintro e w1 ⟨rfl, hB1⟩; obtain ⟨hc1, hf1⟩ := bcell hB1; have hz1 : w.heap.size + 4 ≤ w1.heap.size := (by have := hB1.size; simp at this; omega); have k0 : w1.cell? ⟨w.heap.size + 1 + 1, 0, none⟩ = some (.int .i64 0) := (by rw [hc1 _ _ (by simp)]; simp [go_sem, World.cell?_alloc_past]); have k1 : w1.cell? ⟨w.heap.size + 1 + 1, 1, none⟩ = some (.int .i64 0) := (by rw [hc1 _ _ (by simp)]; simp [go_sem, World.cell?_alloc_past]); have k2 : w1.frozen? ⟨w.heap.size + 1 + 1, 0, none⟩ = false := (by rw [hf1 _ _ (by simp)]; simp [go_sem, World.frozen?_alloc_past]); have k3 : w1.frozen? ⟨w.heap.size + 1 + 1, 1, none⟩ = false := (by rw [hf1 _ _ (by simp)]; simp [go_sem, World.frozen?_alloc_past]))
      | (go_at_call 84; refine (lowest_any _ _ _ (by omega) (by omega) (by omega) (by omega) (by omega)).mono ?_; rintro e w2 ⟨rfl, hB2⟩; obtain ⟨hc2, hf2⟩ := bcell hB2; have hz2 := hB2.size; have j0 := (hc2 (w.heap.size + 1 + 1) 0 (by omega)).trans k0; have j1 := (hc2 (w.heap.size + 1 + 1) 1 (by omega)).trans k1; have j2 := (hf2 (w.heap.size + 1 + 1) 0 (by omega)).trans k2; have j3 := (hf2 (w.heap.size + 1 + 1) 1 (by omega)).trans k3))
    obtain ⟨r0, r1⟩ := set2 (w := w2) (b := w.heap.size + 1 + 1) (x := .int .i64 0) (y := .int .i64 0) (.int .i64 (lowN (a * c) (b * d)).1) (.int .i64 (lowN (a * c) (b * d)).2.1)
      j0 j1
    refine bodyPost_ret (ret_frac rfl _ _ _ _ _ _ rfl rfl r0 r1) rfl ⟨by rw [HR.out]; rfl, ?_⟩
    exact (((((((((Below.refl w.heap.size w).alloc (Nat.le_refl _) _).alloc (by simp) _).alloc (by simp; omega) _).alloc (by simp; omega) _).trans (hB1.mono (by simp; omega))).trans (hB2.mono (by omega))).setCell (by simp; omega) _).setCell (by simp; omega) _)
  · have he' : (ckFs [(a, b), (c, d)] != 0) = true := by simpa using he
    have HR := Lib.hid (show mulN a b c d = (0, 0, ckFs [(a, b), (c, d)]) by unfold mulN; rw [if_pos he])
    clear he
    go_enter Try.func23, Try.ntmps23
    go_wp2_with (go_at_call 83; refine (checkFracs2 a b c d _ _ (by simp) ha hb hc hd (by simp [go_sem, World.cell?_alloc_past]) (by simp [go_sem, World.cell?_alloc_past]) (by simp [go_sem, World.cell?_alloc_past]) (by simp [go_sem, World.cell?_alloc_past])).mono ?_; rintro e w1 ⟨rfl, hB1⟩; obtain ⟨hc1, hf1⟩ := bcell hB1; have hz1 : w.heap.size + 4 ≤ w1.heap.size := (by have := hB1.size; simp at this; omega); have k0 : w1.cell? ⟨w.heap.size + 1 + 1, 0, none⟩ = some (.int .i64 0) := (by rw [hc1 _ _ (by simp)]; simp [go_sem, World.cell?_alloc_past]); have k1 : w1.cell? ⟨w.heap.size + 1 + 1, 1, none⟩ = some (.int .i64 0) := (by rw [hc1 _ _ (by simp)]; simp [go_sem, World.cell?_alloc_past]); have k2 : w1.frozen? ⟨w.heap.size + 1 + 1, 0, none⟩ = false := (by rw [hf1 _ _ (by simp)]; simp [go_sem, World.frozen?_alloc_past]); have k3 : w1.frozen? ⟨w.heap.size + 1 + 1, 1, none⟩ = false := (by rw [hf1 _ _ (by simp)]; simp [go_sem, World.frozen?_alloc_past]))
    obtain ⟨r0, r1⟩ := set2 (w := w1) (b := w.heap.size + 1 + 1) (x := .int .i64 0) (y := .int .i64 0) (.int .i64 0) (.int .i64 0)
      k0 k1
    refine bodyPost_ret (ret_frac rfl _ _ _ _ _ _ rfl rfl r0 r1) rfl ⟨by rw [HR.out]; rfl, ?_⟩
    exact ((((((((Below.refl w.heap.size w).alloc (Nat.le_refl _) _).alloc (by simp) _).alloc (by simp; omega) _).alloc (by simp; omega) _).trans (hB1.mono (by simp; omega))).setCell (by simp; omega) _).setCell (by simp; omega) _)

set_option maxHeartbeats 1000000 in
theorem quo_any (a b c d : Int) (w : World) (ha : I64 a) (hb : I64 b) (hc : I64 c) (hd : I64 d) :
    Calls Try.prog 24 #[.agg #[.int .i64 a, .int .i64 b], .agg #[.int .i64 c, .int .i64 d]] w fun e w' => e = .returned (.tuple #[.agg #[.int .i64 (quoN a b c d).1, .int .i64 (quoN a b c d).2.1], .int .i64 (quoN a b c d).2.2]) ∧ Below w.heap.size w w' := by
  by_cases he : ckFs [(a, b), (c, d)] = 0
  · have he' : (ckFs [(a, b), (c, d)] != 0) = false := by rw [he]; rfl
    by_cases hz : c = 0
    · have HR := Lib.hid (show quoN a b c d = (0, 0, 11) by unfold quoN; rw [if_neg (by simpa using he), if_pos hz])
      have hz' : (c == 0) = true := by simpa using hz
      clear he hz
      go_enter Try.func24, Try.ntmps24
      go_wp2_with (go_at_call 83; refine (checkFracs2 a b c d _ _ (by simp) ha hb hc hd (by simp [go_sem, World.cell?_alloc_past]) (by simp [go_sem, World.cell?_alloc_past]) (by simp [go_sem, World.cell?_alloc_past]) (by simp [go_sem, World.cell?_alloc_past])).mono ?_; rintro e w1 ⟨rfl, hB1⟩; obtain ⟨hc1, hf1⟩ := bcell hB1; have hz1 : w.heap.size + 4 ≤ w1.heap.size := (by have := hB1.size; simp at this; omega); have k0 : w1.cell? ⟨w.heap.size + 1 + 1, 0, none⟩ = some (.int .i64 0) := (by rw [hc1 _ _ (by simp)]; simp [go_sem, World.cell?_alloc_past]); have k1 : w1.cell? ⟨w.heap.size + 1 + 1, 1, none⟩ = some (.int .i64 0) := (by rw [hc1 _ _ (by simp)]; simp [go_sem, World.cell?_alloc_past]); have k2 : w1.frozen? ⟨w.heap.size + 1 + 1, 0, none⟩ = false := (by rw [hf1 _ _ (by simp)]; simp [go_sem, World.frozen?_alloc_past]); have k3 : w1.frozen? ⟨w.heap.size + 1 + 1, 1, none⟩ = false := (by rw [hf1 _ _ (by simp)]; simp [go_sem, World.frozen?_alloc_past]))
      obtain ⟨r0, r1⟩ := set2 (w := w1) (b := w.heap.size + 1 + 1) (x := .int .i64 0) (y := .int .i64 0) (.int .i64 0) (.int .i64 0) k0 k1
      refine bodyPost_ret (ret_frac rfl _ _ _ _ _ _ rfl rfl r0 r1) rfl ⟨by rw [HR.out]; rfl, ?_⟩
      exact ((((((((Below.refl w.heap.size w).alloc (Nat.le_refl _) _).alloc (by simp) _).alloc (by simp; omega) _).alloc (by simp; omega) _).trans (hB1.mono (by simp; omega))).setCell (by simp; omega) _).setCell (by simp; omega) _)
    have hz' : (c == 0) = false := by simpa using hz
    have HR := Lib.hid (show quoN a b c d = lowN (a * d) (b * c) by unfold quoN; rw [if_neg (by simpa using he), if_neg hz])
    obtain ⟨z1, z2⟩ := ckFs_two_zero he
    obtain ⟨a1, a2, b1, b2, _⟩ := ckF_zero z1
    obtain ⟨c1, c2, d1, d2, _⟩ := ckF_zero z2
    dsimp only at a1 a2 b1 b2 c1 c2 d1 d2
    clear z1 z2 he
    have m1 := mul_b9 a1 a2 (y := d) (by omega) (by omega)
    have m2 := mul_b9 c1 c2 (y := b) (by omega) (by omega)
    have m3 := mul_b9 (x := b) (y := d) (by omega) (by omega) (by omega) (by omega)
    have m4 := mul_pos9 b1 d1
    have m6 := mul_b9 (x := b) (by omega) b2 c1 c2
    have m7 : b * c ≠ 0 := by intro h; rcases Int.mul_eq_zero.1 h with h | h <;> omega
    have M7 := Lib.hid m7
    clear m7 hz
    go_enter Try.func24, Try.ntmps24
    go_wp2_with (first
      | (go_at_call 83; refine (checkFracs2 a b c d _ _ (by simp) ha hb hc hd (by simp [go_sem, World.cell?_alloc_past]) (by simp [go_sem, World.cell?_alloc_past]) (by simp [go_sem, World.cell?_alloc_past]) (by simp [go_sem, World.cell?_alloc_past])).mono ?_; rintro e w1 ⟨rfl, hB1⟩; obtain ⟨hc1, hf1⟩ := bcell hB1; have hz1 : w.heap.size + 4 ≤ w1.heap.size := (by have := hB1.size; simp at this; omega); have k0 : w1.cell? ⟨w.heap.size + 1 + 1, 0, none⟩ = some (.int .i64 0) := (by rw [hc1 _ _ (by simp)]; simp [go_sem, World.cell?_alloc_past]); have k1 : w1.cell? ⟨w.heap.size + 1 + 1, 1, none⟩ = some (.int .i64 0) := (by rw [hc1 _ _ (by simp)]; simp [go_sem, World.cell?_alloc_past]); have k2 : w1.frozen? ⟨w.heap.size + 1 + 1, 0, none⟩ = false := (by rw [hf1 _ _ (by simp)]; simp [go_sem, World.frozen?_alloc_past]); have k3 : w1.frozen? ⟨w.heap.size + 1 + 1, 1, none⟩ = false := (by rw [hf1 _ _ (by simp)]; simp [go_sem, World.frozen?_alloc_past]))
      | (go_at_call 84; refine (lowest_any _ _ _ (by omega) (by omega) (by omega) (by omega) M7.out).mono ?_; rintro e w2 ⟨rfl, hB2⟩; obtain ⟨hc2, hf2⟩ := bcell hB2; have hz2 := hB2.size; have j0 := (hc2 (w.heap.size + 1 + 1) 0 (by omega)).trans k0; have j1 := (hc2 (w.heap.size + 1 + 1) 1 (by omega)).trans k1; have j2 := (hf2 (w.heap.size + 1 + 1) 0 (by omega)).trans k2; have j3 := (hf2 (w.heap.size + 1 + 1) 1 (by omega)).trans k3))
    obtain ⟨r0, r1⟩ := set2 (w := w2) (b := w.heap.size + 1 + 1) (x := .int .i64 0) (y := .int .i64 0) (.int .i64 (lowN (a * d) (b * c)).1) (.int .i64 (lowN (a * d) (b * c)).2.1)
      j0 j1
    refine bodyPost_ret (ret_frac rfl _ _ _ _ _ _ rfl rfl r0 r1) rfl ⟨by rw [HR.out]; rfl, ?_⟩
    exact (((((((((Below.refl w.heap.size w).alloc (Nat.le_refl _) _).alloc (by simp) _).alloc (by simp; omega) _).alloc (by simp; omega) _).trans (hB1.mono (by simp; omega))).trans (hB2.mono (by omega))).setCell (by simp; omega) _).setCell (by simp; omega) _)
  · have he' : (ckFs [(a, b), (c, d)] != 0) = true := by simpa using he
    have HR := Lib.hid (show quoN a b c d = (0, 0, ckFs [(a, b), (c, d)]) by unfold quoN; rw [if_pos he])
    clear he
    go_enter Try.func24, Try.ntmps24
    go_wp2_with (go_at_call 83; refine (checkFracs2 a b c d _ _ (by simp) ha hb hc hd (by simp [go_sem, World.cell?_alloc_past]) (by simp [go_sem, World.cell?_alloc_past]) (by simp [go_sem, World.cell?_alloc_past]) (by simp [go_sem, World.cell?_alloc_past])).mono ?_; rintro e w1 ⟨rfl, hB1⟩; obtain ⟨hc1, hf1⟩ := bcell hB1; have hz1 : w.heap.size + 4 ≤ w1.heap.size := (by have := hB1.size; simp at this; omega); have k0 : w1.cell? ⟨w.heap.size + 1 + 1, 0, none⟩ = some (.int .i64 0) := (by rw [hc1 _ _ (by simp)]; simp [go_sem, World.cell?_alloc_past]); have k1 : w1.cell? ⟨w.heap.size + 1 + 1, 1, none⟩ = some (.int .i64 0) := (by rw [hc1 _ _ (by simp)]; simp [go_sem, World.cell?_alloc_past]); have k2 : w1.frozen? ⟨w.heap.size + 1 + 1, 0, none⟩ = false := (by rw [hf1 _ _ (by simp)]; simp [go_sem, World.frozen?_alloc_past]); have k3 : w1.frozen? ⟨w.heap.size + 1 + 1, 1, none⟩ = false := (by rw [hf1 _ _ (by simp)]; simp [go_sem, World.frozen?_alloc_past]))
    obtain ⟨r0, r1⟩ := set2 (w := w1) (b := w.heap.size + 1 + 1) (x := .int .i64 0) (y := .int .i64 0) (.int .i64 0) (.int .i64 0)
      k0 k1
    refine bodyPost_ret (ret_frac rfl _ _ _ _ _ _ rfl rfl r0 r1) rfl ⟨by rw [HR.out]; rfl, ?_⟩
    exact ((((((((Below.refl w.heap.size w).alloc (Nat.le_refl _) _).alloc (by simp) _).alloc (by simp; omega) _).alloc (by simp; omega) _).trans (hB1.mono (by simp; omega))).setCell (by simp; omega) _).setCell (by simp; omega) _)

set_option maxHeartbeats 400000 in
theorem cmpInt_any (a b : Int) (w : World) : Calls Try.prog 85 #[.int .i64 a, .int .i64 b] w fun e w' => e = .returned (.int .i64 (cmpI a b)) ∧ w = w' := by
  rcases Int.lt_trichotomy a b with h | h | h
  · have HR := Lib.hid (show cmpI a b = -1 by unfold cmpI; rw [if_pos h])
    go_enter Try.func85, Try.ntmps85
    go_wp2
    go_ret
    exact ⟨ret_int HR.out.symm, rfl⟩
  · subst h
    have HR := Lib.hid (show cmpI a a = 0 by unfold cmpI; rw [if_neg (by omega), if_neg (by omega)])
    go_enter Try.func85, Try.ntmps85
    go_wp2
    go_ret
    exact ⟨ret_int HR.out.symm, rfl⟩
  · have HR := Lib.hid (show cmpI a b = 1 by unfold cmpI; rw [if_neg (by omega), if_pos h])
    go_enter Try.func85, Try.ntmps85
    go_wp2
    go_ret
    exact ⟨ret_int HR.out.symm, rfl⟩

set_option maxHeartbeats 1000000 in
theorem cmp_any (a b c d : Int) (w : World) (ha : I64 a) (hb : I64 b) (hc : I64 c) (hd : I64 d) :
    Calls Try.prog 25 #[.agg #[.int .i64 a, .int .i64 b], .agg #[.int .i64 c, .int .i64 d]] w fun e w' => e = .returned (.tuple #[.int .i64 (cmpN a b c d).1, .int .i64 (cmpN a b c d).2]) ∧ Below w.heap.size w w' := by
  by_cases he : ckFs [(a, b), (c, d)] = 0
  · have he' : (ckFs [(a, b), (c, d)] != 0) = false := by rw [he]; rfl
    have HR := Lib.hid (show cmpN a b c d = (cmpI (a * d) (c * b), 0) by unfold cmpN; rw [if_neg (by simpa using he)])
    obtain ⟨z1, z2⟩ := ckFs_two_zero he
    obtain ⟨a1, a2, b1, b2, _⟩ := ckF_zero z1
    obtain ⟨c1, c2, d1, d2, _⟩ := ckF_zero z2
    dsimp only at a1 a2 b1 b2 c1 c2 d1 d2
    clear z1 z2 he
    have m1 := mul_b9 a1 a2 (y := d) (by omega) (by omega)
    have m2 := mul_b9 c1 c2 (y := b) (by omega) (by omega)
    go_enter Try.func25, Try.ntmps25
    go_wp2_with (first
      | (go_at_call 83; refine (checkFracs2 a b c d _ _ (by simp) ha hb hc hd (by simp [go_sem, World.cell?_alloc_past]) (by simp [go_sem, World.cell?_alloc_past]) (by simp [go_sem, World.cell?_alloc_past]) (by simp [go_sem, World.cell?_alloc_past])).mono ?_; rintro e w1 ⟨rfl, hB1⟩; obtain ⟨hc1, hf1⟩ := bcell hB1; have hz1 := hB1.size)
      | (go_at_call 85; refine (cmpInt_any _ _ _).mono ?_; rintro e w2 ⟨rfl, rfl⟩))
    go_ret2
    refine ⟨by rw [HR.out]; rfl, ?_⟩
    exact ((((Below.refl w.heap.size w).alloc (Nat.le_refl _) _).alloc (by simp) _).alloc (by simp; omega) _).trans (hB1.mono (by simp; omega))
  · have he' : (ckFs [(a, b), (c, d)] != 0) = true := by simpa using he
    have HR := Lib.hid (show cmpN a b c d = (0, ckFs [(a, b), (c, d)]) by unfold cmpN; rw [if_pos he])
    clear he
    go_enter Try.func25, Try.ntmps25
    go_wp2_with (go_at_call 83; refine (checkFracs2 a b c d _ _ (by simp) ha hb hc hd (by simp [go_sem, World.cell?_alloc_past]) (by simp [go_sem, World.cell?_alloc_past]) (by simp [go_sem, World.cell?_alloc_past]) (by simp [go_sem, World.cell?_alloc_past])).mono ?_; rintro e w1 ⟨rfl, hB1⟩; obtain ⟨hc1, hf1⟩ := bcell hB1; have hz1 := hB1.size)
    go_ret2
    refine ⟨by rw [HR.out]; rfl, ?_⟩
    exact ((((Below.refl w.heap.size w).alloc (Nat.le_refl _) _).alloc (by simp) _).alloc (by simp; omega) _).trans (hB1.mono (by simp; omega))

end Go.Proofs.Ytdlddfmodbcnmaa
