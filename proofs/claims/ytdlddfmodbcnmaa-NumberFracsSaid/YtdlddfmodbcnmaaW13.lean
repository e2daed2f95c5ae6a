/- Walks: sums and differences of whole numbers. -/
import Derived.Test.YtdlddfmodbcnmaaW12
set_option linter.unusedVariables false
set_option linter.unusedSimpArgs false
namespace Go.Proofs.Ytdlddfmodbcnmaa
open Go.RowKit

set_option maxHeartbeats 2000000 in
theorem plus_diff (b : Bool) (s1 s2 : Value) (z1 z2 : Int) (L : Nat) (w : World) (h1 : LG w b s1 z1 L) (h2 : LG w (!b) s2 z2 L) (l1 : L ≤ 1000000000000) :
    Calls Try.prog 124 #[.agg #[.bool b, s1], .agg #[.bool (!b), s2]] w fun e w' => ∃ b s, e = .returned (.agg #[.bool b, s]) ∧ LG w' b s (z1 + z2) (L + 1) ∧ Below w.heap.size w w' := by
  obtain ⟨A, n, c, f, rfl, hA, cf, hn, hz1⟩ := h1
  obtain ⟨C, m, d, g, rfl, hC, cg, hm, hz2⟩ := h2
  have HZ1 := Lib.hid hz1
  have HZ2 := Lib.hid hz2
  clear hz1 hz2
  have hbb : (b == !b) = false := by cases b <;> rfl
  have hnm : vf f n < vf g m → n ≤ m := fun h => by
    rcases Nat.lt_or_ge m n with h1 | h1
    · have := cf.lt hC.1 hA.1 h1; omega
    · exact h1
  have hmn : ¬ vf f n < vf g m → m ≤ n := fun h => by
    rcases Nat.lt_or_ge n m with h1 | h1
    · have := cg.lt hA.1 hC.1 h1; omega
    · exact h1
  by_cases hlt : vf f n < vf g m
  · have hd : decide (cmpI (vf f n) (vf g m) < 0) = true := by rw [cmpI_lt hlt]; rfl
    have hnm' := hnm hlt
    clear hnm hmn
    go_enter Try.func124, Try.ntmps124
    go_wp2_with (go_at_call 141; refine (compareWords_any A C n m c d f g _ (by exact hA.below (Nat.le_refl _) (by repeat (first | exact Below.refl _ _ | refine Below.drew ?_ | refine Below.drewN' ?_ _ | refine Below.alloc ?_ (by first | exact Nat.le_refl _ | (simp; done) | (simp; omega)) _))) (by exact hC.below (Nat.le_refl _) (by repeat (first | exact Below.refl _ _ | refine Below.drew ?_ | refine Below.drewN' ?_ _ | refine Below.alloc ?_ (by first | exact Nat.le_refl _ | (simp; done) | (simp; omega)) _))) (by omega) (by omega) cf cg).mono ?_; rintro e w1 ⟨rfl, hB1⟩; obtain ⟨hc1, hf1⟩ := bcell hB1; have hz1 : w.heap.size + 3 ≤ w1.heap.size := (by have := hB1.size; simp at this; omega))
    have p0 : w1.cell? ⟨w.heap.size, 0, none⟩ = some (.bool b) := by rw [hc1 _ _ (by simp <;> omega)]; simp [go_sem, World.cell?_alloc_past]
    have p1 : w1.cell? ⟨w.heap.size, 1, none⟩ = some (.slice A n c) := by rw [hc1 _ _ (by simp <;> omega)]; simp [go_sem, World.cell?_alloc_past]
    have p2 : w1.cell? ⟨w.heap.size + 1, 0, none⟩ = some (.bool (!b)) := by rw [hc1 _ _ (by simp <;> omega)]; simp [go_sem, World.cell?_alloc_past]
    have p3 : w1.cell? ⟨w.heap.size + 1, 1, none⟩ = some (.slice C m d) := by rw [hc1 _ _ (by simp <;> omega)]; simp [go_sem, World.cell?_alloc_past]
    have p4 : w1.cell? ⟨w.heap.size + 1 + 1, 0, none⟩ = some (.bool false) := by rw [hc1 _ _ (by simp <;> omega)]; simp [go_sem, World.cell?_alloc_past]
    have p5 : w1.cell? ⟨w.heap.size + 1 + 1, 1, none⟩ = some (.slice none 0 0) := by rw [hc1 _ _ (by simp <;> omega)]; simp [go_sem, World.cell?_alloc_past]
    have f4 : w1.frozen? ⟨w.heap.size + 1 + 1, 0, none⟩ = false := by rw [hf1 _ _ (by simp <;> omega)]; simp [go_sem, World.frozen?_alloc_past]
    have f5 : w1.frozen? ⟨w.heap.size + 1 + 1, 1, none⟩ = false := by rw [hf1 _ _ (by simp <;> omega)]; simp [go_sem, World.frozen?_alloc_past]
    have hBB : Below w.heap.size w w1 := ((by repeat (first | exact Below.refl _ _ | refine Below.drew ?_ | refine Below.drewN' ?_ _ | refine Below.alloc ?_ (by first | exact Nat.le_refl _ | (simp; done) | (simp; omega)) _)) : Below w.heap.size w _).trans (hB1.mono (by simp; omega))
    have hA1 := hA.below (Nat.le_refl _) hBB
    have hC1 := hC.below (Nat.le_refl _) hBB
    obtain ⟨x0, x1⟩ := set2 (w := w1) (b := w.heap.size) (.bool (!b)) (.slice C m d) p0 p1
    have y2 : ((w1.setCell ⟨w.heap.size, 0, none⟩ (.bool (!b))).setCell ⟨w.heap.size, 1, none⟩ (.slice C m d)).cell? ⟨w.heap.size + 1, 0, none⟩ = some (.bool (!b)) := by rw [World.cell?_setCell_other _ _ _ _ (by simp), World.cell?_setCell_other _ _ _ _ (by simp)]; exact p2
    have y3 : ((w1.setCell ⟨w.heap.size, 0, none⟩ (.bool (!b))).setCell ⟨w.heap.size, 1, none⟩ (.slice C m d)).cell? ⟨w.heap.size + 1, 1, none⟩ = some (.slice C m d) := by rw [World.cell?_setCell_other _ _ _ _ (by simp), World.cell?_setCell_other _ _ _ _ (by simp)]; exact p3
    obtain ⟨z0, z1⟩ := set2 (.bool b) (.slice A n c) y2 y3
    have hA2 := (hA1.set2 p0 (.bool (!b)) (.slice C m d)).set2 y2 (.bool b) (.slice A n c)
    have hC2 := (hC1.set2 p0 (.bool (!b)) (.slice C m d)).set2 y2 (.bool b) (.slice A n c)
    generalize hW2 : (((w1.setCell ⟨w.heap.size, 0, none⟩ (.bool (!b))).setCell ⟨w.heap.size, 1, none⟩ (.slice C m d)).setCell ⟨w.heap.size + 1, 0, none⟩ (.bool b)).setCell ⟨w.heap.size + 1, 1, none⟩ (.slice A n c) = W2 at *
    have q0 : W2.cell? ⟨w.heap.size, 0, none⟩ = some (.bool (!b)) := by rw [← hW2, World.cell?_setCell_other _ _ _ _ (by simp), World.cell?_setCell_other _ _ _ _ (by simp)]; exact x0
    have q1 : W2.cell? ⟨w.heap.size, 1, none⟩ = some (.slice C m d) := by rw [← hW2, World.cell?_setCell_other _ _ _ _ (by simp), World.cell?_setCell_other _ _ _ _ (by simp)]; exact x1
    have q2 := z1
    have q4 : W2.cell? ⟨w.heap.size + 1 + 1, 0, none⟩ = some (.bool false) := by rw [← hW2, World.cell?_setCell_other _ _ _ _ (by simp), World.cell?_setCell_other _ _ _ _ (by simp), World.cell?_setCell_other _ _ _ _ (by simp), World.cell?_setCell_other _ _ _ _ (by simp)]; exact p4
    have q5 : W2.cell? ⟨w.heap.size + 1 + 1, 1, none⟩ = some (.slice none 0 0) := by rw [← hW2, World.cell?_setCell_other _ _ _ _ (by simp), World.cell?_setCell_other _ _ _ _ (by simp), World.cell?_setCell_other _ _ _ _ (by simp), World.cell?_setCell_other _ _ _ _ (by simp)]; exact p5
    have g4 : W2.frozen? ⟨w.heap.size + 1 + 1, 0, none⟩ = false := by rw [← hW2]; simp only [World.frozen?_setCell]; exact f4
    have g5 : W2.frozen? ⟨w.heap.size + 1 + 1, 1, none⟩ = false := by rw [← hW2]; simp only [World.frozen?_setCell]; exact f5
    have hB2 : Below w.heap.size w W2 := by rw [← hW2]; exact (((hBB.setCell (Nat.le_refl _) _).setCell (Nat.le_refl _) _).setCell (by simp) _).setCell (by simp) _
    have hs2 : w.heap.size + 3 ≤ W2.heap.size := by rw [← hW2]; simpa [World.setCell] using hz1
    clear p0 p1 p2 p3 p4 p5 f4 f5 hBB hA1 hC1 x0 x1 y2 y3 z0 z1 hW2 hc1 hf1 hB1 hz1
    go_region_held3 (fun w' => w'.cell? ⟨w.heap.size, 0, none⟩ = some (.bool (!b)) ∧ w'.cell? ⟨w.heap.size, 1, none⟩ = some (.slice C m d) ∧ w'.cell? ⟨w.heap.size + 1, 1, none⟩ = some (.slice A n c)) (first | (simp [go_sem, World.cell?_alloc_past, q0, q1, q2]; done) | exact ⟨u0, u1, u2⟩ | (refine ⟨?_, ?_, ?_⟩ <;> simp [go_sem, *]; done))
      (first
        | (go_at_call 142; refine (wordsMinus_any C A m n d c g f _ (by exact hC2.below (Nat.le_refl _) (by repeat (first | exact Below.refl _ _ | refine Below.drew ?_ | refine Below.drewN' ?_ _ | refine Below.alloc ?_ (by first | exact Nat.le_refl _ | (simp; done) | (simp; omega)) _))) (by exact hA2.below (Nat.le_refl _) (by repeat (first | exact Below.refl _ _ | refine Below.drew ?_ | refine Below.drewN' ?_ _ | refine Below.alloc ?_ (by first | exact Nat.le_refl _ | (simp; done) | (simp; omega)) _))) (by omega) (by omega) (by omega)).mono ?_; rintro e w3 ⟨R, r, k, hh, rfl, hR, hr, ht, hv, hk1, hk2, hB3⟩; obtain ⟨hcK, hfK⟩ := bcell hB3; have u0 := (hcK w.heap.size 0 (by simp; omega)).trans q0; have u1 := (hcK w.heap.size 1 (by simp; omega)).trans q1; have u2 := (hcK (w.heap.size + 1) 1 (by simp; omega)).trans q2; have k4 := (hcK (w.heap.size + 1 + 1) 0 (by simp; omega)).trans q4; have k5 := (hcK (w.heap.size + 1 + 1) 1 (by simp; omega)).trans q5; have k6 := (hfK (w.heap.size + 1 + 1) 0 (by simp; omega)).trans g4; have k7 := (hfK (w.heap.size + 1 + 1) 1 (by simp; omega)).trans g5))
    go_wp2
    obtain ⟨r0, r1⟩ := set2 (w := w3) (b := w.heap.size + 1 + 1) (x := .bool false) (y := .slice none 0 0) (.bool (!b)) (.slice R r k) k4 k5
    have hz3 : W2.heap.size ≤ w3.heap.size := by have := hB3.size; simpa using this
    refine bodyPost_ret (ret_long rfl _ _ _ _ _ rfl r0 r1) rfl ⟨_, _, rfl, ⟨R, r, k, hh, rfl, hR.set2 k4 _ _, ht, by omega, ?_⟩, ?_⟩
    · rw [hv, HZ1.out, HZ2.out]; cases b <;> simp <;> omega
    · exact ((hB2.drew.trans (hB3.mono (by simp; omega))).setCell (by simp; omega) _).setCell (by simp; omega) _
  · have hd : decide (cmpI (vf f n) (vf g m) < 0) = false := by
      rcases Int.lt_or_le (vf g m) (vf f n) with h | h
      · rw [cmpI_gt h]; rfl
      · rw [show vf f n = vf g m by omega, cmpI_eq]; rfl
    have hnm' := hmn hlt
    clear hnm hmn
    go_enter Try.func124, Try.ntmps124
    go_wp2_with (go_at_call 141; refine (compareWords_any A C n m c d f g _ (by exact hA.below (Nat.le_refl _) (by repeat (first | exact Below.refl _ _ | refine Below.drew ?_ | refine Below.drewN' ?_ _ | refine Below.alloc ?_ (by first | exact Nat.le_refl _ | (simp; done) | (simp; omega)) _))) (by exact hC.below (Nat.le_refl _) (by repeat (first | exact Below.refl _ _ | refine Below.drew ?_ | refine Below.drewN' ?_ _ | refine Below.alloc ?_ (by first | exact Nat.le_refl _ | (simp; done) | (simp; omega)) _))) (by omega) (by omega) cf cg).mono ?_; rintro e w1 ⟨rfl, hB1⟩; obtain ⟨hc1, hf1⟩ := bcell hB1; have hz1 : w.heap.size + 3 ≤ w1.heap.size := (by have := hB1.size; simp at this; omega))
    have p0 : w1.cell? ⟨w.heap.size, 0, none⟩ = some (.bool b) := by rw [hc1 _ _ (by simp <;> omega)]; simp [go_sem, World.cell?_alloc_past]
    have p1 : w1.cell? ⟨w.heap.size, 1, none⟩ = some (.slice A n c) := by rw [hc1 _ _ (by simp <;> omega)]; simp [go_sem, World.cell?_alloc_past]
    have p2 : w1.cell? ⟨w.heap.size + 1, 0, none⟩ = some (.bool (!b)) := by rw [hc1 _ _ (by simp <;> omega)]; simp [go_sem, World.cell?_alloc_past]
    have p3 : w1.cell? ⟨w.heap.size + 1, 1, none⟩ = some (.slice C m d) := by rw [hc1 _ _ (by simp <;> omega)]; simp [go_sem, World.cell?_alloc_past]
    have p4 : w1.cell? ⟨w.heap.size + 1 + 1, 0, none⟩ = some (.bool false) := by rw [hc1 _ _ (by simp <;> omega)]; simp [go_sem, World.cell?_alloc_past]
    have p5 : w1.cell? ⟨w.heap.size + 1 + 1, 1, none⟩ = some (.slice none 0 0) := by rw [hc1 _ _ (by simp <;> omega)]; simp [go_sem, World.cell?_alloc_past]
    have f4 : w1.frozen? ⟨w.heap.size + 1 + 1, 0, none⟩ = false := by rw [hf1 _ _ (by simp <;> omega)]; simp [go_sem, World.frozen?_alloc_past]
    have f5 : w1.frozen? ⟨w.heap.size + 1 + 1, 1, none⟩ = false := by rw [hf1 _ _ (by simp <;> omega)]; simp [go_sem, World.frozen?_alloc_past]
    have hBB : Below w.heap.size w w1 := ((by repeat (first | exact Below.refl _ _ | refine Below.drew ?_ | refine Below.drewN' ?_ _ | refine Below.alloc ?_ (by first | exact Nat.le_refl _ | (simp; done) | (simp; omega)) _)) : Below w.heap.size w _).trans (hB1.mono (by simp; omega))
    have hA1 := hA.below (Nat.le_refl _) hBB
    have hC1 := hC.below (Nat.le_refl _) hBB
    have hA2 := hA1
    have hC2 := hC1
    obtain ⟨W2, hW2⟩ : ∃ W2 : World, W2 = w1 := ⟨_, rfl⟩
    subst hW2
    have q0 := p0
    have q1 := p1
    have q2 := p3
    have q4 := p4
    have q5 := p5
    have g4 := f4
    have g5 := f5
    have hB2 := hBB
    have hs2 := hz1
    clear p0 p1 p2 p3 p4 p5 f4 f5 hBB hA1 hC1 hc1 hf1 hB1 hz1
    go_region_held3 (fun w' => w'.cell? ⟨w.heap.size, 0, none⟩ = some (.bool (b)) ∧ w'.cell? ⟨w.heap.size, 1, none⟩ = some (.slice A n c) ∧ w'.cell? ⟨w.heap.size + 1, 1, none⟩ = some (.slice C m d)) (first | (simp [go_sem, World.cell?_alloc_past, q0, q1, q2]; done) | exact ⟨u0, u1, u2⟩ | (refine ⟨?_, ?_, ?_⟩ <;> simp [go_sem, *]; done))
      (first
        | (go_at_call 142; refine (wordsMinus_any A C n m c d f g _ (by exact hA2.below (Nat.le_refl _) (by repeat (first | exact Below.refl _ _ | refine Below.drew ?_ | refine Below.drewN' ?_ _ | refine Below.alloc ?_ (by first | exact Nat.le_refl _ | (simp; done) | (simp; omega)) _))) (by exact hC2.below (Nat.le_refl _) (by repeat (first | exact Below.refl _ _ | refine Below.drew ?_ | refine Below.drewN' ?_ _ | refine Below.alloc ?_ (by first | exact Nat.le_refl _ | (simp; done) | (simp; omega)) _))) (by omega) (by omega) (by omega)).mono ?_; rintro e w3 ⟨R, r, k, hh, rfl, hR, hr, ht, hv, hk1, hk2, hB3⟩; obtain ⟨hcK, hfK⟩ := bcell hB3; have u0 := (hcK w.heap.size 0 (by simp; omega)).trans q0; have u1 := (hcK w.heap.size 1 (by simp; omega)).trans q1; have u2 := (hcK (w.heap.size + 1) 1 (by simp; omega)).trans q2; have k4 := (hcK (w.heap.size + 1 + 1) 0 (by simp; omega)).trans q4; have k5 := (hcK (w.heap.size + 1 + 1) 1 (by simp; omega)).trans q5; have k6 := (hfK (w.heap.size + 1 + 1) 0 (by simp; omega)).trans g4; have k7 := (hfK (w.heap.size + 1 + 1) 1 (by simp; omega)).trans g5))
    go_wp2
    obtain ⟨r0, r1⟩ := set2 (w := w3) (b := w.heap.size + 1 + 1) (x := .bool false) (y := .slice none 0 0) (.bool (b)) (.slice R r k) k4 k5
    have hz3 : W2.heap.size ≤ w3.heap.size := by have := hB3.size; simpa using this
    refine bodyPost_ret (ret_long rfl _ _ _ _ _ rfl r0 r1) rfl ⟨_, _, rfl, ⟨R, r, k, hh, rfl, hR.set2 k4 _ _, ht, by omega, ?_⟩, ?_⟩
    · rw [hv, HZ1.out, HZ2.out]; cases b <;> simp <;> omega
    · exact ((hB2.drew.trans (hB3.mono (by simp; omega))).setCell (by simp; omega) _).setCell (by simp; omega) _

theorem plus_any (b1 b2 : Bool) (s1 s2 : Value) (z1 z2 : Int) (L : Nat) (w : World) (h1 : LG w b1 s1 z1 L) (h2 : LG w b2 s2 z2 L) (l1 : L ≤ 1000000000000) :
    Calls Try.prog 124 #[.agg #[.bool b1, s1], .agg #[.bool b2, s2]] w fun e w' => ∃ b s, e = .returned (.agg #[.bool b, s]) ∧ LG w' b s (z1 + z2) (L + 1) ∧ Below w.heap.size w w' := by
  by_cases h : b1 = b2
  · subst h; exact plus_same b1 s1 s2 z1 z2 L w h1 h2 l1
  · obtain rfl : b2 = !b1 := by cases b1 <;> cases b2 <;> simp_all
    exact plus_diff b1 s1 s2 z1 z2 L w h1 h2 l1

set_option maxHeartbeats 2000000 in
theorem minus_any (b1 b2 : Bool) (s1 s2 : Value) (z1 z2 : Int) (L : Nat) (w : World) (h1 : LG w b1 s1 z1 L) (h2 : LG w b2 s2 z2 L) (l1 : L ≤ 1000000000000) :
    Calls Try.prog 147 #[.agg #[.bool b1, s1], .agg #[.bool b2, s2]] w fun e w' => ∃ b s, e = .returned (.agg #[.bool b, s]) ∧ LG w' b s (z1 - z2) (L + 1) ∧ Below w.heap.size w w' := by
  obtain ⟨A, n, c, f, rfl, _⟩ := id h1
  obtain ⟨C, m, d, g, rfl, _⟩ := id h2
  have HZ := Lib.hid (Int.sub_eq_add_neg (a := z1) (b := z2))
  go_enter Try.func147, Try.ntmps147
  go_wp2
  go_region_held3 (fun w' => w'.cell? ⟨w.heap.size, 0, none⟩ = some (.bool b1) ∧ w'.cell? ⟨w.heap.size, 1, none⟩ = some (.slice A n c) ∧ w'.cell? ⟨w.heap.size + 1, 0, none⟩ = some (.bool b2) ∧ w'.cell? ⟨w.heap.size + 1, 1, none⟩ = some (.slice C m d))
    (first | (simp [go_sem, World.cell?_alloc_past]; done) | (exact ⟨v0, v1, v2, v3⟩) | (exact ⟨u0, u1, u2, u3⟩) | (refine ⟨?_, ?_, ?_, ?_⟩ <;> simp [go_sem, *]; done))
    (first
      | (go_at_call 133; refine (opposite_any b2 _ z2 L _ (by exact h2.below (Nat.le_refl _) (by repeat (first | exact Below.refl _ _ | refine Below.drew ?_ | refine Below.drewN' ?_ _ | refine Below.alloc ?_ (by first | exact Nat.le_refl _ | (simp; done) | (simp; omega)) _)))).mono ?_; rintro e w1 ⟨b3, s3, rfl, hL3, hB1⟩; obtain ⟨hcK, hfK⟩ := bcell hB1; have u0 : w1.cell? ⟨w.heap.size, 0, none⟩ = some (.bool b1) := (by rw [hcK _ _ (by simp <;> omega)]; simp [go_sem, World.cell?_alloc_past]); have u1 : w1.cell? ⟨w.heap.size, 1, none⟩ = some (.slice A n c) := (by rw [hcK _ _ (by simp <;> omega)]; simp [go_sem, World.cell?_alloc_past]); have u2 : w1.cell? ⟨w.heap.size + 1, 0, none⟩ = some (.bool b2) := (by rw [hcK _ _ (by simp <;> omega)]; simp [go_sem, World.cell?_alloc_past]); have u3 : w1.cell? ⟨w.heap.size + 1, 1, none⟩ = some (.slice C m d) := (by rw [hcK _ _ (by simp <;> omega)]; simp [go_sem, World.cell?_alloc_past]); have u4 : w1.cell? ⟨w.heap.size + 1 + 1, 0, none⟩ = some (.bool false) := (by rw [hcK _ _ (by simp <;> omega)]; simp [go_sem, World.cell?_alloc_past]); have u5 : w1.cell? ⟨w.heap.size + 1 + 1, 1, none⟩ = some (.slice none 0 0) := (by rw [hcK _ _ (by simp <;> omega)]; simp [go_sem, World.cell?_alloc_past]); have u6 : w1.frozen? ⟨w.heap.size + 1 + 1, 0, none⟩ = false := (by rw [hfK _ _ (by simp <;> omega)]; simp [go_sem, World.frozen?_alloc_past]); have u7 : w1.frozen? ⟨w.heap.size + 1 + 1, 1, none⟩ = false := (by rw [hfK _ _ (by simp <;> omega)]; simp [go_sem, World.frozen?_alloc_past]); have hz1 : w.heap.size + 3 ≤ w1.heap.size := (by have := hB1.size; simp at this; omega); have hBB : Below w.heap.size w w1 := (((by repeat (first | exact Below.refl _ _ | refine Below.drew ?_ | refine Below.drewN' ?_ _ | refine Below.alloc ?_ (by first | exact Nat.le_refl _ | (simp; done) | (simp; omega)) _)) : Below w.heap.size w _).trans (hB1.mono (by simp; omega))))
      | (go_at_call 124; refine (plus_any b1 b3 _ _ z1 (-z2) L _ (by exact h1.below (Nat.le_refl _) hBB) (by exact hL3) l1).mono ?_; rintro e w3 ⟨b5, s5, rfl, hL5, hB3⟩; obtain ⟨hcL, hfL⟩ := bcell hB3; have v0 := (hcL w.heap.size 0 (by first | omega | (simp; omega))).trans u0; have v1 := (hcL w.heap.size 1 (by first | omega | (simp; omega))).trans u1; have v2 := (hcL (w.heap.size + 1) 0 (by first | omega | (simp; omega))).trans u2; have v3 := (hcL (w.heap.size + 1) 1 (by first | omega | (simp; omega))).trans u3; have v4 := (hcL (w.heap.size + 1 + 1) 0 (by first | omega | (simp; omega))).trans u4; have v5 := (hcL (w.heap.size + 1 + 1) 1 (by first | omega | (simp; omega))).trans u5; have v6 := (hfL (w.heap.size + 1 + 1) 0 (by first | omega | (simp; omega))).trans u6; have v7 := (hfL (w.heap.size + 1 + 1) 1 (by first | omega | (simp; omega))).trans u7; obtain ⟨A5, n5, c5, f5, rfl, _⟩ := id hL5))
  go_wp2
  obtain ⟨r0, r1⟩ := set2 (w := w3) (b := w.heap.size + 1 + 1) (x := .bool false) (y := .slice none 0 0) (.bool b5) (.slice A5 n5 c5) v4 v5
  have hz3 := hB3.size
  refine bodyPost_ret (ret_long rfl _ _ _ _ _ rfl r0 r1) rfl ⟨_, _, rfl, ?_, ?_⟩
  · rw [HZ.out]; exact hL5.set2 v4 _ _
  · exact ((hBB.trans (hB3.mono (by omega))).setCell (by simp; omega) _).setCell (by simp; omega) _

end Go.Proofs.Ytdlddfmodbcnmaa
