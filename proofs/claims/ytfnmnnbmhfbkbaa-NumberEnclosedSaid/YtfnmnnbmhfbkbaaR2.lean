/- Walks: ranges in the reference and in the law. -/
import Derived.Test.YtfnmnnbmhfbkbaaR1
set_option linter.unusedVariables false
set_option linter.unusedSimpArgs false
namespace Go.Proofs.Ytfnmnnbmhfbkbaa
open Go.RowKit


set_option maxRecDepth 100000 in
set_option maxHeartbeats 1000000 in
theorem checkRangeR_any (x y : Int) (w : World) (hx : I64 x) (hy : I64 y) :
    Calls Try.prog 40 #[.agg #[.int .i64 x, .int .i64 y]] w fun e w' => e = .returned (.int .i64 (ckRg x y)) ∧ Below w.heap.size w w' := by
  obtain ⟨x1, x2⟩ := hx
  obtain ⟨y1, y2⟩ := hy
  have HR := Bx.mk (show ckRg x y = if x < -1000000000000000 ∨ 1000000000000000 < x ∨ y < -1000000000000000 ∨ 1000000000000000 < y then 2 else if y < x then 9 else 0 by unfold ckRg sz; congr 1; exact propext (by omega))
  have ix0 : ∀ w, (Instr.index 104 (.agg #[.int .i64 x, .int .i64 y]) (.int .i64 0)).run Try.prog w = .ok (.int .i64 x) w := fun _ => by kernel_rfl
  have ix1 : ∀ w, (Instr.index 104 (.agg #[.int .i64 x, .int .i64 y]) (.int .i64 1)).run Try.prog w = .ok (.int .i64 y) w := fun _ => by kernel_rfl
  go_enter Try.func40, Try.ntmps40
  go_wp2
  go_loop [2, 10] (fun r i => r = .int .i64 0 ∧ (i = .int .i64 0 ∨ (i = .int .i64 1 ∧ -1000000000000000 ≤ x ∧ x ≤ 1000000000000000) ∨ (i = .int .i64 2 ∧ -1000000000000000 ≤ x ∧ x ≤ 1000000000000000 ∧ -1000000000000000 ≤ y ∧ y ≤ 1000000000000000))) (fun _ i => (2 - intOf i).toNat)
  case atStart => exact ⟨rfl, .inl rfl⟩
  case round =>
    obtain ⟨rfl, rfl | ⟨rfl, x3, x4⟩ | ⟨rfl, x3, x4, y3, y4⟩⟩ := hrel
    · by_cases k1 : x < -1000000000000000
      · go_wp2
        go_ret
        exact ⟨ret_int (by rw [HR.out, if_pos (by omega)]), (Below.refl _ _).alloc (Nat.le_refl _) _⟩
      · by_cases k2 : 1000000000000000 < x
        · go_wp2
          go_ret
          exact ⟨ret_int (by rw [HR.out, if_pos (by omega)]), (Below.refl _ _).alloc (Nat.le_refl _) _⟩
        · go_wp2
          go_round
          case rel => exact ⟨rfl, .inr (.inl ⟨rfl, by omega, by omega⟩)⟩
          case measure => simp [intOf]
    · by_cases k1 : y < -1000000000000000
      · go_wp2
        go_ret
        exact ⟨ret_int (by rw [HR.out, if_pos (by omega)]), (Below.refl _ _).alloc (Nat.le_refl _) _⟩
      · by_cases k2 : 1000000000000000 < y
        · go_wp2
          go_ret
          exact ⟨ret_int (by rw [HR.out, if_pos (by omega)]), (Below.refl _ _).alloc (Nat.le_refl _) _⟩
        · go_wp2
          go_round
          case rel => exact ⟨rfl, .inr (.inr ⟨rfl, x3, x4, by omega, by omega⟩)⟩
          case measure => simp [intOf]
    · by_cases k1 : y < x
      · go_wp2
        go_ret
        exact ⟨ret_int (by rw [HR.out, if_neg (by omega), if_pos k1]), (Below.refl _ _).alloc (Nat.le_refl _) _⟩
      · go_wp2
        go_ret
        exact ⟨ret_int (by rw [HR.out, if_neg (by omega), if_neg (by omega)]), (Below.refl _ _).alloc (Nat.le_refl _) _⟩

set_option maxHeartbeats 1000000 in
theorem both_any (a b c d : Int) (w : World) (ha : I64 a) (hb : I64 b) (hc : I64 c) (hd : I64 d) :
    Calls Try.prog 47 #[.agg #[.int .i64 a, .int .i64 b], .agg #[.int .i64 c, .int .i64 d]] w fun e w' => e = .returned (.int .i64 (ckRs [(a, b), (c, d)])) ∧ Below w.heap.size w w' := by
  have HR := Bx.mk (ckRs_two (a, b) (c, d))
  by_cases he : ckRg a b = 0
  · have he' : (ckRg a b != 0) = false := by rw [he]; rfl
    have HE := Bx.mk he
    clear he
    go_enter Try.func47, Try.ntmps47
    go_wp2_with (first
      | (go_at_call 40; (with_reducible refine (checkRangeR_any a b _ ha hb).mono ?_); rintro e w1 ⟨rfl, B1⟩; have C1 := Bx.mk ((HF.new (w.alloc (.cells #[.int .i64 a, .int .i64 b] 38)) 38 c d).at (World.size_alloc _ _)); obtain ⟨z1, p1, p2⟩ := C1.out.below B1; have M1 : Below w.heap.size w w1 := below_call ((Below.refl w.heap.size w).alloc (Nat.le_refl _) _) B1)
      | (go_at_call 40; (with_reducible refine (checkRangeR_any c d _ hc hd).mono ?_); rintro e w2 ⟨rfl, B2⟩; have M2 := below_call0 M1 B2))
    go_ret
    exact ⟨ret_int (by rw [HR.out, if_neg (by simp [HE.out])]), M2⟩
  · have he' : (ckRg a b != 0) = true := by simpa using he
    have HE := Bx.mk he
    clear he
    go_enter Try.func47, Try.ntmps47
    go_wp2_with (go_at_call 40; (with_reducible refine (checkRangeR_any a b _ ha hb).mono ?_); rintro e w1 ⟨rfl, B1⟩; have M1 : Below w.heap.size w w1 := below_call ((Below.refl w.heap.size w).alloc (Nat.le_refl _) _) B1)
    go_ret
    exact ⟨ret_int (by rw [HR.out, if_pos (by simpa using HE.out)]), M1⟩

set_option maxHeartbeats 1000000 in
theorem valid_any (x y : Int) (w : World) (hx : I64 x) (hy : I64 y) :
    Calls Try.prog 97 #[.agg #[.int .i64 x, .int .i64 y]] w fun e w' => e = .returned (.tuple #[.agg #[.int .i64 (nlR x y).1, .int .i64 (nlR x y).2.1], .int .i64 (nlR x y).2.2]) ∧ Below w.heap.size w w' := by
  by_cases he : ckRg x y = 0
  · have he' : (ckRg x y != 0) = false := by rw [he]; rfl
    have HR := Bx.mk (show nlR x y = (x, y, 0) by unfold nlR; rw [if_neg (by simp [he])])
    clear he
    go_enter Try.func97, Try.ntmps97
    go_wp2_with (go_at_call 40; refine (checkRangeR_any x y _ hx hy).mono ?_; rintro e w2 ⟨rfl, B2⟩; obtain ⟨hcL, hfL⟩ := bcell B2; have hz2 : w.heap.size + 2 ≤ w2.heap.size := (by have := B2.size; simp at this; omega); have hzz : w.heap.size + 1 < w2.heap.size := (by omega); have j0 : w2.cell? ⟨w.heap.size + 1, 0, none⟩ = some (.int .i64 0) := (by rw [hcL _ _ (by simp)]; simp [go_sem, World.cell?_alloc_past]); have j1 : w2.cell? ⟨w.heap.size + 1, 1, none⟩ = some (.int .i64 0) := (by rw [hcL _ _ (by simp)]; simp [go_sem, World.cell?_alloc_past]); have j2 : w2.frozen? ⟨w.heap.size + 1, 0, none⟩ = false := (by rw [hfL _ _ (by simp)]; simp [go_sem, World.frozen?_alloc_past]); have j3 : w2.frozen? ⟨w.heap.size + 1, 1, none⟩ = false := (by rw [hfL _ _ (by simp)]; simp [go_sem, World.frozen?_alloc_past]); have l0 : w2.cell? ⟨w.heap.size, 0, none⟩ = some (.int .i64 x) := (by rw [hcL _ _ (by simp <;> omega)]; simp [go_sem, World.cell?_alloc_past]); have l1 : w2.cell? ⟨w.heap.size, 1, none⟩ = some (.int .i64 y) := (by rw [hcL _ _ (by simp <;> omega)]; simp [go_sem, World.cell?_alloc_past]); clear hcL hfL)
    obtain ⟨r0, r1⟩ := set2 (w := w2) (b := w.heap.size + 1) (x := .int .i64 0) (y := .int .i64 0) (.int .i64 x) (.int .i64 y) j0 j1
    refine bodyPost_ret (ret_range rfl _ _ _ _ _ _ rfl rfl r0 r1) rfl ⟨by rw [HR.out]; rfl, ?_⟩
    exact (((((Below.refl w.heap.size w).alloc (Nat.le_refl _) _).alloc (by simp) _).trans (B2.mono (by simp; omega))).setCell (by simp) _).setCell (by simp) _
  · have he' : (ckRg x y != 0) = true := by simpa using he
    have HR := Bx.mk (show nlR x y = (0, 0, 8) by unfold nlR; rw [if_pos he])
    clear he
    go_enter Try.func97, Try.ntmps97
    go_wp2_with (go_at_call 40; refine (checkRangeR_any x y _ hx hy).mono ?_; rintro e w2 ⟨rfl, B2⟩; obtain ⟨hcL, hfL⟩ := bcell B2; have hz2 : w.heap.size + 2 ≤ w2.heap.size := (by have := B2.size; simp at this; omega); have hzz : w.heap.size + 1 < w2.heap.size := (by omega); have j0 : w2.cell? ⟨w.heap.size + 1, 0, none⟩ = some (.int .i64 0) := (by rw [hcL _ _ (by simp)]; simp [go_sem, World.cell?_alloc_past]); have j1 : w2.cell? ⟨w.heap.size + 1, 1, none⟩ = some (.int .i64 0) := (by rw [hcL _ _ (by simp)]; simp [go_sem, World.cell?_alloc_past]); have j2 : w2.frozen? ⟨w.heap.size + 1, 0, none⟩ = false := (by rw [hfL _ _ (by simp)]; simp [go_sem, World.frozen?_alloc_past]); have j3 : w2.frozen? ⟨w.heap.size + 1, 1, none⟩ = false := (by rw [hfL _ _ (by simp)]; simp [go_sem, World.frozen?_alloc_past]); have l0 : w2.cell? ⟨w.heap.size, 0, none⟩ = some (.int .i64 x) := (by rw [hcL _ _ (by simp <;> omega)]; simp [go_sem, World.cell?_alloc_past]); have l1 : w2.cell? ⟨w.heap.size, 1, none⟩ = some (.int .i64 y) := (by rw [hcL _ _ (by simp <;> omega)]; simp [go_sem, World.cell?_alloc_past]); clear hcL hfL)
    obtain ⟨r0, r1⟩ := set2 (w := w2) (b := w.heap.size + 1) (x := .int .i64 0) (y := .int .i64 0) (.int .i64 0) (.int .i64 0) j0 j1
    refine bodyPost_ret (ret_range rfl _ _ _ _ _ _ rfl rfl r0 r1) rfl ⟨by rw [HR.out]; rfl, ?_⟩
    exact (((((Below.refl w.heap.size w).alloc (Nat.le_refl _) _).alloc (by simp) _).trans (B2.mono (by simp; omega))).setCell (by simp) _).setCell (by simp) _

set_option maxHeartbeats 1000000 in
theorem plusR_any (a b c d : Int) (w : World) (h1 : ckRg a b = 0) (h2 : ckRg c d = 0) :
    Calls Try.prog 48 #[.agg #[.int .i64 a, .int .i64 b], .agg #[.int .i64 c, .int .i64 d]] w fun e w' => e = .returned (.tuple #[.agg #[.int .i64 (nlR (a + c) (b + d)).1, .int .i64 (nlR (a + c) (b + d)).2.1], .int .i64 (nlR (a + c) (b + d)).2.2]) ∧ Below w.heap.size w w' := by
  obtain ⟨a1, a2, b1, b2, _⟩ := ckRg_zero h1
  obtain ⟨c1, c2, d1, d2, _⟩ := ckRg_zero h2
  clear h1 h2
  go_enter Try.func48, Try.ntmps48
  go_wp2_with (go_at_call 97; refine (valid_any _ _ _ (I64_15 (by omega) (by omega)) (I64_15 (by omega) (by omega))).mono ?_; rintro e w2 ⟨rfl, B2⟩; obtain ⟨hc2, hf2⟩ := bcell B2; have hz2 : w.heap.size + 3 ≤ w2.heap.size := (by have := B2.size; simp at this; omega); have j0 : w2.cell? ⟨w.heap.size + 1 + 1, 0, none⟩ = some (.int .i64 0) := (by rw [hc2 _ _ (by simp)]; simp [go_sem, World.cell?_alloc_past]); have j1 : w2.cell? ⟨w.heap.size + 1 + 1, 1, none⟩ = some (.int .i64 0) := (by rw [hc2 _ _ (by simp)]; simp [go_sem, World.cell?_alloc_past]); have j2 : w2.frozen? ⟨w.heap.size + 1 + 1, 0, none⟩ = false := (by rw [hf2 _ _ (by simp)]; simp [go_sem, World.frozen?_alloc_past]); have j3 : w2.frozen? ⟨w.heap.size + 1 + 1, 1, none⟩ = false := (by rw [hf2 _ _ (by simp)]; simp [go_sem, World.frozen?_alloc_past]))
  obtain ⟨r0, r1⟩ := set2 (w := w2) (b := w.heap.size + 1 + 1) (x := .int .i64 0) (y := .int .i64 0) (.int .i64 (nlR (a + c) (b + d)).1) (.int .i64 (nlR (a + c) (b + d)).2.1) j0 j1
  refine bodyPost_ret (ret_range rfl _ _ _ _ _ _ rfl rfl r0 r1) rfl ⟨rfl, ?_⟩
  exact (((((((Below.refl w.heap.size w).alloc (Nat.le_refl _) _).alloc (by simp) _).alloc (by simp; omega) _).trans (B2.mono (by simp; omega))).setCell (by simp; omega) _).setCell (by simp; omega) _)

set_option maxHeartbeats 1000000 in
theorem minusR_any (a b c d : Int) (w : World) (h1 : ckRg a b = 0) (h2 : ckRg c d = 0) :
    Calls Try.prog 49 #[.agg #[.int .i64 a, .int .i64 b], .agg #[.int .i64 c, .int .i64 d]] w fun e w' => e = .returned (.tuple #[.agg #[.int .i64 (nlR (a - d) (b - c)).1, .int .i64 (nlR (a - d) (b - c)).2.1], .int .i64 (nlR (a - d) (b - c)).2.2]) ∧ Below w.heap.size w w' := by
  obtain ⟨a1, a2, b1, b2, _⟩ := ckRg_zero h1
  obtain ⟨c1, c2, d1, d2, _⟩ := ckRg_zero h2
  clear h1 h2
  go_enter Try.func49, Try.ntmps49
  go_wp2_with (go_at_call 97; refine (valid_any _ _ _ (I64_15 (by omega) (by omega)) (I64_15 (by omega) (by omega))).mono ?_; rintro e w2 ⟨rfl, B2⟩; obtain ⟨hc2, hf2⟩ := bcell B2; have hz2 : w.heap.size + 3 ≤ w2.heap.size := (by have := B2.size; simp at this; omega); have j0 : w2.cell? ⟨w.heap.size + 1 + 1, 0, none⟩ = some (.int .i64 0) := (by rw [hc2 _ _ (by simp)]; simp [go_sem, World.cell?_alloc_past]); have j1 : w2.cell? ⟨w.heap.size + 1 + 1, 1, none⟩ = some (.int .i64 0) := (by rw [hc2 _ _ (by simp)]; simp [go_sem, World.cell?_alloc_past]); have j2 : w2.frozen? ⟨w.heap.size + 1 + 1, 0, none⟩ = false := (by rw [hf2 _ _ (by simp)]; simp [go_sem, World.frozen?_alloc_past]); have j3 : w2.frozen? ⟨w.heap.size + 1 + 1, 1, none⟩ = false := (by rw [hf2 _ _ (by simp)]; simp [go_sem, World.frozen?_alloc_past]))
  obtain ⟨r0, r1⟩ := set2 (w := w2) (b := w.heap.size + 1 + 1) (x := .int .i64 0) (y := .int .i64 0) (.int .i64 (nlR (a - d) (b - c)).1) (.int .i64 (nlR (a - d) (b - c)).2.1) j0 j1
  refine bodyPost_ret (ret_range rfl _ _ _ _ _ _ rfl rfl r0 r1) rfl ⟨rfl, ?_⟩
  exact (((((((Below.refl w.heap.size w).alloc (Nat.le_refl _) _).alloc (by simp) _).alloc (by simp; omega) _).trans (B2.mono (by simp; omega))).setCell (by simp; omega) _).setCell (by simp; omega) _)

set_option maxHeartbeats 4000000 in
theorem meetR_any (a b c d : Int) (w : World) :
    Calls Try.prog 50 #[.agg #[.int .i64 a, .int .i64 b], .agg #[.int .i64 c, .int .i64 d]] w fun e w' => e = .returned (.tuple #[.agg #[.int .i64 (meetR a b c d).1, .int .i64 (meetR a b c d).2.1], .int .i64 (meetR a b c d).2.2]) ∧ Below w.heap.size w w' := by
  rcases Int.lt_or_le a c with h1 | h1
  · rcases Int.lt_or_le d b with h2 | h2
    · rcases Int.lt_or_le d c with h3 | h3
      · skip
        go_enter Try.func50, Try.ntmps50
        go_wp2
        refine bodyPost_ret (ret_range rfl _ _ _ _ _ _ rfl rfl (by simp [go_sem, World.cell?_alloc_past]; first | done | rfl) (by simp [go_sem, World.cell?_alloc_past]; first | done | rfl)) rfl ⟨(by unfold meetR; rw [if_pos (by omega)]; first | done | rfl), ?_⟩
        exact (by repeat (first | exact Below.refl _ _ | refine Below.drew ?_ | refine Below.drewN' ?_ _ | refine Below.alloc ?_ (by first | exact Nat.le_refl _ | (simp; done) | (simp; omega)) _))
      · skip
        go_enter Try.func50, Try.ntmps50
        go_wp2
        refine bodyPost_ret (ret_range rfl _ _ _ _ _ _ rfl rfl (by simp [go_sem, World.cell?_alloc_past]; first | done | rfl) (by simp [go_sem, World.cell?_alloc_past]; first | done | rfl)) rfl ⟨(by unfold meetR; rw [if_neg (by omega), show max a c = c by omega, show min b d = d by omega]; first | done | rfl), ?_⟩
        exact (by repeat (first | exact Below.refl _ _ | refine Below.drew ?_ | refine Below.drewN' ?_ _ | refine Below.alloc ?_ (by first | exact Nat.le_refl _ | (simp; done) | (simp; omega)) _))
    · rcases Int.lt_or_le b c with h3 | h3
      · skip
        go_enter Try.func50, Try.ntmps50
        go_wp2
        refine bodyPost_ret (ret_range rfl _ _ _ _ _ _ rfl rfl (by simp [go_sem, World.cell?_alloc_past]; first | done | rfl) (by simp [go_sem, World.cell?_alloc_past]; first | done | rfl)) rfl ⟨(by unfold meetR; rw [if_pos (by omega)]; first | done | rfl), ?_⟩
        exact (by repeat (first | exact Below.refl _ _ | refine Below.drew ?_ | refine Below.drewN' ?_ _ | refine Below.alloc ?_ (by first | exact Nat.le_refl _ | (simp; done) | (simp; omega)) _))
      · skip
        go_enter Try.func50, Try.ntmps50
        go_wp2
        refine bodyPost_ret (ret_range rfl _ _ _ _ _ _ rfl rfl (by simp [go_sem, World.cell?_alloc_past]; first | done | rfl) (by simp [go_sem, World.cell?_alloc_past]; first | done | rfl)) rfl ⟨(by unfold meetR; rw [if_neg (by omega), show max a c = c by omega, show min b d = b by omega]; first | done | rfl), ?_⟩
        exact (by repeat (first | exact Below.refl _ _ | refine Below.drew ?_ | refine Below.drewN' ?_ _ | refine Below.alloc ?_ (by first | exact Nat.le_refl _ | (simp; done) | (simp; omega)) _))
  · rcases Int.lt_or_le d b with h2 | h2
    · rcases Int.lt_or_le d a with h3 | h3
      · skip
        go_enter Try.func50, Try.ntmps50
        go_wp2
        refine bodyPost_ret (ret_range rfl _ _ _ _ _ _ rfl rfl (by simp [go_sem, World.cell?_alloc_past]; first | done | rfl) (by simp [go_sem, World.cell?_alloc_past]; first | done | rfl)) rfl ⟨(by unfold meetR; rw [if_pos (by omega)]; first | done | rfl), ?_⟩
        exact (by repeat (first | exact Below.refl _ _ | refine Below.drew ?_ | refine Below.drewN' ?_ _ | refine Below.alloc ?_ (by first | exact Nat.le_refl _ | (simp; done) | (simp; omega)) _))
      · skip
        go_enter Try.func50, Try.ntmps50
        go_wp2
        refine bodyPost_ret (ret_range rfl _ _ _ _ _ _ rfl rfl (by simp [go_sem, World.cell?_alloc_past]; first | done | rfl) (by simp [go_sem, World.cell?_alloc_past]; first | done | rfl)) rfl ⟨(by unfold meetR; rw [if_neg (by omega), show max a c = a by omega, show min b d = d by omega]; first | done | rfl), ?_⟩
        exact (by repeat (first | exact Below.refl _ _ | refine Below.drew ?_ | refine Below.drewN' ?_ _ | refine Below.alloc ?_ (by first | exact Nat.le_refl _ | (simp; done) | (simp; omega)) _))
    · rcases Int.lt_or_le b a with h3 | h3
      · skip
        go_enter Try.func50, Try.ntmps50
        go_wp2
        refine bodyPost_ret (ret_range rfl _ _ _ _ _ _ rfl rfl (by simp [go_sem, World.cell?_alloc_past]; first | done | rfl) (by simp [go_sem, World.cell?_alloc_past]; first | done | rfl)) rfl ⟨(by unfold meetR; rw [if_pos (by omega)]; first | done | rfl), ?_⟩
        exact (by repeat (first | exact Below.refl _ _ | refine Below.drew ?_ | refine Below.drewN' ?_ _ | refine Below.alloc ?_ (by first | exact Nat.le_refl _ | (simp; done) | (simp; omega)) _))
      · skip
        go_enter Try.func50, Try.ntmps50
        go_wp2
        refine bodyPost_ret (ret_range rfl _ _ _ _ _ _ rfl rfl (by simp [go_sem, World.cell?_alloc_past]; first | done | rfl) (by simp [go_sem, World.cell?_alloc_past]; first | done | rfl)) rfl ⟨(by unfold meetR; rw [if_neg (by omega), show max a c = a by omega, show min b d = b by omega]; first | done | rfl), ?_⟩
        exact (by repeat (first | exact Below.refl _ _ | refine Below.drew ?_ | refine Below.drewN' ?_ _ | refine Below.alloc ?_ (by first | exact Nat.le_refl _ | (simp; done) | (simp; omega)) _))
set_option maxHeartbeats 4000000 in
theorem hullR_any (a b c d : Int) (w : World) :
    Calls Try.prog 51 #[.agg #[.int .i64 a, .int .i64 b], .agg #[.int .i64 c, .int .i64 d]] w fun e w' => e = .returned (.agg #[.int .i64 (min a c), .int .i64 (max b d)]) ∧ Below w.heap.size w w' := by
  rcases Int.lt_or_le c a with h1 | h1
  · rcases Int.lt_or_le b d with h2 | h2
    · skip
      go_enter Try.func51, Try.ntmps51
      go_wp2
      refine bodyPost_ret (ret_range1 rfl _ _ _ _ _ rfl (by simp [go_sem, World.cell?_alloc_past]; first | done | rfl) (by simp [go_sem, World.cell?_alloc_past]; first | done | rfl)) rfl ⟨(by rw [show min a c = c by omega, show max b d = d by omega]; first | done | rfl), ?_⟩
      exact (by repeat (first | exact Below.refl _ _ | refine Below.drew ?_ | refine Below.drewN' ?_ _ | refine Below.alloc ?_ (by first | exact Nat.le_refl _ | (simp; done) | (simp; omega)) _))
    · skip
      go_enter Try.func51, Try.ntmps51
      go_wp2
      refine bodyPost_ret (ret_range1 rfl _ _ _ _ _ rfl (by simp [go_sem, World.cell?_alloc_past]; first | done | rfl) (by simp [go_sem, World.cell?_alloc_past]; first | done | rfl)) rfl ⟨(by rw [show min a c = c by omega, show max b d = b by omega]; first | done | rfl), ?_⟩
      exact (by repeat (first | exact Below.refl _ _ | refine Below.drew ?_ | refine Below.drewN' ?_ _ | refine Below.alloc ?_ (by first | exact Nat.le_refl _ | (simp; done) | (simp; omega)) _))
  · rcases Int.lt_or_le b d with h2 | h2
    · skip
      go_enter Try.func51, Try.ntmps51
      go_wp2
      refine bodyPost_ret (ret_range1 rfl _ _ _ _ _ rfl (by simp [go_sem, World.cell?_alloc_past]; first | done | rfl) (by simp [go_sem, World.cell?_alloc_past]; first | done | rfl)) rfl ⟨(by rw [show min a c = a by omega, show max b d = d by omega]; first | done | rfl), ?_⟩
      exact (by repeat (first | exact Below.refl _ _ | refine Below.drew ?_ | refine Below.drewN' ?_ _ | refine Below.alloc ?_ (by first | exact Nat.le_refl _ | (simp; done) | (simp; omega)) _))
    · skip
      go_enter Try.func51, Try.ntmps51
      go_wp2
      refine bodyPost_ret (ret_range1 rfl _ _ _ _ _ rfl (by simp [go_sem, World.cell?_alloc_past]; first | done | rfl) (by simp [go_sem, World.cell?_alloc_past]; first | done | rfl)) rfl ⟨(by rw [show min a c = a by omega, show max b d = b by omega]; first | done | rfl), ?_⟩
      exact (by repeat (first | exact Below.refl _ _ | refine Below.drew ?_ | refine Below.drewN' ?_ _ | refine Below.alloc ?_ (by first | exact Nat.le_refl _ | (simp; done) | (simp; omega)) _))
end Go.Proofs.Ytfnmnnbmhfbkbaa