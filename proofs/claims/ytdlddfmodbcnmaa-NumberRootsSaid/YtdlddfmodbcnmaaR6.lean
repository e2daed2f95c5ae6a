/- Walks: RootOf. -/
import Derived.Test.YtdlddfmodbcnmaaR5
import Derived.Deep.RegionHeld3
set_option linter.unusedVariables false
set_option linter.unusedSimpArgs false
namespace Go.Proofs.Ytdlddfmodbcnmaa
open Go.RowKit

def rootN (x y : Int) : Int × Int × Int := if ckRg x y ≠ 0 then (0, 0, ckRg x y) else if x < 0 then (0, 0, 2) else (rt x, rtUp y, 0)

set_option maxHeartbeats 2000000 in
theorem rootOf_any (x y : Int) (w : World) (hx : I64 x) (hy : I64 y) :
    Calls Try.prog 38 #[.agg #[.int .i64 x, .int .i64 y]] w fun e w' => e = .returned (.tuple #[.agg #[.int .i64 (rootN x y).1, .int .i64 (rootN x y).2.1], .int .i64 (rootN x y).2.2]) ∧ Below w.heap.size w w' := by
  by_cases he : ckRs [(x, y)] = 0
  · have he' : (ckRs [(x, y)] != 0) = false := by rw [he]; rfl
    have z := he
    rw [ckRs_one] at z
    dsimp only at z
    obtain ⟨x1, x2, y1, y2, xy⟩ := ckRg_zero z
    have HZ := Bx.mk z
    clear z he
    by_cases g : x < 0
    · have HR := Bx.mk (show rootN x y = (0, 0, 2) by unfold rootN; rw [if_neg (by simpa using HZ.out), if_pos g])
      go_enter Try.func38, Try.ntmps38
      go_wp2_with (go_at_call 94; refine (checkRanges1 x y _ _ (by simp) hx hy (by simp [go_sem, World.cell?_alloc_past]) (by simp [go_sem, World.cell?_alloc_past])).mono ?_; rintro e w1 ⟨rfl, B1⟩; obtain ⟨hc1, hf1⟩ := bcell B1; have z1 : w.heap.size + 3 ≤ w1.heap.size := (by have := B1.size; simp at this; omega); have zz : w.heap.size + 1 < w1.heap.size := (by omega); have a0 : w1.cell? ⟨w.heap.size, 0, none⟩ = some (.int .i64 x) := (by rw [hc1 _ _ (by simp <;> omega)]; simp [go_sem, World.cell?_alloc_past]); have a1 : w1.cell? ⟨w.heap.size, 1, none⟩ = some (.int .i64 y) := (by rw [hc1 _ _ (by simp <;> omega)]; simp [go_sem, World.cell?_alloc_past]); have a2 : w1.cell? ⟨w.heap.size + 1, 0, none⟩ = some (.int .i64 0) := (by rw [hc1 _ _ (by simp <;> omega)]; simp [go_sem, World.cell?_alloc_past]); have a3 : w1.cell? ⟨w.heap.size + 1, 1, none⟩ = some (.int .i64 0) := (by rw [hc1 _ _ (by simp <;> omega)]; simp [go_sem, World.cell?_alloc_past]); have a4 : w1.frozen? ⟨w.heap.size + 1, 0, none⟩ = false := (by rw [hf1 _ _ (by simp <;> omega)]; simp [go_sem, World.frozen?_alloc_past]); have a5 : w1.frozen? ⟨w.heap.size + 1, 1, none⟩ = false := (by rw [hf1 _ _ (by simp <;> omega)]; simp [go_sem, World.frozen?_alloc_past]); clear hc1 hf1)
      obtain ⟨r0, r1⟩ := set2 (w := w1) (b := w.heap.size + 1) (x := .int .i64 0) (y := .int .i64 0) (.int .i64 0) (.int .i64 0) a2 a3
      refine bodyPost_ret (ret_range rfl _ _ _ _ _ _ rfl rfl r0 r1) rfl ⟨by rw [HR.out]; rfl, ?_⟩
      exact ((((((((Below.refl w.heap.size w).alloc (Nat.le_refl _) _).alloc (by simp) _).alloc (by simp; omega) _).trans (B1.mono (by simp; omega))))).setCell (by simp) _).setCell (by simp) _
    · have HR := Bx.mk (show rootN x y = (rt x, rtUp y, 0) by unfold rootN; rw [if_neg (by simpa using HZ.out), if_neg g])
      have E1 := Bx.mk (sqN_one (n := x) (by omega) (by omega))
      have E2 := Bx.mk (sqN_one (n := y) (by omega) (by omega))
      have f1 : ∀ w, (Instr.field 38 (.agg #[.int .i64 (rt x), .int .i64 (rtUp x)]) 0).run Try.prog w = .ok (.int .i64 (rt x)) w := fun _ => by kernel_rfl
      have f2 : ∀ w, (Instr.field 38 (.agg #[.int .i64 (rt y), .int .i64 (rtUp y)]) 1).run Try.prog w = .ok (.int .i64 (rtUp y)) w := fun _ => by kernel_rfl
      go_enter Try.func38, Try.ntmps38
      go_wp2_with (go_at_call 94; refine (checkRanges1 x y _ _ (by simp) hx hy (by simp [go_sem, World.cell?_alloc_past]) (by simp [go_sem, World.cell?_alloc_past])).mono ?_; rintro e w1 ⟨rfl, B1⟩; obtain ⟨hc1, hf1⟩ := bcell B1; have z1 : w.heap.size + 3 ≤ w1.heap.size := (by have := B1.size; simp at this; omega); have zz : w.heap.size + 1 < w1.heap.size := (by omega); have a0 : w1.cell? ⟨w.heap.size, 0, none⟩ = some (.int .i64 x) := (by rw [hc1 _ _ (by simp <;> omega)]; simp [go_sem, World.cell?_alloc_past]); have a1 : w1.cell? ⟨w.heap.size, 1, none⟩ = some (.int .i64 y) := (by rw [hc1 _ _ (by simp <;> omega)]; simp [go_sem, World.cell?_alloc_past]); have a2 : w1.cell? ⟨w.heap.size + 1, 0, none⟩ = some (.int .i64 0) := (by rw [hc1 _ _ (by simp <;> omega)]; simp [go_sem, World.cell?_alloc_past]); have a3 : w1.cell? ⟨w.heap.size + 1, 1, none⟩ = some (.int .i64 0) := (by rw [hc1 _ _ (by simp <;> omega)]; simp [go_sem, World.cell?_alloc_past]); have a4 : w1.frozen? ⟨w.heap.size + 1, 0, none⟩ = false := (by rw [hf1 _ _ (by simp <;> omega)]; simp [go_sem, World.frozen?_alloc_past]); have a5 : w1.frozen? ⟨w.heap.size + 1, 1, none⟩ = false := (by rw [hf1 _ _ (by simp <;> omega)]; simp [go_sem, World.frozen?_alloc_past]); clear hc1 hf1)
      go_region_held3 (fun w' => w'.cell? ⟨w.heap.size, 0, none⟩ = some (.int .i64 x) ∧ w'.cell? ⟨w.heap.size, 1, none⟩ = some (.int .i64 y))
        (first | (exact ⟨a0, a1⟩) | (exact ⟨b0, b1⟩) | (exact ⟨c0, c1⟩) | (refine ⟨?_, ?_⟩ <;> simp [go_sem, *]; done))
        (first
          | (go_at_call 93; (with_reducible refine (squareRoot_any x 1 _ (by omega) (by omega) (by omega) (by omega)).mono ?_); rw [E1.out]; rintro e w2 ⟨rfl, B2⟩; replace B2 : Below w1.heap.size w1 w2 := (by first | exact B2 | exact (Below.refl _ _).drew.trans B2); have z2 := B2.size; have b0 := (B2.cell (p := ⟨w.heap.size, 0, none⟩) (by show w.heap.size < w1.heap.size; omega)).trans a0; have b1 := (B2.cell (p := ⟨w.heap.size, 1, none⟩) (by show w.heap.size < w1.heap.size; omega)).trans a1; have b2 := (B2.cell (p := ⟨w.heap.size + 1, 0, none⟩) (by show w.heap.size + 1 < w1.heap.size; omega)).trans a2; have b3 := (B2.cell (p := ⟨w.heap.size + 1, 1, none⟩) (by show w.heap.size + 1 < w1.heap.size; omega)).trans a3; have b4 := (B2.frozen (p := ⟨w.heap.size + 1, 0, none⟩) (by show w.heap.size + 1 < w1.heap.size; omega)).trans a4; have b5 := (B2.frozen (p := ⟨w.heap.size + 1, 1, none⟩) (by show w.heap.size + 1 < w1.heap.size; omega)).trans a5)
          | (go_at_call 93; (with_reducible refine (squareRoot_any y 1 _ (by omega) (by omega) (by omega) (by omega)).mono ?_); rw [E2.out]; rintro e w3 ⟨rfl, B3⟩; replace B3 : Below w2.heap.size w2 w3 := (by first | exact B3 | exact (Below.refl _ _).drew.trans B3); have z3 := B3.size; have c0 := (B3.cell (p := ⟨w.heap.size, 0, none⟩) (by show w.heap.size < w2.heap.size; omega)).trans b0; have c1 := (B3.cell (p := ⟨w.heap.size, 1, none⟩) (by show w.heap.size < w2.heap.size; omega)).trans b1; have c2 := (B3.cell (p := ⟨w.heap.size + 1, 0, none⟩) (by show w.heap.size + 1 < w2.heap.size; omega)).trans b2; have c3 := (B3.cell (p := ⟨w.heap.size + 1, 1, none⟩) (by show w.heap.size + 1 < w2.heap.size; omega)).trans b3; have c4 := (B3.frozen (p := ⟨w.heap.size + 1, 0, none⟩) (by show w.heap.size + 1 < w2.heap.size; omega)).trans b4; have c5 := (B3.frozen (p := ⟨w.heap.size + 1, 1, none⟩) (by show w.heap.size + 1 < w2.heap.size; omega)).trans b5))
      go_wp2
      obtain ⟨r0, r1⟩ := set2 (w := w3) (b := w.heap.size + 1) (x := .int .i64 0) (y := .int .i64 0) (.int .i64 (rt x)) (.int .i64 (rtUp y)) c2 c3
      refine bodyPost_ret (ret_range rfl _ _ _ _ _ _ rfl rfl r0 r1) rfl ⟨by rw [HR.out]; rfl, ?_⟩
      exact (((((((((Below.refl w.heap.size w).alloc (Nat.le_refl _) _).alloc (by simp) _).alloc (by simp; omega) _).trans (B1.mono (by simp; omega)))).trans (B2.mono (by omega))).trans (B3.mono (by omega))).setCell (by simp) _).setCell (by simp) _
  · have he' : (ckRs [(x, y)] != 0) = true := by simpa using he
    have HR := Bx.mk (show rootN x y = (0, 0, ckRs [(x, y)]) by rw [ckRs_one] at he ⊢; unfold rootN; rw [if_pos he])
    clear he
    go_enter Try.func38, Try.ntmps38
    go_wp2_with (go_at_call 94; refine (checkRanges1 x y _ _ (by simp) hx hy (by simp [go_sem, World.cell?_alloc_past]) (by simp [go_sem, World.cell?_alloc_past])).mono ?_; rintro e w1 ⟨rfl, B1⟩; obtain ⟨hc1, hf1⟩ := bcell B1; have z1 : w.heap.size + 3 ≤ w1.heap.size := (by have := B1.size; simp at this; omega); have zz : w.heap.size + 1 < w1.heap.size := (by omega); have a0 : w1.cell? ⟨w.heap.size, 0, none⟩ = some (.int .i64 x) := (by rw [hc1 _ _ (by simp <;> omega)]; simp [go_sem, World.cell?_alloc_past]); have a1 : w1.cell? ⟨w.heap.size, 1, none⟩ = some (.int .i64 y) := (by rw [hc1 _ _ (by simp <;> omega)]; simp [go_sem, World.cell?_alloc_past]); have a2 : w1.cell? ⟨w.heap.size + 1, 0, none⟩ = some (.int .i64 0) := (by rw [hc1 _ _ (by simp <;> omega)]; simp [go_sem, World.cell?_alloc_past]); have a3 : w1.cell? ⟨w.heap.size + 1, 1, none⟩ = some (.int .i64 0) := (by rw [hc1 _ _ (by simp <;> omega)]; simp [go_sem, World.cell?_alloc_past]); have a4 : w1.frozen? ⟨w.heap.size + 1, 0, none⟩ = false := (by rw [hf1 _ _ (by simp <;> omega)]; simp [go_sem, World.frozen?_alloc_past]); have a5 : w1.frozen? ⟨w.heap.size + 1, 1, none⟩ = false := (by rw [hf1 _ _ (by simp <;> omega)]; simp [go_sem, World.frozen?_alloc_past]); clear hc1 hf1)
    obtain ⟨r0, r1⟩ := set2 (w := w1) (b := w.heap.size + 1) (x := .int .i64 0) (y := .int .i64 0) (.int .i64 0) (.int .i64 0) a2 a3
    refine bodyPost_ret (ret_range rfl _ _ _ _ _ _ rfl rfl r0 r1) rfl ⟨by rw [HR.out]; rfl, ?_⟩
    exact ((((((((Below.refl w.heap.size w).alloc (Nat.le_refl _) _).alloc (by simp) _).alloc (by simp; omega) _).trans (B1.mono (by simp; omega))))).setCell (by simp) _).setCell (by simp) _

end Go.Proofs.Ytdlddfmodbcnmaa