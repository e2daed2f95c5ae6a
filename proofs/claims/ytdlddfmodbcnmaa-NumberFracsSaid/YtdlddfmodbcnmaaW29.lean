/- Walks: the reference's lowest terms. -/
import Derived.Test.YtdlddfmodbcnmaaW28
set_option linter.unusedVariables false
set_option linter.unusedSimpArgs false
namespace Go.Proofs.Ytdlddfmodbcnmaa
open Go.RowKit

def lowF (n d : Int) : Int × Int := ((if d < 0 then -n else n).tdiv (gcdI n d), (if d < 0 then -d else d).tdiv (gcdI n d))
theorem lowN_F (n d : Int) : lowN n d = if ckF (lowF n d).1 (lowF n d).2 ≠ 0 then (0, 0, 8) else ((lowF n d).1, (lowF n d).2, 0) := rfl

set_option maxHeartbeats 1000000 in
theorem lowestB_any (n d : Int) (w : World) (hn : -4000000000000000000 ≤ n) (hn' : n ≤ 4000000000000000000) (hd : -4000000000000000000 ≤ d) (hd' : d ≤ 4000000000000000000) (h0 : d ≠ 0) :
    Calls Try.prog 80 #[.int .i64 n, .int .i64 d] w fun e w' => e = .returned (.agg #[.int .i64 (lowF n d).1, .int .i64 (lowF n d).2]) ∧ Below w.heap.size w w' := by
  have s3 := sz_nonneg d
  have s4 := sz_le (b := 4000000000000000000) (by omega) hd'
  have g1 := gcdI_pos (n := n) (d := d) h0
  have g2 := gcdI_le (n := n) (d := d) h0
  have q1 := tdiv_bd hn hn' g1
  have q2 := tdiv_bd (n := d) (B := 4000000000000000000) (by omega) hd' g1
  have hI : I64 n := ⟨by omega, by omega⟩
  by_cases hneg : d < 0
  · have HF := Lib.hid (show lowF n d = (n.tdiv (-gcdI n d), d.tdiv (-gcdI n d)) by
      unfold lowF; rw [if_pos hneg, if_pos hneg, Int.neg_tdiv, Int.neg_tdiv, Int.tdiv_neg, Int.tdiv_neg])
    have hq1 : n.tdiv (-gcdI n d) = -n.tdiv (gcdI n d) := Int.tdiv_neg _ _
    have hq2 : d.tdiv (-gcdI n d) = -d.tdiv (gcdI n d) := Int.tdiv_neg _ _
    have HG := Lib.hid (show gcdI n d = gcdI n d from rfl)
    generalize hg : gcdI n d = g at *
    have HGG := Lib.hid hg
    clear hg HG
    have hw : IntKind.i64.wrap (-g) = -g := IntWalk.i64_in _ (by omega)
    have r1 : -4000000000000000000 ≤ n.tdiv (-g) ∧ n.tdiv (-g) ≤ 4000000000000000000 := by omega
    have r2 : -4000000000000000000 ≤ d.tdiv (-g) ∧ d.tdiv (-g) ≤ 4000000000000000000 := by omega
    clear hq1 hq2 q1 q2
    generalize hgm : -g = m at *
    have hm : m ≠ 0 := by omega
    have hm2 : ¬ m = -1 ∨ True := .inr trivial
    go_enter Try.func80, Try.ntmps80
    go_wp2_with (go_at_call 88; refine (gcdB_any n d _ hI (by omega) (by omega) (.inl h0)).mono ?_; rintro e w1 ⟨rfl, kk, rfl⟩; rw [HGG.out])
    go_region
    go_wp2
    obtain ⟨x0, x1⟩ := set2 (w := (w.alloc (Obj.cells #[Value.int IntKind.i64 0, Value.int IntKind.i64 0] 23)).drewN (kk + 1)) (b := w.heap.size) (x := .int .i64 0) (y := .int .i64 0) (.int .i64 (n.tdiv m)) (.int .i64 (d.tdiv m)) (by simp [go_sem, World.cell?_alloc_past]) (by simp [go_sem, World.cell?_alloc_past])
    refine bodyPost_ret (ret_frac1 rfl _ _ _ _ _ rfl x0 x1) rfl ⟨by rw [HF.out], ?_⟩
    exact (((((Below.refl w.heap.size w).alloc (Nat.le_refl _) _).drewN' _).setCell (Nat.le_refl _) _).setCell (Nat.le_refl _) _)
  · have HF := Lib.hid (show lowF n d = (n.tdiv (gcdI n d), d.tdiv (gcdI n d)) by unfold lowF; rw [if_neg hneg, if_neg hneg])
    generalize hg : gcdI n d = g at *
    have HGG := Lib.hid hg
    clear hg
    go_enter Try.func80, Try.ntmps80
    go_wp2_with (go_at_call 88; refine (gcdB_any n d _ hI (by omega) (by omega) (.inl h0)).mono ?_; rintro e w1 ⟨rfl, kk, rfl⟩; rw [HGG.out])
    go_region
    go_wp2
    obtain ⟨x0, x1⟩ := set2 (w := (w.alloc (Obj.cells #[Value.int IntKind.i64 0, Value.int IntKind.i64 0] 23)).drewN (kk + 1)) (b := w.heap.size) (x := .int .i64 0) (y := .int .i64 0) (.int .i64 (n.tdiv g)) (.int .i64 (d.tdiv g)) (by simp [go_sem, World.cell?_alloc_past]) (by simp [go_sem, World.cell?_alloc_past])
    refine bodyPost_ret (ret_frac1 rfl _ _ _ _ _ rfl x0 x1) rfl ⟨by rw [HF.out], ?_⟩
    exact (((((Below.refl w.heap.size w).alloc (Nat.le_refl _) _).drewN' _).setCell (Nat.le_refl _) _).setCell (Nat.le_refl _) _)

/-- What the reference makes of a numerator and a denominator. -/
theorem madeR_any (n d : Int) (w : World) (hn : -4000000000000000000 ≤ n) (hn' : n ≤ 4000000000000000000) (hd : -4000000000000000000 ≤ d) (hd' : d ≤ 4000000000000000000) (h0 : d ≠ 0) :
    Calls Try.prog 89 #[.int .i64 n, .int .i64 d] w fun e w' => e = .returned (.tuple #[.agg #[.int .i64 (lowN n d).1, .int .i64 (lowN n d).2.1], .int .i64 (lowN n d).2.2]) ∧ Below w.heap.size w w' := by
  have s3 := sz_nonneg d
  have g1 := gcdI_pos (n := n) (d := d) h0
  have hF1 : I64 (lowF n d).1 := by
    have := tdiv_bd (n := if d < 0 then -n else n) (B := 4000000000000000000) (by split <;> omega) (by split <;> omega) g1
    exact ⟨by show -9223372036854775808 ≤ (if d < 0 then -n else n).tdiv (gcdI n d); omega, by show (if d < 0 then -n else n).tdiv (gcdI n d) ≤ 9223372036854775807; omega⟩
  have hF2 : I64 (lowF n d).2 := by
    have := tdiv_bd (n := if d < 0 then -d else d) (B := 4000000000000000000) (by split <;> omega) (by split <;> omega) g1
    exact ⟨by show -9223372036854775808 ≤ (if d < 0 then -d else d).tdiv (gcdI n d); omega, by show (if d < 0 then -d else d).tdiv (gcdI n d) ≤ 9223372036854775807; omega⟩
  have HN := Lib.hid (lowN_F n d)
  have HLO := Lib.hid (fun wx => lowestB_any n d wx hn hn' hd hd' h0)
  clear s3 g1
  generalize lowF n d = R at *
  obtain ⟨x, y⟩ := R
  dsimp only at *
  by_cases he : ckF x y = 0
  · have he' : (ckF x y != 0) = false := by rw [he]; rfl
    have HR := Lib.hid (show lowN n d = (x, y, 0) by rw [HN.out, if_neg (by simpa using he)])
    clear he
    go_enter Try.func89, Try.ntmps89
    go_wp2_with (first
      | (go_at_call 80; refine (HLO.out _).mono ?_; rintro e w1 ⟨rfl, B1⟩; obtain ⟨hcK, hfK⟩ := bcell B1; have hz1 : w.heap.size + 1 ≤ w1.heap.size := (by have := B1.size; simp at this; omega); have k0 : w1.cell? ⟨w.heap.size, 0, none⟩ = some (.int .i64 0) := (by rw [hcK _ _ (by simp)]; simp [go_sem, World.cell?_alloc_past]); have k1 : w1.cell? ⟨w.heap.size, 1, none⟩ = some (.int .i64 0) := (by rw [hcK _ _ (by simp)]; simp [go_sem, World.cell?_alloc_past]); have k2 : w1.frozen? ⟨w.heap.size, 0, none⟩ = false := (by rw [hfK _ _ (by simp)]; simp [go_sem, World.frozen?_alloc_past]); have k3 : w1.frozen? ⟨w.heap.size, 1, none⟩ = false := (by rw [hfK _ _ (by simp)]; simp [go_sem, World.frozen?_alloc_past]))
      | (go_at_call 27; refine (checkFracR_any x y _ hF1 hF2).mono ?_; rintro e w2 ⟨rfl, B2⟩; obtain ⟨hcL, hfL⟩ := bcell B2; have hz2 : w1.heap.size + 1 ≤ w2.heap.size := (by have := B2.size; simp at this; omega); have j0 : w2.cell? ⟨w.heap.size, 0, none⟩ = some (.int .i64 0) := (by rw [hcL _ _ (by simp; omega), World.cell?_alloc_lt _ _ _ (by show w.heap.size < _; omega)]; exact k0); have j1 : w2.cell? ⟨w.heap.size, 1, none⟩ = some (.int .i64 0) := (by rw [hcL _ _ (by simp; omega), World.cell?_alloc_lt _ _ _ (by show w.heap.size < _; omega)]; exact k1); have j2 : w2.frozen? ⟨w.heap.size, 0, none⟩ = false := (((Below.refl w1.heap.size w1).alloc (Nat.le_refl _) _).trans (B2.mono (by simp)) |>.frozen (p := ⟨w.heap.size, 0, none⟩) (by show w.heap.size < w1.heap.size; omega)).trans k2; have j3 : w2.frozen? ⟨w.heap.size, 1, none⟩ = false := (((Below.refl w1.heap.size w1).alloc (Nat.le_refl _) _).trans (B2.mono (by simp)) |>.frozen (p := ⟨w.heap.size, 1, none⟩) (by show w.heap.size < w1.heap.size; omega)).trans k3; have l0 : w2.cell? ⟨w1.heap.size, 0, none⟩ = some (.int .i64 x) := (by rw [hcL _ _ (by simp)]; simp [go_sem]); have l1 : w2.cell? ⟨w1.heap.size, 1, none⟩ = some (.int .i64 y) := (by rw [hcL _ _ (by simp)]; simp [go_sem]); clear hcK hfK hcL hfL k0 k1 k2 k3))
    obtain ⟨r0, r1⟩ := set2 (w := w2) (b := w.heap.size) (x := .int .i64 0) (y := .int .i64 0) (.int .i64 x) (.int .i64 y) j0 j1
    refine bodyPost_ret (ret_frac rfl _ _ _ _ _ _ rfl rfl r0 r1) rfl ⟨by rw [HR.out]; rfl, ?_⟩
    exact ((((((Below.refl w.heap.size w).alloc (Nat.le_refl _) _).trans (B1.mono (by simp))).alloc (by omega) _).trans (B2.mono (by simp; omega))).setCell (Nat.le_refl _) _).setCell (Nat.le_refl _) _
  · have he' : (ckF x y != 0) = true := by simpa using he
    have HR := Lib.hid (show lowN n d = (0, 0, 8) by rw [HN.out, if_pos he])
    clear he
    go_enter Try.func89, Try.ntmps89
    go_wp2_with (first
      | (go_at_call 80; refine (HLO.out _).mono ?_; rintro e w1 ⟨rfl, B1⟩; obtain ⟨hcK, hfK⟩ := bcell B1; have hz1 : w.heap.size + 1 ≤ w1.heap.size := (by have := B1.size; simp at this; omega); have k0 : w1.cell? ⟨w.heap.size, 0, none⟩ = some (.int .i64 0) := (by rw [hcK _ _ (by simp)]; simp [go_sem, World.cell?_alloc_past]); have k1 : w1.cell? ⟨w.heap.size, 1, none⟩ = some (.int .i64 0) := (by rw [hcK _ _ (by simp)]; simp [go_sem, World.cell?_alloc_past]); have k2 : w1.frozen? ⟨w.heap.size, 0, none⟩ = false := (by rw [hfK _ _ (by simp)]; simp [go_sem, World.frozen?_alloc_past]); have k3 : w1.frozen? ⟨w.heap.size, 1, none⟩ = false := (by rw [hfK _ _ (by simp)]; simp [go_sem, World.frozen?_alloc_past]))
      | (go_at_call 27; refine (checkFracR_any x y _ hF1 hF2).mono ?_; rintro e w2 ⟨rfl, B2⟩; obtain ⟨hcL, hfL⟩ := bcell B2; have hz2 : w1.heap.size + 1 ≤ w2.heap.size := (by have := B2.size; simp at this; omega); have j0 : w2.cell? ⟨w.heap.size, 0, none⟩ = some (.int .i64 0) := (by rw [hcL _ _ (by simp; omega), World.cell?_alloc_lt _ _ _ (by show w.heap.size < _; omega)]; exact k0); have j1 : w2.cell? ⟨w.heap.size, 1, none⟩ = some (.int .i64 0) := (by rw [hcL _ _ (by simp; omega), World.cell?_alloc_lt _ _ _ (by show w.heap.size < _; omega)]; exact k1); have j2 : w2.frozen? ⟨w.heap.size, 0, none⟩ = false := (((Below.refl w1.heap.size w1).alloc (Nat.le_refl _) _).trans (B2.mono (by simp)) |>.frozen (p := ⟨w.heap.size, 0, none⟩) (by show w.heap.size < w1.heap.size; omega)).trans k2; have j3 : w2.frozen? ⟨w.heap.size, 1, none⟩ = false := (((Below.refl w1.heap.size w1).alloc (Nat.le_refl _) _).trans (B2.mono (by simp)) |>.frozen (p := ⟨w.heap.size, 1, none⟩) (by show w.heap.size < w1.heap.size; omega)).trans k3; have l0 : w2.cell? ⟨w1.heap.size, 0, none⟩ = some (.int .i64 x) := (by rw [hcL _ _ (by simp)]; simp [go_sem]); have l1 : w2.cell? ⟨w1.heap.size, 1, none⟩ = some (.int .i64 y) := (by rw [hcL _ _ (by simp)]; simp [go_sem]); clear hcK hfK hcL hfL k0 k1 k2 k3))
    obtain ⟨r0, r1⟩ := set2 (w := w2) (b := w.heap.size) (x := .int .i64 0) (y := .int .i64 0) (.int .i64 0) (.int .i64 0) j0 j1
    refine bodyPost_ret (ret_frac rfl _ _ _ _ _ _ rfl rfl r0 r1) rfl ⟨by rw [HR.out]; rfl, ?_⟩
    exact ((((((Below.refl w.heap.size w).alloc (Nat.le_refl _) _).trans (B1.mono (by simp))).alloc (by omega) _).trans (B2.mono (by simp; omega))).setCell (Nat.le_refl _) _).setCell (Nat.le_refl _) _

end Go.Proofs.Ytdlddfmodbcnmaa
