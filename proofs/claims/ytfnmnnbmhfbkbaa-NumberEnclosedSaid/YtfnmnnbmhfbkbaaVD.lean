/- Walks: the law of the counts of roots. -/
import Derived.Test.YtfnmnnbmhfbkbaaVE
import Derived.Test.YtfnmnnbmhfbkbaaP5
import Derived.Test.YtfnmnnbmhfbkbaaW33
import Derived.Deep.RegionHeld3
set_option linter.unusedVariables false
set_option linter.unusedSimpArgs false
namespace Go.Proofs.Ytfnmnnbmhfbkbaa
open Go.RowKit

def lowB (n : Nat) : Bool := decide (n ≤ 5) || (decide (7 < n) && decide (n ≤ 10))
set_option maxHeartbeats 2000000 in
theorem low_any (A : Option Addr) (n c : Nat) (w : World) (hn : n ≤ 9223372036854775807) :
    Calls Try.prog 74 #[.slice A n c] w fun e w' => e = .returned (.bool (lowB n)) ∧ w = w' := by
  by_cases h1 : n ≤ 5
  · have HR := Bx.mk (show lowB n = true by unfold lowB; simp [h1])
    have k1 : (n : Int) ≤ 5 := by omega
    rw [HR.out]
    go_enter Try.func74, Try.ntmps74
    go_wp2
    go_ret
    exact ⟨rfl, rfl⟩
  · by_cases h2 : 7 < n
    · by_cases h3 : n ≤ 10
      · have HR := Bx.mk (show lowB n = true by unfold lowB; simp [h2, h3])
        have k1 : ¬ (n : Int) ≤ 5 := by omega
        have k2 : (7 : Int) < n := by omega
        have k3 : (n : Int) ≤ 10 := by omega
        rw [HR.out]
        go_enter Try.func74, Try.ntmps74
        go_wp2
        go_ret
        exact ⟨rfl, rfl⟩
      · have HR := Bx.mk (show lowB n = false by unfold lowB; simp [h1, h3])
        have k1 : ¬ (n : Int) ≤ 5 := by omega
        have k2 : (7 : Int) < n := by omega
        have k3 : ¬ (n : Int) ≤ 10 := by omega
        rw [HR.out]
        go_enter Try.func74, Try.ntmps74
        go_wp2
        go_ret
        exact ⟨rfl, rfl⟩
    · have HR := Bx.mk (show lowB n = false by unfold lowB; simp [h1, h2])
      have k1 : ¬ (n : Int) ≤ 5 := by omega
      have k2 : ¬ (7 : Int) < n := by omega
      rw [HR.out]
      go_enter Try.func74, Try.ntmps74
      go_wp2
      go_ret
      exact ⟨rfl, rfl⟩

theorem cmpI_swap (x y : Int) : cmpI x y = -cmpI y x := by
  unfold cmpI
  split <;> (try split) <;> (try split) <;> (try split) <;> omega
theorem ckR_P {n : Nat} {p : Row} {a b c d : Int} (h : ckP n p ≠ 0) : ckR n p a b c d = ckP n p := by unfold ckR; rw [if_pos h]
theorem ckR_F {n : Nat} {p : Row} {a b c d : Int} (h : ckP n p = 0) (k : ckFs [(a, b), (c, d)] ≠ 0) : ckR n p a b c d = ckFs [(a, b), (c, d)] := by
  have e : cmpN a b c d = (0, ckFs [(a, b), (c, d)]) := by unfold cmpN; rw [if_pos k]
  unfold ckR
  rw [if_neg (by simpa using h), e, if_neg (fun x => k x.1)]
theorem ckR_C {n : Nat} {p : Row} {a b c d : Int} (h : ckP n p = 0) (k : ckFs [(a, b), (c, d)] = 0) : ckR n p a b c d = if cmpI (c * b) (a * d) ≤ 0 then 9 else 0 := by
  have e : cmpN a b c d = (cmpI (a * d) (c * b), 0) := by unfold cmpN; rw [if_neg (by simpa using k)]
  have s := cmpI_swap (c * b) (a * d)
  unfold ckR
  rw [if_neg (by simpa using h), e]
  dsimp only
  by_cases x : cmpI (c * b) (a * d) ≤ 0
  · rw [if_pos x, if_pos ⟨rfl, by omega⟩]
  · rw [if_neg x, if_neg (fun y => x (by omega))]

set_option maxRecDepth 100000 in
set_option maxHeartbeats 4000000 in
theorem bounds_any (A : Option Addr) (n cc : Nat) (p : Row) (a b c d : Int) (w : World) (hA : IS w A n p) (hn : n ≤ 1000) (ha : I64 a) (hb : I64 b) (hc : I64 c) (hd : I64 d) :
    Calls Try.prog 76 #[.slice A n cc, .agg #[.int .i64 a, .int .i64 b], .agg #[.int .i64 c, .int .i64 d]] w fun e w' => e = .returned (.int .i64 (ckR n p a b c d)) ∧ Below w.heap.size w w' := by
  have MA := Bx.mk (show Below w.heap.size w ((w.alloc (.cells #[.int .i64 a, .int .i64 b] 23)).alloc (.cells #[.int .i64 c, .int .i64 d] 23)) from ((Below.refl _ _).alloc (Nat.le_refl _) _).alloc (by simp) _)
  have A0 := Bx.mk (hA.below (Nat.le_refl _) MA.out)
  clear hA
  by_cases h0 : ckP n p = 0
  · have HZ := Bx.mk h0
    by_cases h1 : ckFs [(a, b), (c, d)] = 0
    · have HF2 := Bx.mk h1
      obtain ⟨f1, f2⟩ := ckFs_two_zero h1
      have HF1 := Bx.mk (show ckF a b = 0 from f1)
      have HG1 := Bx.mk (show ckF c d = 0 from f2)
      have HR := Bx.mk (ckR_C (a := a) (b := b) (c := c) (d := d) h0 h1)
      clear h0 h1 f1 f2
      obtain ⟨u1, u2⟩ := cmpI_bd (c * b) (a * d)
      obtain ⟨X, hX⟩ : ∃ X, cmpI (c * b) (a * d) = X := ⟨_, rfl⟩
      rw [hX] at u1 u2
      have HX := Bx.mk hX
      clear hX
      by_cases hx : X ≤ 0
      · have HR2 := Bx.mk (show ckR n p a b c d = 9 by rw [HR.out, HX.out, if_pos hx])
        go_enter Try.func76, Try.ntmps76
        go_wp2_with (go_at_call 66; (with_reducible refine (checkPolyR_any A n cc p _ A0.out (by omega)).mono ?_); rw [HZ.out]; rintro e w1 ⟨rfl, rfl⟩)
        go_wp2_with (go_at_call 28; (with_reducible refine (fracsL2 a b c d _ _ (by simp) ha hb hc hd (by simp [go_sem, World.cell?_alloc_past]) (by simp [go_sem, World.cell?_alloc_past]) (by simp [go_sem, World.cell?_alloc_past]) (by simp [go_sem, World.cell?_alloc_past])).mono ?_); rw [HF2.out]; rintro e w2 ⟨rfl, B2⟩; obtain ⟨hcK, hfK⟩ := bcell B2; have u0 : w2.cell? ⟨w.heap.size, 0, none⟩ = some (.int .i64 a) := (by rw [hcK _ _ (by simp <;> omega)]; simp [go_sem, World.cell?_alloc_past]); have u1' : w2.cell? ⟨w.heap.size, 1, none⟩ = some (.int .i64 b) := (by rw [hcK _ _ (by simp <;> omega)]; simp [go_sem, World.cell?_alloc_past]); have u2' : w2.cell? ⟨w.heap.size + 1, 0, none⟩ = some (.int .i64 c) := (by rw [hcK _ _ (by simp <;> omega)]; simp [go_sem, World.cell?_alloc_past]); have u3 : w2.cell? ⟨w.heap.size + 1, 1, none⟩ = some (.int .i64 d) := (by rw [hcK _ _ (by simp <;> omega)]; simp [go_sem, World.cell?_alloc_past]); have M2 := below_call MA.out B2; clear hcK hfK)
        go_wp2_with (go_at_call 33; (with_reducible refine (cmpR_any c d a b _ HG1.out HF1.out).mono ?_); rw [HX.out]; rintro e w3 ⟨rfl, B3⟩; have M3 := below_call0 M2 B3)
        go_ret
        exact ⟨ret_int HR2.out.symm, M3⟩
      · have HR2 := Bx.mk (show ckR n p a b c d = 0 by rw [HR.out, HX.out, if_neg hx])
        go_enter Try.func76, Try.ntmps76
        go_wp2_with (go_at_call 66; (with_reducible refine (checkPolyR_any A n cc p _ A0.out (by omega)).mono ?_); rw [HZ.out]; rintro e w1 ⟨rfl, rfl⟩)
        go_wp2_with (go_at_call 28; (with_reducible refine (fracsL2 a b c d _ _ (by simp) ha hb hc hd (by simp [go_sem, World.cell?_alloc_past]) (by simp [go_sem, World.cell?_alloc_past]) (by simp [go_sem, World.cell?_alloc_past]) (by simp [go_sem, World.cell?_alloc_past])).mono ?_); rw [HF2.out]; rintro e w2 ⟨rfl, B2⟩; obtain ⟨hcK, hfK⟩ := bcell B2; have u0 : w2.cell? ⟨w.heap.size, 0, none⟩ = some (.int .i64 a) := (by rw [hcK _ _ (by simp <;> omega)]; simp [go_sem, World.cell?_alloc_past]); have u1' : w2.cell? ⟨w.heap.size, 1, none⟩ = some (.int .i64 b) := (by rw [hcK _ _ (by simp <;> omega)]; simp [go_sem, World.cell?_alloc_past]); have u2' : w2.cell? ⟨w.heap.size + 1, 0, none⟩ = some (.int .i64 c) := (by rw [hcK _ _ (by simp <;> omega)]; simp [go_sem, World.cell?_alloc_past]); have u3 : w2.cell? ⟨w.heap.size + 1, 1, none⟩ = some (.int .i64 d) := (by rw [hcK _ _ (by simp <;> omega)]; simp [go_sem, World.cell?_alloc_past]); have M2 := below_call MA.out B2; clear hcK hfK)
        go_wp2_with (go_at_call 33; (with_reducible refine (cmpR_any c d a b _ HG1.out HF1.out).mono ?_); rw [HX.out]; rintro e w3 ⟨rfl, B3⟩; have M3 := below_call0 M2 B3)
        go_ret
        exact ⟨ret_int HR2.out.symm, M3⟩
    · have HR := Bx.mk (ckR_F (a := a) (b := b) (c := c) (d := d) h0 h1)
      have hE : (ckFs [(a, b), (c, d)] != 0) = true := by simpa using h1
      clear h0 h1
      go_enter Try.func76, Try.ntmps76
      go_wp2_with (go_at_call 66; (with_reducible refine (checkPolyR_any A n cc p _ A0.out (by omega)).mono ?_); rw [HZ.out]; rintro e w1 ⟨rfl, rfl⟩)
      go_wp2_with (go_at_call 28; (with_reducible refine (fracsL2 a b c d _ _ (by simp) ha hb hc hd (by simp [go_sem, World.cell?_alloc_past]) (by simp [go_sem, World.cell?_alloc_past]) (by simp [go_sem, World.cell?_alloc_past]) (by simp [go_sem, World.cell?_alloc_past])).mono ?_);  rintro e w2 ⟨rfl, B2⟩; obtain ⟨hcK, hfK⟩ := bcell B2; have u0 : w2.cell? ⟨w.heap.size, 0, none⟩ = some (.int .i64 a) := (by rw [hcK _ _ (by simp <;> omega)]; simp [go_sem, World.cell?_alloc_past]); have u1' : w2.cell? ⟨w.heap.size, 1, none⟩ = some (.int .i64 b) := (by rw [hcK _ _ (by simp <;> omega)]; simp [go_sem, World.cell?_alloc_past]); have u2' : w2.cell? ⟨w.heap.size + 1, 0, none⟩ = some (.int .i64 c) := (by rw [hcK _ _ (by simp <;> omega)]; simp [go_sem, World.cell?_alloc_past]); have u3 : w2.cell? ⟨w.heap.size + 1, 1, none⟩ = some (.int .i64 d) := (by rw [hcK _ _ (by simp <;> omega)]; simp [go_sem, World.cell?_alloc_past]); have M2 := below_call MA.out B2; clear hcK hfK)
      go_ret
      exact ⟨ret_int HR.out.symm, M2⟩
  · have HR := Bx.mk (ckR_P (a := a) (b := b) (c := c) (d := d) h0)
    have hE : (ckP n p != 0) = true := by simpa using h0
    clear h0
    go_enter Try.func76, Try.ntmps76
    go_wp2_with (go_at_call 66; (with_reducible refine (checkPolyR_any A n cc p _ A0.out (by omega)).mono ?_); rintro e w1 ⟨rfl, rfl⟩)
    go_ret
    exact ⟨ret_int HR.out.symm, MA.out⟩

set_option maxRecDepth 100000 in
set_option maxHeartbeats 8000000 in
theorem counts_bad (HAW : Awake) (A : Option Addr) (n cc : Nat) (p : Row) (a b c d E : Int) (w : World) (HA : Bx (IS w A n p)) (HAS : Bx (SV A n cc)) (hnn : n ≤ 5 ∨ (7 < n ∧ n ≤ 10)) (ha : I64 a) (hb : I64 b) (hc : I64 c) (hd : I64 d)
    (HE : Bx (ckR n p a b c d = E)) (SP : Bx (rootsInN n p a b c d = (0, E))) (h1 : (E != 0) = true) :
    Calls Try.prog 14 #[.slice A n cc, .agg #[.int .i64 a, .int .i64 b], .agg #[.int .i64 c, .int .i64 d]] w fun e w' => e = .returned (.bool true) ∧ Below w.heap.size w w' := by
  have hl : lowB n = true := by unfold lowB; rcases hnn with h | h <;> simp <;> omega
  have HLW := Bx.mk hl
  clear hl
  have MA := Bx.mk (show Below w.heap.size w ((w.alloc (.cells #[.int .i64 a, .int .i64 b] 23)).alloc (.cells #[.int .i64 c, .int .i64 d] 23)) from ((Below.refl _ _).alloc (Nat.le_refl _) _).alloc (by simp) _)
  go_enter Try.func14, Try.ntmps14
  go_wp2_with (go_at_call 20; refine (HAW _).mono ?_; rintro e w0 ⟨rfl, B0⟩; have M0 := Bx.mk (below_call0 (below_alloc1 w (.cells #[.int .i64 a, .int .i64 b] 23)) ((below_alloc1 _ _).trans (B0.mono (by simp)))); have A0 := Bx.mk ((HA.out.below (Nat.le_refl _) MA.out).below (Nat.le_refl _) B0); have X0 := Bx.mk (((HF.new w 23 a b).alloc (.cells #[.int .i64 c, .int .i64 d] 23)).below B0); have Y0 := Bx.mk (((HF.new (w.alloc (.cells #[.int .i64 a, .int .i64 b] 23)) 23 c d).below B0).at (show (w.alloc (.cells #[.int .i64 a, .int .i64 b] 23)).heap.size = w.heap.size + 1 by simp)); obtain ⟨zx0, px0, qx0⟩ := X0.out; obtain ⟨zy0, py0, qy0⟩ := Y0.out; clear B0)
  go_wp2_with (go_at_call 74; (with_reducible refine (low_any A n cc _ (by omega)).mono ?_); rw [HLW.out]; rintro e wl ⟨rfl, rfl⟩)
  go_region_held3 (fun w' => w'.cell? ⟨w.heap.size, 0, none⟩ = some (.int .i64 a) ∧ w'.cell? ⟨w.heap.size, 1, none⟩ = some (.int .i64 b) ∧ w'.cell? ⟨w.heap.size + 1, 0, none⟩ = some (.int .i64 c) ∧ w'.cell? ⟨w.heap.size + 1, 1, none⟩ = some (.int .i64 d))
    (first | (exact ⟨px0, qx0, py0, qy0⟩) | (exact ⟨px1, qx1, py1, qy1⟩) | (exact ⟨px2, qx2, py2, qy2⟩))
    (first
      | (go_at_call 65; refine (copyInts_any A n cc p _ (by first | exact A0.out | exact A0.out.below (Nat.le_refl _) (Below.refl _ _).drew) HAS.out (by omega)).mono ?_; rintro e w1 ⟨gC, cC, rfl, _, _, _, I1, B1⟩; replace B1 : Below w0.heap.size w0 w1 := (by first | exact B1 | exact (Below.refl _ _).drew.trans B1 | exact (below_drewN (Below.refl _ _) _).trans B1); have M1 := below_call0 M0.out B1; have A1 := Bx.mk (A0.out.below (Nat.le_refl _) B1); have X1 := Bx.mk (X0.out.below B1); have Y1 := Bx.mk (Y0.out.below B1); clear px0 qx0 py0 qy0; obtain ⟨zx1, px1, qx1⟩ := X1.out; obtain ⟨zy1, py1, qy1⟩ := Y1.out; have C1 := Bx.mk I1; clear I1)
      | (go_at_call 75; refine (rootsIn_any _ n cC p a b c d _ (by first | exact C1.out | exact C1.out.below (Nat.le_refl _) (Below.refl _ _).drew) (by omega) ha hb hc hd).mono ?_; rw [SP.out]; rintro e w2 ⟨rfl, B2⟩; replace B2 : Below w1.heap.size w1 w2 := (by first | exact B2 | exact (Below.refl _ _).drew.trans B2 | exact (below_drewN (Below.refl _ _) _).trans B2); have M2 := below_call0 M1 B2; have A2 := Bx.mk (A1.out.below (Nat.le_refl _) B2); have X2 := Bx.mk (X1.out.below B2); have Y2 := Bx.mk (Y1.out.below B2); clear px1 qx1 py1 qy1; obtain ⟨zx2, px2, qx2⟩ := X2.out; obtain ⟨zy2, py2, qy2⟩ := Y2.out))
  go_wp2_with (go_at_call 76; (with_reducible refine (bounds_any A n cc p a b c d _ (by first | exact A2.out | exact A2.out.below (Nat.le_refl _) (below_drewN (Below.refl _ _) _)) (by omega) ha hb hc hd).mono ?_); rw [HE.out]; rintro e w3 ⟨rfl, B3⟩; replace B3 : Below w2.heap.size w2 w3 := (by first | exact B3 | exact (Below.refl _ _).drew.trans B3 | exact (below_drewN (Below.refl _ _) _).trans B3); have M3 := below_call0 M2 B3; have A3 := Bx.mk (A2.out.below (Nat.le_refl _) B3); have X3 := Bx.mk (X2.out.below B3); have Y3 := Bx.mk (Y2.out.below B3); obtain ⟨zx3, px3, qx3⟩ := X3.out; obtain ⟨zy3, py3, qy3⟩ := Y3.out)
  go_ret
  exact ⟨rfl, M3⟩

set_option maxRecDepth 100000 in
set_option maxHeartbeats 8000000 in
theorem counts_ok (HAW : Awake) (A : Option Addr) (n cc : Nat) (p : Row) (a b c d r : Int) (w : World) (HA : Bx (IS w A n p)) (HAS : Bx (SV A n cc)) (hnn : n ≤ 5 ∨ (7 < n ∧ n ≤ 10)) (ha : I64 a) (hb : I64 b) (hc : I64 c) (hd : I64 d)
    (HE : Bx (ckR n p a b c d = 0)) (SP : Bx (rootsInN n p a b c d = (r, 0))) (SR : Bx (rootsL (sturmR n p) a b c d = r)) (HZ : Bx (ckP n p = 0)) (HY : Bx (ckFs [(a, b), (c, d)] = 0)) :
    Calls Try.prog 14 #[.slice A n cc, .agg #[.int .i64 a, .int .i64 b], .agg #[.int .i64 c, .int .i64 d]] w fun e w' => e = .returned (.bool true) ∧ Below w.heap.size w w' := by
  have hl : lowB n = true := by unfold lowB; rcases hnn with h | h <;> simp <;> omega
  have HLW := Bx.mk hl
  clear hl
  have MA := Bx.mk (show Below w.heap.size w ((w.alloc (.cells #[.int .i64 a, .int .i64 b] 23)).alloc (.cells #[.int .i64 c, .int .i64 d] 23)) from ((Below.refl _ _).alloc (Nat.le_refl _) _).alloc (by simp) _)
  go_enter Try.func14, Try.ntmps14
  go_wp2_with (go_at_call 20; refine (HAW _).mono ?_; rintro e w0 ⟨rfl, B0⟩; have M0 := Bx.mk (below_call0 (below_alloc1 w (.cells #[.int .i64 a, .int .i64 b] 23)) ((below_alloc1 _ _).trans (B0.mono (by simp)))); have A0 := Bx.mk ((HA.out.below (Nat.le_refl _) MA.out).below (Nat.le_refl _) B0); have X0 := Bx.mk (((HF.new w 23 a b).alloc (.cells #[.int .i64 c, .int .i64 d] 23)).below B0); have Y0 := Bx.mk (((HF.new (w.alloc (.cells #[.int .i64 a, .int .i64 b] 23)) 23 c d).below B0).at (show (w.alloc (.cells #[.int .i64 a, .int .i64 b] 23)).heap.size = w.heap.size + 1 by simp)); obtain ⟨zx0, px0, qx0⟩ := X0.out; obtain ⟨zy0, py0, qy0⟩ := Y0.out; clear B0)
  go_wp2_with (go_at_call 74; (with_reducible refine (low_any A n cc _ (by omega)).mono ?_); rw [HLW.out]; rintro e wl ⟨rfl, rfl⟩)
  go_region_held3 (fun w' => w'.cell? ⟨w.heap.size, 0, none⟩ = some (.int .i64 a) ∧ w'.cell? ⟨w.heap.size, 1, none⟩ = some (.int .i64 b) ∧ w'.cell? ⟨w.heap.size + 1, 0, none⟩ = some (.int .i64 c) ∧ w'.cell? ⟨w.heap.size + 1, 1, none⟩ = some (.int .i64 d))
    (first | (exact ⟨px0, qx0, py0, qy0⟩) | (exact ⟨px1, qx1, py1, qy1⟩) | (exact ⟨px2, qx2, py2, qy2⟩))
    (first
      | (go_at_call 65; refine (copyInts_any A n cc p _ (by first | exact A0.out | exact A0.out.below (Nat.le_refl _) (Below.refl _ _).drew) HAS.out (by omega)).mono ?_; rintro e w1 ⟨gC, cC, rfl, _, _, _, I1, B1⟩; replace B1 : Below w0.heap.size w0 w1 := (by first | exact B1 | exact (Below.refl _ _).drew.trans B1 | exact (below_drewN (Below.refl _ _) _).trans B1); have M1 := below_call0 M0.out B1; have A1 := Bx.mk (A0.out.below (Nat.le_refl _) B1); have X1 := Bx.mk (X0.out.below B1); have Y1 := Bx.mk (Y0.out.below B1); clear px0 qx0 py0 qy0; obtain ⟨zx1, px1, qx1⟩ := X1.out; obtain ⟨zy1, py1, qy1⟩ := Y1.out; have C1 := Bx.mk I1; clear I1)
      | (go_at_call 75; refine (rootsIn_any _ n cC p a b c d _ (by first | exact C1.out | exact C1.out.below (Nat.le_refl _) (Below.refl _ _).drew) (by omega) ha hb hc hd).mono ?_; rw [SP.out]; rintro e w2 ⟨rfl, B2⟩; replace B2 : Below w1.heap.size w1 w2 := (by first | exact B2 | exact (Below.refl _ _).drew.trans B2 | exact (below_drewN (Below.refl _ _) _).trans B2); have M2 := below_call0 M1 B2; have A2 := Bx.mk (A1.out.below (Nat.le_refl _) B2); have X2 := Bx.mk (X1.out.below B2); have Y2 := Bx.mk (Y1.out.below B2); clear px1 qx1 py1 qy1; obtain ⟨zx2, px2, qx2⟩ := X2.out; obtain ⟨zy2, py2, qy2⟩ := Y2.out))
  go_wp2_with (go_at_call 76; (with_reducible refine (bounds_any A n cc p a b c d _ (by first | exact A2.out | exact A2.out.below (Nat.le_refl _) (below_drewN (Below.refl _ _) _)) (by omega) ha hb hc hd).mono ?_); rw [HE.out]; rintro e w3 ⟨rfl, B3⟩; replace B3 : Below w2.heap.size w2 w3 := (by first | exact B3 | exact (Below.refl _ _).drew.trans B3 | exact (below_drewN (Below.refl _ _) _).trans B3); have M3 := below_call0 M2 B3; have A3 := Bx.mk (A2.out.below (Nat.le_refl _) B3); have X3 := Bx.mk (X2.out.below B3); have Y3 := Bx.mk (Y2.out.below B3); obtain ⟨zx3, px3, qx3⟩ := X3.out; obtain ⟨zy3, py3, qy3⟩ := Y3.out)
  go_wp2_with (go_at_call 77; (with_reducible refine (rootsInR_any A n cc p a b c d _ A3.out HZ.out HY.out).mono ?_); rw [SR.out]; rintro e w4 ⟨rfl, B4⟩; have M4 := below_call0 M3 B4)
  go_ret
  exact ⟨rfl, M4⟩

set_option maxRecDepth 100000 in
set_option maxHeartbeats 4000000 in
theorem counts_no (HAW : Awake) (A : Option Addr) (n cc : Nat) (a b c d : Int) (w : World) (hn : n ≤ 9223372036854775807) (hnn : ¬ (n ≤ 5 ∨ (7 < n ∧ n ≤ 10))) :
    Calls Try.prog 14 #[.slice A n cc, .agg #[.int .i64 a, .int .i64 b], .agg #[.int .i64 c, .int .i64 d]] w fun e w' => e = .returned (.bool true) ∧ Below w.heap.size w w' := by
  have hl : lowB n = false := by unfold lowB; simp; omega
  have HLW := Bx.mk hl
  clear hl
  go_enter Try.func14, Try.ntmps14
  go_wp2_with (go_at_call 20; refine (HAW _).mono ?_; rintro e w0 ⟨rfl, B0⟩; have M0 := Bx.mk (below_call0 (below_alloc1 w (.cells #[.int .i64 a, .int .i64 b] 23)) ((below_alloc1 _ _).trans (B0.mono (by simp)))); clear B0)
  go_wp2_with (go_at_call 74; (with_reducible refine (low_any A n cc _ (by omega)).mono ?_); rw [HLW.out]; rintro e wl ⟨rfl, rfl⟩)
  go_ret
  exact ⟨rfl, M0.out⟩

theorem numberCounts_any (HAW : Awake) (A : Option Addr) (n cc : Nat) (p : Row) (a b c d : Int) (w : World) (hA : IS w A n p) (sA : SV A n cc) (ln : n ≤ 9223372036854775807) (ha : I64 a) (hb : I64 b) (hc : I64 c) (hd : I64 d) :
    Calls Try.prog 14 #[.slice A n cc, .agg #[.int .i64 a, .int .i64 b], .agg #[.int .i64 c, .int .i64 d]] w fun e w' => e = .returned (.bool true) ∧ Below w.heap.size w w' := by
  by_cases h : n ≤ 5 ∨ (7 < n ∧ n ≤ 10)
  · by_cases z : ckR n p a b c d = 0
    · obtain ⟨z1, z2, _⟩ := ckR_zero z
      have z4 : ckFs [(a, b), (c, d)] = 0 := by
        by_cases x : ckFs [(a, b), (c, d)] = 0
        · exact x
        · have e : cmpN a b c d = (0, ckFs [(a, b), (c, d)]) := by unfold cmpN; rw [if_pos x]
          rw [e] at z2; exact z2
      exact counts_ok HAW A n cc p a b c d _ w ⟨hA⟩ ⟨sA⟩ h ha hb hc hd ⟨z⟩ ⟨by unfold rootsInN; rw [if_neg (by simpa using z)]⟩ ⟨rfl⟩ ⟨z1⟩ ⟨z4⟩
    · exact counts_bad HAW A n cc p a b c d _ w ⟨hA⟩ ⟨sA⟩ h ha hb hc hd ⟨rfl⟩ ⟨by unfold rootsInN; rw [if_pos z]⟩ (by simpa using z)
  · exact counts_no HAW A n cc a b c d w ln h

end Go.Proofs.Ytfnmnnbmhfbkbaa
