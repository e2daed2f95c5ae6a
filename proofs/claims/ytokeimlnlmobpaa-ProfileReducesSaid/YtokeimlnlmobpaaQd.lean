/- Walks: a knife reading reduced, the program's: the last case. -/
import Derived.Test.YtokeimlnlmobpaaQc
import Derived.Deep.DeepCutAuto
set_option linter.unusedVariables false
set_option linter.unusedSimpArgs false
namespace Go.Proofs.Ytokeimlnlmobpaa
open Go.RowKit

/-- A pair of ints lies in block b. -/
def HF (w : World) (b : Nat) (x y : Int) : Prop := b < w.heap.size ∧ w.cell? ⟨b, 0, none⟩ = some (.int .i64 x) ∧ w.cell? ⟨b, 1, none⟩ = some (.int .i64 y)
theorem HF.below {w w' : World} {b : Nat} {x y : Int} (h : HF w b x y) (B : Below w.heap.size w w') : HF w' b x y :=
  ⟨Nat.lt_of_lt_of_le h.1 B.size, (B.cell (p := ⟨b, 0, none⟩) h.1).trans h.2.1, (B.cell (p := ⟨b, 1, none⟩) h.1).trans h.2.2⟩
theorem HF.alloc {w : World} {b : Nat} {x y : Int} (h : HF w b x y) (o : Obj) : HF (w.alloc o) b x y := h.below (below_alloc1 w o)
theorem HF.drewN {w : World} {b : Nat} {x y : Int} (h : HF w b x y) (k : Nat) : HF (w.drewN k) b x y := h
theorem HF.new (w : World) (t : TypeId) (x y : Int) : HF (w.alloc (.cells #[.int .i64 x, .int .i64 y] t)) w.heap.size x y :=
  ⟨by simp, by simp [go_sem], by simp [go_sem]⟩
theorem HF.at {w : World} {b b' : Nat} {x y : Int} (h : HF w b x y) (e : b = b') : HF w b' x y := e ▸ h
theorem below_from {w0 W w1 : World} (h : Below w0.heap.size w0 W) (k : Below W.heap.size W w1) : Below w0.heap.size w0 w1 := h.trans (k.mono h.size)
theorem mul_bd6 {x y : Int} (hx : -1000000 ≤ x) (hx' : x ≤ 1000000) (hy : -1000000 ≤ y) (hy' : y ≤ 1000000) : -1000000000000 ≤ x * y ∧ x * y ≤ 1000000000000 := by
  have h : (x * y).natAbs ≤ 1000000 * 1000000 := by
    rw [Int.natAbs_mul]
    exact Nat.mul_le_mul (by omega) (by omega)
  omega
theorem wtB_out {n : Int} (h : wtB n (-1000000) 1000000 = true) : -1000000 ≤ n ∧ n ≤ 1000000 := by
  unfold wtB at h
  simpa using h
/-- Three ints lie in block b. -/
def K3 (w : World) (b : Nat) (x y z : Int) : Prop := b < w.heap.size ∧ w.cell? ⟨b, 0, none⟩ = some (.int .i64 x) ∧ w.cell? ⟨b, 1, none⟩ = some (.int .i64 y) ∧ w.cell? ⟨b, 2, none⟩ = some (.int .i64 z)
theorem K3.alloc {w : World} {b : Nat} {x y z : Int} (h : K3 w b x y z) (o : Obj) : K3 (w.alloc o) b x y z := by
  obtain ⟨h0, h1, h2, h3⟩ := h
  exact ⟨by simp; omega, by rw [World.cell?_alloc_lt _ _ _ h0]; exact h1, by rw [World.cell?_alloc_lt _ _ _ h0]; exact h2, by rw [World.cell?_alloc_lt _ _ _ h0]; exact h3⟩
theorem K3.other {w : World} {b g : Nat} {x y z : Int} (h : K3 w b x y z) (hg : g ≠ b) (u v : Value) : K3 ((w.setCell ⟨g, 0, none⟩ u).setCell ⟨g, 1, none⟩ v) b x y z := by
  obtain ⟨l, h0, h1, h2⟩ := h
  refine ⟨by simpa [World.setCell] using l, ?_, ?_, ?_⟩ <;> (rw [World.cell?_setCell_other _ _ _ _ (by simp <;> omega), World.cell?_setCell_other _ _ _ _ (by simp <;> omega)]; assumption)
theorem K3.below {w w' : World} {b : Nat} {x y z : Int} (h : K3 w b x y z) (B : Below w.heap.size w w') : K3 w' b x y z :=
  ⟨Nat.lt_of_lt_of_le h.1 B.size, (B.cell (p := ⟨b, 0, none⟩) h.1).trans h.2.1, (B.cell (p := ⟨b, 1, none⟩) h.1).trans h.2.2.1, (B.cell (p := ⟨b, 2, none⟩) h.1).trans h.2.2.2⟩
/-- Four zeros lie in block b, not frozen. -/
def Z4 (w : World) (b : Nat) : Prop := b < w.heap.size ∧ (w.cell? ⟨b, 0, none⟩ = some (.int .i64 0) ∧ w.cell? ⟨b, 1, none⟩ = some (.int .i64 0) ∧ w.cell? ⟨b, 2, none⟩ = some (.int .i64 0) ∧ w.cell? ⟨b, 3, none⟩ = some (.int .i64 0)) ∧
  w.frozen? ⟨b, 0, none⟩ = false ∧ w.frozen? ⟨b, 1, none⟩ = false ∧ w.frozen? ⟨b, 2, none⟩ = false ∧ w.frozen? ⟨b, 3, none⟩ = false
theorem Z4.below {w w' : World} {b : Nat} (h : Z4 w b) (B : Below w.heap.size w w') : Z4 w' b := by
  obtain ⟨h0, ⟨h1, h2, h3, h4⟩, g1, g2, g3, g4⟩ := h
  exact ⟨Nat.lt_of_lt_of_le h0 B.size, ⟨(B.cell (p := ⟨b, 0, none⟩) h0).trans h1, (B.cell (p := ⟨b, 1, none⟩) h0).trans h2, (B.cell (p := ⟨b, 2, none⟩) h0).trans h3, (B.cell (p := ⟨b, 3, none⟩) h0).trans h4⟩,
    (B.frozen (p := ⟨b, 0, none⟩) h0).trans g1, (B.frozen (p := ⟨b, 1, none⟩) h0).trans g2, (B.frozen (p := ⟨b, 2, none⟩) h0).trans g3, (B.frozen (p := ⟨b, 3, none⟩) h0).trans g4⟩
/-- Four stores side by side. -/
theorem set4 {w : World} {b : Nat} {x0 x1 x2 x3 : Value} (u0 u1 u2 u3 : Value) (h0 : w.cell? ⟨b, 0, none⟩ = some x0) (h1 : w.cell? ⟨b, 1, none⟩ = some x1) (h2 : w.cell? ⟨b, 2, none⟩ = some x2) (h3 : w.cell? ⟨b, 3, none⟩ = some x3) :
    let w' := (((w.setCell ⟨b, 0, none⟩ u0).setCell ⟨b, 1, none⟩ u1).setCell ⟨b, 2, none⟩ u2).setCell ⟨b, 3, none⟩ u3
    w'.cell? ⟨b, 0, none⟩ = some u0 ∧ w'.cell? ⟨b, 1, none⟩ = some u1 ∧ w'.cell? ⟨b, 2, none⟩ = some u2 ∧ w'.cell? ⟨b, 3, none⟩ = some u3 := by
  have o : ∀ (w : World) (i j : Nat) (u : Value), i ≠ j → (w.setCell ⟨b, j, none⟩ u).cell? ⟨b, i, none⟩ = w.cell? ⟨b, i, none⟩ := fun w i j u h => by
    rw [World.cell?_setCell_other _ _ _ _ (by simp [h])]
  have s : ∀ (w : World) (i : Nat) (u x : Value), w.cell? ⟨b, i, none⟩ = some x → (w.setCell ⟨b, i, none⟩ u).cell? ⟨b, i, none⟩ = some u := fun w i u x h => World.cell?_setCell_same' _ _ _ (by rw [h]; rfl)
  refine ⟨?_, ?_, ?_, ?_⟩
  · rw [o _ 0 3 _ (by omega), o _ 0 2 _ (by omega), o _ 0 1 _ (by omega)]; exact s _ 0 _ _ h0
  · rw [o _ 1 3 _ (by omega), o _ 1 2 _ (by omega)]; exact s _ 1 _ x1 (by rw [o _ 1 0 _ (by omega)]; exact h1)
  · rw [o _ 2 3 _ (by omega)]; exact s _ 2 _ x2 (by rw [o _ 2 1 _ (by omega), o _ 2 0 _ (by omega)]; exact h2)
  · exact s _ 3 _ x3 (by rw [o _ 3 2 _ (by omega), o _ 3 1 _ (by omega), o _ 3 0 _ (by omega)]; exact h3)

set_option maxRecDepth 100000 in
set_option maxHeartbeats 4000000 in
theorem redP_main (A : Option Addr) (n c : Nat) (p : Row) (k : Nat) (lo hi D L H : Int) (w : World) (hA : IS w A n p) (hn : n ≤ 1000000) (hlo : I64 lo) (hhi : I64 hi) (HE : Bx (ckZ n p = 0)) (hk : k + 2 ≤ n)
    (HR : Bx ((wtB lo (-1000000) 1000000 && wtB hi (-1000000) 1000000) = true)) (hord : ¬ hi < lo) (HD : Bx (p (k + 1) - inR p k = D)) (hD1 : -1000000 ≤ D) (hD2 : D ≤ 1000000)
    (HL : Bx (lo * D / 2000 = L)) (HH : Bx (-(-(hi * D) / 2000) = H)) (HO : Bx ((wtB L (-1000000) 1000000 && wtB H (-1000000) 1000000) = true)) :
    Calls Try.prog 22 #[.slice A n c, .agg #[.int .i64 k, .int .i64 lo, .int .i64 hi]] w fun e w' => e = .returned (.tuple #[.agg #[.int .i64 k, .int .i64 (k + 1), .int .i64 L, .int .i64 H], .int .i64 0]) ∧ Below w.heap.size w w' := by
  obtain ⟨b, off, rfl, hb, hc⟩ := hA.2 (by omega)
  have HA := Bx.mk hA
  have HC := Bx.mk hc
  clear hA hc
  obtain ⟨X, hX⟩ : ∃ X, p (k + 1) = X := ⟨_, rfl⟩
  obtain ⟨Y, hY⟩ : ∃ Y, inR p k = Y := ⟨_, rfl⟩
  have HX := Bx.mk hX
  have HY := Bx.mk hY
  have HXY := Bx.mk (show X - Y = D by rw [← hX, ← hY]; exact HD.out)
  clear hX hY
  obtain ⟨l1, l2⟩ := wtB_out (n := lo) (by have := HR.out; simp only [Bool.and_eq_true] at this; exact this.1)
  obtain ⟨l3, l4⟩ := wtB_out (n := hi) (by have := HR.out; simp only [Bool.and_eq_true] at this; exact this.2)
  obtain ⟨l5, l6⟩ := mul_bd6 l1 l2 hD1 hD2
  obtain ⟨l7, l8⟩ := mul_bd6 l3 l4 hD1 hD2
  have m1 : -1000000000 ≤ L := by rw [← HL.out]; omega
  have m2 : L ≤ 1000000000 := by rw [← HL.out]; omega
  have m3 : -1000000000 ≤ H := by rw [← HH.out]; omega
  have m4 : H ≤ 1000000000 := by rw [← HH.out]; omega
  have HZ := Bx.mk (show wtB (k : Int) 0 ((n : Int) - 2) = true from wtB_yes (by omega) (by omega))
  have hw : IntKind.i64.wrap ((n : Int) - 2) = (n : Int) - 2 := IntWalk.i64_in _ (by omega)
  have hdo : decide (hi < lo) = false := by simpa using hord
  go_enter Try.func22, Try.ntmps22
  go_wp2_with (go_at_call 25; refine (checkZonesP_any _ n c p _ (HA.out.below (Nat.le_refl _) (((Below.refl _ _).alloc (Nat.le_refl _) _).alloc (by simp) _)) hn).mono ?_; rw [HE.out]; rintro e wx ⟨rfl, rfl⟩)
  go_wp2_with (go_at_call 89; refine (isWithin_any (k : Int) 0 ((n : Int) - 2) _).mono ?_; rw [HZ.out]; rintro e wx ⟨rfl, rfl⟩)
  go_upto_region 8 with (go_at_call 90; refine (areSmall2_any _ lo hi _ (by simp) (by simp [go_sem, World.cell?_alloc_past]) (by simp [go_sem, World.cell?_alloc_past]) hlo hhi).mono ?_; rw [HR.out]; rintro e wx ⟨rfl, rfl⟩)
  go_cut [39] (fun s wx => s = .bool false ∧ Bx (K3 wx w.heap.size k lo hi) ∧ Bx (Z4 wx (w.heap.size + 1)) ∧ Bx (Below w.heap.size w wx))
  case first =>
    go_wp2_with fail
    go_meet
    exact ⟨rfl, ⟨by simp [K3]; simp [go_sem, World.cell?_alloc_past]⟩, ⟨by simp [Z4]; simp [go_sem, World.cell?_alloc_past, World.frozen?_alloc_past]⟩, ⟨by repeat (first | exact Below.refl _ _ | refine Below.alloc ?_ (by first | exact Nat.le_refl _ | (simp; done) | (simp; omega)) _)⟩⟩
  case rest =>
    obtain ⟨rfl, K1, Z1, M1⟩ := hcut
    obtain ⟨wy, hwy⟩ : ∃ x : World, x = wc := ⟨_, rfl⟩
    subst hwy
    have A1 := Bx.mk (HA.out.below (Nat.le_refl _) M1.out)
    have hcx : wy.cell? ⟨b, off + (k + 1), none⟩ = some (.int .i64 X) := by
      rw [← HX.out]
      exact (M1.out.cell (p := ⟨b, off + (k + 1), none⟩) hb).trans (HC.out (k + 1) (by omega))
    obtain ⟨g0, k0, k1, k2⟩ := K1.out
    have hidx : ((k : Int) + 1).toNat = k + 1 := by omega
    have hw1 : IntKind.i64.wrap ((k : Int) + 1) = (k : Int) + 1 := IntWalk.i64_in _ (by omega)
    have hi0 : (0 : Int) ≤ (k : Int) + 1 := by omega
    have hi1 : (k : Int) + 1 < n := by omega
    have hi2 : k + 1 < n := by omega
    have hi3 : (0 : Int) ≤ (k : Int) + 1 ∧ (k : Int) + 1 < n := ⟨hi0, hi1⟩
    have hXY := HXY.out
    have hw2 : IntKind.i64.wrap (X - Y) = D := by rw [hXY]; exact IntWalk.i64_in _ (by omega)
    clear hdo
    go_upto_region 10 with (fail)
    go_cut [7] (fun s wx => s = .int .i64 D ∧ Bx (K3 wx w.heap.size k lo hi) ∧ Bx (Z4 wx (w.heap.size + 1)) ∧ Bx (Below w.heap.size w wx))
    case first =>
      have HIN : ∀ j, Calls Try.prog 91 #[.slice (some ⟨b, off, none⟩) n c, .int .i64 k] (wy.drewN j) fun e w'' => e = .returned (.int .i64 Y) ∧ ∃ m, w'' = wy.drewN m := fun j =>
        Calls.quiet_of_same ((inner_any _ n c p k _ (A1.out.below (Nat.le_refl _) (below_drewN (Below.refl _ _) _)) hn (by omega)).mono fun _ _ hh => ⟨by rw [hh.1, HY.out], hh.2.symm⟩)
      go_quiet (first | (go_at_call 91; exact HIN _))
      go_wp2_with fail
      go_meet
      exact ⟨rfl, ⟨K1.out⟩, ⟨Z1.out⟩, ⟨below_drewN M1.out _⟩⟩
    case rest =>
      obtain ⟨rfl, K2, Z2, M2⟩ := hcut
      obtain ⟨wz, hwz⟩ : ∃ x : World, x = wc := ⟨_, rfl⟩
      subst hwz
      clear g0 k0 k1 k2 hcx hXY hw2 A1 K1 Z1 M1
      obtain ⟨g0, k0, k1, k2⟩ := K2.out
      have hw3 : IntKind.i64.wrap (lo * D) = lo * D := IntWalk.i64_in _ (by omega)
      have hw4 : IntKind.i64.wrap (hi * D) = hi * D := IntWalk.i64_in _ (by omega)
      go_upto_region 11 with (fail)
      go_cut [8] (fun s wx => ∃ B2 : Nat, s = .pointer (some ⟨B2, 0, none⟩) ∧ wz.heap.size ≤ B2 ∧ Bx (HF wx B2 L H) ∧ Bx (Below wz.heap.size wz wx))
      case first =>
        go_region_held3 (fun w' => w'.cell? ⟨w.heap.size, 1, none⟩ = some (.int .i64 lo) ∧ w'.cell? ⟨w.heap.size, 2, none⟩ = some (.int .i64 hi))
          (first | (exact K2.out.2.2) | (exact (K2.out.alloc _).2.2) | (exact ((K2.out.alloc _).other (by omega) _ _).2.2) | (exact (K2.out.other (by omega) _ _).2.2))
          (first
            | (go_at_call 92; refine (downP_any (lo * D) 2000 _ (by omega) (by omega) (by omega) (by omega)).mono ?_; rw [HL.out]; rintro e w2 ⟨rfl, rfl⟩)
            | (go_at_call 93; refine (upP_any (hi * D) 2000 _ (by omega) (by omega) (by omega) (by omega)).mono ?_; rw [HH.out]; rintro e w2 ⟨rfl, rfl⟩))
        all_goals
          go_wp2_with fail
          go_meet
          exact ⟨_, rfl, Nat.le_refl _, ⟨HF.new wz 24 L H⟩, ⟨(below_alloc1 _ _).drew⟩⟩
      case rest =>
        obtain ⟨B2, rfl, hB2, F3, M3⟩ := hcut
        have K3 := Bx.mk (K2.out.below M3.out)
        have Z3 := Bx.mk (Z2.out.below M3.out)
        have M4 := Bx.mk (below_from M2.out M3.out)
        obtain ⟨wv, hwv⟩ : ∃ x : World, x = wc := ⟨_, rfl⟩
        subst hwv
        clear g0 k0 k1 k2 K2 Z2 M2 M3
        obtain ⟨g0, k0, k1, k2⟩ := K3.out
        obtain ⟨f0, f1, f2⟩ := F3.out
        obtain ⟨z0, ⟨z1, z2, z3, z4⟩, y1, y2, y3, y4⟩ := Z3.out
        go_wp2_with (go_at_call 90; refine (areSmall2_any _ L H _ (by simp) (by simp [go_sem, World.cell?_alloc_past]) (by simp [go_sem, World.cell?_alloc_past]) ⟨by omega, by omega⟩ ⟨by omega, by omega⟩).mono ?_; rw [HO.out]; rintro e wx ⟨rfl, rfl⟩)
        obtain ⟨j0, j1, j2, j3⟩ := set4 (w := wv) (b := w.heap.size + 1) (.int .i64 k) (.int .i64 (k + 1)) (.int .i64 L) (.int .i64 H) z1 z2 z3 z4
        have hlt : w.heap.size + 1 < ((((wv.setCell ⟨w.heap.size + 1, 0, none⟩ (.int .i64 k)).setCell ⟨w.heap.size + 1, 1, none⟩ (.int .i64 (k + 1))).setCell ⟨w.heap.size + 1, 2, none⟩ (.int .i64 L)).setCell ⟨w.heap.size + 1, 3, none⟩ (.int .i64 H)).heap.size := by simpa [World.setCell] using z0
        have hB : w.heap.size ≤ w.heap.size + 1 := Nat.le_succ _
        have M5 := (((M4.out.setCell (p := ⟨w.heap.size + 1, 0, none⟩) hB (.int .i64 k)).setCell (p := ⟨w.heap.size + 1, 1, none⟩) hB (.int .i64 (k + 1))).setCell (p := ⟨w.heap.size + 1, 2, none⟩) hB (.int .i64 L)).setCell (p := ⟨w.heap.size + 1, 3, none⟩) hB (.int .i64 H)
        exact bodyPost_ret (ret_read rfl _ _ _ _ _ _ _ _ rfl rfl ((World.cell?_alloc_lt _ _ _ hlt).trans j0) ((World.cell?_alloc_lt _ _ _ hlt).trans j1) ((World.cell?_alloc_lt _ _ _ hlt).trans j2) ((World.cell?_alloc_lt _ _ _ hlt).trans j3)) rfl ⟨rfl, M5.alloc (by omega) _⟩

set_option maxRecDepth 100000 in
set_option maxHeartbeats 4000000 in
theorem redP_large (A : Option Addr) (n c : Nat) (p : Row) (k : Nat) (lo hi D L H : Int) (w : World) (hA : IS w A n p) (hn : n ≤ 1000000) (hlo : I64 lo) (hhi : I64 hi) (HE : Bx (ckZ n p = 0)) (hk : k + 2 ≤ n)
    (HR : Bx ((wtB lo (-1000000) 1000000 && wtB hi (-1000000) 1000000) = true)) (hord : ¬ hi < lo) (HD : Bx (p (k + 1) - inR p k = D)) (hD1 : -1000000 ≤ D) (hD2 : D ≤ 1000000)
    (HL : Bx (lo * D / 2000 = L)) (HH : Bx (-(-(hi * D) / 2000) = H)) (HO : Bx ((wtB L (-1000000) 1000000 && wtB H (-1000000) 1000000) = false)) :
    Calls Try.prog 22 #[.slice A n c, .agg #[.int .i64 k, .int .i64 lo, .int .i64 hi]] w fun e w' => e = .returned (.tuple #[.agg #[.int .i64 0, .int .i64 0, .int .i64 0, .int .i64 0], .int .i64 8]) ∧ Below w.heap.size w w' := by
  obtain ⟨b, off, rfl, hb, hc⟩ := hA.2 (by omega)
  have HA := Bx.mk hA
  have HC := Bx.mk hc
  clear hA hc
  obtain ⟨X, hX⟩ : ∃ X, p (k + 1) = X := ⟨_, rfl⟩
  obtain ⟨Y, hY⟩ : ∃ Y, inR p k = Y := ⟨_, rfl⟩
  have HX := Bx.mk hX
  have HY := Bx.mk hY
  have HXY := Bx.mk (show X - Y = D by rw [← hX, ← hY]; exact HD.out)
  clear hX hY
  obtain ⟨l1, l2⟩ := wtB_out (n := lo) (by have := HR.out; simp only [Bool.and_eq_true] at this; exact this.1)
  obtain ⟨l3, l4⟩ := wtB_out (n := hi) (by have := HR.out; simp only [Bool.and_eq_true] at this; exact this.2)
  obtain ⟨l5, l6⟩ := mul_bd6 l1 l2 hD1 hD2
  obtain ⟨l7, l8⟩ := mul_bd6 l3 l4 hD1 hD2
  have m1 : -1000000000 ≤ L := by rw [← HL.out]; omega
  have m2 : L ≤ 1000000000 := by rw [← HL.out]; omega
  have m3 : -1000000000 ≤ H := by rw [← HH.out]; omega
  have m4 : H ≤ 1000000000 := by rw [← HH.out]; omega
  have HZ := Bx.mk (show wtB (k : Int) 0 ((n : Int) - 2) = true from wtB_yes (by omega) (by omega))
  have hw : IntKind.i64.wrap ((n : Int) - 2) = (n : Int) - 2 := IntWalk.i64_in _ (by omega)
  have hdo : decide (hi < lo) = false := by simpa using hord
  go_enter Try.func22, Try.ntmps22
  go_wp2_with (go_at_call 25; refine (checkZonesP_any _ n c p _ (HA.out.below (Nat.le_refl _) (((Below.refl _ _).alloc (Nat.le_refl _) _).alloc (by simp) _)) hn).mono ?_; rw [HE.out]; rintro e wx ⟨rfl, rfl⟩)
  go_wp2_with (go_at_call 89; refine (isWithin_any (k : Int) 0 ((n : Int) - 2) _).mono ?_; rw [HZ.out]; rintro e wx ⟨rfl, rfl⟩)
  go_upto_region 8 with (go_at_call 90; refine (areSmall2_any _ lo hi _ (by simp) (by simp [go_sem, World.cell?_alloc_past]) (by simp [go_sem, World.cell?_alloc_past]) hlo hhi).mono ?_; rw [HR.out]; rintro e wx ⟨rfl, rfl⟩)
  go_cut [39] (fun s wx => s = .bool false ∧ Bx (K3 wx w.heap.size k lo hi) ∧ Bx (Z4 wx (w.heap.size + 1)) ∧ Bx (Below w.heap.size w wx))
  case first =>
    go_wp2_with fail
    go_meet
    exact ⟨rfl, ⟨by simp [K3]; simp [go_sem, World.cell?_alloc_past]⟩, ⟨by simp [Z4]; simp [go_sem, World.cell?_alloc_past, World.frozen?_alloc_past]⟩, ⟨by repeat (first | exact Below.refl _ _ | refine Below.alloc ?_ (by first | exact Nat.le_refl _ | (simp; done) | (simp; omega)) _)⟩⟩
  case rest =>
    obtain ⟨rfl, K1, Z1, M1⟩ := hcut
    obtain ⟨wy, hwy⟩ : ∃ x : World, x = wc := ⟨_, rfl⟩
    subst hwy
    have A1 := Bx.mk (HA.out.below (Nat.le_refl _) M1.out)
    have hcx : wy.cell? ⟨b, off + (k + 1), none⟩ = some (.int .i64 X) := by
      rw [← HX.out]
      exact (M1.out.cell (p := ⟨b, off + (k + 1), none⟩) hb).trans (HC.out (k + 1) (by omega))
    obtain ⟨g0, k0, k1, k2⟩ := K1.out
    have hidx : ((k : Int) + 1).toNat = k + 1 := by omega
    have hw1 : IntKind.i64.wrap ((k : Int) + 1) = (k : Int) + 1 := IntWalk.i64_in _ (by omega)
    have hi0 : (0 : Int) ≤ (k : Int) + 1 := by omega
    have hi1 : (k : Int) + 1 < n := by omega
    have hi2 : k + 1 < n := by omega
    have hi3 : (0 : Int) ≤ (k : Int) + 1 ∧ (k : Int) + 1 < n := ⟨hi0, hi1⟩
    have hXY := HXY.out
    have hw2 : IntKind.i64.wrap (X - Y) = D := by rw [hXY]; exact IntWalk.i64_in _ (by omega)
    clear hdo
    go_upto_region 10 with (fail)
    go_cut [7] (fun s wx => s = .int .i64 D ∧ Bx (K3 wx w.heap.size k lo hi) ∧ Bx (Z4 wx (w.heap.size + 1)) ∧ Bx (Below w.heap.size w wx))
    case first =>
      have HIN : ∀ j, Calls Try.prog 91 #[.slice (some ⟨b, off, none⟩) n c, .int .i64 k] (wy.drewN j) fun e w'' => e = .returned (.int .i64 Y) ∧ ∃ m, w'' = wy.drewN m := fun j =>
        Calls.quiet_of_same ((inner_any _ n c p k _ (A1.out.below (Nat.le_refl _) (below_drewN (Below.refl _ _) _)) hn (by omega)).mono fun _ _ hh => ⟨by rw [hh.1, HY.out], hh.2.symm⟩)
      go_quiet (first | (go_at_call 91; exact HIN _))
      go_wp2_with fail
      go_meet
      exact ⟨rfl, ⟨K1.out⟩, ⟨Z1.out⟩, ⟨below_drewN M1.out _⟩⟩
    case rest =>
      obtain ⟨rfl, K2, Z2, M2⟩ := hcut
      obtain ⟨wz, hwz⟩ : ∃ x : World, x = wc := ⟨_, rfl⟩
      subst hwz
      clear g0 k0 k1 k2 hcx hXY hw2 A1 K1 Z1 M1
      obtain ⟨g0, k0, k1, k2⟩ := K2.out
      have hw3 : IntKind.i64.wrap (lo * D) = lo * D := IntWalk.i64_in _ (by omega)
      have hw4 : IntKind.i64.wrap (hi * D) = hi * D := IntWalk.i64_in _ (by omega)
      go_upto_region 11 with (fail)
      go_cut [8] (fun s wx => ∃ B2 : Nat, s = .pointer (some ⟨B2, 0, none⟩) ∧ wz.heap.size ≤ B2 ∧ Bx (HF wx B2 L H) ∧ Bx (Below wz.heap.size wz wx))
      case first =>
        go_region_held3 (fun w' => w'.cell? ⟨w.heap.size, 1, none⟩ = some (.int .i64 lo) ∧ w'.cell? ⟨w.heap.size, 2, none⟩ = some (.int .i64 hi))
          (first | (exact K2.out.2.2) | (exact (K2.out.alloc _).2.2) | (exact ((K2.out.alloc _).other (by omega) _ _).2.2) | (exact (K2.out.other (by omega) _ _).2.2))
          (first
            | (go_at_call 92; refine (downP_any (lo * D) 2000 _ (by omega) (by omega) (by omega) (by omega)).mono ?_; rw [HL.out]; rintro e w2 ⟨rfl, rfl⟩)
            | (go_at_call 93; refine (upP_any (hi * D) 2000 _ (by omega) (by omega) (by omega) (by omega)).mono ?_; rw [HH.out]; rintro e w2 ⟨rfl, rfl⟩))
        all_goals
          go_wp2_with fail
          go_meet
          exact ⟨_, rfl, Nat.le_refl _, ⟨HF.new wz 24 L H⟩, ⟨(below_alloc1 _ _).drew⟩⟩
      case rest =>
        obtain ⟨B2, rfl, hB2, F3, M3⟩ := hcut
        have K3 := Bx.mk (K2.out.below M3.out)
        have Z3 := Bx.mk (Z2.out.below M3.out)
        have M4 := Bx.mk (below_from M2.out M3.out)
        obtain ⟨wv, hwv⟩ : ∃ x : World, x = wc := ⟨_, rfl⟩
        subst hwv
        clear g0 k0 k1 k2 K2 Z2 M2 M3
        obtain ⟨g0, k0, k1, k2⟩ := K3.out
        obtain ⟨f0, f1, f2⟩ := F3.out
        obtain ⟨z0, ⟨z1, z2, z3, z4⟩, y1, y2, y3, y4⟩ := Z3.out
        go_wp2_with (go_at_call 90; refine (areSmall2_any _ L H _ (by simp) (by simp [go_sem, World.cell?_alloc_past]) (by simp [go_sem, World.cell?_alloc_past]) ⟨by omega, by omega⟩ ⟨by omega, by omega⟩).mono ?_; rw [HO.out]; rintro e wx ⟨rfl, rfl⟩)
        obtain ⟨j0, j1, j2, j3⟩ := set4 (w := wv) (b := w.heap.size + 1) (.int .i64 0) (.int .i64 0) (.int .i64 0) (.int .i64 0) z1 z2 z3 z4
        have hlt : w.heap.size + 1 < ((((wv.setCell ⟨w.heap.size + 1, 0, none⟩ (.int .i64 0)).setCell ⟨w.heap.size + 1, 1, none⟩ (.int .i64 0)).setCell ⟨w.heap.size + 1, 2, none⟩ (.int .i64 0)).setCell ⟨w.heap.size + 1, 3, none⟩ (.int .i64 0)).heap.size := by simpa [World.setCell] using z0
        have hB : w.heap.size ≤ w.heap.size + 1 := Nat.le_succ _
        have M5 := (((M4.out.setCell (p := ⟨w.heap.size + 1, 0, none⟩) hB (.int .i64 0)).setCell (p := ⟨w.heap.size + 1, 1, none⟩) hB (.int .i64 0)).setCell (p := ⟨w.heap.size + 1, 2, none⟩) hB (.int .i64 0)).setCell (p := ⟨w.heap.size + 1, 3, none⟩) hB (.int .i64 0)
        exact bodyPost_ret (ret_read rfl _ _ _ _ _ _ _ _ rfl rfl ((World.cell?_alloc_lt _ _ _ hlt).trans j0) ((World.cell?_alloc_lt _ _ _ hlt).trans j1) ((World.cell?_alloc_lt _ _ _ hlt).trans j2) ((World.cell?_alloc_lt _ _ _ hlt).trans j3)) rfl ⟨rfl, M5.alloc (by omega) _⟩

end Go.Proofs.Ytokeimlnlmobpaa
