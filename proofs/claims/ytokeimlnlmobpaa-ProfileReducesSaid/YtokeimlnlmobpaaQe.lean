/- Walks: a knife reading reduced, the reference's. -/
import Derived.Test.YtokeimlnlmobpaaQd
import Derived.Deep.DeepCutAuto
set_option linter.unusedVariables false
set_option linter.unusedSimpArgs false
namespace Go.Proofs.Ytokeimlnlmobpaa
open Go.RowKit

set_option maxRecDepth 100000 in
set_option maxHeartbeats 4000000 in
theorem redR_zones (A : Option Addr) (n c : Nat) (p : Row) (z lo hi : Int) (E : Int) (w : World) (hA : IS w A n p) (hn : n ≤ 1000000) (hz : I64 z) (hlo : I64 lo) (hhi : I64 hi) (HE : Bx (ckZ n p = E)) (h0 : (E != 0) = true) :
    Calls Try.prog 24 #[.slice A n c, .agg #[.int .i64 z, .int .i64 lo, .int .i64 hi]] w fun e w' => e = .returned (.tuple #[.agg #[.int .i64 0, .int .i64 0, .int .i64 0, .int .i64 0], .int .i64 E]) ∧ Below w.heap.size w w' := by
  have HA := Bx.mk hA
  clear hA
  go_enter Try.func24, Try.ntmps24
  go_wp2_with (go_at_call 26; refine (checkZonesR_any _ n c p _ (HA.out.below (Nat.le_refl _) (((Below.refl _ _).alloc (Nat.le_refl _) _).alloc (by simp) _)) hn).mono ?_; rw [HE.out]; rintro e wx ⟨rfl, j, rfl⟩)
  refine bodyPost_ret (ret_read rfl _ _ _ _ _ _ _ _ rfl rfl (by simp [go_sem, World.cell?_alloc_past]) (by simp [go_sem, World.cell?_alloc_past]) (by simp [go_sem, World.cell?_alloc_past]) (by simp [go_sem, World.cell?_alloc_past])) rfl ⟨rfl, ?_⟩
  repeat (first | exact Below.refl _ _ | refine Below.setCell ?_ (by simp) _ | refine Below.drewN' ?_ _ | refine Below.alloc ?_ (by first | exact Nat.le_refl _ | (simp; done) | (simp; omega)) _)

set_option maxRecDepth 100000 in
set_option maxHeartbeats 4000000 in
theorem redR_missing (A : Option Addr) (n c : Nat) (p : Row) (z lo hi : Int) (w : World) (hA : IS w A n p) (hn : n ≤ 1000000) (hz : I64 z) (hlo : I64 lo) (hhi : I64 hi) (HE : Bx (ckZ n p = 0)) (HZ : Bx (wtB z 0 ((n : Int) - 2) = false)) :
    Calls Try.prog 24 #[.slice A n c, .agg #[.int .i64 z, .int .i64 lo, .int .i64 hi]] w fun e w' => e = .returned (.tuple #[.agg #[.int .i64 0, .int .i64 0, .int .i64 0, .int .i64 0], .int .i64 6]) ∧ Below w.heap.size w w' := by
  have HA := Bx.mk hA
  clear hA
  have hw : IntKind.i64.wrap ((n : Int) - 2) = (n : Int) - 2 := IntWalk.i64_in _ (by omega)
  go_enter Try.func24, Try.ntmps24
  go_wp2_with (go_at_call 26; refine (checkZonesR_any _ n c p _ (HA.out.below (Nat.le_refl _) (((Below.refl _ _).alloc (Nat.le_refl _) _).alloc (by simp) _)) hn).mono ?_; rw [HE.out]; rintro e wx ⟨rfl, j, rfl⟩)
  go_wp2_with (go_at_call 45; (with_reducible refine (within_any z 0 ((n : Int) - 2) _).mono ?_); rw [HZ.out]; rintro e wx ⟨rfl, rfl⟩)
  refine bodyPost_ret (ret_read rfl _ _ _ _ _ _ _ _ rfl rfl (by simp [go_sem, World.cell?_alloc_past]) (by simp [go_sem, World.cell?_alloc_past]) (by simp [go_sem, World.cell?_alloc_past]) (by simp [go_sem, World.cell?_alloc_past])) rfl ⟨rfl, ?_⟩
  repeat (first | exact Below.refl _ _ | refine Below.setCell ?_ (by simp) _ | refine Below.drewN' ?_ _ | refine Below.alloc ?_ (by first | exact Nat.le_refl _ | (simp; done) | (simp; omega)) _)

set_option maxRecDepth 100000 in
set_option maxHeartbeats 4000000 in
theorem redR_range1 (A : Option Addr) (n c : Nat) (p : Row) (z lo hi : Int) (w : World) (hA : IS w A n p) (hn : n ≤ 1000000) (hz : I64 z) (hlo : I64 lo) (hhi : I64 hi) (HE : Bx (ckZ n p = 0)) (HZ : Bx (wtB z 0 ((n : Int) - 2) = true)) (HR : Bx (wtB lo (-1000000) 1000000 = false)) :
    Calls Try.prog 24 #[.slice A n c, .agg #[.int .i64 z, .int .i64 lo, .int .i64 hi]] w fun e w' => e = .returned (.tuple #[.agg #[.int .i64 0, .int .i64 0, .int .i64 0, .int .i64 0], .int .i64 2]) ∧ Below w.heap.size w w' := by
  have HA := Bx.mk hA
  clear hA
  have hw : IntKind.i64.wrap ((n : Int) - 2) = (n : Int) - 2 := IntWalk.i64_in _ (by omega)
  go_enter Try.func24, Try.ntmps24
  go_wp2_with (go_at_call 26; refine (checkZonesR_any _ n c p _ (HA.out.below (Nat.le_refl _) (((Below.refl _ _).alloc (Nat.le_refl _) _).alloc (by simp) _)) hn).mono ?_; rw [HE.out]; rintro e wx ⟨rfl, j, rfl⟩)
  go_wp2_with (first | (go_at_call 45; (with_reducible refine (within_any z 0 ((n : Int) - 2) _).mono ?_); rw [HZ.out]; rintro e wx ⟨rfl, rfl⟩) | (go_at_call 45; (with_reducible refine (within_any lo (-1000000) 1000000 _).mono ?_); rw [HR.out]; rintro e wx ⟨rfl, rfl⟩))
  refine bodyPost_ret (ret_read rfl _ _ _ _ _ _ _ _ rfl rfl (by simp [go_sem, World.cell?_alloc_past]) (by simp [go_sem, World.cell?_alloc_past]) (by simp [go_sem, World.cell?_alloc_past]) (by simp [go_sem, World.cell?_alloc_past])) rfl ⟨rfl, ?_⟩
  repeat (first | exact Below.refl _ _ | refine Below.setCell ?_ (by simp) _ | refine Below.drewN' ?_ _ | refine Below.alloc ?_ (by first | exact Nat.le_refl _ | (simp; done) | (simp; omega)) _)

set_option maxRecDepth 100000 in
set_option maxHeartbeats 4000000 in
theorem redR_range2 (A : Option Addr) (n c : Nat) (p : Row) (z lo hi : Int) (w : World) (hA : IS w A n p) (hn : n ≤ 1000000) (hz : I64 z) (hlo : I64 lo) (hhi : I64 hi) (HE : Bx (ckZ n p = 0)) (HZ : Bx (wtB z 0 ((n : Int) - 2) = true)) (HR : Bx (wtB lo (-1000000) 1000000 = true)) (HR2 : Bx (wtB hi (-1000000) 1000000 = false)) :
    Calls Try.prog 24 #[.slice A n c, .agg #[.int .i64 z, .int .i64 lo, .int .i64 hi]] w fun e w' => e = .returned (.tuple #[.agg #[.int .i64 0, .int .i64 0, .int .i64 0, .int .i64 0], .int .i64 2]) ∧ Below w.heap.size w w' := by
  have HA := Bx.mk hA
  clear hA
  have hw : IntKind.i64.wrap ((n : Int) - 2) = (n : Int) - 2 := IntWalk.i64_in _ (by omega)
  go_enter Try.func24, Try.ntmps24
  go_wp2_with (go_at_call 26; refine (checkZonesR_any _ n c p _ (HA.out.below (Nat.le_refl _) (((Below.refl _ _).alloc (Nat.le_refl _) _).alloc (by simp) _)) hn).mono ?_; rw [HE.out]; rintro e wx ⟨rfl, j, rfl⟩)
  go_wp2_with (first | (go_at_call 45; (with_reducible refine (within_any z 0 ((n : Int) - 2) _).mono ?_); rw [HZ.out]; rintro e wx ⟨rfl, rfl⟩) | (go_at_call 45; (with_reducible refine (within_any lo (-1000000) 1000000 _).mono ?_); rw [HR.out]; rintro e wx ⟨rfl, rfl⟩) | (go_at_call 45; (with_reducible refine (within_any hi (-1000000) 1000000 _).mono ?_); rw [HR2.out]; rintro e wx ⟨rfl, rfl⟩))
  refine bodyPost_ret (ret_read rfl _ _ _ _ _ _ _ _ rfl rfl (by simp [go_sem, World.cell?_alloc_past]) (by simp [go_sem, World.cell?_alloc_past]) (by simp [go_sem, World.cell?_alloc_past]) (by simp [go_sem, World.cell?_alloc_past])) rfl ⟨rfl, ?_⟩
  repeat (first | exact Below.refl _ _ | refine Below.setCell ?_ (by simp) _ | refine Below.drewN' ?_ _ | refine Below.alloc ?_ (by first | exact Nat.le_refl _ | (simp; done) | (simp; omega)) _)

set_option maxRecDepth 100000 in
set_option maxHeartbeats 4000000 in
theorem redR_order (A : Option Addr) (n c : Nat) (p : Row) (z lo hi : Int) (w : World) (hA : IS w A n p) (hn : n ≤ 1000000) (hz : I64 z) (hlo : I64 lo) (hhi : I64 hi) (HE : Bx (ckZ n p = 0)) (HZ : Bx (wtB z 0 ((n : Int) - 2) = true)) (HR : Bx (wtB lo (-1000000) 1000000 = true)) (HR2 : Bx (wtB hi (-1000000) 1000000 = true)) (hord : hi < lo) :
    Calls Try.prog 24 #[.slice A n c, .agg #[.int .i64 z, .int .i64 lo, .int .i64 hi]] w fun e w' => e = .returned (.tuple #[.agg #[.int .i64 0, .int .i64 0, .int .i64 0, .int .i64 0], .int .i64 9]) ∧ Below w.heap.size w w' := by
  have HA := Bx.mk hA
  clear hA
  have hw : IntKind.i64.wrap ((n : Int) - 2) = (n : Int) - 2 := IntWalk.i64_in _ (by omega)
  go_enter Try.func24, Try.ntmps24
  go_wp2_with (go_at_call 26; refine (checkZonesR_any _ n c p _ (HA.out.below (Nat.le_refl _) (((Below.refl _ _).alloc (Nat.le_refl _) _).alloc (by simp) _)) hn).mono ?_; rw [HE.out]; rintro e wx ⟨rfl, j, rfl⟩)
  go_wp2_with (first | (go_at_call 45; (with_reducible refine (within_any z 0 ((n : Int) - 2) _).mono ?_); rw [HZ.out]; rintro e wx ⟨rfl, rfl⟩) | (go_at_call 45; (with_reducible refine (within_any lo (-1000000) 1000000 _).mono ?_); rw [HR.out]; rintro e wx ⟨rfl, rfl⟩) | (go_at_call 45; (with_reducible refine (within_any hi (-1000000) 1000000 _).mono ?_); rw [HR2.out]; rintro e wx ⟨rfl, rfl⟩))
  refine bodyPost_ret (ret_read rfl _ _ _ _ _ _ _ _ rfl rfl (by simp [go_sem, World.cell?_alloc_past]) (by simp [go_sem, World.cell?_alloc_past]) (by simp [go_sem, World.cell?_alloc_past]) (by simp [go_sem, World.cell?_alloc_past])) rfl ⟨rfl, ?_⟩
  repeat (first | exact Below.refl _ _ | refine Below.setCell ?_ (by simp) _ | refine Below.drewN' ?_ _ | refine Below.alloc ?_ (by first | exact Nat.le_refl _ | (simp; done) | (simp; omega)) _)

set_option maxRecDepth 100000 in
set_option maxHeartbeats 4000000 in
theorem redR_main0 (A : Option Addr) (n c : Nat) (p : Row) (k : Nat) (lo hi D L H : Int) (w : World) (hA : IS w A n p) (hn : n ≤ 1000000) (hlo : I64 lo) (hhi : I64 hi) (HE : Bx (ckZ n p = 0)) (hk : k + 2 ≤ n) (hk0 : k = 0) (HR : Bx (wtB lo (-1000000) 1000000 = true)) (HR2 : Bx (wtB hi (-1000000) 1000000 = true)) (hord : ¬ hi < lo) (HD : Bx (p (k + 1) - inR p k = D)) (hD1 : -1000000 ≤ D) (hD2 : D ≤ 1000000)
    (HL : Bx (lo * D / 2000 = L)) (HH : Bx (-(-(hi * D) / 2000) = H)) (HOL : Bx (wtB L (-1000000) 1000000 = true)) (HOH : Bx (wtB H (-1000000) 1000000 = true)) :
    Calls Try.prog 24 #[.slice A n c, .agg #[.int .i64 k, .int .i64 lo, .int .i64 hi]] w fun e w' => e = .returned (.tuple #[.agg #[.int .i64 k, .int .i64 (k + 1), .int .i64 L, .int .i64 H], .int .i64 0]) ∧ Below w.heap.size w w' := by
  obtain ⟨b, off, rfl, hb, hc⟩ := hA.2 (by omega)
  have HA := Bx.mk hA
  have HC := Bx.mk hc
  clear hA hc
  have HX := Bx.mk (show p (k + 1) = D by have := HD.out; unfold inR at this; rw [if_pos hk0] at this; omega)
  have HKN := Bx.mk (show ¬ 0 < k by omega)
  clear hk0
  obtain ⟨l1, l2⟩ := wtB_out HR.out
  obtain ⟨l3, l4⟩ := wtB_out HR2.out
  obtain ⟨l5, l6⟩ := mul_bd6 l1 l2 hD1 hD2
  obtain ⟨l7, l8⟩ := mul_bd6 l3 l4 hD1 hD2
  have m1 : -1000000000 ≤ L := by rw [← HL.out]; omega
  have m2 : L ≤ 1000000000 := by rw [← HL.out]; omega
  have m3 : -1000000000 ≤ H := by rw [← HH.out]; omega
  have m4 : H ≤ 1000000000 := by rw [← HH.out]; omega
  have HZ := Bx.mk (show wtB (k : Int) 0 ((n : Int) - 2) = true from wtB_yes (by omega) (by omega))
  have hdo : decide (hi < lo) = false := by simpa using hord
  have hw : IntKind.i64.wrap ((n : Int) - 2) = (n : Int) - 2 := IntWalk.i64_in _ (by omega)
  go_enter Try.func24, Try.ntmps24
  go_wp2_with (go_at_call 26; refine (checkZonesR_any _ n c p _ (HA.out.below (Nat.le_refl _) (((Below.refl _ _).alloc (Nat.le_refl _) _).alloc (by simp) _)) hn).mono ?_; rw [HE.out]; rintro e wx ⟨rfl, j, rfl⟩)
  go_upto_region 8 with (first | (go_at_call 45; (with_reducible refine (within_any (k : Int) 0 ((n : Int) - 2) _).mono ?_); rw [HZ.out]; rintro e wx ⟨rfl, rfl⟩) | (go_at_call 45; (with_reducible refine (within_any lo (-1000000) 1000000 _).mono ?_); rw [HR.out]; rintro e wx ⟨rfl, rfl⟩) | (go_at_call 45; (with_reducible refine (within_any hi (-1000000) 1000000 _).mono ?_); rw [HR2.out]; rintro e wx ⟨rfl, rfl⟩))
  go_cut [42] (fun s wx => s = .bool false ∧ Bx (K3 wx w.heap.size k lo hi) ∧ Bx (Z4 wx (w.heap.size + 1)) ∧ Bx (Below w.heap.size w wx))
  case first =>
    go_wp2_with fail
    go_meet
    exact ⟨rfl, ⟨by simp [K3] <;> simp [go_sem, World.cell?_alloc_past]⟩, ⟨by simp [Z4] <;> simp [go_sem, World.cell?_alloc_past, World.frozen?_alloc_past]⟩, ⟨by repeat (first | exact Below.refl _ _ | refine Below.drewN' ?_ _ | refine Below.alloc ?_ (by first | exact Nat.le_refl _ | (simp; done) | (simp; omega)) _)⟩⟩
  case rest =>
    obtain ⟨rfl, K2, Z2, M2⟩ := hcut
    obtain ⟨wz, hwz⟩ : ∃ x : World, x = wc := ⟨_, rfl⟩
    subst hwz
    have hcx : wz.cell? ⟨b, off + (k + 1), none⟩ = some (.int .i64 D) := by
      rw [← HX.out]
      exact (M2.out.cell (p := ⟨b, off + (k + 1), none⟩) hb).trans (HC.out (k + 1) (by omega))
    obtain ⟨g0, k0, k1, k2⟩ := K2.out
    have hidx : ((k : Int) + 1).toNat = k + 1 := by omega
    have hw1 : IntKind.i64.wrap ((k : Int) + 1) = (k : Int) + 1 := IntWalk.i64_in _ (by omega)
    have hi0 : (0 : Int) ≤ (k : Int) + 1 := by omega
    have hi1 : (k : Int) + 1 < n := by omega
    have hi2 : k + 1 < n := by omega
    have hi3 : (0 : Int) ≤ (k : Int) + 1 ∧ (k : Int) + 1 < n := ⟨hi0, hi1⟩
    have hw3 : IntKind.i64.wrap (lo * D) = lo * D := IntWalk.i64_in _ (by omega)
    have hw4 : IntKind.i64.wrap (hi * D) = hi * D := IntWalk.i64_in _ (by omega)
    clear hdo
    have hkn := HKN.out
    have hkn2 : ¬ (0 : Int) < k := by omega
    go_upto_region 13 with (fail)
    go_cut [8] (fun s wx => ∃ B2 : Nat, s = .pointer (some ⟨B2, 0, none⟩) ∧ wz.heap.size ≤ B2 ∧ Bx (HF wx B2 L H) ∧ Bx (Below wz.heap.size wz wx))
    case first =>
      go_region_held3 (fun w' => w'.cell? ⟨w.heap.size, 1, none⟩ = some (.int .i64 lo) ∧ w'.cell? ⟨w.heap.size, 2, none⟩ = some (.int .i64 hi))
        (first | (exact K2.out.2.2) | (exact (K2.out.alloc _).2.2) | (exact ((K2.out.alloc _).other (by omega) _ _).2.2) | (exact (K2.out.other (by omega) _ _).2.2))
        (first
          | (go_at_call 94; refine (floorB_any (lo * D) 2000 _ (by omega) (by omega) (by omega) (by omega)).mono ?_; rw [HL.out]; rintro e w2 ⟨rfl, rfl⟩)
          | (go_at_call 95; refine (ceilB_any (hi * D) 2000 _ (by omega) (by omega) (by omega) (by omega)).mono ?_; rw [HH.out]; rintro e w2 ⟨rfl, rfl⟩))
      all_goals
        go_wp2_with fail
        go_meet
        exact ⟨_, rfl, Nat.le_refl _, ⟨HF.new wz 24 L H⟩, ⟨(below_alloc1 _ _).drew⟩⟩
    case rest =>
      obtain ⟨B2, rfl, hB2, F3, M3⟩ := hcut
      have K3 := Bx.mk (K2.out.below M3.out)
      have Z3 := Bx.mk (Z2.out.below M3.out)
      have M4 := Bx.mk (below_from M2.out M3.out)
      obtain ⟨wv, hwv⟩ : ∃ x : World, x = wc := ⟨_, rfl⟩
      subst hwv
      clear g0 k0 k1 k2 K2 Z2 M2 M3 hcx
      obtain ⟨g0, k0, k1, k2⟩ := K3.out
      obtain ⟨f0, f1, f2⟩ := F3.out
      obtain ⟨z0, ⟨z1, z2, z3, z4⟩, y1, y2, y3, y4⟩ := Z3.out
      go_wp2_with (first | (go_at_call 96; (with_reducible refine (isHeight_any L _).mono ?_); rw [HOL.out]; rintro e wx ⟨rfl, rfl⟩) | (go_at_call 96; (with_reducible refine (isHeight_any H _).mono ?_); rw [HOH.out]; rintro e wx ⟨rfl, rfl⟩))
      obtain ⟨j0, j1, j2, j3⟩ := set4 (w := wv) (b := w.heap.size + 1) (.int .i64 k) (.int .i64 (k + 1)) (.int .i64 L) (.int .i64 H) z1 z2 z3 z4
      have hB : w.heap.size ≤ w.heap.size + 1 := Nat.le_succ _
      have M5 := (((M4.out.setCell (p := ⟨w.heap.size + 1, 0, none⟩) hB (.int .i64 k)).setCell (p := ⟨w.heap.size + 1, 1, none⟩) hB (.int .i64 (k + 1))).setCell (p := ⟨w.heap.size + 1, 2, none⟩) hB (.int .i64 L)).setCell (p := ⟨w.heap.size + 1, 3, none⟩) hB (.int .i64 H)
      exact bodyPost_ret (ret_read rfl _ _ _ _ _ _ _ _ rfl rfl j0 j1 j2 j3) rfl ⟨rfl, M5⟩

set_option maxRecDepth 100000 in
set_option maxHeartbeats 4000000 in
theorem redR_largeL0 (A : Option Addr) (n c : Nat) (p : Row) (k : Nat) (lo hi D L H : Int) (w : World) (hA : IS w A n p) (hn : n ≤ 1000000) (hlo : I64 lo) (hhi : I64 hi) (HE : Bx (ckZ n p = 0)) (hk : k + 2 ≤ n) (hk0 : k = 0) (HR : Bx (wtB lo (-1000000) 1000000 = true)) (HR2 : Bx (wtB hi (-1000000) 1000000 = true)) (hord : ¬ hi < lo) (HD : Bx (p (k + 1) - inR p k = D)) (hD1 : -1000000 ≤ D) (hD2 : D ≤ 1000000)
    (HL : Bx (lo * D / 2000 = L)) (HH : Bx (-(-(hi * D) / 2000) = H)) (HOL : Bx (wtB L (-1000000) 1000000 = false)) :
    Calls Try.prog 24 #[.slice A n c, .agg #[.int .i64 k, .int .i64 lo, .int .i64 hi]] w fun e w' => e = .returned (.tuple #[.agg #[.int .i64 0, .int .i64 0, .int .i64 0, .int .i64 0], .int .i64 8]) ∧ Below w.heap.size w w' := by
  obtain ⟨b, off, rfl, hb, hc⟩ := hA.2 (by omega)
  have HA := Bx.mk hA
  have HC := Bx.mk hc
  clear hA hc
  have HX := Bx.mk (show p (k + 1) = D by have := HD.out; unfold inR at this; rw [if_pos hk0] at this; omega)
  have HKN := Bx.mk (show ¬ 0 < k by omega)
  clear hk0
  obtain ⟨l1, l2⟩ := wtB_out HR.out
  obtain ⟨l3, l4⟩ := wtB_out HR2.out
  obtain ⟨l5, l6⟩ := mul_bd6 l1 l2 hD1 hD2
  obtain ⟨l7, l8⟩ := mul_bd6 l3 l4 hD1 hD2
  have m1 : -1000000000 ≤ L := by rw [← HL.out]; omega
  have m2 : L ≤ 1000000000 := by rw [← HL.out]; omega
  have m3 : -1000000000 ≤ H := by rw [← HH.out]; omega
  have m4 : H ≤ 1000000000 := by rw [← HH.out]; omega
  have HZ := Bx.mk (show wtB (k : Int) 0 ((n : Int) - 2) = true from wtB_yes (by omega) (by omega))
  have hdo : decide (hi < lo) = false := by simpa using hord
  have hw : IntKind.i64.wrap ((n : Int) - 2) = (n : Int) - 2 := IntWalk.i64_in _ (by omega)
  go_enter Try.func24, Try.ntmps24
  go_wp2_with (go_at_call 26; refine (checkZonesR_any _ n c p _ (HA.out.below (Nat.le_refl _) (((Below.refl _ _).alloc (Nat.le_refl _) _).alloc (by simp) _)) hn).mono ?_; rw [HE.out]; rintro e wx ⟨rfl, j, rfl⟩)
  go_upto_region 8 with (first | (go_at_call 45; (with_reducible refine (within_any (k : Int) 0 ((n : Int) - 2) _).mono ?_); rw [HZ.out]; rintro e wx ⟨rfl, rfl⟩) | (go_at_call 45; (with_reducible refine (within_any lo (-1000000) 1000000 _).mono ?_); rw [HR.out]; rintro e wx ⟨rfl, rfl⟩) | (go_at_call 45; (with_reducible refine (within_any hi (-1000000) 1000000 _).mono ?_); rw [HR2.out]; rintro e wx ⟨rfl, rfl⟩))
  go_cut [42] (fun s wx => s = .bool false ∧ Bx (K3 wx w.heap.size k lo hi) ∧ Bx (Z4 wx (w.heap.size + 1)) ∧ Bx (Below w.heap.size w wx))
  case first =>
    go_wp2_with fail
    go_meet
    exact ⟨rfl, ⟨by simp [K3] <;> simp [go_sem, World.cell?_alloc_past]⟩, ⟨by simp [Z4] <;> simp [go_sem, World.cell?_alloc_past, World.frozen?_alloc_past]⟩, ⟨by repeat (first | exact Below.refl _ _ | refine Below.drewN' ?_ _ | refine Below.alloc ?_ (by first | exact Nat.le_refl _ | (simp; done) | (simp; omega)) _)⟩⟩
  case rest =>
    obtain ⟨rfl, K2, Z2, M2⟩ := hcut
    obtain ⟨wz, hwz⟩ : ∃ x : World, x = wc := ⟨_, rfl⟩
    subst hwz
    have hcx : wz.cell? ⟨b, off + (k + 1), none⟩ = some (.int .i64 D) := by
      rw [← HX.out]
      exact (M2.out.cell (p := ⟨b, off + (k + 1), none⟩) hb).trans (HC.out (k + 1) (by omega))
    obtain ⟨g0, k0, k1, k2⟩ := K2.out
    have hidx : ((k : Int) + 1).toNat = k + 1 := by omega
    have hw1 : IntKind.i64.wrap ((k : Int) + 1) = (k : Int) + 1 := IntWalk.i64_in _ (by omega)
    have hi0 : (0 : Int) ≤ (k : Int) + 1 := by omega
    have hi1 : (k : Int) + 1 < n := by omega
    have hi2 : k + 1 < n := by omega
    have hi3 : (0 : Int) ≤ (k : Int) + 1 ∧ (k : Int) + 1 < n := ⟨hi0, hi1⟩
    have hw3 : IntKind.i64.wrap (lo * D) = lo * D := IntWalk.i64_in _ (by omega)
    have hw4 : IntKind.i64.wrap (hi * D) = hi * D := IntWalk.i64_in _ (by omega)
    clear hdo
    have hkn := HKN.out
    have hkn2 : ¬ (0 : Int) < k := by omega
    go_upto_region 13 with (fail)
    go_cut [8] (fun s wx => ∃ B2 : Nat, s = .pointer (some ⟨B2, 0, none⟩) ∧ wz.heap.size ≤ B2 ∧ Bx (HF wx B2 L H) ∧ Bx (Below wz.heap.size wz wx))
    case first =>
      go_region_held3 (fun w' => w'.cell? ⟨w.heap.size, 1, none⟩ = some (.int .i64 lo) ∧ w'.cell? ⟨w.heap.size, 2, none⟩ = some (.int .i64 hi))
        (first | (exact K2.out.2.2) | (exact (K2.out.alloc _).2.2) | (exact ((K2.out.alloc _).other (by omega) _ _).2.2) | (exact (K2.out.other (by omega) _ _).2.2))
        (first
          | (go_at_call 94; refine (floorB_any (lo * D) 2000 _ (by omega) (by omega) (by omega) (by omega)).mono ?_; rw [HL.out]; rintro e w2 ⟨rfl, rfl⟩)
          | (go_at_call 95; refine (ceilB_any (hi * D) 2000 _ (by omega) (by omega) (by omega) (by omega)).mono ?_; rw [HH.out]; rintro e w2 ⟨rfl, rfl⟩))
      all_goals
        go_wp2_with fail
        go_meet
        exact ⟨_, rfl, Nat.le_refl _, ⟨HF.new wz 24 L H⟩, ⟨(below_alloc1 _ _).drew⟩⟩
    case rest =>
      obtain ⟨B2, rfl, hB2, F3, M3⟩ := hcut
      have K3 := Bx.mk (K2.out.below M3.out)
      have Z3 := Bx.mk (Z2.out.below M3.out)
      have M4 := Bx.mk (below_from M2.out M3.out)
      obtain ⟨wv, hwv⟩ : ∃ x : World, x = wc := ⟨_, rfl⟩
      subst hwv
      clear g0 k0 k1 k2 K2 Z2 M2 M3 hcx
      obtain ⟨g0, k0, k1, k2⟩ := K3.out
      obtain ⟨f0, f1, f2⟩ := F3.out
      obtain ⟨z0, ⟨z1, z2, z3, z4⟩, y1, y2, y3, y4⟩ := Z3.out
      go_wp2_with (go_at_call 96; (with_reducible refine (isHeight_any L _).mono ?_); rw [HOL.out]; rintro e wx ⟨rfl, rfl⟩)
      obtain ⟨j0, j1, j2, j3⟩ := set4 (w := wv) (b := w.heap.size + 1) (.int .i64 0) (.int .i64 0) (.int .i64 0) (.int .i64 0) z1 z2 z3 z4
      have hB : w.heap.size ≤ w.heap.size + 1 := Nat.le_succ _
      have M5 := (((M4.out.setCell (p := ⟨w.heap.size + 1, 0, none⟩) hB (.int .i64 0)).setCell (p := ⟨w.heap.size + 1, 1, none⟩) hB (.int .i64 0)).setCell (p := ⟨w.heap.size + 1, 2, none⟩) hB (.int .i64 0)).setCell (p := ⟨w.heap.size + 1, 3, none⟩) hB (.int .i64 0)
      exact bodyPost_ret (ret_read rfl _ _ _ _ _ _ _ _ rfl rfl j0 j1 j2 j3) rfl ⟨rfl, M5⟩

set_option maxRecDepth 100000 in
set_option maxHeartbeats 4000000 in
theorem redR_largeH0 (A : Option Addr) (n c : Nat) (p : Row) (k : Nat) (lo hi D L H : Int) (w : World) (hA : IS w A n p) (hn : n ≤ 1000000) (hlo : I64 lo) (hhi : I64 hi) (HE : Bx (ckZ n p = 0)) (hk : k + 2 ≤ n) (hk0 : k = 0) (HR : Bx (wtB lo (-1000000) 1000000 = true)) (HR2 : Bx (wtB hi (-1000000) 1000000 = true)) (hord : ¬ hi < lo) (HD : Bx (p (k + 1) - inR p k = D)) (hD1 : -1000000 ≤ D) (hD2 : D ≤ 1000000)
    (HL : Bx (lo * D / 2000 = L)) (HH : Bx (-(-(hi * D) / 2000) = H)) (HOL : Bx (wtB L (-1000000) 1000000 = true)) (HOH : Bx (wtB H (-1000000) 1000000 = false)) :
    Calls Try.prog 24 #[.slice A n c, .agg #[.int .i64 k, .int .i64 lo, .int .i64 hi]] w fun e w' => e = .returned (.tuple #[.agg #[.int .i64 0, .int .i64 0, .int .i64 0, .int .i64 0], .int .i64 8]) ∧ Below w.heap.size w w' := by
  obtain ⟨b, off, rfl, hb, hc⟩ := hA.2 (by omega)
  have HA := Bx.mk hA
  have HC := Bx.mk hc
  clear hA hc
  have HX := Bx.mk (show p (k + 1) = D by have := HD.out; unfold inR at this; rw [if_pos hk0] at this; omega)
  have HKN := Bx.mk (show ¬ 0 < k by omega)
  clear hk0
  obtain ⟨l1, l2⟩ := wtB_out HR.out
  obtain ⟨l3, l4⟩ := wtB_out HR2.out
  obtain ⟨l5, l6⟩ := mul_bd6 l1 l2 hD1 hD2
  obtain ⟨l7, l8⟩ := mul_bd6 l3 l4 hD1 hD2
  have m1 : -1000000000 ≤ L := by rw [← HL.out]; omega
  have m2 : L ≤ 1000000000 := by rw [← HL.out]; omega
  have m3 : -1000000000 ≤ H := by rw [← HH.out]; omega
  have m4 : H ≤ 1000000000 := by rw [← HH.out]; omega
  have HZ := Bx.mk (show wtB (k : Int) 0 ((n : Int) - 2) = true from wtB_yes (by omega) (by omega))
  have hdo : decide (hi < lo) = false := by simpa using hord
  have hw : IntKind.i64.wrap ((n : Int) - 2) = (n : Int) - 2 := IntWalk.i64_in _ (by omega)
  go_enter Try.func24, Try.ntmps24
  go_wp2_with (go_at_call 26; refine (checkZonesR_any _ n c p _ (HA.out.below (Nat.le_refl _) (((Below.refl _ _).alloc (Nat.le_refl _) _).alloc (by simp) _)) hn).mono ?_; rw [HE.out]; rintro e wx ⟨rfl, j, rfl⟩)
  go_upto_region 8 with (first | (go_at_call 45; (with_reducible refine (within_any (k : Int) 0 ((n : Int) - 2) _).mono ?_); rw [HZ.out]; rintro e wx ⟨rfl, rfl⟩) | (go_at_call 45; (with_reducible refine (within_any lo (-1000000) 1000000 _).mono ?_); rw [HR.out]; rintro e wx ⟨rfl, rfl⟩) | (go_at_call 45; (with_reducible refine (within_any hi (-1000000) 1000000 _).mono ?_); rw [HR2.out]; rintro e wx ⟨rfl, rfl⟩))
  go_cut [42] (fun s wx => s = .bool false ∧ Bx (K3 wx w.heap.size k lo hi) ∧ Bx (Z4 wx (w.heap.size + 1)) ∧ Bx (Below w.heap.size w wx))
  case first =>
    go_wp2_with fail
    go_meet
    exact ⟨rfl, ⟨by simp [K3] <;> simp [go_sem, World.cell?_alloc_past]⟩, ⟨by simp [Z4] <;> simp [go_sem, World.cell?_alloc_past, World.frozen?_alloc_past]⟩, ⟨by repeat (first | exact Below.refl _ _ | refine Below.drewN' ?_ _ | refine Below.alloc ?_ (by first | exact Nat.le_refl _ | (simp; done) | (simp; omega)) _)⟩⟩
  case rest =>
    obtain ⟨rfl, K2, Z2, M2⟩ := hcut
    obtain ⟨wz, hwz⟩ : ∃ x : World, x = wc := ⟨_, rfl⟩
    subst hwz
    have hcx : wz.cell? ⟨b, off + (k + 1), none⟩ = some (.int .i64 D) := by
      rw [← HX.out]
      exact (M2.out.cell (p := ⟨b, off + (k + 1), none⟩) hb).trans (HC.out (k + 1) (by omega))
    obtain ⟨g0, k0, k1, k2⟩ := K2.out
    have hidx : ((k : Int) + 1).toNat = k + 1 := by omega
    have hw1 : IntKind.i64.wrap ((k : Int) + 1) = (k : Int) + 1 := IntWalk.i64_in _ (by omega)
    have hi0 : (0 : Int) ≤ (k : Int) + 1 := by omega
    have hi1 : (k : Int) + 1 < n := by omega
    have hi2 : k + 1 < n := by omega
    have hi3 : (0 : Int) ≤ (k : Int) + 1 ∧ (k : Int) + 1 < n := ⟨hi0, hi1⟩
    have hw3 : IntKind.i64.wrap (lo * D) = lo * D := IntWalk.i64_in _ (by omega)
    have hw4 : IntKind.i64.wrap (hi * D) = hi * D := IntWalk.i64_in _ (by omega)
    clear hdo
    have hkn := HKN.out
    have hkn2 : ¬ (0 : Int) < k := by omega
    go_upto_region 13 with (fail)
    go_cut [8] (fun s wx => ∃ B2 : Nat, s = .pointer (some ⟨B2, 0, none⟩) ∧ wz.heap.size ≤ B2 ∧ Bx (HF wx B2 L H) ∧ Bx (Below wz.heap.size wz wx))
    case first =>
      go_region_held3 (fun w' => w'.cell? ⟨w.heap.size, 1, none⟩ = some (.int .i64 lo) ∧ w'.cell? ⟨w.heap.size, 2, none⟩ = some (.int .i64 hi))
        (first | (exact K2.out.2.2) | (exact (K2.out.alloc _).2.2) | (exact ((K2.out.alloc _).other (by omega) _ _).2.2) | (exact (K2.out.other (by omega) _ _).2.2))
        (first
          | (go_at_call 94; refine (floorB_any (lo * D) 2000 _ (by omega) (by omega) (by omega) (by omega)).mono ?_; rw [HL.out]; rintro e w2 ⟨rfl, rfl⟩)
          | (go_at_call 95; refine (ceilB_any (hi * D) 2000 _ (by omega) (by omega) (by omega) (by omega)).mono ?_; rw [HH.out]; rintro e w2 ⟨rfl, rfl⟩))
      all_goals
        go_wp2_with fail
        go_meet
        exact ⟨_, rfl, Nat.le_refl _, ⟨HF.new wz 24 L H⟩, ⟨(below_alloc1 _ _).drew⟩⟩
    case rest =>
      obtain ⟨B2, rfl, hB2, F3, M3⟩ := hcut
      have K3 := Bx.mk (K2.out.below M3.out)
      have Z3 := Bx.mk (Z2.out.below M3.out)
      have M4 := Bx.mk (below_from M2.out M3.out)
      obtain ⟨wv, hwv⟩ : ∃ x : World, x = wc := ⟨_, rfl⟩
      subst hwv
      clear g0 k0 k1 k2 K2 Z2 M2 M3 hcx
      obtain ⟨g0, k0, k1, k2⟩ := K3.out
      obtain ⟨f0, f1, f2⟩ := F3.out
      obtain ⟨z0, ⟨z1, z2, z3, z4⟩, y1, y2, y3, y4⟩ := Z3.out
      go_wp2_with (first | (go_at_call 96; (with_reducible refine (isHeight_any L _).mono ?_); rw [HOL.out]; rintro e wx ⟨rfl, rfl⟩) | (go_at_call 96; (with_reducible refine (isHeight_any H _).mono ?_); rw [HOH.out]; rintro e wx ⟨rfl, rfl⟩))
      obtain ⟨j0, j1, j2, j3⟩ := set4 (w := wv) (b := w.heap.size + 1) (.int .i64 0) (.int .i64 0) (.int .i64 0) (.int .i64 0) z1 z2 z3 z4
      have hB : w.heap.size ≤ w.heap.size + 1 := Nat.le_succ _
      have M5 := (((M4.out.setCell (p := ⟨w.heap.size + 1, 0, none⟩) hB (.int .i64 0)).setCell (p := ⟨w.heap.size + 1, 1, none⟩) hB (.int .i64 0)).setCell (p := ⟨w.heap.size + 1, 2, none⟩) hB (.int .i64 0)).setCell (p := ⟨w.heap.size + 1, 3, none⟩) hB (.int .i64 0)
      exact bodyPost_ret (ret_read rfl _ _ _ _ _ _ _ _ rfl rfl j0 j1 j2 j3) rfl ⟨rfl, M5⟩

set_option maxRecDepth 100000 in
set_option maxHeartbeats 4000000 in
theorem redR_main1 (A : Option Addr) (n c : Nat) (p : Row) (k : Nat) (lo hi D L H : Int) (w : World) (hA : IS w A n p) (hn : n ≤ 1000000) (hlo : I64 lo) (hhi : I64 hi) (HE : Bx (ckZ n p = 0)) (hk : k + 2 ≤ n) (hk0 : 0 < k) (HR : Bx (wtB lo (-1000000) 1000000 = true)) (HR2 : Bx (wtB hi (-1000000) 1000000 = true)) (hord : ¬ hi < lo) (HD : Bx (p (k + 1) - inR p k = D)) (hD1 : -1000000 ≤ D) (hD2 : D ≤ 1000000)
    (HL : Bx (lo * D / 2000 = L)) (HH : Bx (-(-(hi * D) / 2000) = H)) (HOL : Bx (wtB L (-1000000) 1000000 = true)) (HOH : Bx (wtB H (-1000000) 1000000 = true)) :
    Calls Try.prog 24 #[.slice A n c, .agg #[.int .i64 k, .int .i64 lo, .int .i64 hi]] w fun e w' => e = .returned (.tuple #[.agg #[.int .i64 k, .int .i64 (k + 1), .int .i64 L, .int .i64 H], .int .i64 0]) ∧ Below w.heap.size w w' := by
  obtain ⟨b, off, rfl, hb, hc⟩ := hA.2 (by omega)
  have HA := Bx.mk hA
  have HC := Bx.mk hc
  clear hA hc
  have HKN := Bx.mk (show 0 < k by omega)
  obtain ⟨X, hX⟩ : ∃ X, p (k + 1) = X := ⟨_, rfl⟩
  obtain ⟨Y, hY⟩ : ∃ Y, p (k - 1) = Y := ⟨_, rfl⟩
  have HX := Bx.mk hX
  have HY := Bx.mk hY
  have HXY := Bx.mk (show X - Y = D by rw [← hX, ← hY]; have := HD.out; unfold inR at this; rw [if_neg (by omega)] at this; exact this)
  clear hX hY hk0
  obtain ⟨l1, l2⟩ := wtB_out HR.out
  obtain ⟨l3, l4⟩ := wtB_out HR2.out
  obtain ⟨l5, l6⟩ := mul_bd6 l1 l2 hD1 hD2
  obtain ⟨l7, l8⟩ := mul_bd6 l3 l4 hD1 hD2
  have m1 : -1000000000 ≤ L := by rw [← HL.out]; omega
  have m2 : L ≤ 1000000000 := by rw [← HL.out]; omega
  have m3 : -1000000000 ≤ H := by rw [← HH.out]; omega
  have m4 : H ≤ 1000000000 := by rw [← HH.out]; omega
  have HZ := Bx.mk (show wtB (k : Int) 0 ((n : Int) - 2) = true from wtB_yes (by omega) (by omega))
  have hdo : decide (hi < lo) = false := by simpa using hord
  have hw : IntKind.i64.wrap ((n : Int) - 2) = (n : Int) - 2 := IntWalk.i64_in _ (by omega)
  go_enter Try.func24, Try.ntmps24
  go_wp2_with (go_at_call 26; refine (checkZonesR_any _ n c p _ (HA.out.below (Nat.le_refl _) (((Below.refl _ _).alloc (Nat.le_refl _) _).alloc (by simp) _)) hn).mono ?_; rw [HE.out]; rintro e wx ⟨rfl, j, rfl⟩)
  go_upto_region 8 with (first | (go_at_call 45; (with_reducible refine (within_any (k : Int) 0 ((n : Int) - 2) _).mono ?_); rw [HZ.out]; rintro e wx ⟨rfl, rfl⟩) | (go_at_call 45; (with_reducible refine (within_any lo (-1000000) 1000000 _).mono ?_); rw [HR.out]; rintro e wx ⟨rfl, rfl⟩) | (go_at_call 45; (with_reducible refine (within_any hi (-1000000) 1000000 _).mono ?_); rw [HR2.out]; rintro e wx ⟨rfl, rfl⟩))
  go_cut [42] (fun s wx => s = .bool false ∧ Bx (K3 wx w.heap.size k lo hi) ∧ Bx (Z4 wx (w.heap.size + 1)) ∧ Bx (Below w.heap.size w wx))
  case first =>
    go_wp2_with fail
    go_meet
    exact ⟨rfl, ⟨by simp [K3] <;> simp [go_sem, World.cell?_alloc_past]⟩, ⟨by simp [Z4] <;> simp [go_sem, World.cell?_alloc_past, World.frozen?_alloc_past]⟩, ⟨by repeat (first | exact Below.refl _ _ | refine Below.drewN' ?_ _ | refine Below.alloc ?_ (by first | exact Nat.le_refl _ | (simp; done) | (simp; omega)) _)⟩⟩
  case rest =>
    obtain ⟨rfl, K2, Z2, M2⟩ := hcut
    obtain ⟨wz, hwz⟩ : ∃ x : World, x = wc := ⟨_, rfl⟩
    subst hwz
    have hcx : wz.cell? ⟨b, off + (k + 1), none⟩ = some (.int .i64 X) := by
      rw [← HX.out]
      exact (M2.out.cell (p := ⟨b, off + (k + 1), none⟩) hb).trans (HC.out (k + 1) (by omega))
    obtain ⟨g0, k0, k1, k2⟩ := K2.out
    have hidx : ((k : Int) + 1).toNat = k + 1 := by omega
    have hw1 : IntKind.i64.wrap ((k : Int) + 1) = (k : Int) + 1 := IntWalk.i64_in _ (by omega)
    have hi0 : (0 : Int) ≤ (k : Int) + 1 := by omega
    have hi1 : (k : Int) + 1 < n := by omega
    have hi2 : k + 1 < n := by omega
    have hi3 : (0 : Int) ≤ (k : Int) + 1 ∧ (k : Int) + 1 < n := ⟨hi0, hi1⟩
    have hw3 : IntKind.i64.wrap (lo * D) = lo * D := IntWalk.i64_in _ (by omega)
    have hw4 : IntKind.i64.wrap (hi * D) = hi * D := IntWalk.i64_in _ (by omega)
    clear hdo
    have hkn := HKN.out
    have hkn2 : (0 : Int) < k := by omega
    have hcy : wz.cell? ⟨b, off + (k - 1), none⟩ = some (.int .i64 Y) := by
      rw [← HY.out]
      exact (M2.out.cell (p := ⟨b, off + (k - 1), none⟩) hb).trans (HC.out (k - 1) (by omega))
    have hidy : ((k : Int) - 1).toNat = k - 1 := by omega
    have hy1 : IntKind.i64.wrap ((k : Int) - 1) = (k : Int) - 1 := IntWalk.i64_in _ (by omega)
    have hy2 : (0 : Int) ≤ (k : Int) - 1 := by omega
    have hy3 : (k : Int) - 1 < n := by omega
    have hy4 : (0 : Int) ≤ (k : Int) - 1 ∧ (k : Int) - 1 < n := ⟨hy2, hy3⟩
    have hXY := HXY.out
    have hw2 : IntKind.i64.wrap (X - Y) = D := by rw [hXY]; exact IntWalk.i64_in _ (by omega)
    go_upto_region 13 with (fail)
    go_cut [8] (fun s wx => ∃ B2 : Nat, s = .pointer (some ⟨B2, 0, none⟩) ∧ wz.heap.size ≤ B2 ∧ Bx (HF wx B2 L H) ∧ Bx (Below wz.heap.size wz wx))
    case first =>
      go_region_held3 (fun w' => w'.cell? ⟨w.heap.size, 1, none⟩ = some (.int .i64 lo) ∧ w'.cell? ⟨w.heap.size, 2, none⟩ = some (.int .i64 hi))
        (first | (exact K2.out.2.2) | (exact (K2.out.alloc _).2.2) | (exact ((K2.out.alloc _).other (by omega) _ _).2.2) | (exact (K2.out.other (by omega) _ _).2.2))
        (first
          | (go_at_call 94; refine (floorB_any (lo * D) 2000 _ (by omega) (by omega) (by omega) (by omega)).mono ?_; rw [HL.out]; rintro e w2 ⟨rfl, rfl⟩)
          | (go_at_call 95; refine (ceilB_any (hi * D) 2000 _ (by omega) (by omega) (by omega) (by omega)).mono ?_; rw [HH.out]; rintro e w2 ⟨rfl, rfl⟩))
      all_goals
        go_wp2_with fail
        go_meet
        exact ⟨_, rfl, Nat.le_refl _, ⟨HF.new wz 24 L H⟩, ⟨(below_alloc1 _ _).drew⟩⟩
    case rest =>
      obtain ⟨B2, rfl, hB2, F3, M3⟩ := hcut
      have K3 := Bx.mk (K2.out.below M3.out)
      have Z3 := Bx.mk (Z2.out.below M3.out)
      have M4 := Bx.mk (below_from M2.out M3.out)
      obtain ⟨wv, hwv⟩ : ∃ x : World, x = wc := ⟨_, rfl⟩
      subst hwv
      clear g0 k0 k1 k2 K2 Z2 M2 M3 hcx
      obtain ⟨g0, k0, k1, k2⟩ := K3.out
      obtain ⟨f0, f1, f2⟩ := F3.out
      obtain ⟨z0, ⟨z1, z2, z3, z4⟩, y1, y2, y3, y4⟩ := Z3.out
      go_wp2_with (first | (go_at_call 96; (with_reducible refine (isHeight_any L _).mono ?_); rw [HOL.out]; rintro e wx ⟨rfl, rfl⟩) | (go_at_call 96; (with_reducible refine (isHeight_any H _).mono ?_); rw [HOH.out]; rintro e wx ⟨rfl, rfl⟩))
      obtain ⟨j0, j1, j2, j3⟩ := set4 (w := wv) (b := w.heap.size + 1) (.int .i64 k) (.int .i64 (k + 1)) (.int .i64 L) (.int .i64 H) z1 z2 z3 z4
      have hB : w.heap.size ≤ w.heap.size + 1 := Nat.le_succ _
      have M5 := (((M4.out.setCell (p := ⟨w.heap.size + 1, 0, none⟩) hB (.int .i64 k)).setCell (p := ⟨w.heap.size + 1, 1, none⟩) hB (.int .i64 (k + 1))).setCell (p := ⟨w.heap.size + 1, 2, none⟩) hB (.int .i64 L)).setCell (p := ⟨w.heap.size + 1, 3, none⟩) hB (.int .i64 H)
      exact bodyPost_ret (ret_read rfl _ _ _ _ _ _ _ _ rfl rfl j0 j1 j2 j3) rfl ⟨rfl, M5⟩

set_option maxRecDepth 100000 in
set_option maxHeartbeats 4000000 in
theorem redR_largeL1 (A : Option Addr) (n c : Nat) (p : Row) (k : Nat) (lo hi D L H : Int) (w : World) (hA : IS w A n p) (hn : n ≤ 1000000) (hlo : I64 lo) (hhi : I64 hi) (HE : Bx (ckZ n p = 0)) (hk : k + 2 ≤ n) (hk0 : 0 < k) (HR : Bx (wtB lo (-1000000) 1000000 = true)) (HR2 : Bx (wtB hi (-1000000) 1000000 = true)) (hord : ¬ hi < lo) (HD : Bx (p (k + 1) - inR p k = D)) (hD1 : -1000000 ≤ D) (hD2 : D ≤ 1000000)
    (HL : Bx (lo * D / 2000 = L)) (HH : Bx (-(-(hi * D) / 2000) = H)) (HOL : Bx (wtB L (-1000000) 1000000 = false)) :
    Calls Try.prog 24 #[.slice A n c, .agg #[.int .i64 k, .int .i64 lo, .int .i64 hi]] w fun e w' => e = .returned (.tuple #[.agg #[.int .i64 0, .int .i64 0, .int .i64 0, .int .i64 0], .int .i64 8]) ∧ Below w.heap.size w w' := by
  obtain ⟨b, off, rfl, hb, hc⟩ := hA.2 (by omega)
  have HA := Bx.mk hA
  have HC := Bx.mk hc
  clear hA hc
  have HKN := Bx.mk (show 0 < k by omega)
  obtain ⟨X, hX⟩ : ∃ X, p (k + 1) = X := ⟨_, rfl⟩
  obtain ⟨Y, hY⟩ : ∃ Y, p (k - 1) = Y := ⟨_, rfl⟩
  have HX := Bx.mk hX
  have HY := Bx.mk hY
  have HXY := Bx.mk (show X - Y = D by rw [← hX, ← hY]; have := HD.out; unfold inR at this; rw [if_neg (by omega)] at this; exact this)
  clear hX hY hk0
  obtain ⟨l1, l2⟩ := wtB_out HR.out
  obtain ⟨l3, l4⟩ := wtB_out HR2.out
  obtain ⟨l5, l6⟩ := mul_bd6 l1 l2 hD1 hD2
  obtain ⟨l7, l8⟩ := mul_bd6 l3 l4 hD1 hD2
  have m1 : -1000000000 ≤ L := by rw [← HL.out]; omega
  have m2 : L ≤ 1000000000 := by rw [← HL.out]; omega
  have m3 : -1000000000 ≤ H := by rw [← HH.out]; omega
  have m4 : H ≤ 1000000000 := by rw [← HH.out]; omega
  have HZ := Bx.mk (show wtB (k : Int) 0 ((n : Int) - 2) = true from wtB_yes (by omega) (by omega))
  have hdo : decide (hi < lo) = false := by simpa using hord
  have hw : IntKind.i64.wrap ((n : Int) - 2) = (n : Int) - 2 := IntWalk.i64_in _ (by omega)
  go_enter Try.func24, Try.ntmps24
  go_wp2_with (go_at_call 26; refine (checkZonesR_any _ n c p _ (HA.out.below (Nat.le_refl _) (((Below.refl _ _).alloc (Nat.le_refl _) _).alloc (by simp) _)) hn).mono ?_; rw [HE.out]; rintro e wx ⟨rfl, j, rfl⟩)
  go_upto_region 8 with (first | (go_at_call 45; (with_reducible refine (within_any (k : Int) 0 ((n : Int) - 2) _).mono ?_); rw [HZ.out]; rintro e wx ⟨rfl, rfl⟩) | (go_at_call 45; (with_reducible refine (within_any lo (-1000000) 1000000 _).mono ?_); rw [HR.out]; rintro e wx ⟨rfl, rfl⟩) | (go_at_call 45; (with_reducible refine (within_any hi (-1000000) 1000000 _).mono ?_); rw [HR2.out]; rintro e wx ⟨rfl, rfl⟩))
  go_cut [42] (fun s wx => s = .bool false ∧ Bx (K3 wx w.heap.size k lo hi) ∧ Bx (Z4 wx (w.heap.size + 1)) ∧ Bx (Below w.heap.size w wx))
  case first =>
    go_wp2_with fail
    go_meet
    exact ⟨rfl, ⟨by simp [K3] <;> simp [go_sem, World.cell?_alloc_past]⟩, ⟨by simp [Z4] <;> simp [go_sem, World.cell?_alloc_past, World.frozen?_alloc_past]⟩, ⟨by repeat (first | exact Below.refl _ _ | refine Below.drewN' ?_ _ | refine Below.alloc ?_ (by first | exact Nat.le_refl _ | (simp; done) | (simp; omega)) _)⟩⟩
  case rest =>
    obtain ⟨rfl, K2, Z2, M2⟩ := hcut
    obtain ⟨wz, hwz⟩ : ∃ x : World, x = wc := ⟨_, rfl⟩
    subst hwz
    have hcx : wz.cell? ⟨b, off + (k + 1), none⟩ = some (.int .i64 X) := by
      rw [← HX.out]
      exact (M2.out.cell (p := ⟨b, off + (k + 1), none⟩) hb).trans (HC.out (k + 1) (by omega))
    obtain ⟨g0, k0, k1, k2⟩ := K2.out
    have hidx : ((k : Int) + 1).toNat = k + 1 := by omega
    have hw1 : IntKind.i64.wrap ((k : Int) + 1) = (k : Int) + 1 := IntWalk.i64_in _ (by omega)
    have hi0 : (0 : Int) ≤ (k : Int) + 1 := by omega
    have hi1 : (k : Int) + 1 < n := by omega
    have hi2 : k + 1 < n := by omega
    have hi3 : (0 : Int) ≤ (k : Int) + 1 ∧ (k : Int) + 1 < n := ⟨hi0, hi1⟩
    have hw3 : IntKind.i64.wrap (lo * D) = lo * D := IntWalk.i64_in _ (by omega)
    have hw4 : IntKind.i64.wrap (hi * D) = hi * D := IntWalk.i64_in _ (by omega)
    clear hdo
    have hkn := HKN.out
    have hkn2 : (0 : Int) < k := by omega
    have hcy : wz.cell? ⟨b, off + (k - 1), none⟩ = some (.int .i64 Y) := by
      rw [← HY.out]
      exact (M2.out.cell (p := ⟨b, off + (k - 1), none⟩) hb).trans (HC.out (k - 1) (by omega))
    have hidy : ((k : Int) - 1).toNat = k - 1 := by omega
    have hy1 : IntKind.i64.wrap ((k : Int) - 1) = (k : Int) - 1 := IntWalk.i64_in _ (by omega)
    have hy2 : (0 : Int) ≤ (k : Int) - 1 := by omega
    have hy3 : (k : Int) - 1 < n := by omega
    have hy4 : (0 : Int) ≤ (k : Int) - 1 ∧ (k : Int) - 1 < n := ⟨hy2, hy3⟩
    have hXY := HXY.out
    have hw2 : IntKind.i64.wrap (X - Y) = D := by rw [hXY]; exact IntWalk.i64_in _ (by omega)
    go_upto_region 13 with (fail)
    go_cut [8] (fun s wx => ∃ B2 : Nat, s = .pointer (some ⟨B2, 0, none⟩) ∧ wz.heap.size ≤ B2 ∧ Bx (HF wx B2 L H) ∧ Bx (Below wz.heap.size wz wx))
    case first =>
      go_region_held3 (fun w' => w'.cell? ⟨w.heap.size, 1, none⟩ = some (.int .i64 lo) ∧ w'.cell? ⟨w.heap.size, 2, none⟩ = some (.int .i64 hi))
        (first | (exact K2.out.2.2) | (exact (K2.out.alloc _).2.2) | (exact ((K2.out.alloc _).other (by omega) _ _).2.2) | (exact (K2.out.other (by omega) _ _).2.2))
        (first
          | (go_at_call 94; refine (floorB_any (lo * D) 2000 _ (by omega) (by omega) (by omega) (by omega)).mono ?_; rw [HL.out]; rintro e w2 ⟨rfl, rfl⟩)
          | (go_at_call 95; refine (ceilB_any (hi * D) 2000 _ (by omega) (by omega) (by omega) (by omega)).mono ?_; rw [HH.out]; rintro e w2 ⟨rfl, rfl⟩))
      all_goals
        go_wp2_with fail
        go_meet
        exact ⟨_, rfl, Nat.le_refl _, ⟨HF.new wz 24 L H⟩, ⟨(below_alloc1 _ _).drew⟩⟩
    case rest =>
      obtain ⟨B2, rfl, hB2, F3, M3⟩ := hcut
      have K3 := Bx.mk (K2.out.below M3.out)
      have Z3 := Bx.mk (Z2.out.below M3.out)
      have M4 := Bx.mk (below_from M2.out M3.out)
      obtain ⟨wv, hwv⟩ : ∃ x : World, x = wc := ⟨_, rfl⟩
      subst hwv
      clear g0 k0 k1 k2 K2 Z2 M2 M3 hcx
      obtain ⟨g0, k0, k1, k2⟩ := K3.out
      obtain ⟨f0, f1, f2⟩ := F3.out
      obtain ⟨z0, ⟨z1, z2, z3, z4⟩, y1, y2, y3, y4⟩ := Z3.out
      go_wp2_with (go_at_call 96; (with_reducible refine (isHeight_any L _).mono ?_); rw [HOL.out]; rintro e wx ⟨rfl, rfl⟩)
      obtain ⟨j0, j1, j2, j3⟩ := set4 (w := wv) (b := w.heap.size + 1) (.int .i64 0) (.int .i64 0) (.int .i64 0) (.int .i64 0) z1 z2 z3 z4
      have hB : w.heap.size ≤ w.heap.size + 1 := Nat.le_succ _
      have M5 := (((M4.out.setCell (p := ⟨w.heap.size + 1, 0, none⟩) hB (.int .i64 0)).setCell (p := ⟨w.heap.size + 1, 1, none⟩) hB (.int .i64 0)).setCell (p := ⟨w.heap.size + 1, 2, none⟩) hB (.int .i64 0)).setCell (p := ⟨w.heap.size + 1, 3, none⟩) hB (.int .i64 0)
      exact bodyPost_ret (ret_read rfl _ _ _ _ _ _ _ _ rfl rfl j0 j1 j2 j3) rfl ⟨rfl, M5⟩

set_option maxRecDepth 100000 in
set_option maxHeartbeats 4000000 in
theorem redR_largeH1 (A : Option Addr) (n c : Nat) (p : Row) (k : Nat) (lo hi D L H : Int) (w : World) (hA : IS w A n p) (hn : n ≤ 1000000) (hlo : I64 lo) (hhi : I64 hi) (HE : Bx (ckZ n p = 0)) (hk : k + 2 ≤ n) (hk0 : 0 < k) (HR : Bx (wtB lo (-1000000) 1000000 = true)) (HR2 : Bx (wtB hi (-1000000) 1000000 = true)) (hord : ¬ hi < lo) (HD : Bx (p (k + 1) - inR p k = D)) (hD1 : -1000000 ≤ D) (hD2 : D ≤ 1000000)
    (HL : Bx (lo * D / 2000 = L)) (HH : Bx (-(-(hi * D) / 2000) = H)) (HOL : Bx (wtB L (-1000000) 1000000 = true)) (HOH : Bx (wtB H (-1000000) 1000000 = false)) :
    Calls Try.prog 24 #[.slice A n c, .agg #[.int .i64 k, .int .i64 lo, .int .i64 hi]] w fun e w' => e = .returned (.tuple #[.agg #[.int .i64 0, .int .i64 0, .int .i64 0, .int .i64 0], .int .i64 8]) ∧ Below w.heap.size w w' := by
  obtain ⟨b, off, rfl, hb, hc⟩ := hA.2 (by omega)
  have HA := Bx.mk hA
  have HC := Bx.mk hc
  clear hA hc
  have HKN := Bx.mk (show 0 < k by omega)
  obtain ⟨X, hX⟩ : ∃ X, p (k + 1) = X := ⟨_, rfl⟩
  obtain ⟨Y, hY⟩ : ∃ Y, p (k - 1) = Y := ⟨_, rfl⟩
  have HX := Bx.mk hX
  have HY := Bx.mk hY
  have HXY := Bx.mk (show X - Y = D by rw [← hX, ← hY]; have := HD.out; unfold inR at this; rw [if_neg (by omega)] at this; exact this)
  clear hX hY hk0
  obtain ⟨l1, l2⟩ := wtB_out HR.out
  obtain ⟨l3, l4⟩ := wtB_out HR2.out
  obtain ⟨l5, l6⟩ := mul_bd6 l1 l2 hD1 hD2
  obtain ⟨l7, l8⟩ := mul_bd6 l3 l4 hD1 hD2
  have m1 : -1000000000 ≤ L := by rw [← HL.out]; omega
  have m2 : L ≤ 1000000000 := by rw [← HL.out]; omega
  have m3 : -1000000000 ≤ H := by rw [← HH.out]; omega
  have m4 : H ≤ 1000000000 := by rw [← HH.out]; omega
  have HZ := Bx.mk (show wtB (k : Int) 0 ((n : Int) - 2) = true from wtB_yes (by omega) (by omega))
  have hdo : decide (hi < lo) = false := by simpa using hord
  have hw : IntKind.i64.wrap ((n : Int) - 2) = (n : Int) - 2 := IntWalk.i64_in _ (by omega)
  go_enter Try.func24, Try.ntmps24
  go_wp2_with (go_at_call 26; refine (checkZonesR_any _ n c p _ (HA.out.below (Nat.le_refl _) (((Below.refl _ _).alloc (Nat.le_refl _) _).alloc (by simp) _)) hn).mono ?_; rw [HE.out]; rintro e wx ⟨rfl, j, rfl⟩)
  go_upto_region 8 with (first | (go_at_call 45; (with_reducible refine (within_any (k : Int) 0 ((n : Int) - 2) _).mono ?_); rw [HZ.out]; rintro e wx ⟨rfl, rfl⟩) | (go_at_call 45; (with_reducible refine (within_any lo (-1000000) 1000000 _).mono ?_); rw [HR.out]; rintro e wx ⟨rfl, rfl⟩) | (go_at_call 45; (with_reducible refine (within_any hi (-1000000) 1000000 _).mono ?_); rw [HR2.out]; rintro e wx ⟨rfl, rfl⟩))
  go_cut [42] (fun s wx => s = .bool false ∧ Bx (K3 wx w.heap.size k lo hi) ∧ Bx (Z4 wx (w.heap.size + 1)) ∧ Bx (Below w.heap.size w wx))
  case first =>
    go_wp2_with fail
    go_meet
    exact ⟨rfl, ⟨by simp [K3] <;> simp [go_sem, World.cell?_alloc_past]⟩, ⟨by simp [Z4] <;> simp [go_sem, World.cell?_alloc_past, World.frozen?_alloc_past]⟩, ⟨by repeat (first | exact Below.refl _ _ | refine Below.drewN' ?_ _ | refine Below.alloc ?_ (by first | exact Nat.le_refl _ | (simp; done) | (simp; omega)) _)⟩⟩
  case rest =>
    obtain ⟨rfl, K2, Z2, M2⟩ := hcut
    obtain ⟨wz, hwz⟩ : ∃ x : World, x = wc := ⟨_, rfl⟩
    subst hwz
    have hcx : wz.cell? ⟨b, off + (k + 1), none⟩ = some (.int .i64 X) := by
      rw [← HX.out]
      exact (M2.out.cell (p := ⟨b, off + (k + 1), none⟩) hb).trans (HC.out (k + 1) (by omega))
    obtain ⟨g0, k0, k1, k2⟩ := K2.out
    have hidx : ((k : Int) + 1).toNat = k + 1 := by omega
    have hw1 : IntKind.i64.wrap ((k : Int) + 1) = (k : Int) + 1 := IntWalk.i64_in _ (by omega)
    have hi0 : (0 : Int) ≤ (k : Int) + 1 := by omega
    have hi1 : (k : Int) + 1 < n := by omega
    have hi2 : k + 1 < n := by omega
    have hi3 : (0 : Int) ≤ (k : Int) + 1 ∧ (k : Int) + 1 < n := ⟨hi0, hi1⟩
    have hw3 : IntKind.i64.wrap (lo * D) = lo * D := IntWalk.i64_in _ (by omega)
    have hw4 : IntKind.i64.wrap (hi * D) = hi * D := IntWalk.i64_in _ (by omega)
    clear hdo
    have hkn := HKN.out
    have hkn2 : (0 : Int) < k := by omega
    have hcy : wz.cell? ⟨b, off + (k - 1), none⟩ = some (.int .i64 Y) := by
      rw [← HY.out]
      exact (M2.out.cell (p := ⟨b, off + (k - 1), none⟩) hb).trans (HC.out (k - 1) (by omega))
    have hidy : ((k : Int) - 1).toNat = k - 1 := by omega
    have hy1 : IntKind.i64.wrap ((k : Int) - 1) = (k : Int) - 1 := IntWalk.i64_in _ (by omega)
    have hy2 : (0 : Int) ≤ (k : Int) - 1 := by omega
    have hy3 : (k : Int) - 1 < n := by omega
    have hy4 : (0 : Int) ≤ (k : Int) - 1 ∧ (k : Int) - 1 < n := ⟨hy2, hy3⟩
    have hXY := HXY.out
    have hw2 : IntKind.i64.wrap (X - Y) = D := by rw [hXY]; exact IntWalk.i64_in _ (by omega)
    go_upto_region 13 with (fail)
    go_cut [8] (fun s wx => ∃ B2 : Nat, s = .pointer (some ⟨B2, 0, none⟩) ∧ wz.heap.size ≤ B2 ∧ Bx (HF wx B2 L H) ∧ Bx (Below wz.heap.size wz wx))
    case first =>
      go_region_held3 (fun w' => w'.cell? ⟨w.heap.size, 1, none⟩ = some (.int .i64 lo) ∧ w'.cell? ⟨w.heap.size, 2, none⟩ = some (.int .i64 hi))
        (first | (exact K2.out.2.2) | (exact (K2.out.alloc _).2.2) | (exact ((K2.out.alloc _).other (by omega) _ _).2.2) | (exact (K2.out.other (by omega) _ _).2.2))
        (first
          | (go_at_call 94; refine (floorB_any (lo * D) 2000 _ (by omega) (by omega) (by omega) (by omega)).mono ?_; rw [HL.out]; rintro e w2 ⟨rfl, rfl⟩)
          | (go_at_call 95; refine (ceilB_any (hi * D) 2000 _ (by omega) (by omega) (by omega) (by omega)).mono ?_; rw [HH.out]; rintro e w2 ⟨rfl, rfl⟩))
      all_goals
        go_wp2_with fail
        go_meet
        exact ⟨_, rfl, Nat.le_refl _, ⟨HF.new wz 24 L H⟩, ⟨(below_alloc1 _ _).drew⟩⟩
    case rest =>
      obtain ⟨B2, rfl, hB2, F3, M3⟩ := hcut
      have K3 := Bx.mk (K2.out.below M3.out)
      have Z3 := Bx.mk (Z2.out.below M3.out)
      have M4 := Bx.mk (below_from M2.out M3.out)
      obtain ⟨wv, hwv⟩ : ∃ x : World, x = wc := ⟨_, rfl⟩
      subst hwv
      clear g0 k0 k1 k2 K2 Z2 M2 M3 hcx
      obtain ⟨g0, k0, k1, k2⟩ := K3.out
      obtain ⟨f0, f1, f2⟩ := F3.out
      obtain ⟨z0, ⟨z1, z2, z3, z4⟩, y1, y2, y3, y4⟩ := Z3.out
      go_wp2_with (first | (go_at_call 96; (with_reducible refine (isHeight_any L _).mono ?_); rw [HOL.out]; rintro e wx ⟨rfl, rfl⟩) | (go_at_call 96; (with_reducible refine (isHeight_any H _).mono ?_); rw [HOH.out]; rintro e wx ⟨rfl, rfl⟩))
      obtain ⟨j0, j1, j2, j3⟩ := set4 (w := wv) (b := w.heap.size + 1) (.int .i64 0) (.int .i64 0) (.int .i64 0) (.int .i64 0) z1 z2 z3 z4
      have hB : w.heap.size ≤ w.heap.size + 1 := Nat.le_succ _
      have M5 := (((M4.out.setCell (p := ⟨w.heap.size + 1, 0, none⟩) hB (.int .i64 0)).setCell (p := ⟨w.heap.size + 1, 1, none⟩) hB (.int .i64 0)).setCell (p := ⟨w.heap.size + 1, 2, none⟩) hB (.int .i64 0)).setCell (p := ⟨w.heap.size + 1, 3, none⟩) hB (.int .i64 0)
      exact bodyPost_ret (ret_read rfl _ _ _ _ _ _ _ _ rfl rfl j0 j1 j2 j3) rfl ⟨rfl, M5⟩

end Go.Proofs.Ytokeimlnlmobpaa
