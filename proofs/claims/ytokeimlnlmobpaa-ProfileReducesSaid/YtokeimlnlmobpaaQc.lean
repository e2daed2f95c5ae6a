/- Walks: a knife reading reduced, the program's. -/
import Derived.Test.YtokeimlnlmobpaaQb
set_option linter.unusedVariables false
set_option linter.unusedSimpArgs false
namespace Go.Proofs.Ytokeimlnlmobpaa
open Go.RowKit

/-- All of the first n are at most m in size. -/
def allW (p : Row) : Nat → Bool
  | 0 => true
  | k + 1 => allW p k && wtB (p k) (-1000000) 1000000
theorem allW_no {p : Row} {k : Nat} (h : wtB (p k) (-1000000) 1000000 = false) : ∀ {n : Nat}, k < n → allW p n = false
  | 0, hk => by omega
  | n + 1, hk => by
    unfold allW
    rcases Nat.eq_or_lt_of_le (Nat.le_of_lt_succ hk) with e | e
    · subst e; rw [h]; simp
    · rw [allW_no h e]; rfl

set_option maxRecDepth 100000 in
set_option maxHeartbeats 2000000 in
theorem areSmall_any (b n : Nat) (p : Row) (w : World) (hb : b < w.heap.size) (hc : ∀ j, j < n → w.cell? ⟨b, j, none⟩ = some (.int .i64 (p j))) (hI : ∀ j, j < n → I64 (p j)) (hn : n ≤ 1000) :
    Calls Try.prog 90 #[.int .i64 1000000, .slice (some ⟨b, 0, none⟩) n n] w fun e w' => e = .returned (.bool (allW p n)) ∧ w = w' := by
  go_enter Try.func90, Try.ntmps90
  go_wp2
  go_loop [4, 6, 9] (fun r x i => ∃ k : Nat, k ≤ n ∧ i = .int .i64 k ∧ r = .bool false ∧ Bx (allW p k = true)) (fun _ _ i => n - (intOf i).toNat)
  case atStart => exact ⟨0, by omega, rfl, rfl, ⟨rfl⟩⟩
  case round =>
    obtain ⟨k, hk, rfl, rfl, HK⟩ := hrel
    by_cases hlt : k < n
    · have hlt' : (k : Int) < n := by omega
      have hcx := hc k hlt
      obtain ⟨h1, h2⟩ := hI k hlt
      cases HV : wtB (p k) (-1000000) 1000000 with
      | true =>
        have HO := Bx.mk (show allW p (k + 1) = true by unfold allW; rw [HK.out, HV]; rfl)
        have HW := Bx.mk HV
        clear HV hI hc
        generalize p k = X at *
        go_wp2_with (go_at_call 89; refine (isWithin_any _ (-1000000) 1000000 _).mono ?_; rw [HW.out]; rintro e wx ⟨rfl, rfl⟩)
        go_round
        case rel => exact ⟨k + 1, by omega, by go_num, rfl, HO⟩
        case measure => simp [intOf]; omega
      | false =>
        have HO := Bx.mk (allW_no HV hlt)
        have HW := Bx.mk HV
        clear HV hI hc
        generalize p k = X at *
        go_wp2_with (go_at_call 89; refine (isWithin_any _ (-1000000) 1000000 _).mono ?_; rw [HW.out]; rintro e wx ⟨rfl, rfl⟩)
        go_ret
        exact ⟨ret_bool HO.out.symm, rfl⟩
    · obtain rfl : k = n := by omega
      clear hI hc
      go_wp2
      go_ret
      exact ⟨ret_bool HK.out.symm, rfl⟩
/-- Two numbers in a fresh block. -/
theorem areSmall2_any (b : Nat) (x y : Int) (w : World) (hb : b < w.heap.size) (h0 : w.cell? ⟨b, 0, none⟩ = some (.int .i64 x)) (h1 : w.cell? ⟨b, 1, none⟩ = some (.int .i64 y)) (hx : I64 x) (hy : I64 y) :
    Calls Try.prog 90 #[.int .i64 1000000, .slice (some ⟨b, 0, none⟩) 2 2] w fun e w' => e = .returned (.bool (wtB x (-1000000) 1000000 && wtB y (-1000000) 1000000)) ∧ w = w' := by
  have h := areSmall_any b 2 (fun j => if j = 0 then x else y) w hb (fun j hj => by
    rcases (show j = 0 ∨ j = 1 by omega) with rfl | rfl
    · exact h0
    · exact h1) (fun j hj => by
    rcases (show j = 0 ∨ j = 1 by omega) with rfl | rfl
    · exact hx
    · exact hy) (by omega)
  refine h.mono fun e w' hh => ⟨hh.1.trans ?_, hh.2⟩
  simp [allW]

theorem ret_read {fn : Func} {p u : Tmp} (h : fn.results = #[.cell p 29, .tmp u]) (tmps : Array Value) (w : World) (b : Nat) (x y x2 y2 z : Value)
    (ht : tmps.getD p undef = .pointer (some ⟨b, 0, none⟩)) (hu : tmps.getD u undef = z) (h0 : w.cell? ⟨b, 0, none⟩ = some x) (h1 : w.cell? ⟨b, 1, none⟩ = some y) (h2 : w.cell? ⟨b, 2, none⟩ = some x2) (h3 : w.cell? ⟨b, 3, none⟩ = some y2) :
    (results fn tmps).run Try.prog w = .ok (.tuple #[.agg #[x, y, x2, y2], z]) w := by
  rw [results_cell_tmp h, ht, hu]
  simp [go_sem, h0, h1, h2, h3]

theorem znB_mem {p : Row} : ∀ {n : Nat}, znB p n = 0 → ∀ j, j < n → 1 ≤ p j ∧ p j ≤ 1000000
  | 0, _, j, hj => by omega
  | n + 1, h, j, hj => by
    have h' : (if znB p n ≠ 0 then znB p n else if wtB (p n) 1 1000000 = false then 2 else if 0 < n ∧ p n ≤ p (n - 1) then 9 else 0) = (0 : Int) := h
    have h0 : znB p n = 0 := by
      by_cases e : znB p n = 0
      · exact e
      · rw [if_pos e] at h'; exact absurd h' e
    rw [h0, if_neg (by simp)] at h'
    rcases Nat.eq_or_lt_of_le (Nat.le_of_lt_succ hj) with e | e
    · subst e
      by_cases e : wtB (p j) 1 1000000 = false
      · rw [if_pos e] at h'; simp at h'
      · have : wtB (p j) 1 1000000 = true := by simpa using e
        unfold wtB at this
        simp at this
        exact this
    · exact znB_mem h0 j e

set_option maxRecDepth 100000 in
set_option maxHeartbeats 4000000 in
theorem redP_zones (A : Option Addr) (n c : Nat) (p : Row) (z lo hi E : Int) (w : World) (hA : IS w A n p) (hn : n ≤ 1000000) (hz : I64 z) (hlo : I64 lo) (hhi : I64 hi) (HE : Bx (ckZ n p = E)) (h0 : (E != 0) = true) :
    Calls Try.prog 22 #[.slice A n c, .agg #[.int .i64 z, .int .i64 lo, .int .i64 hi]] w fun e w' => e = .returned (.tuple #[.agg #[.int .i64 0, .int .i64 0, .int .i64 0, .int .i64 0], .int .i64 E]) ∧ Below w.heap.size w w' := by
  have HA := Bx.mk hA
  clear hA
  go_enter Try.func22, Try.ntmps22
  go_wp2_with (go_at_call 25; refine (checkZonesP_any A n c p _ (HA.out.below (Nat.le_refl _) (((Below.refl _ _).alloc (Nat.le_refl _) _).alloc (by simp) _)) hn).mono ?_; rw [HE.out]; rintro e wx ⟨rfl, rfl⟩)
  refine bodyPost_ret (ret_read rfl _ _ _ _ _ _ _ _ rfl rfl (by simp [go_sem, World.cell?_alloc_past]) (by simp [go_sem, World.cell?_alloc_past]) (by simp [go_sem, World.cell?_alloc_past]) (by simp [go_sem, World.cell?_alloc_past])) rfl ⟨rfl, ?_⟩
  repeat (first | exact Below.refl _ _ | refine Below.setCell ?_ (by simp) _ | refine Below.alloc ?_ (by first | exact Nat.le_refl _ | (simp; done) | (simp; omega)) _)

set_option maxRecDepth 100000 in
set_option maxHeartbeats 4000000 in
theorem redP_missing (A : Option Addr) (n c : Nat) (p : Row) (z lo hi : Int) (w : World) (hA : IS w A n p) (hn : n ≤ 1000000) (hz : I64 z) (hlo : I64 lo) (hhi : I64 hi) (HE : Bx (ckZ n p = 0)) (HZ : Bx (wtB z 0 ((n : Int) - 2) = false)) :
    Calls Try.prog 22 #[.slice A n c, .agg #[.int .i64 z, .int .i64 lo, .int .i64 hi]] w fun e w' => e = .returned (.tuple #[.agg #[.int .i64 0, .int .i64 0, .int .i64 0, .int .i64 0], .int .i64 6]) ∧ Below w.heap.size w w' := by
  have HA := Bx.mk hA
  clear hA
  have hw : IntKind.i64.wrap ((n : Int) - 2) = (n : Int) - 2 := IntWalk.i64_in _ (by omega)
  go_enter Try.func22, Try.ntmps22
  go_wp2_with (go_at_call 25; refine (checkZonesP_any A n c p _ (HA.out.below (Nat.le_refl _) (((Below.refl _ _).alloc (Nat.le_refl _) _).alloc (by simp) _)) hn).mono ?_; rw [HE.out]; rintro e wx ⟨rfl, rfl⟩)
  go_wp2_with (go_at_call 89; refine (isWithin_any z 0 ((n : Int) - 2) _).mono ?_; rw [HZ.out]; rintro e wx ⟨rfl, rfl⟩)
  refine bodyPost_ret (ret_read rfl _ _ _ _ _ _ _ _ rfl rfl (by simp [go_sem, World.cell?_alloc_past]) (by simp [go_sem, World.cell?_alloc_past]) (by simp [go_sem, World.cell?_alloc_past]) (by simp [go_sem, World.cell?_alloc_past])) rfl ⟨rfl, ?_⟩
  repeat (first | exact Below.refl _ _ | refine Below.setCell ?_ (by simp) _ | refine Below.alloc ?_ (by first | exact Nat.le_refl _ | (simp; done) | (simp; omega)) _)

set_option maxRecDepth 100000 in
set_option maxHeartbeats 4000000 in
theorem redP_range (A : Option Addr) (n c : Nat) (p : Row) (z lo hi : Int) (w : World) (hA : IS w A n p) (hn : n ≤ 1000000) (hz : I64 z) (hlo : I64 lo) (hhi : I64 hi) (HE : Bx (ckZ n p = 0)) (HZ : Bx (wtB z 0 ((n : Int) - 2) = true)) (HR : Bx ((wtB lo (-1000000) 1000000 && wtB hi (-1000000) 1000000) = false)) :
    Calls Try.prog 22 #[.slice A n c, .agg #[.int .i64 z, .int .i64 lo, .int .i64 hi]] w fun e w' => e = .returned (.tuple #[.agg #[.int .i64 0, .int .i64 0, .int .i64 0, .int .i64 0], .int .i64 2]) ∧ Below w.heap.size w w' := by
  have HA := Bx.mk hA
  clear hA
  have hw : IntKind.i64.wrap ((n : Int) - 2) = (n : Int) - 2 := IntWalk.i64_in _ (by omega)
  go_enter Try.func22, Try.ntmps22
  go_wp2_with (go_at_call 25; refine (checkZonesP_any A n c p _ (HA.out.below (Nat.le_refl _) (((Below.refl _ _).alloc (Nat.le_refl _) _).alloc (by simp) _)) hn).mono ?_; rw [HE.out]; rintro e wx ⟨rfl, rfl⟩)
  go_wp2_with (go_at_call 89; refine (isWithin_any z 0 ((n : Int) - 2) _).mono ?_; rw [HZ.out]; rintro e wx ⟨rfl, rfl⟩)
  go_wp2_with (go_at_call 90; refine (areSmall2_any _ lo hi _ (by simp) (by simp [go_sem, World.cell?_alloc_past]) (by simp [go_sem, World.cell?_alloc_past]) hlo hhi).mono ?_; rw [HR.out]; rintro e wx ⟨rfl, rfl⟩)
  refine bodyPost_ret (ret_read rfl _ _ _ _ _ _ _ _ rfl rfl (by simp [go_sem, World.cell?_alloc_past]) (by simp [go_sem, World.cell?_alloc_past]) (by simp [go_sem, World.cell?_alloc_past]) (by simp [go_sem, World.cell?_alloc_past])) rfl ⟨rfl, ?_⟩
  repeat (first | exact Below.refl _ _ | refine Below.setCell ?_ (by simp) _ | refine Below.alloc ?_ (by first | exact Nat.le_refl _ | (simp; done) | (simp; omega)) _)

set_option maxRecDepth 100000 in
set_option maxHeartbeats 4000000 in
theorem redP_order (A : Option Addr) (n c : Nat) (p : Row) (z lo hi : Int) (w : World) (hA : IS w A n p) (hn : n ≤ 1000000) (hz : I64 z) (hlo : I64 lo) (hhi : I64 hi) (HE : Bx (ckZ n p = 0)) (HZ : Bx (wtB z 0 ((n : Int) - 2) = true)) (HR : Bx ((wtB lo (-1000000) 1000000 && wtB hi (-1000000) 1000000) = true)) (hord : hi < lo) :
    Calls Try.prog 22 #[.slice A n c, .agg #[.int .i64 z, .int .i64 lo, .int .i64 hi]] w fun e w' => e = .returned (.tuple #[.agg #[.int .i64 0, .int .i64 0, .int .i64 0, .int .i64 0], .int .i64 9]) ∧ Below w.heap.size w w' := by
  have HA := Bx.mk hA
  clear hA
  have hw : IntKind.i64.wrap ((n : Int) - 2) = (n : Int) - 2 := IntWalk.i64_in _ (by omega)
  go_enter Try.func22, Try.ntmps22
  go_wp2_with (go_at_call 25; refine (checkZonesP_any A n c p _ (HA.out.below (Nat.le_refl _) (((Below.refl _ _).alloc (Nat.le_refl _) _).alloc (by simp) _)) hn).mono ?_; rw [HE.out]; rintro e wx ⟨rfl, rfl⟩)
  go_wp2_with (go_at_call 89; refine (isWithin_any z 0 ((n : Int) - 2) _).mono ?_; rw [HZ.out]; rintro e wx ⟨rfl, rfl⟩)
  go_wp2_with (go_at_call 90; refine (areSmall2_any _ lo hi _ (by simp) (by simp [go_sem, World.cell?_alloc_past]) (by simp [go_sem, World.cell?_alloc_past]) hlo hhi).mono ?_; rw [HR.out]; rintro e wx ⟨rfl, rfl⟩)
  refine bodyPost_ret (ret_read rfl _ _ _ _ _ _ _ _ rfl rfl (by simp [go_sem, World.cell?_alloc_past]) (by simp [go_sem, World.cell?_alloc_past]) (by simp [go_sem, World.cell?_alloc_past]) (by simp [go_sem, World.cell?_alloc_past])) rfl ⟨rfl, ?_⟩
  repeat (first | exact Below.refl _ _ | refine Below.setCell ?_ (by simp) _ | refine Below.alloc ?_ (by first | exact Nat.le_refl _ | (simp; done) | (simp; omega)) _)

end Go.Proofs.Ytokeimlnlmobpaa
