/- Walks: whole numbers of any size. -/
import Derived.Test.YtdlddfmodbcnmaaW11
import Derived.Deep.RegionHeld3
set_option linter.unusedVariables false
set_option linter.unusedSimpArgs false
namespace Go.Proofs.Ytdlddfmodbcnmaa
open Go.RowKit

/-- The number of a sign and words. -/
def LG (w : World) (b : Bool) (sv : Value) (z : Int) (L : Nat) : Prop :=
  ∃ (A : Option Addr) (n c : Nat) (f : Nat → Int), sv = .slice A n c ∧ WS w A n f ∧ Can f n ∧ n ≤ L ∧ z = if b then -(vf f n) else vf f n
theorem LG.below {w w' : World} {b : Bool} {sv : Value} {z : Int} {L B : Nat} (h : LG w b sv z L) (hB : w.heap.size ≤ B) (hb : Below B w w') : LG w' b sv z L := by
  obtain ⟨A, n, c, f, e, h1, h2, h3, h4⟩ := h
  exact ⟨A, n, c, f, e, h1.below hB hb, h2, h3, h4⟩
theorem LG.more {w : World} {b : Bool} {sv : Value} {z : Int} {L L' : Nat} (h : LG w b sv z L) (hL : L ≤ L') : LG w b sv z L' := by
  obtain ⟨A, n, c, f, e, h1, h2, h3, h4⟩ := h
  exact ⟨A, n, c, f, e, h1, h2, by omega, h4⟩

theorem WS.set2 {w : World} {A : Option Addr} {n : Nat} {f : Nat → Int} {b : Nat} {x : Bool} (h : WS w A n f) (hb : w.cell? ⟨b, 0, none⟩ = some (.bool x)) (u v : Value) : WS ((w.setCell ⟨b, 0, none⟩ u).setCell ⟨b, 1, none⟩ v) A n f :=
  ⟨h.1, fun hn => by
    obtain ⟨g, e, hl, hc⟩ := h.2 hn
    have hne : b ≠ g := by rintro rfl; have h0 := hc 0 hn; rw [hb] at h0; cases h0
    refine ⟨g, e, by simpa [World.setCell] using hl, fun j hj => ?_⟩
    rw [World.cell?_setCell_other _ _ _ _ (by simp <;> omega), World.cell?_setCell_other _ _ _ _ (by simp <;> omega)]
    exact hc j hj⟩
theorem LG.set2 {w : World} {b : Bool} {sv : Value} {z : Int} {L g : Nat} {x : Bool} (h : LG w b sv z L) (hb : w.cell? ⟨g, 0, none⟩ = some (.bool x)) (u v : Value) : LG ((w.setCell ⟨g, 0, none⟩ u).setCell ⟨g, 1, none⟩ v) b sv z L := by
  obtain ⟨A, n, c, f, e, h1, h2, h3, h4⟩ := h
  exact ⟨A, n, c, f, e, h1.set2 hb u v, h2, h3, h4⟩

theorem ret_long {fn : Func} {p : Tmp} (h : fn.results = #[.cell p 130]) (tmps : Array Value) (w : World) (b : Nat) (x y : Value)
    (ht : tmps.getD p undef = .pointer (some ⟨b, 0, none⟩)) (h0 : w.cell? ⟨b, 0, none⟩ = some x) (h1 : w.cell? ⟨b, 1, none⟩ = some y) :
    (results fn tmps).run Try.prog w = .ok (.agg #[x, y]) w := by
  rw [results_cell1 h, ht]
  simp [go_sem, h0, h1]

set_option maxHeartbeats 1000000 in
theorem times_any (b1 b2 : Bool) (s1 s2 : Value) (z1 z2 : Int) (L1 L2 : Nat) (w : World) (h1 : LG w b1 s1 z1 L1) (h2 : LG w b2 s2 z2 L2) (l1 : L1 ≤ 1000000000000) (l2 : L2 ≤ 1000000000000) :
    Calls Try.prog 123 #[.agg #[.bool b1, s1], .agg #[.bool b2, s2]] w fun e w' => ∃ b s, e = .returned (.agg #[.bool b, s]) ∧ LG w' b s (z1 * z2) (L1 + L2) ∧ Below w.heap.size w w' := by
  obtain ⟨A, n, c, f, rfl, hA, cf, hn, hz1⟩ := h1
  obtain ⟨C, m, d, g, rfl, hC, cg, hm, hz2⟩ := h2
  have HZ1 := Lib.hid hz1
  have HZ2 := Lib.hid hz2
  clear hz1 hz2
  go_enter Try.func123, Try.ntmps123
  go_wp2
  go_region_held3 (fun w' => w'.cell? ⟨w.heap.size, 0, none⟩ = some (.bool b1) ∧ w'.cell? ⟨w.heap.size, 1, none⟩ = some (.slice A n c) ∧ w'.cell? ⟨w.heap.size + 1, 0, none⟩ = some (.bool b2) ∧ w'.cell? ⟨w.heap.size + 1, 1, none⟩ = some (.slice C m d)) (first | (simp [go_sem, World.cell?_alloc_past]; done) | (simp [go_sem, World.cell?_alloc_past, hcK]; done))
    (first
      | (go_at_call 139; refine (wordsTimes_any A C n m c d f g _ (by exact hA.below (Nat.le_refl _) (by repeat (first | exact Below.refl _ _ | refine Below.drew ?_ | refine Below.drewN' ?_ _ | refine Below.alloc ?_ (by first | exact Nat.le_refl _ | (simp; done) | (simp; omega)) _))) (by exact hC.below (Nat.le_refl _) (by repeat (first | exact Below.refl _ _ | refine Below.drew ?_ | refine Below.drewN' ?_ _ | refine Below.alloc ?_ (by first | exact Nat.le_refl _ | (simp; done) | (simp; omega)) _))) (by omega) (by omega)).mono ?_; rintro e w1 ⟨R, r, k, hh, rfl, hR, hr, ht, hv, hk1, hk2, hB1⟩; obtain ⟨hcK, hfK⟩ := bcell hB1))
  go_wp2
  obtain ⟨r0, r1⟩ := set2 (w := w1) (b := w.heap.size + 1 + 1) (x := .bool false) (y := .slice none 0 0) (.bool (!b1 == b2)) (.slice R r k) (by rw [hcK _ _ (by simp)]; simp [go_sem, World.cell?_alloc_past]) (by rw [hcK _ _ (by simp)]; simp [go_sem, World.cell?_alloc_past])
  have hz := hB1.size
  simp at hz
  refine bodyPost_ret (ret_long rfl _ _ _ _ _ rfl r0 r1) rfl ⟨_, _, rfl, ⟨R, r, k, hh, rfl, ?_, ht, by omega, ?_⟩, ?_⟩
  · exact hR.set2 (by rw [hcK _ _ (by simp)]; simp [go_sem, World.cell?_alloc_past]; rfl) _ _
  · rw [hv, HZ1.out, HZ2.out]; cases b1 <;> cases b2 <;> simp [Int.neg_mul, Int.mul_neg]
  · exact (((((by repeat (first | exact Below.refl _ _ | refine Below.drew ?_ | refine Below.drewN' ?_ _ | refine Below.alloc ?_ (by first | exact Nat.le_refl _ | (simp; done) | (simp; omega)) _)) : Below w.heap.size w _).trans (hB1.mono (by simp; omega))).setCell (by simp; omega) _).setCell (by simp; omega) _)

theorem withoutZeros_one (b : Nat) (x : Int) (w : World) (hx : U64 x) (hb : b < w.heap.size) (hc : w.cell? ⟨b, 0, none⟩ = some (.int .u64 x)) :
    Calls Try.prog 137 #[.slice (some ⟨b, 0, none⟩) 1 1] w fun e w' => ∃ m, m ≤ 1 ∧ Can (fun _ => x) m ∧ vf (fun _ => x) m = x ∧ WS w (some ⟨b, 0, none⟩) m (fun _ => x) ∧ e = .returned (.slice (some ⟨b, 0, none⟩) m 1) ∧ w = w' := by
  have h0 : ∀ j, j < 1 → w.cell? ⟨b, j, none⟩ = some (.int .u64 x) := by
    intro j hj
    obtain rfl : j = 0 := by omega
    exact hc
  refine (withoutZeros_any b 1 1 (fun _ => x) w h0 (by omega) (by omega)).mono ?_
  rintro e w' ⟨m, h1, h2, h3, h4, h5⟩
  exact ⟨m, h1, h2, (vf_trim 1 h1 h3).symm.trans (by simp [vf]), ⟨fun _ _ => hx, fun hm => ⟨b, rfl, hb, fun j hj => h0 j (by omega)⟩⟩, h4, h5⟩

set_option maxHeartbeats 1000000 in
theorem longOf_any (n : Int) (w : World) (hn : I64 n) :
    Calls Try.prog 121 #[.int .i64 n] w fun e w' => ∃ b s, e = .returned (.agg #[.bool b, s]) ∧ LG w' b s n 1 ∧ Below w.heap.size w w' := by
  have s1 := sz_nonneg n
  have s2 := sz_max hn.1 hn.2
  have HS := Lib.hid (show n = if decide (n < 0) then -sz n else sz n by unfold sz; split <;> simp_all <;> omega)
  go_enter Try.func121, Try.ntmps121
  go_wp2_with (first
    | (go_at_call 87; refine (size_any _ _ hn.1 hn.2).mono ?_; rintro e w' ⟨rfl, rfl⟩)
    | (go_at_call 137; refine (withoutZeros_one _ _ _ ⟨s1, by omega⟩ (by simp) (by simp [go_sem])).mono ?_; rintro e w' ⟨r, hr, cr, hv, hW, rfl, rfl⟩))
  refine bodyPost_ret (ret_long rfl _ _ _ (.bool (decide (n < 0))) _ rfl (by simp [go_sem, World.cell?_alloc_past]) (by simp [go_sem, World.cell?_alloc_past]; rfl)) rfl ⟨_, _, rfl, ⟨_, r, 1, _, rfl, ?_, cr, hr, ?_⟩, ?_⟩
  · refine ⟨fun _ _ => show U64 (sz n) from ⟨s1, by omega⟩, fun hm => ⟨_, rfl, by simp, fun j hj => ?_⟩⟩
    obtain rfl : j = 0 := by omega
    simp [go_sem]
  · rw [hv]; exact HS.out
  · exact ((Below.refl w.heap.size w).alloc (Nat.le_refl _) _).alloc (by simp) _

set_option maxHeartbeats 1000000 in
theorem sign_any (b : Bool) (sv : Value) (z : Int) (L : Nat) (w : World) (h : LG w b sv z L) (hL : L ≤ 1000000000000) :
    Calls Try.prog 125 #[.agg #[.bool b, sv]] w fun e w' => e = .returned (.int .i64 (cmpI z 0)) ∧ Below w.heap.size w w' := by
  obtain ⟨A, n, c, f, rfl, hA, cf, hn, hz⟩ := h
  have hv := (vf_bd n hA.1).1
  by_cases h0 : n = 0
  · subst h0
    have HR := Lib.hid (show cmpI z 0 = 0 by rw [hz]; cases b <;> rfl)
    clear hz
    go_enter Try.func125, Try.ntmps125
    go_wp2
    go_ret
    exact ⟨ret_int HR.out.symm, (Below.refl _ _).alloc (Nat.le_refl _) _⟩
  · have hp : 0 < vf f n := by
      have h2 : vf f n ≠ 0 := fun h => h0 ((cf.zero hA.1).1 h)
      omega
    have h0' : ((n : Int) == 0) = false := by simpa using h0
    cases b with
    | true =>
      have HR := Lib.hid (show cmpI z 0 = -1 by rw [hz]; exact cmpI_lt (by simp; omega))
      clear hz h0
      go_enter Try.func125, Try.ntmps125
      go_wp2
      go_ret
      exact ⟨ret_int HR.out.symm, (Below.refl _ _).alloc (Nat.le_refl _) _⟩
    | false =>
      have HR := Lib.hid (show cmpI z 0 = 1 by rw [hz]; exact cmpI_gt (by simp; omega))
      clear hz h0
      go_enter Try.func125, Try.ntmps125
      go_wp2
      go_ret
      exact ⟨ret_int HR.out.symm, (Below.refl _ _).alloc (Nat.le_refl _) _⟩

set_option maxHeartbeats 1000000 in
theorem opposite_any (b : Bool) (sv : Value) (z : Int) (L : Nat) (w : World) (h : LG w b sv z L) :
    Calls Try.prog 133 #[.agg #[.bool b, sv]] w fun e w' => ∃ b' s, e = .returned (.agg #[.bool b', s]) ∧ LG w' b' s (-z) L ∧ Below w.heap.size w w' := by
  obtain ⟨A, n, c, f, rfl, hA, cf, hn, hz⟩ := h
  have HZ := Lib.hid hz
  clear hz
  go_enter Try.func133, Try.ntmps133
  go_wp2
  refine bodyPost_ret (ret_long rfl _ _ _ (.bool (!b)) (.slice A n c) rfl (by simp [go_sem, World.cell?_alloc_past]) (by simp [go_sem, World.cell?_alloc_past])) rfl ⟨_, _, rfl, ⟨A, n, c, f, rfl, hA.below (Nat.le_refl _) (by repeat (first | exact Below.refl _ _ | refine Below.drew ?_ | refine Below.drewN' ?_ _ | refine Below.alloc ?_ (by first | exact Nat.le_refl _ | (simp; done) | (simp; omega)) _)), cf, hn, ?_⟩, (by repeat (first | exact Below.refl _ _ | refine Below.drew ?_ | refine Below.drewN' ?_ _ | refine Below.alloc ?_ (by first | exact Nat.le_refl _ | (simp; done) | (simp; omega)) _))⟩
  rw [HZ.out]; cases b <;> simp

set_option maxHeartbeats 1000000 in
theorem longSize_any (b : Bool) (sv : Value) (z : Int) (L : Nat) (w : World) (h : LG w b sv z L) :
    Calls Try.prog 146 #[.agg #[.bool b, sv]] w fun e w' => ∃ b' s, e = .returned (.agg #[.bool b', s]) ∧ LG w' b' s (sz z) L ∧ Below w.heap.size w w' := by
  obtain ⟨A, n, c, f, rfl, hA, cf, hn, hz⟩ := h
  have HZ := Lib.hid hz
  have hv := (vf_bd n hA.1).1
  clear hz
  go_enter Try.func146, Try.ntmps146
  go_wp2
  refine bodyPost_ret (ret_long rfl _ _ _ (.bool false) (.slice A n c) rfl (by simp [go_sem, World.cell?_alloc_past]) (by simp [go_sem, World.cell?_alloc_past])) rfl ⟨_, _, rfl, ⟨A, n, c, f, rfl, hA.below (Nat.le_refl _) (by repeat (first | exact Below.refl _ _ | refine Below.drew ?_ | refine Below.drewN' ?_ _ | refine Below.alloc ?_ (by first | exact Nat.le_refl _ | (simp; done) | (simp; omega)) _)), cf, hn, ?_⟩, (by repeat (first | exact Below.refl _ _ | refine Below.drew ?_ | refine Below.drewN' ?_ _ | refine Below.alloc ?_ (by first | exact Nat.le_refl _ | (simp; done) | (simp; omega)) _))⟩
  rw [HZ.out]; unfold sz; cases b <;> simp <;> omega

set_option maxHeartbeats 1000000 in
theorem plus_same (b : Bool) (s1 s2 : Value) (z1 z2 : Int) (L : Nat) (w : World) (h1 : LG w b s1 z1 L) (h2 : LG w b s2 z2 L) (l1 : L ≤ 1000000000000) :
    Calls Try.prog 124 #[.agg #[.bool b, s1], .agg #[.bool b, s2]] w fun e w' => ∃ b s, e = .returned (.agg #[.bool b, s]) ∧ LG w' b s (z1 + z2) (L + 1) ∧ Below w.heap.size w w' := by
  obtain ⟨A, n, c, f, rfl, hA, cf, hn, hz1⟩ := h1
  obtain ⟨C, m, d, g, rfl, hC, cg, hm, hz2⟩ := h2
  have HZ1 := Lib.hid hz1
  have HZ2 := Lib.hid hz2
  clear hz1 hz2
  have hbb : (b == b) = true := by simp
  go_enter Try.func124, Try.ntmps124
  go_wp2
  go_region_held3 (fun w' => w'.cell? ⟨w.heap.size, 0, none⟩ = some (.bool b) ∧ w'.cell? ⟨w.heap.size, 1, none⟩ = some (.slice A n c) ∧ w'.cell? ⟨w.heap.size + 1, 1, none⟩ = some (.slice C m d)) (first | (simp [go_sem, World.cell?_alloc_past]; done) | (simp [go_sem, World.cell?_alloc_past, hcK]; done))
    (first
      | (go_at_call 140; refine (wordsPlus_any A C n m c d f g _ (by exact hA.below (Nat.le_refl _) (by repeat (first | exact Below.refl _ _ | refine Below.drew ?_ | refine Below.drewN' ?_ _ | refine Below.alloc ?_ (by first | exact Nat.le_refl _ | (simp; done) | (simp; omega)) _))) (by exact hC.below (Nat.le_refl _) (by repeat (first | exact Below.refl _ _ | refine Below.drew ?_ | refine Below.drewN' ?_ _ | refine Below.alloc ?_ (by first | exact Nat.le_refl _ | (simp; done) | (simp; omega)) _))) (by omega) (by omega)).mono ?_; rintro e w1 ⟨R, r, k, hh, rfl, hR, hr, ht, hv, hk1, hk2, hB1⟩; obtain ⟨hcK, hfK⟩ := bcell hB1))
  go_wp2
  obtain ⟨r0, r1⟩ := set2 (w := w1) (b := w.heap.size + 1 + 1) (x := .bool false) (y := .slice none 0 0) (.bool b) (.slice R r k) (by rw [hcK _ _ (by simp)]; simp [go_sem, World.cell?_alloc_past]) (by rw [hcK _ _ (by simp)]; simp [go_sem, World.cell?_alloc_past])
  have hz := hB1.size
  simp at hz
  refine bodyPost_ret (ret_long rfl _ _ _ _ _ rfl r0 r1) rfl ⟨_, _, rfl, ⟨R, r, k, hh, rfl, ?_, ht, by omega, ?_⟩, ?_⟩
  · exact hR.set2 (by rw [hcK _ _ (by simp)]; simp [go_sem, World.cell?_alloc_past]; rfl) _ _
  · rw [hv, HZ1.out, HZ2.out]; cases b <;> simp <;> omega
  · exact (((((by repeat (first | exact Below.refl _ _ | refine Below.drew ?_ | refine Below.drewN' ?_ _ | refine Below.alloc ?_ (by first | exact Nat.le_refl _ | (simp; done) | (simp; omega)) _)) : Below w.heap.size w _).trans (hB1.mono (by simp; omega))).setCell (by simp; omega) _).setCell (by simp; omega) _)

end Go.Proofs.Ytdlddfmodbcnmaa
