/- Contracts of the program, joined: W27 W28 W29 W30 W31 Fr W32 -/
import Derived.Test.YtfnmnnbmhfbkbaaBa
/-! W27 -/
set_option linter.unusedVariables false
set_option linter.unusedSimpArgs false
namespace Go.Proofs.Ytfnmnnbmhfbkbaa
open Go.RowKit

theorem gcdT_step (a b : Int) : gcdI b (a.tmod b) = gcdI a b := by
  unfold gcdI
  show ((Nat.gcd b.natAbs (a.tmod b).natAbs : Nat) : Int) = ((Nat.gcd a.natAbs b.natAbs : Nat) : Int)
  rw [Int.natAbs_tmod, Nat.gcd_comm, ← Nat.gcd_rec, Nat.gcd_comm]
theorem gcdT_zero (a : Int) : gcdI a 0 = sz a := by unfold gcdI sz; rw [Int.gcd_zero_right]
theorem tmod_bd {a b : Int} (hb : b ≠ 0) : -(sz b) < a.tmod b ∧ a.tmod b < sz b := by
  have h1 : (a.tmod b).natAbs < b.natAbs := by rw [Int.natAbs_tmod]; exact Nat.mod_lt _ (by omega)
  unfold sz; omega

set_option maxHeartbeats 400000 in
theorem absB_any (n : Int) (w : World) (h1 : -9223372036854775807 ≤ n) (h2 : n ≤ 9223372036854775807) :
    Calls Try.prog 63 #[.int .i64 n] w fun e w' => e = .returned (.int .i64 (sz n)) ∧ w = w' := by
  by_cases h : n < 0
  · have hw : IntKind.i64.wrap (-n) = -n := IntWalk.i64_in _ (by omega)
    have HN := Lib.hid (show -n = sz n by unfold sz; omega)
    go_enter Try.func63, Try.ntmps63
    go_wp2
    go_ret
    exact ⟨ret_int HN.out, rfl⟩
  · have HN := Lib.hid (show n = sz n by unfold sz; omega)
    go_enter Try.func63, Try.ntmps63
    go_wp2
    go_ret
    exact ⟨ret_int HN.out, rfl⟩

set_option maxHeartbeats 1000000 in
theorem gcdB_any (a b : Int) (w : World) (ha : I64 a) (hb : -9223372036854775807 ≤ b) (hb' : b ≤ 9223372036854775807) (h0 : b ≠ 0 ∨ a ≠ -9223372036854775808) :
    Calls Try.prog 88 #[.int .i64 a, .int .i64 b] w fun e w' => e = .returned (.int .i64 (gcdI a b)) ∧ ∃ k, w' = w.drewN k := by
  go_enter Try.func88, Try.ntmps88
  go_wp2
  go_loopw [0, 1] (fun x y wr => ∃ p q : Int, I64 p ∧ -9223372036854775807 ≤ q ∧ q ≤ 9223372036854775807 ∧ (q ≠ 0 ∨ p ≠ -9223372036854775808) ∧ x = .int .i64 p ∧ y = .int .i64 q ∧ Hid (gcdI p q = gcdI a b) ∧ ∃ k, wr = w.drewN k) (fun _ y _ => (intOf y).natAbs)
  case atStart => exact ⟨a, b, ha, hb, hb', h0, rfl, rfl, rfl, 0, rfl⟩
  case round =>
    obtain ⟨p, q, hp, hq, hq', hpq, rfl, rfl, HG, k, rfl⟩ := hrel
    obtain ⟨hp1, hp2⟩ := hp
    by_cases hz : q = 0
    · subst hz
      have hp3 : p ≠ -9223372036854775808 := by rcases hpq with h | h; exact absurd rfl h; exact h
      have HG2 := Lib.hid (show sz p = gcdI a b by rw [← HG.out, gcdT_zero])
      clear hpq
      go_wp2_with (go_at_call 63; refine (absB_any p _ (by omega) hp2).mono ?_; rintro e w1 ⟨rfl, rfl⟩)
      go_ret
      exact ⟨ret_int HG2.out, k, rfl⟩
    · obtain ⟨m1, m2⟩ := tmod_bd (a := p) hz
      have s1 : sz q ≤ 9223372036854775807 := sz_le (by omega) hq'
      have HS := Lib.hid (gcdT_step p q)
      have hw : IntKind.i64.wrap (p.tmod q) = p.tmod q := IntWalk.i64_in _ (by omega)
      clear hpq
      go_wp2
      go_region
      go_wp2
      go_roundw
      case rel => exact ⟨q, p.tmod q, ⟨by omega, hq'⟩, by omega, by omega, .inr (by omega), rfl, by first | rfl | rw [hw], HS.out.trans HG.out, k + 1, rfl⟩
      case measure =>
        have h3 : (p.tmod q).natAbs < q.natAbs := by rw [Int.natAbs_tmod]; exact Nat.mod_lt _ (by omega)
        simp [intOf]; exact Nat.mod_lt _ (by omega)

end Go.Proofs.Ytfnmnnbmhfbkbaa

/-! W28 -/
namespace Go.Proofs.Ytfnmnnbmhfbkbaa
open Go.RowKit

set_option maxHeartbeats 1000000 in
theorem checkFracR_any (n d : Int) (w : World) (hn : I64 n) (hd : I64 d) :
    Calls Try.prog 27 #[.agg #[.int .i64 n, .int .i64 d]] w fun e w' => e = .returned (.int .i64 (ckF n d)) ∧ Below w.heap.size w w' := by
  have n1 := hn.1
  have n2 := hn.2
  have d1 := hd.1
  have d2 := hd.2
  by_cases h1 : d ≤ 0
  · have h1' : d < 1 := by omega
    have HR := Lib.hid (show ckF n d = 3 by unfold ckF; rw [if_pos h1])
    go_enter Try.func27, Try.ntmps27
    go_wp2
    go_ret
    exact ⟨ret_int HR.out.symm, by repeat (first | exact Below.refl _ _ | refine Below.drew ?_ | refine Below.drewN' ?_ _ | refine Below.alloc ?_ (by first | exact Nat.le_refl _ | (simp; done) | (simp; omega)) _)⟩
  · have h1' : ¬ d < 1 := by omega
    have hz : sz n = if n < 0 then -n else n := by unfold sz; split <;> omega
    by_cases h2 : gcdI n d = 1
    · have hb : (gcdI n d != 1) = false := by rw [h2]; rfl
      have HR := Lib.hid (show ckF n d = if 1000000000 < sz n then 2 else if 1000000000 < d then 2 else 0 by unfold ckF; rw [if_neg h1, if_neg (by simp [h2])])
      have HZ := Lib.hid hz
      clear h2 hz
      by_cases k1 : n < -1000000000
      · have HF := Lib.hid (show ckF n d = 2 by rw [HR.out, if_pos (by rw [HZ.out]; split <;> omega)])
        go_enter Try.func27, Try.ntmps27
        go_wp2_with (go_at_call 88; refine (gcdB_any n d _ hn (by omega) (by omega) (.inl (by omega))).mono ?_; rintro e w1 ⟨rfl, kk, rfl⟩)
        go_ret
        exact ⟨ret_int HF.out.symm, by repeat (first | exact Below.refl _ _ | refine Below.drew ?_ | refine Below.drewN' ?_ _ | refine Below.alloc ?_ (by first | exact Nat.le_refl _ | (simp; done) | (simp; omega)) _)⟩
      · by_cases k2 : 1000000000 < n
        · have HF := Lib.hid (show ckF n d = 2 by rw [HR.out, if_pos (by rw [HZ.out]; split <;> omega)])
          go_enter Try.func27, Try.ntmps27
          go_wp2_with (go_at_call 88; refine (gcdB_any n d _ hn (by omega) (by omega) (.inl (by omega))).mono ?_; rintro e w1 ⟨rfl, kk, rfl⟩)
          go_ret
          exact ⟨ret_int HF.out.symm, by repeat (first | exact Below.refl _ _ | refine Below.drew ?_ | refine Below.drewN' ?_ _ | refine Below.alloc ?_ (by first | exact Nat.le_refl _ | (simp; done) | (simp; omega)) _)⟩
        · by_cases k3 : 1000000000 < d
          · have HF := Lib.hid (show ckF n d = 2 by rw [HR.out, if_neg (by rw [HZ.out]; split <;> omega), if_pos k3])
            go_enter Try.func27, Try.ntmps27
            go_wp2_with (go_at_call 88; refine (gcdB_any n d _ hn (by omega) (by omega) (.inl (by omega))).mono ?_; rintro e w1 ⟨rfl, kk, rfl⟩)
            go_ret
            exact ⟨ret_int HF.out.symm, by repeat (first | exact Below.refl _ _ | refine Below.drew ?_ | refine Below.drewN' ?_ _ | refine Below.alloc ?_ (by first | exact Nat.le_refl _ | (simp; done) | (simp; omega)) _)⟩
          · have HF := Lib.hid (show ckF n d = 0 by rw [HR.out, if_neg (by rw [HZ.out]; split <;> omega), if_neg k3])
            go_enter Try.func27, Try.ntmps27
            go_wp2_with (go_at_call 88; refine (gcdB_any n d _ hn (by omega) (by omega) (.inl (by omega))).mono ?_; rintro e w1 ⟨rfl, kk, rfl⟩)
            go_ret
            exact ⟨ret_int HF.out.symm, by repeat (first | exact Below.refl _ _ | refine Below.drew ?_ | refine Below.drewN' ?_ _ | refine Below.alloc ?_ (by first | exact Nat.le_refl _ | (simp; done) | (simp; omega)) _)⟩
    · have hb : (gcdI n d != 1) = true := by simpa using h2
      have HR := Lib.hid (show ckF n d = 3 by unfold ckF; rw [if_neg h1, if_pos h2])
      clear h2 hz
      go_enter Try.func27, Try.ntmps27
      go_wp2_with (go_at_call 88; refine (gcdB_any n d _ hn (by omega) (by omega) (.inl (by omega))).mono ?_; rintro e w1 ⟨rfl, kk, rfl⟩)
      go_ret
      exact ⟨ret_int HR.out.symm, by repeat (first | exact Below.refl _ _ | refine Below.drew ?_ | refine Below.drewN' ?_ _ | refine Below.alloc ?_ (by first | exact Nat.le_refl _ | (simp; done) | (simp; omega)) _)⟩

end Go.Proofs.Ytfnmnnbmhfbkbaa

/-! W29 -/
namespace Go.Proofs.Ytfnmnnbmhfbkbaa
open Go.RowKit

def lowF (n d : Int) : Int × Int := ((if d < 0 then -n else n).tdiv (gcdI n d), (if d < 0 then -d else d).tdiv (gcdI n d))
theorem lowN_F (n d : Int) : lowN n d = if ckF (lowF n d).1 (lowF n d).2 ≠ 0 then (0, 0, 8) else ((lowF n d).1, (lowF n d).2, 0) := rfl

set_option maxHeartbeats 1000000 in
theorem lowestB_any (n d : Int) (w : World) (hn : -4000000000000000000 ≤ n) (hn' : n ≤ 4000000000000000000) (hd : -4000000000000000000 ≤ d) (hd' : d ≤ 4000000000000000000) (h0 : d ≠ 0) :
    Calls Try.prog 80 #[.int .i64 n, .int .i64 d] w fun e w' => e = .returned (.agg #[.int .i64 (lowF n d).1, .int .i64 (lowF n d).2]) ∧ Below w.heap.size w w' := by
  have s3 := sz_nonneg d
  have s4 := sz_le (b := 4000000000000000000) (by omega) hd'
  have g1 := gcdI_pos (n := n) (d := d) h0
  have g2 := gcdI_le (n := n) (d := d) h0
  have q1 := tdiv_bd hn hn' g1
  have q2 := tdiv_bd (n := d) (B := 4000000000000000000) (by omega) hd' g1
  have hI : I64 n := ⟨by omega, by omega⟩
  by_cases hneg : d < 0
  · have HF := Lib.hid (show lowF n d = (n.tdiv (-gcdI n d), d.tdiv (-gcdI n d)) by
      unfold lowF; rw [if_pos hneg, if_pos hneg, Int.neg_tdiv, Int.neg_tdiv, Int.tdiv_neg, Int.tdiv_neg])
    have hq1 : n.tdiv (-gcdI n d) = -n.tdiv (gcdI n d) := Int.tdiv_neg _ _
    have hq2 : d.tdiv (-gcdI n d) = -d.tdiv (gcdI n d) := Int.tdiv_neg _ _
    have HG := Lib.hid (show gcdI n d = gcdI n d from rfl)
    generalize hg : gcdI n d = g at *
    have HGG := Lib.hid hg
    clear hg HG
    have hw : IntKind.i64.wrap (-g) = -g := IntWalk.i64_in _ (by omega)
    have r1 : -4000000000000000000 ≤ n.tdiv (-g) ∧ n.tdiv (-g) ≤ 4000000000000000000 := by omega
    have r2 : -4000000000000000000 ≤ d.tdiv (-g) ∧ d.tdiv (-g) ≤ 4000000000000000000 := by omega
    clear hq1 hq2 q1 q2
    generalize hgm : -g = m at *
    have hm : m ≠ 0 := by omega
    have hm2 : ¬ m = -1 ∨ True := .inr trivial
    go_enter Try.func80, Try.ntmps80
    go_wp2_with (go_at_call 88; refine (gcdB_any n d _ hI (by omega) (by omega) (.inl h0)).mono ?_; rintro e w1 ⟨rfl, kk, rfl⟩; rw [HGG.out])
    go_region
    go_wp2
    obtain ⟨x0, x1⟩ := set2 (w := (w.alloc (Obj.cells #[Value.int IntKind.i64 0, Value.int IntKind.i64 0] 23)).drewN (kk + 1)) (b := w.heap.size) (x := .int .i64 0) (y := .int .i64 0) (.int .i64 (n.tdiv m)) (.int .i64 (d.tdiv m)) (by simp [go_sem, World.cell?_alloc_past]) (by simp [go_sem, World.cell?_alloc_past])
    refine bodyPost_ret (ret_frac1 rfl _ _ _ _ _ rfl x0 x1) rfl ⟨by rw [HF.out], ?_⟩
    exact (((((Below.refl w.heap.size w).alloc (Nat.le_refl _) _).drewN' _).setCell (Nat.le_refl _) _).setCell (Nat.le_refl _) _)
  · have HF := Lib.hid (show lowF n d = (n.tdiv (gcdI n d), d.tdiv (gcdI n d)) by unfold lowF; rw [if_neg hneg, if_neg hneg])
    generalize hg : gcdI n d = g at *
    have HGG := Lib.hid hg
    clear hg
    go_enter Try.func80, Try.ntmps80
    go_wp2_with (go_at_call 88; refine (gcdB_any n d _ hI (by omega) (by omega) (.inl h0)).mono ?_; rintro e w1 ⟨rfl, kk, rfl⟩; rw [HGG.out])
    go_region
    go_wp2
    obtain ⟨x0, x1⟩ := set2 (w := (w.alloc (Obj.cells #[Value.int IntKind.i64 0, Value.int IntKind.i64 0] 23)).drewN (kk + 1)) (b := w.heap.size) (x := .int .i64 0) (y := .int .i64 0) (.int .i64 (n.tdiv g)) (.int .i64 (d.tdiv g)) (by simp [go_sem, World.cell?_alloc_past]) (by simp [go_sem, World.cell?_alloc_past])
    refine bodyPost_ret (ret_frac1 rfl _ _ _ _ _ rfl x0 x1) rfl ⟨by rw [HF.out], ?_⟩
    exact (((((Below.refl w.heap.size w).alloc (Nat.le_refl _) _).drewN' _).setCell (Nat.le_refl _) _).setCell (Nat.le_refl _) _)

/-- What the reference makes of a numerator and a denominator. -/
theorem madeR_any (n d : Int) (w : World) (hn : -4000000000000000000 ≤ n) (hn' : n ≤ 4000000000000000000) (hd : -4000000000000000000 ≤ d) (hd' : d ≤ 4000000000000000000) (h0 : d ≠ 0) :
    Calls Try.prog 89 #[.int .i64 n, .int .i64 d] w fun e w' => e = .returned (.tuple #[.agg #[.int .i64 (lowN n d).1, .int .i64 (lowN n d).2.1], .int .i64 (lowN n d).2.2]) ∧ Below w.heap.size w w' := by
  have s3 := sz_nonneg d
  have g1 := gcdI_pos (n := n) (d := d) h0
  have hF1 : I64 (lowF n d).1 := by
    have := tdiv_bd (n := if d < 0 then -n else n) (B := 4000000000000000000) (by split <;> omega) (by split <;> omega) g1
    exact ⟨by show -9223372036854775808 ≤ (if d < 0 then -n else n).tdiv (gcdI n d); omega, by show (if d < 0 then -n else n).tdiv (gcdI n d) ≤ 9223372036854775807; omega⟩
  have hF2 : I64 (lowF n d).2 := by
    have := tdiv_bd (n := if d < 0 then -d else d) (B := 4000000000000000000) (by split <;> omega) (by split <;> omega) g1
    exact ⟨by show -9223372036854775808 ≤ (if d < 0 then -d else d).tdiv (gcdI n d); omega, by show (if d < 0 then -d else d).tdiv (gcdI n d) ≤ 9223372036854775807; omega⟩
  have HN := Lib.hid (lowN_F n d)
  have HLO := Lib.hid (fun wx => lowestB_any n d wx hn hn' hd hd' h0)
  clear s3 g1
  generalize lowF n d = R at *
  obtain ⟨x, y⟩ := R
  dsimp only at *
  by_cases he : ckF x y = 0
  · have he' : (ckF x y != 0) = false := by rw [he]; rfl
    have HR := Lib.hid (show lowN n d = (x, y, 0) by rw [HN.out, if_neg (by simpa using he)])
    clear he
    go_enter Try.func89, Try.ntmps89
    go_wp2_with (first
      | (go_at_call 80; refine (HLO.out _).mono ?_; rintro e w1 ⟨rfl, B1⟩; obtain ⟨hcK, hfK⟩ := bcell B1; have hz1 : w.heap.size + 1 ≤ w1.heap.size := (by have := B1.size; simp at this; omega); have k0 : w1.cell? ⟨w.heap.size, 0, none⟩ = some (.int .i64 0) := (by rw [hcK _ _ (by simp)]; simp [go_sem, World.cell?_alloc_past]); have k1 : w1.cell? ⟨w.heap.size, 1, none⟩ = some (.int .i64 0) := (by rw [hcK _ _ (by simp)]; simp [go_sem, World.cell?_alloc_past]); have k2 : w1.frozen? ⟨w.heap.size, 0, none⟩ = false := (by rw [hfK _ _ (by simp)]; simp [go_sem, World.frozen?_alloc_past]); have k3 : w1.frozen? ⟨w.heap.size, 1, none⟩ = false := (by rw [hfK _ _ (by simp)]; simp [go_sem, World.frozen?_alloc_past]))
      | (go_at_call 27; refine (checkFracR_any x y _ hF1 hF2).mono ?_; rintro e w2 ⟨rfl, B2⟩; obtain ⟨hcL, hfL⟩ := bcell B2; have hz2 : w1.heap.size + 1 ≤ w2.heap.size := (by have := B2.size; simp at this; omega); have j0 : w2.cell? ⟨w.heap.size, 0, none⟩ = some (.int .i64 0) := (by rw [hcL _ _ (by simp; omega), World.cell?_alloc_lt _ _ _ (by show w.heap.size < _; omega)]; exact k0); have j1 : w2.cell? ⟨w.heap.size, 1, none⟩ = some (.int .i64 0) := (by rw [hcL _ _ (by simp; omega), World.cell?_alloc_lt _ _ _ (by show w.heap.size < _; omega)]; exact k1); have j2 : w2.frozen? ⟨w.heap.size, 0, none⟩ = false := (((Below.refl w1.heap.size w1).alloc (Nat.le_refl _) _).trans (B2.mono (by simp)) |>.frozen (p := ⟨w.heap.size, 0, none⟩) (by show w.heap.size < w1.heap.size; omega)).trans k2; have j3 : w2.frozen? ⟨w.heap.size, 1, none⟩ = false := (((Below.refl w1.heap.size w1).alloc (Nat.le_refl _) _).trans (B2.mono (by simp)) |>.frozen (p := ⟨w.heap.size, 1, none⟩) (by show w.heap.size < w1.heap.size; omega)).trans k3; have l0 : w2.cell? ⟨w1.heap.size, 0, none⟩ = some (.int .i64 x) := (by rw [hcL _ _ (by simp)]; simp [go_sem]); have l1 : w2.cell? ⟨w1.heap.size, 1, none⟩ = some (.int .i64 y) := (by rw [hcL _ _ (by simp)]; simp [go_sem]); clear hcK hfK hcL hfL k0 k1 k2 k3))
    obtain ⟨r0, r1⟩ := set2 (w := w2) (b := w.heap.size) (x := .int .i64 0) (y := .int .i64 0) (.int .i64 x) (.int .i64 y) j0 j1
    refine bodyPost_ret (ret_frac rfl _ _ _ _ _ _ rfl rfl r0 r1) rfl ⟨by rw [HR.out]; rfl, ?_⟩
    exact ((((((Below.refl w.heap.size w).alloc (Nat.le_refl _) _).trans (B1.mono (by simp))).alloc (by omega) _).trans (B2.mono (by simp; omega))).setCell (Nat.le_refl _) _).setCell (Nat.le_refl _) _
  · have he' : (ckF x y != 0) = true := by simpa using he
    have HR := Lib.hid (show lowN n d = (0, 0, 8) by rw [HN.out, if_pos he])
    clear he
    go_enter Try.func89, Try.ntmps89
    go_wp2_with (first
      | (go_at_call 80; refine (HLO.out _).mono ?_; rintro e w1 ⟨rfl, B1⟩; obtain ⟨hcK, hfK⟩ := bcell B1; have hz1 : w.heap.size + 1 ≤ w1.heap.size := (by have := B1.size; simp at this; omega); have k0 : w1.cell? ⟨w.heap.size, 0, none⟩ = some (.int .i64 0) := (by rw [hcK _ _ (by simp)]; simp [go_sem, World.cell?_alloc_past]); have k1 : w1.cell? ⟨w.heap.size, 1, none⟩ = some (.int .i64 0) := (by rw [hcK _ _ (by simp)]; simp [go_sem, World.cell?_alloc_past]); have k2 : w1.frozen? ⟨w.heap.size, 0, none⟩ = false := (by rw [hfK _ _ (by simp)]; simp [go_sem, World.frozen?_alloc_past]); have k3 : w1.frozen? ⟨w.heap.size, 1, none⟩ = false := (by rw [hfK _ _ (by simp)]; simp [go_sem, World.frozen?_alloc_past]))
      | (go_at_call 27; refine (checkFracR_any x y _ hF1 hF2).mono ?_; rintro e w2 ⟨rfl, B2⟩; obtain ⟨hcL, hfL⟩ := bcell B2; have hz2 : w1.heap.size + 1 ≤ w2.heap.size := (by have := B2.size; simp at this; omega); have j0 : w2.cell? ⟨w.heap.size, 0, none⟩ = some (.int .i64 0) := (by rw [hcL _ _ (by simp; omega), World.cell?_alloc_lt _ _ _ (by show w.heap.size < _; omega)]; exact k0); have j1 : w2.cell? ⟨w.heap.size, 1, none⟩ = some (.int .i64 0) := (by rw [hcL _ _ (by simp; omega), World.cell?_alloc_lt _ _ _ (by show w.heap.size < _; omega)]; exact k1); have j2 : w2.frozen? ⟨w.heap.size, 0, none⟩ = false := (((Below.refl w1.heap.size w1).alloc (Nat.le_refl _) _).trans (B2.mono (by simp)) |>.frozen (p := ⟨w.heap.size, 0, none⟩) (by show w.heap.size < w1.heap.size; omega)).trans k2; have j3 : w2.frozen? ⟨w.heap.size, 1, none⟩ = false := (((Below.refl w1.heap.size w1).alloc (Nat.le_refl _) _).trans (B2.mono (by simp)) |>.frozen (p := ⟨w.heap.size, 1, none⟩) (by show w.heap.size < w1.heap.size; omega)).trans k3; have l0 : w2.cell? ⟨w1.heap.size, 0, none⟩ = some (.int .i64 x) := (by rw [hcL _ _ (by simp)]; simp [go_sem]); have l1 : w2.cell? ⟨w1.heap.size, 1, none⟩ = some (.int .i64 y) := (by rw [hcL _ _ (by simp)]; simp [go_sem]); clear hcK hfK hcL hfL k0 k1 k2 k3))
    obtain ⟨r0, r1⟩ := set2 (w := w2) (b := w.heap.size) (x := .int .i64 0) (y := .int .i64 0) (.int .i64 0) (.int .i64 0) j0 j1
    refine bodyPost_ret (ret_frac rfl _ _ _ _ _ _ rfl rfl r0 r1) rfl ⟨by rw [HR.out]; rfl, ?_⟩
    exact ((((((Below.refl w.heap.size w).alloc (Nat.le_refl _) _).trans (B1.mono (by simp))).alloc (by omega) _).trans (B2.mono (by simp; omega))).setCell (Nat.le_refl _) _).setCell (Nat.le_refl _) _

end Go.Proofs.Ytfnmnnbmhfbkbaa

/-! W30 -/
namespace Go.Proofs.Ytfnmnnbmhfbkbaa
open Go.RowKit

set_option maxHeartbeats 1000000 in
theorem addR_any (a b c d : Int) (w : World) (ha : ckF a b = 0) (hc : ckF c d = 0) :
    Calls Try.prog 29 #[.agg #[.int .i64 a, .int .i64 b], .agg #[.int .i64 c, .int .i64 d]] w fun e w' => e = .returned (.tuple #[.agg #[.int .i64 (lowN (a * d + c * b) (b * d)).1, .int .i64 (lowN (a * d + c * b) (b * d)).2.1], .int .i64 (lowN (a * d + c * b) (b * d)).2.2]) ∧ Below w.heap.size w w' := by
  obtain ⟨a1, a2, b1, b2, _⟩ := ckF_zero ha
  obtain ⟨c1, c2, d1, d2, _⟩ := ckF_zero hc
  clear ha hc
  have m1 := mul_b9 a1 a2 (y := d) (by omega) (by omega)
  have m2 := mul_b9 c1 c2 (y := b) (by omega) (by omega)
  have m3 := mul_b9 (x := b) (y := d) (by omega) (by omega) (by omega) (by omega)
  have m4 := mul_pos9 b1 d1
  have m5 := mul_b9 a1 a2 c1 c2
  have m6 := mul_b9 (x := b) (by omega) b2 c1 c2
  go_enter Try.func29, Try.ntmps29
  go_wp2_with (go_at_call 89; refine (madeR_any _ _ _ (by omega) (by omega) (by omega) (by omega) (by omega)).mono ?_; rintro e w2 ⟨rfl, B2⟩; obtain ⟨hc2, hf2⟩ := bcell B2; have hz2 : w.heap.size + 3 ≤ w2.heap.size := (by have := B2.size; simp at this; omega); have j0 : w2.cell? ⟨w.heap.size + 1 + 1, 0, none⟩ = some (.int .i64 0) := (by rw [hc2 _ _ (by simp)]; simp [go_sem, World.cell?_alloc_past]); have j1 : w2.cell? ⟨w.heap.size + 1 + 1, 1, none⟩ = some (.int .i64 0) := (by rw [hc2 _ _ (by simp)]; simp [go_sem, World.cell?_alloc_past]); have j2 : w2.frozen? ⟨w.heap.size + 1 + 1, 0, none⟩ = false := (by rw [hf2 _ _ (by simp)]; simp [go_sem, World.frozen?_alloc_past]); have j3 : w2.frozen? ⟨w.heap.size + 1 + 1, 1, none⟩ = false := (by rw [hf2 _ _ (by simp)]; simp [go_sem, World.frozen?_alloc_past]))
  obtain ⟨r0, r1⟩ := set2 (w := w2) (b := w.heap.size + 1 + 1) (x := .int .i64 0) (y := .int .i64 0) (.int .i64 (lowN (a * d + c * b) (b * d)).1) (.int .i64 (lowN (a * d + c * b) (b * d)).2.1) j0 j1
  refine bodyPost_ret (ret_frac rfl _ _ _ _ _ _ rfl rfl r0 r1) rfl ⟨rfl, ?_⟩
  exact (((((((Below.refl w.heap.size w).alloc (Nat.le_refl _) _).alloc (by simp) _).alloc (by simp; omega) _).trans (B2.mono (by simp; omega))).setCell (by simp; omega) _).setCell (by simp; omega) _)

set_option maxHeartbeats 1000000 in
theorem subR_any (a b c d : Int) (w : World) (ha : ckF a b = 0) (hc : ckF c d = 0) :
    Calls Try.prog 30 #[.agg #[.int .i64 a, .int .i64 b], .agg #[.int .i64 c, .int .i64 d]] w fun e w' => e = .returned (.tuple #[.agg #[.int .i64 (lowN (a * d - c * b) (b * d)).1, .int .i64 (lowN (a * d - c * b) (b * d)).2.1], .int .i64 (lowN (a * d - c * b) (b * d)).2.2]) ∧ Below w.heap.size w w' := by
  obtain ⟨a1, a2, b1, b2, _⟩ := ckF_zero ha
  obtain ⟨c1, c2, d1, d2, _⟩ := ckF_zero hc
  clear ha hc
  have m1 := mul_b9 a1 a2 (y := d) (by omega) (by omega)
  have m2 := mul_b9 c1 c2 (y := b) (by omega) (by omega)
  have m3 := mul_b9 (x := b) (y := d) (by omega) (by omega) (by omega) (by omega)
  have m4 := mul_pos9 b1 d1
  have m5 := mul_b9 a1 a2 c1 c2
  have m6 := mul_b9 (x := b) (by omega) b2 c1 c2
  go_enter Try.func30, Try.ntmps30
  go_wp2_with (go_at_call 89; refine (madeR_any _ _ _ (by omega) (by omega) (by omega) (by omega) (by omega)).mono ?_; rintro e w2 ⟨rfl, B2⟩; obtain ⟨hc2, hf2⟩ := bcell B2; have hz2 : w.heap.size + 3 ≤ w2.heap.size := (by have := B2.size; simp at this; omega); have j0 : w2.cell? ⟨w.heap.size + 1 + 1, 0, none⟩ = some (.int .i64 0) := (by rw [hc2 _ _ (by simp)]; simp [go_sem, World.cell?_alloc_past]); have j1 : w2.cell? ⟨w.heap.size + 1 + 1, 1, none⟩ = some (.int .i64 0) := (by rw [hc2 _ _ (by simp)]; simp [go_sem, World.cell?_alloc_past]); have j2 : w2.frozen? ⟨w.heap.size + 1 + 1, 0, none⟩ = false := (by rw [hf2 _ _ (by simp)]; simp [go_sem, World.frozen?_alloc_past]); have j3 : w2.frozen? ⟨w.heap.size + 1 + 1, 1, none⟩ = false := (by rw [hf2 _ _ (by simp)]; simp [go_sem, World.frozen?_alloc_past]))
  obtain ⟨r0, r1⟩ := set2 (w := w2) (b := w.heap.size + 1 + 1) (x := .int .i64 0) (y := .int .i64 0) (.int .i64 (lowN (a * d - c * b) (b * d)).1) (.int .i64 (lowN (a * d - c * b) (b * d)).2.1) j0 j1
  refine bodyPost_ret (ret_frac rfl _ _ _ _ _ _ rfl rfl r0 r1) rfl ⟨rfl, ?_⟩
  exact (((((((Below.refl w.heap.size w).alloc (Nat.le_refl _) _).alloc (by simp) _).alloc (by simp; omega) _).trans (B2.mono (by simp; omega))).setCell (by simp; omega) _).setCell (by simp; omega) _)

set_option maxHeartbeats 1000000 in
theorem mulR_any (a b c d : Int) (w : World) (ha : ckF a b = 0) (hc : ckF c d = 0) :
    Calls Try.prog 31 #[.agg #[.int .i64 a, .int .i64 b], .agg #[.int .i64 c, .int .i64 d]] w fun e w' => e = .returned (.tuple #[.agg #[.int .i64 (lowN (a * c) (b * d)).1, .int .i64 (lowN (a * c) (b * d)).2.1], .int .i64 (lowN (a * c) (b * d)).2.2]) ∧ Below w.heap.size w w' := by
  obtain ⟨a1, a2, b1, b2, _⟩ := ckF_zero ha
  obtain ⟨c1, c2, d1, d2, _⟩ := ckF_zero hc
  clear ha hc
  have m1 := mul_b9 a1 a2 (y := d) (by omega) (by omega)
  have m2 := mul_b9 c1 c2 (y := b) (by omega) (by omega)
  have m3 := mul_b9 (x := b) (y := d) (by omega) (by omega) (by omega) (by omega)
  have m4 := mul_pos9 b1 d1
  have m5 := mul_b9 a1 a2 c1 c2
  have m6 := mul_b9 (x := b) (by omega) b2 c1 c2
  go_enter Try.func31, Try.ntmps31
  go_wp2_with (go_at_call 89; refine (madeR_any _ _ _ (by omega) (by omega) (by omega) (by omega) (by omega)).mono ?_; rintro e w2 ⟨rfl, B2⟩; obtain ⟨hc2, hf2⟩ := bcell B2; have hz2 : w.heap.size + 3 ≤ w2.heap.size := (by have := B2.size; simp at this; omega); have j0 : w2.cell? ⟨w.heap.size + 1 + 1, 0, none⟩ = some (.int .i64 0) := (by rw [hc2 _ _ (by simp)]; simp [go_sem, World.cell?_alloc_past]); have j1 : w2.cell? ⟨w.heap.size + 1 + 1, 1, none⟩ = some (.int .i64 0) := (by rw [hc2 _ _ (by simp)]; simp [go_sem, World.cell?_alloc_past]); have j2 : w2.frozen? ⟨w.heap.size + 1 + 1, 0, none⟩ = false := (by rw [hf2 _ _ (by simp)]; simp [go_sem, World.frozen?_alloc_past]); have j3 : w2.frozen? ⟨w.heap.size + 1 + 1, 1, none⟩ = false := (by rw [hf2 _ _ (by simp)]; simp [go_sem, World.frozen?_alloc_past]))
  obtain ⟨r0, r1⟩ := set2 (w := w2) (b := w.heap.size + 1 + 1) (x := .int .i64 0) (y := .int .i64 0) (.int .i64 (lowN (a * c) (b * d)).1) (.int .i64 (lowN (a * c) (b * d)).2.1) j0 j1
  refine bodyPost_ret (ret_frac rfl _ _ _ _ _ _ rfl rfl r0 r1) rfl ⟨rfl, ?_⟩
  exact (((((((Below.refl w.heap.size w).alloc (Nat.le_refl _) _).alloc (by simp) _).alloc (by simp; omega) _).trans (B2.mono (by simp; omega))).setCell (by simp; omega) _).setCell (by simp; omega) _)

def quoR (a b c d : Int) : Int × Int × Int := if c = 0 then (0, 0, 11) else lowN (a * d) (b * c)
set_option maxHeartbeats 1000000 in
theorem quoR_any (a b c d : Int) (w : World) (ha : ckF a b = 0) (hc : ckF c d = 0) :
    Calls Try.prog 32 #[.agg #[.int .i64 a, .int .i64 b], .agg #[.int .i64 c, .int .i64 d]] w fun e w' => e = .returned (.tuple #[.agg #[.int .i64 (quoR a b c d).1, .int .i64 (quoR a b c d).2.1], .int .i64 (quoR a b c d).2.2]) ∧ Below w.heap.size w w' := by
  obtain ⟨a1, a2, b1, b2, _⟩ := ckF_zero ha
  obtain ⟨c1, c2, d1, d2, _⟩ := ckF_zero hc
  clear ha hc
  have m1 := mul_b9 a1 a2 (y := d) (by omega) (by omega)
  have m2 := mul_b9 c1 c2 (y := b) (by omega) (by omega)
  have m3 := mul_b9 (x := b) (y := d) (by omega) (by omega) (by omega) (by omega)
  have m4 := mul_pos9 b1 d1
  have m5 := mul_b9 a1 a2 c1 c2
  have m6 := mul_b9 (x := b) (by omega) b2 c1 c2
  by_cases h0 : c = 0
  · subst h0
    have HR := Lib.hid (show quoR a b 0 d = (0, 0, 11) from rfl)
    go_enter Try.func32, Try.ntmps32
    go_wp2
    refine bodyPost_ret (ret_frac rfl _ _ (w.heap.size + 1 + 1) (.int .i64 0) (.int .i64 0) (.int .i64 11) rfl rfl (by simp [go_sem, World.cell?_alloc_past]) (by simp [go_sem, World.cell?_alloc_past])) rfl ⟨by rw [HR.out], ?_⟩
    exact (((Below.refl w.heap.size w).alloc (Nat.le_refl _) _).alloc (by simp) _).alloc (by simp; omega) _
  · have h0' : (c == 0) = false := by simpa using h0
    have HR := Lib.hid (show quoR a b c d = lowN (a * d) (b * c) by unfold quoR; rw [if_neg h0])
    have M7 := Lib.hid (show b * c ≠ 0 from fun h => by rcases Int.mul_eq_zero.1 h with h | h <;> omega)
    go_enter Try.func32, Try.ntmps32
    go_wp2_with (go_at_call 89; refine (madeR_any _ _ _ (by omega) (by omega) (by omega) (by omega) (M7.out)).mono ?_; rintro e w2 ⟨rfl, B2⟩; obtain ⟨hc2, hf2⟩ := bcell B2; have hz2 : w.heap.size + 3 ≤ w2.heap.size := (by have := B2.size; simp at this; omega); have j0 : w2.cell? ⟨w.heap.size + 1 + 1, 0, none⟩ = some (.int .i64 0) := (by rw [hc2 _ _ (by simp)]; simp [go_sem, World.cell?_alloc_past]); have j1 : w2.cell? ⟨w.heap.size + 1 + 1, 1, none⟩ = some (.int .i64 0) := (by rw [hc2 _ _ (by simp)]; simp [go_sem, World.cell?_alloc_past]); have j2 : w2.frozen? ⟨w.heap.size + 1 + 1, 0, none⟩ = false := (by rw [hf2 _ _ (by simp)]; simp [go_sem, World.frozen?_alloc_past]); have j3 : w2.frozen? ⟨w.heap.size + 1 + 1, 1, none⟩ = false := (by rw [hf2 _ _ (by simp)]; simp [go_sem, World.frozen?_alloc_past]))
    obtain ⟨r0, r1⟩ := set2 (w := w2) (b := w.heap.size + 1 + 1) (x := .int .i64 0) (y := .int .i64 0) (.int .i64 (lowN (a * d) (b * c)).1) (.int .i64 (lowN (a * d) (b * c)).2.1) j0 j1
    refine bodyPost_ret (ret_frac rfl _ _ _ _ _ _ rfl rfl r0 r1) rfl ⟨by rw [HR.out]; rfl, ?_⟩
    exact (((((((Below.refl w.heap.size w).alloc (Nat.le_refl _) _).alloc (by simp) _).alloc (by simp; omega) _).trans (B2.mono (by simp; omega))).setCell (by simp; omega) _).setCell (by simp; omega) _)

set_option maxHeartbeats 1000000 in
theorem cmpR_any (a b c d : Int) (w : World) (ha : ckF a b = 0) (hc : ckF c d = 0) :
    Calls Try.prog 33 #[.agg #[.int .i64 a, .int .i64 b], .agg #[.int .i64 c, .int .i64 d]] w fun e w' => e = .returned (.int .i64 (cmpI (a * d) (c * b))) ∧ Below w.heap.size w w' := by
  obtain ⟨a1, a2, b1, b2, _⟩ := ckF_zero ha
  obtain ⟨c1, c2, d1, d2, _⟩ := ckF_zero hc
  clear ha hc
  have m1 := mul_b9 a1 a2 (y := d) (by omega) (by omega)
  have m2 := mul_b9 c1 c2 (y := b) (by omega) (by omega)
  have m3 := mul_b9 (x := b) (y := d) (by omega) (by omega) (by omega) (by omega)
  have m4 := mul_pos9 b1 d1
  have m5 := mul_b9 a1 a2 c1 c2
  have m6 := mul_b9 (x := b) (by omega) b2 c1 c2
  by_cases k1 : a * d < c * b
  · have HR := Lib.hid (show cmpI (a * d) (c * b) = -1 by unfold cmpI; rw [if_pos k1])
    go_enter Try.func33, Try.ntmps33
    go_wp2
    go_quiet (fail)
    go_wp2
    go_ret
    exact ⟨ret_int HR.out.symm, (((Below.refl w.heap.size w).alloc (Nat.le_refl _) _).alloc (by simp) _).drewN' _⟩
  · by_cases k2 : c * b < a * d
    · have HR := Lib.hid (show cmpI (a * d) (c * b) = 1 by unfold cmpI; rw [if_neg k1, if_pos k2])
      go_enter Try.func33, Try.ntmps33
      go_wp2
      go_quiet (fail)
      go_wp2
      go_ret
      exact ⟨ret_int HR.out.symm, (((Below.refl w.heap.size w).alloc (Nat.le_refl _) _).alloc (by simp) _).drewN' _⟩
    · have HR := Lib.hid (show cmpI (a * d) (c * b) = 0 by unfold cmpI; rw [if_neg k1, if_neg k2])
      go_enter Try.func33, Try.ntmps33
      go_wp2
      go_quiet (fail)
      go_wp2
      go_ret
      exact ⟨ret_int HR.out.symm, (((Below.refl w.heap.size w).alloc (Nat.le_refl _) _).alloc (by simp) _).drewN' _⟩

end Go.Proofs.Ytfnmnnbmhfbkbaa

/-! W31 -/
namespace Go.Proofs.Ytfnmnnbmhfbkbaa
open Go.RowKit

set_option maxHeartbeats 1000000 in
theorem fracsL_any (b n : Nat) (fs : List (Int × Int)) (w : World) (hb : b < w.heap.size) (hn : fs.length = n) (hn' : n ≤ 1000)
    (hI : ∀ k, k < n → I64 (fs[k]?.getD (0, 0)).1 ∧ I64 (fs[k]?.getD (0, 0)).2)
    (hc : ∀ k, k < n → w.cell? ⟨b, k * 2, none⟩ = some (.int .i64 (fs[k]?.getD (0, 0)).1) ∧ w.cell? ⟨b, k * 2 + 1, none⟩ = some (.int .i64 (fs[k]?.getD (0, 0)).2)) :
    Calls Try.prog 28 #[.slice (some ⟨b, 0, none⟩) n n] w fun e w' => e = .returned (.int .i64 (ckFs fs)) ∧ Below w.heap.size w w' := by
  have HN := Lib.hid hn
  clear hn
  go_enter Try.func28, Try.ntmps28
  go_wp2
  go_loopw [2, 3] (fun r i wr => ∃ k : Nat, k ≤ n ∧ i = .int .i64 k ∧ r = .int .i64 0 ∧ Hid (ckFs (fs.take k) = 0) ∧ Below w.heap.size w wr) (fun _ i _ => n - (intOf i).toNat)
  case atStart => exact ⟨0, by omega, rfl, rfl, by simp [Hid, ckFs], Below.refl _ _⟩
  case round =>
    obtain ⟨k, hk, rfl, rfl, HK, hB⟩ := hrel
    by_cases hlt : k < n
    · obtain ⟨hI1, hI2⟩ := hI k hlt
      obtain ⟨hc1, hc2⟩ := hc k hlt
      have hc1' := (hB.cell (p := ⟨b, k * 2, none⟩) hb).trans hc1
      have hc2' := (hB.cell (p := ⟨b, k * 2 + 1, none⟩) hb).trans hc2
      clear hI hc hc1 hc2
      have hb2 := hB.size
      generalize hf : fs[k]?.getD (0, 0) = f at *
      obtain ⟨p, q⟩ := f
      dsimp only at *
      have HT := Lib.hid (take_snoc' fs k _ _ (by rw [HN.out]; exact hlt) hf)
      clear hf
      by_cases he : ckF p q = 0
      · have he' : (ckF p q != 0) = false := by rw [he]; rfl
        have HE := Lib.hid he
        clear he
        go_wp2_with (go_at_call 27; refine (checkFracR_any _ _ _ hI1 hI2).mono ?_; rintro e w1 ⟨rfl, hB1⟩)
        go_roundw
        case rel => exact ⟨k + 1, by omega, by go_num, rfl, by rw [HT.out]; exact (ckFs_snoc _ _ HK.out).trans HE.out, hB.trans (hB1.mono hB.size)⟩
        case measure => simp [intOf]; omega
      · have he' : (ckF p q != 0) = true := by simpa using he
        have HE := Lib.hid he
        clear he
        go_wp2_with (go_at_call 27; refine (checkFracR_any _ _ _ hI1 hI2).mono ?_; rintro e w1 ⟨rfl, hB1⟩)
        go_ret
        refine ⟨ret_int ?_, hB.trans (hB1.mono hB.size)⟩
        have h1 := ckFs_snoc (fs.take k) (p, q) HK.out
        rw [← HT.out] at h1
        have h2 := ckFs_app (fs.take (k + 1)) (fs.drop (k + 1)) (by rw [h1]; exact HE.out)
        rw [List.take_append_drop] at h2
        exact (h2.trans h1).symm
    · obtain rfl : k = n := by omega
      go_wp2
      go_ret
      exact ⟨ret_int (by have := HK.out; rw [List.take_of_length_le (by rw [HN.out]; omega)] at this; exact this.symm), hB⟩


end Go.Proofs.Ytfnmnnbmhfbkbaa

/-! Fr -/
namespace Go.Proofs.Ytfnmnnbmhfbkbaa

theorem addN_comm {a b c d : Int} (h1 : ckF a b = 0) (h2 : ckF c d = 0) : addN c d a b = addN a b c d := by
  have e1 : ckFs [(a, b), (c, d)] = 0 := by rw [ckFs_two, if_neg (by simp [h1])]; exact h2
  have e2 : ckFs [(c, d), (a, b)] = 0 := by rw [ckFs_two, if_neg (by simp [h2])]; exact h1
  unfold addN
  rw [if_neg (by simp [e1, e2]), if_neg (by simp [e1, e2]), Int.add_comm (c * b), Int.mul_comm d b]
theorem mulN_comm {a b c d : Int} (h1 : ckF a b = 0) (h2 : ckF c d = 0) : mulN c d a b = mulN a b c d := by
  have e1 : ckFs [(a, b), (c, d)] = 0 := by rw [ckFs_two, if_neg (by simp [h1])]; exact h2
  have e2 : ckFs [(c, d), (a, b)] = 0 := by rw [ckFs_two, if_neg (by simp [h2])]; exact h1
  unfold mulN
  rw [if_neg (by simp [e1, e2]), if_neg (by simp [e1, e2]), Int.mul_comm c a, Int.mul_comm d b]
theorem lowN_of {a b n m : Int} (h : ckF a b = 0) (hm : 0 < m) (e : n * b = a * m) : lowN n m = (a, b, 0) := by
  obtain ⟨_, _, hb, _, hg⟩ := ckF_zero h
  have hg' : Int.gcd a b = 1 := by unfold gcdI at hg; omega
  have hd : b ∣ m := by
    have h1 : b ∣ a * m := ⟨n, by rw [← e, Int.mul_comm]⟩
    have h2 : b.natAbs ∣ a.natAbs * m.natAbs := by rw [← Int.natAbs_mul]; exact Int.natAbs_dvd_natAbs.2 h1
    have h3 : Nat.Coprime b.natAbs a.natAbs := by show Nat.gcd _ _ = 1; rw [Nat.gcd_comm]; exact hg'
    exact Int.natAbs_dvd_natAbs.1 (h3.dvd_of_dvd_mul_left h2)
  obtain ⟨t, rfl⟩ := hd
  have ht : 0 < t := by
    rcases Int.lt_or_le 0 t with h1 | h1
    · exact h1
    · have := Int.mul_nonpos_of_nonneg_of_nonpos (show 0 ≤ b by omega) h1; omega
  have hn : n = a * t := by
    have h2 : n * b = (a * t) * b := by rw [e, Int.mul_assoc, Int.mul_comm t b]
    exact Int.eq_of_mul_eq_mul_right (by omega) h2
  subst hn
  have hgt : gcdI (a * t) (b * t) = t := by
    unfold gcdI
    rw [Int.gcd_mul_right, hg', Nat.one_mul]; omega
  have hF : lowF (a * t) (b * t) = (a, b) := by
    unfold lowF
    rw [if_neg (by omega), if_neg (by omega), hgt, Int.mul_tdiv_cancel _ (by omega), Int.mul_tdiv_cancel _ (by omega)]
  rw [lowN_F, hF, if_neg (by simp [h])]
theorem quo_mul {a b c d x y : Int} (h1 : ckF a b = 0) (h2 : ckF c d = 0) (h0 : c ≠ 0) (h : lowN (a * d) (b * c) = (x, y, 0)) : mulN x y c d = (a, b, 0) := by
  obtain ⟨_, _, hb, _, hg⟩ := ckF_zero h1
  obtain ⟨_, _, hd, _, hg2⟩ := ckF_zero h2
  have hbc : b * c ≠ 0 := fun h => by rcases Int.mul_eq_zero.1 h with h | h <;> omega
  have g1 := gcdI_pos (n := a * d) (d := b * c) hbc
  rw [lowN_F] at h
  have hk : ckF (lowF (a * d) (b * c)).1 (lowF (a * d) (b * c)).2 = 0 := by
    by_cases hh : ckF (lowF (a * d) (b * c)).1 (lowF (a * d) (b * c)).2 = 0
    · exact hh
    · rw [if_pos hh] at h; simp at h
  rw [if_neg (by simp [hk])] at h
  simp only [Prod.mk.injEq, and_true] at h
  obtain ⟨hx, hy⟩ := h
  rw [hx, hy] at hk
  obtain ⟨_, _, hy1, _, _⟩ := ckF_zero hk
  have hcross : x * (b * c) = y * (a * d) := by
    generalize a * d = n at *
    generalize b * c = m at *
    have d1 : gcdI n m ∣ n := Int.gcd_dvd_left ..
    have d2 : gcdI n m ∣ m := Int.gcd_dvd_right ..
    have e1 : n.tdiv (gcdI n m) * gcdI n m = n := Int.tdiv_mul_cancel d1
    have e2 : m.tdiv (gcdI n m) * gcdI n m = m := Int.tdiv_mul_cancel d2
    unfold lowF at hx hy
    dsimp only at hx hy
    generalize gcdI n m = g at *
    have key : ∀ u v : Int, u * g = n → v * g = m → u * m = v * n := fun u v hu hv => by
      rw [← hu, ← hv, ← Int.mul_assoc, ← Int.mul_assoc, Int.mul_comm u v]
    by_cases hneg : m < 0
    · rw [if_pos hneg, Int.neg_tdiv] at hx hy
      have := key _ _ e1 e2
      rw [← hx, ← hy, Int.neg_mul, Int.neg_mul, this]
    · rw [if_neg hneg] at hx hy
      rw [← hx, ← hy]; exact key _ _ e1 e2
  have e1 : ckFs [(x, y), (c, d)] = 0 := by rw [ckFs_two, if_neg (by simp [hk])]; exact h2
  unfold mulN
  rw [if_neg (by simp [e1])]
  refine lowN_of h1 (Int.mul_pos (by omega) (by omega)) ?_
  have e3 : x * c * b = x * (b * c) := by rw [Int.mul_assoc, Int.mul_comm c b]
  have e4 : a * (y * d) = y * (a * d) := by rw [← Int.mul_assoc, Int.mul_comm a y, Int.mul_assoc]
  rw [e3, e4, hcross]

end Go.Proofs.Ytfnmnnbmhfbkbaa

/-! W32 -/
namespace Go.Proofs.Ytfnmnnbmhfbkbaa
open Go.RowKit

def ckRg (x y : Int) : Int := if 1000000000000000 < sz x ∨ 1000000000000000 < sz y then 2 else if y < x then 9 else 0
def nlR (x y : Int) : Int × Int × Int := if ckRg x y ≠ 0 then (0, 0, 8) else (x, y, 0)

set_option maxHeartbeats 1000000 in
theorem checkRange_any (x y : Int) (w : World) (hx : I64 x) (hy : I64 y) :
    Calls Try.prog 46 #[.agg #[.int .i64 x, .int .i64 y]] w fun e w' => e = .returned (.int .i64 (ckRg x y)) ∧ Below w.heap.size w w' := by
  have s1 := sz_nonneg x
  have s2 := sz_nonneg y
  have s3 := sz_max hx.1 hx.2
  have s4 := sz_max hy.1 hy.2
  obtain ⟨x1, x2⟩ := hx
  obtain ⟨y1, y2⟩ := hy
  by_cases k1 : 1000000000000000 < sz x
  · have HR := Lib.hid (show ckRg x y = 2 by unfold ckRg; rw [if_pos (.inl k1)])
    go_enter Try.func46, Try.ntmps46
    go_wp2_with (go_at_call 87; refine (size_any _ _ (by omega) (by omega)).mono ?_; rintro e w1 ⟨rfl, rfl⟩)
    go_ret
    exact ⟨ret_int HR.out.symm, by first | exact ((Below.refl _ _).alloc (Nat.le_refl _) _) | exact below_drewN ((Below.refl _ _).alloc (Nat.le_refl _) _) _ | exact Below.drew ((Below.refl _ _).alloc (Nat.le_refl _) _)⟩
  · by_cases k2 : 1000000000000000 < sz y
    · have HR := Lib.hid (show ckRg x y = 2 by unfold ckRg; rw [if_pos (.inr k2)])
      go_enter Try.func46, Try.ntmps46
      go_wp2_with (go_at_call 87; refine (size_any _ _ (by omega) (by omega)).mono ?_; rintro e w1 ⟨rfl, rfl⟩)
      go_ret
      exact ⟨ret_int HR.out.symm, by first | exact ((Below.refl _ _).alloc (Nat.le_refl _) _) | exact below_drewN ((Below.refl _ _).alloc (Nat.le_refl _) _) _ | exact Below.drew ((Below.refl _ _).alloc (Nat.le_refl _) _)⟩
    · have h0 : ¬ (1000000000000000 < sz x ∨ 1000000000000000 < sz y) := by omega
      by_cases k3 : y < x
      · have HR := Lib.hid (show ckRg x y = 9 by unfold ckRg; rw [if_neg h0, if_pos k3])
        clear h0
        go_enter Try.func46, Try.ntmps46
        go_wp2_with (go_at_call 87; refine (size_any _ _ (by omega) (by omega)).mono ?_; rintro e w1 ⟨rfl, rfl⟩)
        go_ret
        exact ⟨ret_int HR.out.symm, by first | exact ((Below.refl _ _).alloc (Nat.le_refl _) _) | exact below_drewN ((Below.refl _ _).alloc (Nat.le_refl _) _) _ | exact Below.drew ((Below.refl _ _).alloc (Nat.le_refl _) _)⟩
      · have HR := Lib.hid (show ckRg x y = 0 by unfold ckRg; rw [if_neg h0, if_neg k3])
        clear h0
        go_enter Try.func46, Try.ntmps46
        go_wp2_with (go_at_call 87; refine (size_any _ _ (by omega) (by omega)).mono ?_; rintro e w1 ⟨rfl, rfl⟩)
        go_ret
        exact ⟨ret_int HR.out.symm, by first | exact ((Below.refl _ _).alloc (Nat.le_refl _) _) | exact below_drewN ((Below.refl _ _).alloc (Nat.le_refl _) _) _ | exact Below.drew ((Below.refl _ _).alloc (Nat.le_refl _) _)⟩

set_option maxHeartbeats 1000000 in
theorem notLarge_any (x y : Int) (w : World) (hx : I64 x) (hy : I64 y) :
    Calls Try.prog 96 #[.int .i64 x, .int .i64 y] w fun e w' => e = .returned (.tuple #[.agg #[.int .i64 (nlR x y).1, .int .i64 (nlR x y).2.1], .int .i64 (nlR x y).2.2]) ∧ Below w.heap.size w w' := by
  by_cases he : ckRg x y = 0
  · have he' : (ckRg x y != 0) = false := by rw [he]; rfl
    have HR := Lib.hid (show nlR x y = (x, y, 0) by unfold nlR; rw [if_neg (by simp [he])])
    clear he
    go_enter Try.func96, Try.ntmps96
    go_wp2_with
      (go_at_call 46; refine (checkRange_any x y _ hx hy).mono ?_; rintro e w2 ⟨rfl, B2⟩; obtain ⟨hcL, hfL⟩ := bcell B2; have hz2 : w.heap.size + 2 ≤ w2.heap.size := (by have := B2.size; simp at this; omega); have j0 : w2.cell? ⟨w.heap.size, 0, none⟩ = some (.int .i64 0) := (by rw [hcL _ _ (by simp; omega)]; simp [go_sem, World.cell?_alloc_past]); have j1 : w2.cell? ⟨w.heap.size, 1, none⟩ = some (.int .i64 0) := (by rw [hcL _ _ (by simp; omega)]; simp [go_sem, World.cell?_alloc_past]); have j2 : w2.frozen? ⟨w.heap.size, 0, none⟩ = false := (by rw [hfL _ _ (by simp; omega)]; simp [go_sem, World.frozen?_alloc_past]); have j3 : w2.frozen? ⟨w.heap.size, 1, none⟩ = false := (by rw [hfL _ _ (by simp; omega)]; simp [go_sem, World.frozen?_alloc_past]); have l0 : w2.cell? ⟨w.heap.size + 1, 0, none⟩ = some (.int .i64 x) := (by rw [hcL _ _ (by simp)]; simp [go_sem]); have l1 : w2.cell? ⟨w.heap.size + 1, 1, none⟩ = some (.int .i64 y) := (by rw [hcL _ _ (by simp)]; simp [go_sem]); clear hcL hfL)
    obtain ⟨r0, r1⟩ := set2 (w := w2) (b := w.heap.size) (x := .int .i64 0) (y := .int .i64 0) (.int .i64 x) (.int .i64 y) j0 j1
    refine bodyPost_ret (ret_range rfl _ _ _ _ _ _ rfl rfl r0 r1) rfl ⟨by rw [HR.out]; rfl, ?_⟩
    exact (((((Below.refl w.heap.size w).alloc (Nat.le_refl _) _).alloc (by simp) _).trans (B2.mono (by simp; omega))).setCell (Nat.le_refl _) _).setCell (Nat.le_refl _) _
  · have he' : (ckRg x y != 0) = true := by simpa using he
    have HR := Lib.hid (show nlR x y = (0, 0, 8) by unfold nlR; rw [if_pos he])
    clear he
    go_enter Try.func96, Try.ntmps96
    go_wp2_with
      (go_at_call 46; refine (checkRange_any x y _ hx hy).mono ?_; rintro e w2 ⟨rfl, B2⟩; obtain ⟨hcL, hfL⟩ := bcell B2; have hz2 : w.heap.size + 2 ≤ w2.heap.size := (by have := B2.size; simp at this; omega); have j0 : w2.cell? ⟨w.heap.size, 0, none⟩ = some (.int .i64 0) := (by rw [hcL _ _ (by simp; omega)]; simp [go_sem, World.cell?_alloc_past]); have j1 : w2.cell? ⟨w.heap.size, 1, none⟩ = some (.int .i64 0) := (by rw [hcL _ _ (by simp; omega)]; simp [go_sem, World.cell?_alloc_past]); have j2 : w2.frozen? ⟨w.heap.size, 0, none⟩ = false := (by rw [hfL _ _ (by simp; omega)]; simp [go_sem, World.frozen?_alloc_past]); have j3 : w2.frozen? ⟨w.heap.size, 1, none⟩ = false := (by rw [hfL _ _ (by simp; omega)]; simp [go_sem, World.frozen?_alloc_past]); have l0 : w2.cell? ⟨w.heap.size + 1, 0, none⟩ = some (.int .i64 x) := (by rw [hcL _ _ (by simp)]; simp [go_sem]); have l1 : w2.cell? ⟨w.heap.size + 1, 1, none⟩ = some (.int .i64 y) := (by rw [hcL _ _ (by simp)]; simp [go_sem]); clear hcL hfL)
    obtain ⟨r0, r1⟩ := set2 (w := w2) (b := w.heap.size) (x := .int .i64 0) (y := .int .i64 0) (.int .i64 0) (.int .i64 0) j0 j1
    refine bodyPost_ret (ret_range rfl _ _ _ _ _ _ rfl rfl r0 r1) rfl ⟨by rw [HR.out]; rfl, ?_⟩
    exact (((((Below.refl w.heap.size w).alloc (Nat.le_refl _) _).alloc (by simp) _).trans (B2.mono (by simp; omega))).setCell (Nat.le_refl _) _).setCell (Nat.le_refl _) _

end Go.Proofs.Ytfnmnnbmhfbkbaa
