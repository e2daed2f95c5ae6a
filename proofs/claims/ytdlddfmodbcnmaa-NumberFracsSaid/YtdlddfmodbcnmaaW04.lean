/- Walks: square roots. -/
import Derived.Test.YtdlddfmodbcnmaaW03
import Derived.Test.YtdlddfmodbcnmaaRoot0
set_option linter.unusedVariables false
set_option linter.unusedSimpArgs false
namespace Go.Proofs.Ytdlddfmodbcnmaa
open Go.RowKit

set_option maxHeartbeats 1000000 in
theorem wholeRoot_any (n : Int) (w : World) (h0 : 0 ≤ n) (h1 : n ≤ 1000000000000000000) :
    Calls Try.prog 117 #[.int .i64 n] w fun e w' => e = .returned (.int .i64 (rt n)) ∧ w = w' := by
  have HR := Lib.hid (rt_is h0 h1)
  by_cases hz : n = 0
  · subst hz
    clear HR
    go_enter Try.func117, Try.ntmps117
    go_wp2
    go_loop [3, 4] (fun x y => x = .int .i64 0 ∧ y = .int .i64 0) (fun _ _ => 0)
    case atStart => exact ⟨rfl, rfl⟩
    case round =>
      obtain ⟨rfl, rfl⟩ := hrel
      go_wp2
      go_ret
      exact ⟨rfl, rfl⟩
  · have hn : 1 ≤ n := by omega
    clear hz
    have HS := Lib.hid (show (n + 1) / 2 = (n + n / n) / 2 by rw [Int.ediv_self (by omega)])
    have HU := Lib.hid (sq_lt (a := 0) (b := n + 1) (by omega) (by have := Int.mul_pos (show 0 < n + 1 by omega) (show 0 < n + 1 by omega); omega))
    have HU2 := Lib.hid (show n < (n + 1) * (n + 1) by have := Int.mul_nonneg h0 h0; rw [Int.add_mul, Int.mul_add]; omega)
    go_enter Try.func117, Try.ntmps117
    go_wp2
    go_loop [3, 4] (fun x y => ∃ r s : Int, 1 ≤ r ∧ r ≤ n ∧ x = .int .i64 r ∧ y = .int .i64 s ∧ Hid (s = (r + n / r) / 2) ∧ Hid (n < (r + 1) * (r + 1)) ∧ 0 ≤ s ∧ s ≤ 1000000000000000000) (fun x _ => (intOf x).toNat)
    case atStart => exact ⟨n, (n + 1) / 2, hn, by omega, rfl, rfl, HS.out, HU2.out, by omega, by omega⟩
    case round =>
      obtain ⟨r, s, hr, hrn, rfl, rfl, HE, HB, hs0, hs1⟩ := hrel
      have HN := Lib.hid (newton_up h0 hr)
      have HN2 := Lib.hid (fun h => newton_end h0 hr h)
      by_cases hlt : s < r
      · have hs2 : 1 ≤ s := up_pos hn hs0 (by rw [HE.out]; exact HN.out)
        have hq0 : 0 ≤ n / s := Int.ediv_nonneg h0 (by omega)
        have hq1 : n / s ≤ n := Int.ediv_le_self _ h0
        go_wp2
        go_round
        case rel => exact ⟨s, (s + n / s) / 2, hs2, by omega, rfl, rfl, rfl, by rw [HE.out]; exact HN.out, by omega, by omega⟩
        case measure => simp [intOf]; omega
      · go_wp2
        go_ret
        refine ⟨ret_int (IsRt.unique ⟨by omega, HN2.out ?_, HB.out⟩ HR.out), rfl⟩
        have := HE.out
        omega

set_option maxHeartbeats 1000000 in
theorem squareRoot_any (n d : Int) (w : World) (h0 : 0 ≤ n) (h1 : n ≤ 1000000000000000000) (hd : 1 ≤ d) (hd' : d ≤ 1000000000) :
    Calls Try.prog 93 #[.int .i64 n, .int .i64 d] w fun e w' => e = .returned (.agg #[.int .i64 (sqN n d).1, .int .i64 (sqN n d).2]) ∧ Below w.heap.size w w' := by
  have hq0 : 0 ≤ n / d := Int.ediv_nonneg h0 (by omega)
  have hq1 : n / d ≤ n := Int.ediv_le_self _ h0
  obtain ⟨_, _, r0, r1, s0, s1, t0, t1⟩ := sq_facts h0 h1 hd (rt_is hq0 (by omega))
  have HQ := Lib.hid (fun (h : rt (n / d) * rt (n / d) * d = n) => show sqN n d = (rt (n / d), rt (n / d)) by unfold sqN; rw [if_pos h])
  have HQ2 := Lib.hid (fun (h : ¬ rt (n / d) * rt (n / d) * d = n) => show sqN n d = (rt (n / d), rt (n / d) + 1) by unfold sqN; rw [if_neg h])
  generalize hr : rt (n / d) = r at *
  have HRR := Lib.hid hr
  clear hr
  by_cases he : r * r * d = n
  · have he' : (r * r * d == n) = true := by simpa using he
    have HE := Lib.hid (HQ.out he)
    clear he
    go_enter Try.func93, Try.ntmps93
    go_wp2_with (go_at_call 117; refine (wholeRoot_any _ _ hq0 (by omega)).mono ?_; rintro e w' ⟨rfl, rfl⟩; rw [HRR.out])
    refine bodyPost_ret (ret_range1 rfl _ _ _ _ _ rfl (by simp [go_sem]; rfl) (by simp [go_sem]; rfl)) rfl ⟨by rw [HE.out], (Below.refl _ _).alloc (Nat.le_refl _) _⟩
  · have he' : (r * r * d == n) = false := by simpa using he
    have HE := Lib.hid (HQ2.out he)
    clear he
    go_enter Try.func93, Try.ntmps93
    go_wp2_with (go_at_call 117; refine (wholeRoot_any _ _ hq0 (by omega)).mono ?_; rintro e w' ⟨rfl, rfl⟩; rw [HRR.out])
    refine bodyPost_ret (ret_range1 rfl _ _ _ _ _ rfl (by simp [go_sem]; rfl) (by simp [go_sem]; rfl)) rfl ⟨by rw [HE.out], (Below.refl _ _).alloc (Nat.le_refl _) _⟩

set_option maxHeartbeats 1000000 in
theorem sqrt_any (a b t : Int) (w : World) (ha : I64 a) (hb : I64 b) (ht : I64 t) :
    Calls Try.prog 37 #[.agg #[.int .i64 a, .int .i64 b], .int .i64 t] w fun e w' => e = .returned (.tuple #[.agg #[.int .i64 (sqrtN a b t).1, .int .i64 (sqrtN a b t).2.1], .int .i64 (sqrtN a b t).2.2]) ∧ Below w.heap.size w w' := by
  by_cases he : ckFs [(a, b)] = 0
  · have he' : (ckFs [(a, b)] != 0) = false := by rw [he]; rfl
    have z1 := he
    rw [ckFs_one] at z1
    have HZ := Lib.hid z1
    obtain ⟨a1, a2, b1, b2, _⟩ := ckF_zero z1
    dsimp only at a1 a2 b1 b2
    clear z1 he
    have hh : I64 t := ht
    obtain ⟨t1, t2⟩ := hh
    by_cases hr : a < 0 ∨ t < 1 ∨ 10000 < t
    · have HR := Lib.hid (show sqrtN a b t = (0, 0, 2) by unfold sqrtN; rw [if_neg (by simpa using HZ.out), if_pos hr])
      rcases Int.lt_or_le a 0 with g1 | g1
      · clear hr
        go_enter Try.func37, Try.ntmps37
        go_wp2_with (go_at_call 83; refine (checkFracs1 a b _ _ (by simp) ha hb (by simp [go_sem, World.cell?_alloc_past]) (by simp [go_sem, World.cell?_alloc_past])).mono ?_; rintro e w1 ⟨rfl, hB1⟩; obtain ⟨hc1, hf1⟩ := bcell hB1; have hz1 : w.heap.size + 3 ≤ w1.heap.size := (by have := hB1.size; simp at this; omega); have k0 : w1.cell? ⟨w.heap.size + 1, 0, none⟩ = some (.int .i64 0) := (by rw [hc1 _ _ (by simp)]; simp [go_sem, World.cell?_alloc_past]); have k1 : w1.cell? ⟨w.heap.size + 1, 1, none⟩ = some (.int .i64 0) := (by rw [hc1 _ _ (by simp)]; simp [go_sem, World.cell?_alloc_past]); have k2 : w1.frozen? ⟨w.heap.size + 1, 0, none⟩ = false := (by rw [hf1 _ _ (by simp)]; simp [go_sem, World.frozen?_alloc_past]); have k3 : w1.frozen? ⟨w.heap.size + 1, 1, none⟩ = false := (by rw [hf1 _ _ (by simp)]; simp [go_sem, World.frozen?_alloc_past]))
        obtain ⟨r0, r1⟩ := set2 (w := w1) (b := w.heap.size + 1) (x := .int .i64 0) (y := .int .i64 0) (.int .i64 0) (.int .i64 0) k0 k1
        refine bodyPost_ret (ret_range rfl _ _ _ _ _ _ rfl rfl r0 r1) rfl ⟨by rw [HR.out]; rfl, ?_⟩
        exact (((((((Below.refl w.heap.size w).alloc (Nat.le_refl _) _).alloc (by simp) _).alloc (by simp; omega) _).trans (hB1.mono (by simp; omega))).setCell (by simp <;> omega) _).setCell (by simp <;> omega) _)
      rcases Int.lt_or_le t 1 with g2 | g2
      · clear hr
        go_enter Try.func37, Try.ntmps37
        go_wp2_with (go_at_call 83; refine (checkFracs1 a b _ _ (by simp) ha hb (by simp [go_sem, World.cell?_alloc_past]) (by simp [go_sem, World.cell?_alloc_past])).mono ?_; rintro e w1 ⟨rfl, hB1⟩; obtain ⟨hc1, hf1⟩ := bcell hB1; have hz1 : w.heap.size + 3 ≤ w1.heap.size := (by have := hB1.size; simp at this; omega); have k0 : w1.cell? ⟨w.heap.size + 1, 0, none⟩ = some (.int .i64 0) := (by rw [hc1 _ _ (by simp)]; simp [go_sem, World.cell?_alloc_past]); have k1 : w1.cell? ⟨w.heap.size + 1, 1, none⟩ = some (.int .i64 0) := (by rw [hc1 _ _ (by simp)]; simp [go_sem, World.cell?_alloc_past]); have k2 : w1.frozen? ⟨w.heap.size + 1, 0, none⟩ = false := (by rw [hf1 _ _ (by simp)]; simp [go_sem, World.frozen?_alloc_past]); have k3 : w1.frozen? ⟨w.heap.size + 1, 1, none⟩ = false := (by rw [hf1 _ _ (by simp)]; simp [go_sem, World.frozen?_alloc_past]))
        obtain ⟨r0, r1⟩ := set2 (w := w1) (b := w.heap.size + 1) (x := .int .i64 0) (y := .int .i64 0) (.int .i64 0) (.int .i64 0) k0 k1
        refine bodyPost_ret (ret_range rfl _ _ _ _ _ _ rfl rfl r0 r1) rfl ⟨by rw [HR.out]; rfl, ?_⟩
        exact (((((((Below.refl w.heap.size w).alloc (Nat.le_refl _) _).alloc (by simp) _).alloc (by simp; omega) _).trans (hB1.mono (by simp; omega))).setCell (by simp <;> omega) _).setCell (by simp <;> omega) _)
      have g3 : 10000 < t := by omega
      clear hr
      go_enter Try.func37, Try.ntmps37
      go_wp2_with (go_at_call 83; refine (checkFracs1 a b _ _ (by simp) ha hb (by simp [go_sem, World.cell?_alloc_past]) (by simp [go_sem, World.cell?_alloc_past])).mono ?_; rintro e w1 ⟨rfl, hB1⟩; obtain ⟨hc1, hf1⟩ := bcell hB1; have hz1 : w.heap.size + 3 ≤ w1.heap.size := (by have := hB1.size; simp at this; omega); have k0 : w1.cell? ⟨w.heap.size + 1, 0, none⟩ = some (.int .i64 0) := (by rw [hc1 _ _ (by simp)]; simp [go_sem, World.cell?_alloc_past]); have k1 : w1.cell? ⟨w.heap.size + 1, 1, none⟩ = some (.int .i64 0) := (by rw [hc1 _ _ (by simp)]; simp [go_sem, World.cell?_alloc_past]); have k2 : w1.frozen? ⟨w.heap.size + 1, 0, none⟩ = false := (by rw [hf1 _ _ (by simp)]; simp [go_sem, World.frozen?_alloc_past]); have k3 : w1.frozen? ⟨w.heap.size + 1, 1, none⟩ = false := (by rw [hf1 _ _ (by simp)]; simp [go_sem, World.frozen?_alloc_past]))
      obtain ⟨r0, r1⟩ := set2 (w := w1) (b := w.heap.size + 1) (x := .int .i64 0) (y := .int .i64 0) (.int .i64 0) (.int .i64 0) k0 k1
      refine bodyPost_ret (ret_range rfl _ _ _ _ _ _ rfl rfl r0 r1) rfl ⟨by rw [HR.out]; rfl, ?_⟩
      exact (((((((Below.refl w.heap.size w).alloc (Nat.le_refl _) _).alloc (by simp) _).alloc (by simp; omega) _).trans (hB1.mono (by simp; omega))).setCell (by simp <;> omega) _).setCell (by simp <;> omega) _)
    · have HR := Lib.hid (show sqrtN a b t = ((sqN (t * t * a) b).1, (sqN (t * t * a) b).2, 0) by unfold sqrtN; rw [if_neg (by simpa using HZ.out), if_neg hr])
      have g1 : 0 ≤ a := by omega
      have g2 : 1 ≤ t := by omega
      have g3 : t ≤ 10000 := by omega
      have m1 := mul_bd (x := t) (y := t) (A := 10000) (B := 10000) (by omega) (by omega) (by omega) (by omega)
      have m2 : 0 ≤ t * t := Int.mul_nonneg (by omega) (by omega)
      have m3 := mul_bd (x := t * t) (y := a) (A := 100000000) (B := 1000000000) (by omega) (by omega) (by omega) (by omega)
      have m4 : 0 ≤ t * t * a := Int.mul_nonneg m2 g1
      clear hr
      go_enter Try.func37, Try.ntmps37
      go_wp2_with (first
        | (go_at_call 83; refine (checkFracs1 a b _ _ (by simp) ha hb (by simp [go_sem, World.cell?_alloc_past]) (by simp [go_sem, World.cell?_alloc_past])).mono ?_; rintro e w1 ⟨rfl, hB1⟩; obtain ⟨hc1, hf1⟩ := bcell hB1; have hz1 : w.heap.size + 3 ≤ w1.heap.size := (by have := hB1.size; simp at this; omega); have k0 : w1.cell? ⟨w.heap.size + 1, 0, none⟩ = some (.int .i64 0) := (by rw [hc1 _ _ (by simp)]; simp [go_sem, World.cell?_alloc_past]); have k1 : w1.cell? ⟨w.heap.size + 1, 1, none⟩ = some (.int .i64 0) := (by rw [hc1 _ _ (by simp)]; simp [go_sem, World.cell?_alloc_past]); have k2 : w1.frozen? ⟨w.heap.size + 1, 0, none⟩ = false := (by rw [hf1 _ _ (by simp)]; simp [go_sem, World.frozen?_alloc_past]); have k3 : w1.frozen? ⟨w.heap.size + 1, 1, none⟩ = false := (by rw [hf1 _ _ (by simp)]; simp [go_sem, World.frozen?_alloc_past]))
        | (go_at_call 93; refine (squareRoot_any _ _ _ m4 (by omega) (by omega) (by omega)).mono ?_; rintro e w2 ⟨rfl, hB2⟩; obtain ⟨hc2, hf2⟩ := bcell hB2; have hz2 := hB2.size; have j0 := (hc2 (w.heap.size + 1) 0 (by omega)).trans k0; have j1 := (hc2 (w.heap.size + 1) 1 (by omega)).trans k1; have j2 := (hf2 (w.heap.size + 1) 0 (by omega)).trans k2; have j3 := (hf2 (w.heap.size + 1) 1 (by omega)).trans k3))
      obtain ⟨r0, r1⟩ := set2 (w := w2) (b := w.heap.size + 1) (x := .int .i64 0) (y := .int .i64 0) (.int .i64 (sqN (t * t * a) b).1) (.int .i64 (sqN (t * t * a) b).2) j0 j1
      refine bodyPost_ret (ret_range rfl _ _ _ _ _ _ rfl rfl r0 r1) rfl ⟨by rw [HR.out]; rfl, ?_⟩
      exact ((((((((Below.refl w.heap.size w).alloc (Nat.le_refl _) _).alloc (by simp) _).alloc (by simp; omega) _).trans (hB1.mono (by simp; omega))).trans (hB2.mono (by omega))).setCell (by simp <;> omega) _).setCell (by simp <;> omega) _)
  · have he' : (ckFs [(a, b)] != 0) = true := by simpa using he
    have HR := Lib.hid (show sqrtN a b t = (0, 0, ckFs [(a, b)]) by rw [ckFs_one] at he ⊢; unfold sqrtN; rw [if_pos he])
    clear he
    go_enter Try.func37, Try.ntmps37
    go_wp2_with (go_at_call 83; refine (checkFracs1 a b _ _ (by simp) ha hb (by simp [go_sem, World.cell?_alloc_past]) (by simp [go_sem, World.cell?_alloc_past])).mono ?_; rintro e w1 ⟨rfl, hB1⟩; obtain ⟨hc1, hf1⟩ := bcell hB1; have hz1 : w.heap.size + 3 ≤ w1.heap.size := (by have := hB1.size; simp at this; omega); have k0 : w1.cell? ⟨w.heap.size + 1, 0, none⟩ = some (.int .i64 0) := (by rw [hc1 _ _ (by simp)]; simp [go_sem, World.cell?_alloc_past]); have k1 : w1.cell? ⟨w.heap.size + 1, 1, none⟩ = some (.int .i64 0) := (by rw [hc1 _ _ (by simp)]; simp [go_sem, World.cell?_alloc_past]); have k2 : w1.frozen? ⟨w.heap.size + 1, 0, none⟩ = false := (by rw [hf1 _ _ (by simp)]; simp [go_sem, World.frozen?_alloc_past]); have k3 : w1.frozen? ⟨w.heap.size + 1, 1, none⟩ = false := (by rw [hf1 _ _ (by simp)]; simp [go_sem, World.frozen?_alloc_past]))
    obtain ⟨r0, r1⟩ := set2 (w := w1) (b := w.heap.size + 1) (x := .int .i64 0) (y := .int .i64 0) (.int .i64 0) (.int .i64 0) k0 k1
    refine bodyPost_ret (ret_range rfl _ _ _ _ _ _ rfl rfl r0 r1) rfl ⟨by rw [HR.out]; rfl, ?_⟩
    exact (((((((Below.refl w.heap.size w).alloc (Nat.le_refl _) _).alloc (by simp) _).alloc (by simp; omega) _).trans (hB1.mono (by simp; omega))).setCell (by simp <;> omega) _).setCell (by simp <;> omega) _)

end Go.Proofs.Ytdlddfmodbcnmaa
