/- Walks: multiples of fractions, rounded. -/
import Derived.Test.YtfnmnnbmhfbkbaaR5
import Derived.Test.YtfnmnnbmhfbkbaaBc
import Derived.Deep.RegionHeld3
set_option linter.unusedVariables false
set_option linter.unusedSimpArgs false
namespace Go.Proofs.Ytfnmnnbmhfbkbaa
open Go.RowKit

set_option maxHeartbeats 400000 in
theorem floorB_any (n b : Int) (w : World) (hn : -9000000000000000000 ≤ n) (hn' : n ≤ 9000000000000000000) (hb : 1 ≤ b) (hb' : b ≤ 1000000000000000000) :
    Calls Try.prog 91 #[.int .i64 n, .int .i64 b] w fun e w' => e = .returned (.int .i64 (n / b)) ∧ w = w' := by
  have q := tdiv_bd hn hn' hb
  have HT := Lib.hid (Int.mul_tdiv_add_tmod n b)
  have r1 : n.tmod b < b := Int.tmod_lt_of_pos _ (by omega)
  have r2 : -b < n.tmod b := by have := Int.lt_tmod_of_pos n (show 0 < b by omega); omega
  by_cases hr : n.tmod b < 0
  · have HF := Lib.hid (show n / b = n.tdiv b - 1 by
      have h1 := HT.out
      rw [Int.ediv_eq_iff_of_pos (by omega)]
      rw [Int.sub_mul, Int.mul_comm (n.tdiv b) b]; omega)
    go_enter Try.func91, Try.ntmps91
    go_wp2
    go_ret
    exact ⟨ret_int HF.out.symm, rfl⟩
  · have HF := Lib.hid (show n / b = n.tdiv b by
      have h1 := HT.out
      rw [Int.ediv_eq_iff_of_pos (by omega)]
      rw [Int.mul_comm (n.tdiv b) b]; omega)
    go_enter Try.func91, Try.ntmps91
    go_wp2
    go_ret
    exact ⟨ret_int HF.out.symm, rfl⟩

set_option maxHeartbeats 400000 in
theorem ceilB_any (n b : Int) (w : World) (hn : -9000000000000000000 ≤ n) (hn' : n ≤ 9000000000000000000) (hb : 1 ≤ b) (hb' : b ≤ 1000000000000000000) :
    Calls Try.prog 92 #[.int .i64 n, .int .i64 b] w fun e w' => e = .returned (.int .i64 (-(-n / b))) ∧ w = w' := by
  have h1 : -9000000000000000000 ≤ -n / b ∧ -n / b ≤ 9000000000000000000 := by
    constructor
    · rw [Int.le_ediv_iff_mul_le (by omega)]
      have := Int.mul_le_mul_of_nonpos_left (a := -9000000000000000000) (b := b) (c := 1) (by omega) hb
      omega
    · have : -n / b < 9000000000000000001 := by
        rw [Int.ediv_lt_iff_lt_mul (by omega)]
        have := Int.mul_le_mul_of_nonneg_left (c := 9000000000000000001) (a := 1) (b := b) hb (by omega)
        omega
      omega
  go_enter Try.func92, Try.ntmps92
  go_wp2_with (go_at_call 91; refine (floorB_any _ _ _ (by omega) (by omega) hb hb').mono ?_; rintro e w' ⟨rfl, rfl⟩)
  go_ret
  exact ⟨rfl, rfl⟩



set_option maxRecDepth 100000 in
set_option maxHeartbeats 1000000 in
theorem div64_word (p b : Int) (w : World) (h0 : 0 ≤ p) (h1 : p ≤ 18446744073709551615) (h2 : 1 ≤ b) (h3 : b ≤ 18446744073709551615) :
    Calls Try.prog 116 #[.int .u64 0, .int .u64 p, .int .u64 b] w fun e w' => e = .returned (.tuple #[.int .u64 (p / b), .int .u64 (p % b)]) ∧ ∃ k, w' = w.drewN k := by
  have q0 : 0 ≤ p / b := Int.ediv_nonneg h0 (by omega)
  have q1 : p / b ≤ p := Int.ediv_le_self _ h0
  have r0 : 0 ≤ p % b := Int.emod_nonneg _ (by omega)
  have r1 : p % b < b := Int.emod_lt_of_pos _ (by omega)
  have hb : ¬ b = 0 := by omega
  have hb' : (b == 0) = false := by simpa using hb
  have hle : ¬ b ≤ 0 := by omega
  have hle' : decide (b ≤ 0) = false := by simpa using hle
  go_enter Try.func116, Try.ntmps116
  go_wp2
  go_quiet (fail)
  go_wp2
  go_ret2
  exact ⟨rfl, _, rfl⟩

theorem ceil_of {p b : Int} (hb : 1 ≤ b) : -(-p / b) = if 0 < p % b then p / b + 1 else p / b := by
  have h1 := Int.mul_ediv_add_emod p b
  have h2 := Int.emod_nonneg p (show b ≠ 0 by omega)
  have h3 := Int.emod_lt_of_pos p (show 0 < b by omega)
  split
  · have : -p / b = -(p / b + 1) := by
      rw [Int.ediv_eq_iff_of_pos (by omega), Int.neg_mul, Int.add_mul, Int.mul_comm (p / b) b]; omega
    omega
  · have : -p / b = -(p / b) := by
      rw [Int.ediv_eq_iff_of_pos (by omega), Int.neg_mul, Int.mul_comm (p / b) b]; omega
    omega
theorem neg_ceil {p b : Int} (hb : 1 ≤ b) : -p / b = -(if 0 < p % b then p / b + 1 else p / b) := by rw [← ceil_of hb]; omega

set_option maxRecDepth 100000 in
set_option maxHeartbeats 4000000 in
theorem enclose_small (n a b : Int) (w : World) (n1 : 1 ≤ n) (n2 : n ≤ 1000000) (a1 : -1000000000 ≤ a) (a2 : a ≤ 1000000000) (hb : 1 ≤ b) (hb2 : b ≤ 1000000000) :
    Calls Try.prog 90 #[.int .i64 n, .int .i64 a, .int .i64 b] w fun e w' => e = .returned (.tuple #[.agg #[.int .i64 (a * n / b), .int .i64 (-(-(a * n) / b))], .bool true]) ∧ Below w.heap.size w w' := by
  have u1 : sz n = n := by unfold sz; omega
  have u2 : 0 ≤ sz a ∧ sz a ≤ 1000000000 := by unfold sz; omega
  have hu1 : U64 (sz n) := by unfold U64; omega
  have hu2 : U64 (sz a) := by unfold U64; omega
  have p0 : 0 ≤ sz n * sz a := Int.mul_nonneg (by omega) (by omega)
  have p1 : sz n * sz a ≤ 1000000 * 1000000000 := Int.mul_le_mul (by omega) (by omega) (by omega) (by omega)
  have HA := Bx.mk (show a * n = if a < 0 then -(sz n * sz a) else sz n * sz a by
    rw [u1]
    by_cases c : a < 0
    · have : sz a = -a := by unfold sz; omega
      rw [if_pos c, this, Int.mul_neg, Int.neg_neg, Int.mul_comm]
    · have : sz a = a := by unfold sz; omega
      rw [if_neg c, this, Int.mul_comm])
  clear u1
  generalize hp : sz n * sz a = p at *
  have HM1 := Bx.mk (show sz n * sz a / 18446744073709551616 = 0 by rw [hp]; omega)
  have HM2 := Bx.mk (show sz n * sz a % 18446744073709551616 = p by rw [hp]; omega)
  clear hp
  have q0 : 0 ≤ p / b := Int.ediv_nonneg p0 (by omega)
  have q1 : p / b ≤ p := Int.ediv_le_self _ p0
  have r0 : 0 ≤ p % b := Int.emod_nonneg _ (by omega)
  have r1 : p % b < b := Int.emod_lt_of_pos _ (by omega)
  have e1 := Int.mul_ediv_add_emod p b
  have q2 : 0 < p % b → p / b + 1 ≤ 1000000000000000 := fun h => by
    have h2 : 2 * (p / b) ≤ b * (p / b) := Int.mul_le_mul_of_nonneg_right (by omega) q0
    omega
  generalize hq : p / b = q at *
  generalize hr : p % b = r at *
  have HQ := Bx.mk hq
  have HR := Bx.mk hr
  clear hq hr e1
  by_cases s : a < 0
  · have HN := Bx.mk (show a * n = -p by rw [HA.out, if_pos s])
    by_cases c : 0 < r
    · have q3 := q2 c
      clear q2
      have HL := Bx.mk (show a * n / b = (-(q + 1)) by rw [HN.out, neg_ceil hb, HQ.out, HR.out, if_pos c])
      have HH := Bx.mk (show -(-(a * n) / b) = (-q) by rw [HN.out, Int.neg_neg, HQ.out])
      have HC := Bx.mk (show ckRg (-(q + 1)) (-q) = 0 by unfold ckRg sz; rw [if_neg (by omega), if_neg (by omega)])
      have hl : I64 (-(q + 1)) := by unfold I64; omega
      have hh : I64 (-q) := by unfold I64; omega
      have hz1 : ((0 : Int) == 0) = true := rfl
      have hn0 : decide (n < 0) = false := by simp; omega
      have ha0 : decide (a < 0) = true := by simpa using s
      skip
      skip
      go_enter Try.func90, Try.ntmps90
      go_wp2_with (first
        | (go_at_call 87; (with_reducible refine (size_any n _ (by omega) (by omega)).mono ?_); rintro e w1 ⟨rfl, rfl⟩)
        | (go_at_call 87; (with_reducible refine (size_any a _ (by omega) (by omega)).mono ?_); rintro e w1 ⟨rfl, rfl⟩)
        | (go_at_call 115; refine (mul64_any _ _ hu1 hu2 _).mono ?_; rw [HM1.out, HM2.out]; rintro e w1 ⟨rfl, rfl⟩)
        | (go_at_call 116; refine (div64_word p b _ p0 (by omega) hb (by omega)).mono ?_; rw [HQ.out, HR.out]; rintro e w1 ⟨rfl, k, rfl⟩))
      go_region_held3 (fun w' => w'.cell? ⟨w.heap.size + 1, 0, none⟩ = some (.int .i64 (-(q + 1))) ∧ w'.cell? ⟨w.heap.size + 1, 1, none⟩ = some (.int .i64 (-q)))
        (first | (exact ⟨c0, c1⟩) | (refine ⟨?_, ?_⟩ <;> simp [go_sem, *]; done))
        ((go_at_call 46; refine (checkRange_any (-(q + 1)) (-q) _ hl hh).mono ?_; rw [HC.out]; rintro e w2 ⟨rfl, B2⟩; obtain ⟨hc2, hf2⟩ := bcell B2; have z2 : w.heap.size + 2 ≤ w2.heap.size := (by have := B2.size; simp at this; omega); have zz : w.heap.size < w2.heap.size := (by omega); have c0 : w2.cell? ⟨w.heap.size + 1, 0, none⟩ = some (.int .i64 (-(q + 1))) := (by rw [hc2 _ _ (by simp <;> omega)]; simp [go_sem, World.cell?_alloc_past]); have c1 : w2.cell? ⟨w.heap.size + 1, 1, none⟩ = some (.int .i64 (-q)) := (by rw [hc2 _ _ (by simp <;> omega)]; simp [go_sem, World.cell?_alloc_past]); have j0 : w2.cell? ⟨w.heap.size, 0, none⟩ = some (.int .i64 0) := (by rw [hc2 _ _ (by simp <;> omega)]; simp [go_sem, World.cell?_alloc_past]); have j1 : w2.cell? ⟨w.heap.size, 1, none⟩ = some (.int .i64 0) := (by rw [hc2 _ _ (by simp <;> omega)]; simp [go_sem, World.cell?_alloc_past]); have j2 : w2.frozen? ⟨w.heap.size, 0, none⟩ = false := (by rw [hf2 _ _ (by simp <;> omega)]; simp [go_sem, World.frozen?_alloc_past]); have j3 : w2.frozen? ⟨w.heap.size, 1, none⟩ = false := (by rw [hf2 _ _ (by simp <;> omega)]; simp [go_sem, World.frozen?_alloc_past])))
      go_wp2
      obtain ⟨r0', r1'⟩ := set2 (w := w2) (b := w.heap.size) (x := .int .i64 0) (y := .int .i64 0) (.int .i64 (-(q + 1))) (.int .i64 (-q)) j0 j1
      refine bodyPost_ret (ret_range rfl _ _ _ _ _ _ rfl rfl r0' r1') rfl ⟨(by rw [HL.out, HH.out]; first | done | rfl), ?_⟩
      exact (((((((Below.refl w.heap.size w).alloc (Nat.le_refl _) _).drewN' _).alloc (by simp) _).drew).trans (B2.mono (by simp <;> omega))).setCell (by simp) _).setCell (by simp) _
    · clear q2
      have HL := Bx.mk (show a * n / b = (-q) by rw [HN.out, neg_ceil hb, HQ.out, HR.out, if_neg c])
      have HH := Bx.mk (show -(-(a * n) / b) = (-q) by rw [HN.out, Int.neg_neg, HQ.out])
      have HC := Bx.mk (show ckRg (-q) (-q) = 0 by unfold ckRg sz; rw [if_neg (by omega), if_neg (by omega)])
      have hl : I64 (-q) := by unfold I64; omega
      have hh : I64 (-q) := by unfold I64; omega
      have hz1 : ((0 : Int) == 0) = true := rfl
      have hn0 : decide (n < 0) = false := by simp; omega
      have ha0 : decide (a < 0) = true := by simpa using s
      obtain rfl : r = 0 := by omega
      clear c
      go_enter Try.func90, Try.ntmps90
      go_wp2_with (first
        | (go_at_call 87; (with_reducible refine (size_any n _ (by omega) (by omega)).mono ?_); rintro e w1 ⟨rfl, rfl⟩)
        | (go_at_call 87; (with_reducible refine (size_any a _ (by omega) (by omega)).mono ?_); rintro e w1 ⟨rfl, rfl⟩)
        | (go_at_call 115; refine (mul64_any _ _ hu1 hu2 _).mono ?_; rw [HM1.out, HM2.out]; rintro e w1 ⟨rfl, rfl⟩)
        | (go_at_call 116; refine (div64_word p b _ p0 (by omega) hb (by omega)).mono ?_; rw [HQ.out, HR.out]; rintro e w1 ⟨rfl, k, rfl⟩))
      go_region_held3 (fun w' => w'.cell? ⟨w.heap.size + 1, 0, none⟩ = some (.int .i64 (-q)) ∧ w'.cell? ⟨w.heap.size + 1, 1, none⟩ = some (.int .i64 (-q)))
        (first | (exact ⟨c0, c1⟩) | (refine ⟨?_, ?_⟩ <;> simp [go_sem, *]; done))
        ((go_at_call 46; refine (checkRange_any (-q) (-q) _ hl hh).mono ?_; rw [HC.out]; rintro e w2 ⟨rfl, B2⟩; obtain ⟨hc2, hf2⟩ := bcell B2; have z2 : w.heap.size + 2 ≤ w2.heap.size := (by have := B2.size; simp at this; omega); have zz : w.heap.size < w2.heap.size := (by omega); have c0 : w2.cell? ⟨w.heap.size + 1, 0, none⟩ = some (.int .i64 (-q)) := (by rw [hc2 _ _ (by simp <;> omega)]; simp [go_sem, World.cell?_alloc_past]); have c1 : w2.cell? ⟨w.heap.size + 1, 1, none⟩ = some (.int .i64 (-q)) := (by rw [hc2 _ _ (by simp <;> omega)]; simp [go_sem, World.cell?_alloc_past]); have j0 : w2.cell? ⟨w.heap.size, 0, none⟩ = some (.int .i64 0) := (by rw [hc2 _ _ (by simp <;> omega)]; simp [go_sem, World.cell?_alloc_past]); have j1 : w2.cell? ⟨w.heap.size, 1, none⟩ = some (.int .i64 0) := (by rw [hc2 _ _ (by simp <;> omega)]; simp [go_sem, World.cell?_alloc_past]); have j2 : w2.frozen? ⟨w.heap.size, 0, none⟩ = false := (by rw [hf2 _ _ (by simp <;> omega)]; simp [go_sem, World.frozen?_alloc_past]); have j3 : w2.frozen? ⟨w.heap.size, 1, none⟩ = false := (by rw [hf2 _ _ (by simp <;> omega)]; simp [go_sem, World.frozen?_alloc_past])))
      go_wp2
      obtain ⟨r0', r1'⟩ := set2 (w := w2) (b := w.heap.size) (x := .int .i64 0) (y := .int .i64 0) (.int .i64 (-q)) (.int .i64 (-q)) j0 j1
      refine bodyPost_ret (ret_range rfl _ _ _ _ _ _ rfl rfl r0' r1') rfl ⟨(by rw [HL.out, HH.out]; first | done | rfl), ?_⟩
      exact (((((((Below.refl w.heap.size w).alloc (Nat.le_refl _) _).drewN' _).alloc (by simp) _).drew).trans (B2.mono (by simp <;> omega))).setCell (by simp) _).setCell (by simp) _
  · have HN := Bx.mk (show a * n = p by rw [HA.out, if_neg s])
    by_cases c : 0 < r
    · have q3 := q2 c
      clear q2
      have HL := Bx.mk (show a * n / b = q by rw [HN.out, HQ.out])
      have HH := Bx.mk (show -(-(a * n) / b) = (q + 1) by rw [HN.out, ceil_of hb, HQ.out, HR.out, if_pos c])
      have HC := Bx.mk (show ckRg q (q + 1) = 0 by unfold ckRg sz; rw [if_neg (by omega), if_neg (by omega)])
      have hl : I64 q := by unfold I64; omega
      have hh : I64 (q + 1) := by unfold I64; omega
      have hz1 : ((0 : Int) == 0) = true := rfl
      have hn0 : decide (n < 0) = false := by simp; omega
      have ha0 : decide (a < 0) = false := by simpa using s
      skip
      skip
      go_enter Try.func90, Try.ntmps90
      go_wp2_with (first
        | (go_at_call 87; (with_reducible refine (size_any n _ (by omega) (by omega)).mono ?_); rintro e w1 ⟨rfl, rfl⟩)
        | (go_at_call 87; (with_reducible refine (size_any a _ (by omega) (by omega)).mono ?_); rintro e w1 ⟨rfl, rfl⟩)
        | (go_at_call 115; refine (mul64_any _ _ hu1 hu2 _).mono ?_; rw [HM1.out, HM2.out]; rintro e w1 ⟨rfl, rfl⟩)
        | (go_at_call 116; refine (div64_word p b _ p0 (by omega) hb (by omega)).mono ?_; rw [HQ.out, HR.out]; rintro e w1 ⟨rfl, k, rfl⟩))
      go_region_held3 (fun w' => w'.cell? ⟨w.heap.size + 1, 0, none⟩ = some (.int .i64 q) ∧ w'.cell? ⟨w.heap.size + 1, 1, none⟩ = some (.int .i64 (q + 1)))
        (first | (exact ⟨c0, c1⟩) | (refine ⟨?_, ?_⟩ <;> simp [go_sem, *]; done))
        ((go_at_call 46; refine (checkRange_any q (q + 1) _ hl hh).mono ?_; rw [HC.out]; rintro e w2 ⟨rfl, B2⟩; obtain ⟨hc2, hf2⟩ := bcell B2; have z2 : w.heap.size + 2 ≤ w2.heap.size := (by have := B2.size; simp at this; omega); have zz : w.heap.size < w2.heap.size := (by omega); have c0 : w2.cell? ⟨w.heap.size + 1, 0, none⟩ = some (.int .i64 q) := (by rw [hc2 _ _ (by simp <;> omega)]; simp [go_sem, World.cell?_alloc_past]); have c1 : w2.cell? ⟨w.heap.size + 1, 1, none⟩ = some (.int .i64 (q + 1)) := (by rw [hc2 _ _ (by simp <;> omega)]; simp [go_sem, World.cell?_alloc_past]); have j0 : w2.cell? ⟨w.heap.size, 0, none⟩ = some (.int .i64 0) := (by rw [hc2 _ _ (by simp <;> omega)]; simp [go_sem, World.cell?_alloc_past]); have j1 : w2.cell? ⟨w.heap.size, 1, none⟩ = some (.int .i64 0) := (by rw [hc2 _ _ (by simp <;> omega)]; simp [go_sem, World.cell?_alloc_past]); have j2 : w2.frozen? ⟨w.heap.size, 0, none⟩ = false := (by rw [hf2 _ _ (by simp <;> omega)]; simp [go_sem, World.frozen?_alloc_past]); have j3 : w2.frozen? ⟨w.heap.size, 1, none⟩ = false := (by rw [hf2 _ _ (by simp <;> omega)]; simp [go_sem, World.frozen?_alloc_past])))
      go_wp2
      obtain ⟨r0', r1'⟩ := set2 (w := w2) (b := w.heap.size) (x := .int .i64 0) (y := .int .i64 0) (.int .i64 q) (.int .i64 (q + 1)) j0 j1
      refine bodyPost_ret (ret_range rfl _ _ _ _ _ _ rfl rfl r0' r1') rfl ⟨(by rw [HL.out, HH.out]; first | done | rfl), ?_⟩
      exact (((((((Below.refl w.heap.size w).alloc (Nat.le_refl _) _).drewN' _).alloc (by simp) _).drew).trans (B2.mono (by simp <;> omega))).setCell (by simp) _).setCell (by simp) _
    · clear q2
      have HL := Bx.mk (show a * n / b = q by rw [HN.out, HQ.out])
      have HH := Bx.mk (show -(-(a * n) / b) = q by rw [HN.out, ceil_of hb, HQ.out, HR.out, if_neg c])
      have HC := Bx.mk (show ckRg q q = 0 by unfold ckRg sz; rw [if_neg (by omega), if_neg (by omega)])
      have hl : I64 q := by unfold I64; omega
      have hh : I64 q := by unfold I64; omega
      have hz1 : ((0 : Int) == 0) = true := rfl
      have hn0 : decide (n < 0) = false := by simp; omega
      have ha0 : decide (a < 0) = false := by simpa using s
      obtain rfl : r = 0 := by omega
      clear c
      go_enter Try.func90, Try.ntmps90
      go_wp2_with (first
        | (go_at_call 87; (with_reducible refine (size_any n _ (by omega) (by omega)).mono ?_); rintro e w1 ⟨rfl, rfl⟩)
        | (go_at_call 87; (with_reducible refine (size_any a _ (by omega) (by omega)).mono ?_); rintro e w1 ⟨rfl, rfl⟩)
        | (go_at_call 115; refine (mul64_any _ _ hu1 hu2 _).mono ?_; rw [HM1.out, HM2.out]; rintro e w1 ⟨rfl, rfl⟩)
        | (go_at_call 116; refine (div64_word p b _ p0 (by omega) hb (by omega)).mono ?_; rw [HQ.out, HR.out]; rintro e w1 ⟨rfl, k, rfl⟩))
      go_region_held3 (fun w' => w'.cell? ⟨w.heap.size + 1, 0, none⟩ = some (.int .i64 q) ∧ w'.cell? ⟨w.heap.size + 1, 1, none⟩ = some (.int .i64 q))
        (first | (exact ⟨c0, c1⟩) | (refine ⟨?_, ?_⟩ <;> simp [go_sem, *]; done))
        ((go_at_call 46; refine (checkRange_any q q _ hl hh).mono ?_; rw [HC.out]; rintro e w2 ⟨rfl, B2⟩; obtain ⟨hc2, hf2⟩ := bcell B2; have z2 : w.heap.size + 2 ≤ w2.heap.size := (by have := B2.size; simp at this; omega); have zz : w.heap.size < w2.heap.size := (by omega); have c0 : w2.cell? ⟨w.heap.size + 1, 0, none⟩ = some (.int .i64 q) := (by rw [hc2 _ _ (by simp <;> omega)]; simp [go_sem, World.cell?_alloc_past]); have c1 : w2.cell? ⟨w.heap.size + 1, 1, none⟩ = some (.int .i64 q) := (by rw [hc2 _ _ (by simp <;> omega)]; simp [go_sem, World.cell?_alloc_past]); have j0 : w2.cell? ⟨w.heap.size, 0, none⟩ = some (.int .i64 0) := (by rw [hc2 _ _ (by simp <;> omega)]; simp [go_sem, World.cell?_alloc_past]); have j1 : w2.cell? ⟨w.heap.size, 1, none⟩ = some (.int .i64 0) := (by rw [hc2 _ _ (by simp <;> omega)]; simp [go_sem, World.cell?_alloc_past]); have j2 : w2.frozen? ⟨w.heap.size, 0, none⟩ = false := (by rw [hf2 _ _ (by simp <;> omega)]; simp [go_sem, World.frozen?_alloc_past]); have j3 : w2.frozen? ⟨w.heap.size, 1, none⟩ = false := (by rw [hf2 _ _ (by simp <;> omega)]; simp [go_sem, World.frozen?_alloc_past])))
      go_wp2
      obtain ⟨r0', r1'⟩ := set2 (w := w2) (b := w.heap.size) (x := .int .i64 0) (y := .int .i64 0) (.int .i64 q) (.int .i64 q) j0 j1
      refine bodyPost_ret (ret_range rfl _ _ _ _ _ _ rfl rfl r0' r1') rfl ⟨(by rw [HL.out, HH.out]; first | done | rfl), ?_⟩
      exact (((((((Below.refl w.heap.size w).alloc (Nat.le_refl _) _).drewN' _).alloc (by simp) _).drew).trans (B2.mono (by simp <;> omega))).setCell (by simp) _).setCell (by simp) _


def wholeN (a b t : Int) : Int × Int × Int := if ckF a b ≠ 0 then (0, 0, ckF a b) else if t < 1 ∨ 1000000 < t then (0, 0, 2) else (a * t / b, -(-(a * t) / b), 0)

set_option maxHeartbeats 2000000 in
theorem whole_any (a b t : Int) (w : World) (ha : I64 a) (hb : I64 b) (ht : I64 t) :
    Calls Try.prog 34 #[.agg #[.int .i64 a, .int .i64 b], .int .i64 t] w fun e w' => e = .returned (.tuple #[.agg #[.int .i64 (wholeN a b t).1, .int .i64 (wholeN a b t).2.1], .int .i64 (wholeN a b t).2.2]) ∧ Below w.heap.size w w' := by
  by_cases he : ckFs [(a, b)] = 0
  · have he' : (ckFs [(a, b)] != 0) = false := by rw [he]; rfl
    have z1 := he
    rw [ckFs_one] at z1
    dsimp only at z1
    have HZ := Bx.mk z1
    obtain ⟨a1, a2, b1, b2, _⟩ := ckF_zero z1
    clear z1 he
    have hh : I64 t := ht
    obtain ⟨t1, t2⟩ := hh
    rcases Int.lt_or_le t 1 with g2 | g2
    · have HR := Bx.mk (show wholeN a b t = (0, 0, 2) by unfold wholeN; rw [if_neg (by simpa using HZ.out), if_pos (.inl g2)])
      go_enter Try.func34, Try.ntmps34
      go_wp2_with (go_at_call 83; refine (checkFracs1 a b _ _ (by simp) ha hb (by simp [go_sem, World.cell?_alloc_past]) (by simp [go_sem, World.cell?_alloc_past])).mono ?_; rintro e w1 ⟨rfl, B1⟩; obtain ⟨hc1, hf1⟩ := bcell B1; have hz1 : w.heap.size + 3 ≤ w1.heap.size := (by have := B1.size; simp at this; omega); have zz : w.heap.size + 1 < w1.heap.size := (by omega); have k0 : w1.cell? ⟨w.heap.size + 1, 0, none⟩ = some (.int .i64 0) := (by rw [hc1 _ _ (by simp)]; simp [go_sem, World.cell?_alloc_past]); have k1 : w1.cell? ⟨w.heap.size + 1, 1, none⟩ = some (.int .i64 0) := (by rw [hc1 _ _ (by simp)]; simp [go_sem, World.cell?_alloc_past]); have k2 : w1.frozen? ⟨w.heap.size + 1, 0, none⟩ = false := (by rw [hf1 _ _ (by simp)]; simp [go_sem, World.frozen?_alloc_past]); have k3 : w1.frozen? ⟨w.heap.size + 1, 1, none⟩ = false := (by rw [hf1 _ _ (by simp)]; simp [go_sem, World.frozen?_alloc_past]))
      obtain ⟨r0, r1⟩ := set2 (w := w1) (b := w.heap.size + 1) (x := .int .i64 0) (y := .int .i64 0) (.int .i64 0) (.int .i64 0) k0 k1
      refine bodyPost_ret (ret_range rfl _ _ _ _ _ _ rfl rfl r0 r1) rfl ⟨(by rw [HR.out]; first | done | rfl), ?_⟩
      exact ((((((((Below.refl w.heap.size w).alloc (Nat.le_refl _) _).alloc (by simp) _).alloc (by simp; omega) _).trans (B1.mono (by simp; omega))))).setCell (by simp <;> omega) _).setCell (by simp <;> omega) _
    · rcases Int.lt_or_le 1000000 t with g3 | g3
      · have HR := Bx.mk (show wholeN a b t = (0, 0, 2) by unfold wholeN; rw [if_neg (by simpa using HZ.out), if_pos (.inr g3)])
        go_enter Try.func34, Try.ntmps34
        go_wp2_with (go_at_call 83; refine (checkFracs1 a b _ _ (by simp) ha hb (by simp [go_sem, World.cell?_alloc_past]) (by simp [go_sem, World.cell?_alloc_past])).mono ?_; rintro e w1 ⟨rfl, B1⟩; obtain ⟨hc1, hf1⟩ := bcell B1; have hz1 : w.heap.size + 3 ≤ w1.heap.size := (by have := B1.size; simp at this; omega); have zz : w.heap.size + 1 < w1.heap.size := (by omega); have k0 : w1.cell? ⟨w.heap.size + 1, 0, none⟩ = some (.int .i64 0) := (by rw [hc1 _ _ (by simp)]; simp [go_sem, World.cell?_alloc_past]); have k1 : w1.cell? ⟨w.heap.size + 1, 1, none⟩ = some (.int .i64 0) := (by rw [hc1 _ _ (by simp)]; simp [go_sem, World.cell?_alloc_past]); have k2 : w1.frozen? ⟨w.heap.size + 1, 0, none⟩ = false := (by rw [hf1 _ _ (by simp)]; simp [go_sem, World.frozen?_alloc_past]); have k3 : w1.frozen? ⟨w.heap.size + 1, 1, none⟩ = false := (by rw [hf1 _ _ (by simp)]; simp [go_sem, World.frozen?_alloc_past]))
        obtain ⟨r0, r1⟩ := set2 (w := w1) (b := w.heap.size + 1) (x := .int .i64 0) (y := .int .i64 0) (.int .i64 0) (.int .i64 0) k0 k1
        refine bodyPost_ret (ret_range rfl _ _ _ _ _ _ rfl rfl r0 r1) rfl ⟨(by rw [HR.out]; first | done | rfl), ?_⟩
        exact ((((((((Below.refl w.heap.size w).alloc (Nat.le_refl _) _).alloc (by simp) _).alloc (by simp; omega) _).trans (B1.mono (by simp; omega))))).setCell (by simp <;> omega) _).setCell (by simp <;> omega) _
      · have HR := Bx.mk (show wholeN a b t = (a * t / b, -(-(a * t) / b), 0) by unfold wholeN; rw [if_neg (by simpa using HZ.out), if_neg (by omega)])
        go_enter Try.func34, Try.ntmps34
        go_wp2_with (first
          | (go_at_call 83; refine (checkFracs1 a b _ _ (by simp) ha hb (by simp [go_sem, World.cell?_alloc_past]) (by simp [go_sem, World.cell?_alloc_past])).mono ?_; rintro e w1 ⟨rfl, B1⟩; obtain ⟨hc1, hf1⟩ := bcell B1; have hz1 : w.heap.size + 3 ≤ w1.heap.size := (by have := B1.size; simp at this; omega); have zz : w.heap.size + 1 < w1.heap.size := (by omega); have k0 : w1.cell? ⟨w.heap.size + 1, 0, none⟩ = some (.int .i64 0) := (by rw [hc1 _ _ (by simp)]; simp [go_sem, World.cell?_alloc_past]); have k1 : w1.cell? ⟨w.heap.size + 1, 1, none⟩ = some (.int .i64 0) := (by rw [hc1 _ _ (by simp)]; simp [go_sem, World.cell?_alloc_past]); have k2 : w1.frozen? ⟨w.heap.size + 1, 0, none⟩ = false := (by rw [hf1 _ _ (by simp)]; simp [go_sem, World.frozen?_alloc_past]); have k3 : w1.frozen? ⟨w.heap.size + 1, 1, none⟩ = false := (by rw [hf1 _ _ (by simp)]; simp [go_sem, World.frozen?_alloc_past]); have q0 : w1.cell? ⟨w.heap.size, 0, none⟩ = some (.int .i64 a) := (by rw [hc1 _ _ (by simp <;> omega)]; simp [go_sem, World.cell?_alloc_past]); have q1 : w1.cell? ⟨w.heap.size, 1, none⟩ = some (.int .i64 b) := (by rw [hc1 _ _ (by simp <;> omega)]; simp [go_sem, World.cell?_alloc_past]))
          | (go_at_call 90; refine (enclose_small t a b _ (by omega) (by omega) (by omega) (by omega) (by omega) (by omega)).mono ?_; rintro e w2 ⟨rfl, B2⟩; obtain ⟨hc2, hf2⟩ := bcell B2; have hz2 := B2.size; have zz2 : w.heap.size + 1 < w2.heap.size := (by omega); have j0 := (hc2 (w.heap.size + 1) 0 (by omega)).trans k0; have j1 := (hc2 (w.heap.size + 1) 1 (by omega)).trans k1; have j2 := (hf2 (w.heap.size + 1) 0 (by omega)).trans k2; have j3 := (hf2 (w.heap.size + 1) 1 (by omega)).trans k3))
        obtain ⟨r0, r1⟩ := set2 (w := w2) (b := w.heap.size + 1) (x := .int .i64 0) (y := .int .i64 0) (.int .i64 (a * t / b)) (.int .i64 (-(-(a * t) / b))) j0 j1
        have s0 := cellA (.cells #[.int .i64 (a * t / b), .int .i64 (-(-(a * t) / b))] 38) r0
        have s1 := cellA (.cells #[.int .i64 (a * t / b), .int .i64 (-(-(a * t) / b))] 38) r1
        refine bodyPost_ret (ret_range rfl _ _ _ _ _ _ rfl rfl s0 s1) rfl ⟨(by rw [HR.out]; first | done | rfl), ?_⟩
        exact ((((((((((Below.refl w.heap.size w).alloc (Nat.le_refl _) _).alloc (by simp) _).alloc (by simp; omega) _).trans (B1.mono (by simp; omega))))).trans (B2.mono (by omega))).setCell (by simp <;> omega) _).setCell (by simp <;> omega) _).alloc (by simp; omega) _
  · have he' : (ckFs [(a, b)] != 0) = true := by simpa using he
    have HR := Bx.mk (show wholeN a b t = (0, 0, ckFs [(a, b)]) by rw [ckFs_one] at he ⊢; unfold wholeN; rw [if_pos he])
    clear he
    go_enter Try.func34, Try.ntmps34
    go_wp2_with (go_at_call 83; refine (checkFracs1 a b _ _ (by simp) ha hb (by simp [go_sem, World.cell?_alloc_past]) (by simp [go_sem, World.cell?_alloc_past])).mono ?_; rintro e w1 ⟨rfl, B1⟩; obtain ⟨hc1, hf1⟩ := bcell B1; have hz1 : w.heap.size + 3 ≤ w1.heap.size := (by have := B1.size; simp at this; omega); have zz : w.heap.size + 1 < w1.heap.size := (by omega); have k0 : w1.cell? ⟨w.heap.size + 1, 0, none⟩ = some (.int .i64 0) := (by rw [hc1 _ _ (by simp)]; simp [go_sem, World.cell?_alloc_past]); have k1 : w1.cell? ⟨w.heap.size + 1, 1, none⟩ = some (.int .i64 0) := (by rw [hc1 _ _ (by simp)]; simp [go_sem, World.cell?_alloc_past]); have k2 : w1.frozen? ⟨w.heap.size + 1, 0, none⟩ = false := (by rw [hf1 _ _ (by simp)]; simp [go_sem, World.frozen?_alloc_past]); have k3 : w1.frozen? ⟨w.heap.size + 1, 1, none⟩ = false := (by rw [hf1 _ _ (by simp)]; simp [go_sem, World.frozen?_alloc_past]))
    obtain ⟨r0, r1⟩ := set2 (w := w1) (b := w.heap.size + 1) (x := .int .i64 0) (y := .int .i64 0) (.int .i64 0) (.int .i64 0) k0 k1
    refine bodyPost_ret (ret_range rfl _ _ _ _ _ _ rfl rfl r0 r1) rfl ⟨(by rw [HR.out]; first | done | rfl), ?_⟩
    exact ((((((((Below.refl w.heap.size w).alloc (Nat.le_refl _) _).alloc (by simp) _).alloc (by simp; omega) _).trans (B1.mono (by simp; omega))))).setCell (by simp <;> omega) _).setCell (by simp <;> omega) _

end Go.Proofs.Ytfnmnnbmhfbkbaa