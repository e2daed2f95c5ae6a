/- Walks: what a range's end is multiplied to, whole. -/
import Derived.Test.YtlkfkekglmjhhaaDw
set_option linter.unusedVariables false
set_option linter.unusedSimpArgs false
namespace Go.Proofs.Ytlkfkekglmjhhaa
open Go.RowKit


theorem prod_sign (n a : Int) : a * n = if (decide (n < 0) != decide (a < 0)) = true then -(sz n * sz a) else sz n * sz a := by
  have hn : sz n = if n < 0 then -n else n := by unfold sz; split <;> omega
  have ha : sz a = if a < 0 then -a else a := by unfold sz; split <;> omega
  rw [hn, ha]
  by_cases c : n < 0 <;> by_cases d : a < 0 <;> simp [c, d, Int.neg_mul, Int.mul_neg, Int.mul_comm]

set_option maxRecDepth 100000 in
set_option maxHeartbeats 8000000 in
theorem enclose_any (n a b : Int) (w : World) (n1 : -1000000000000000 ≤ n) (n2 : n ≤ 1000000000000000) (a1 : -1000000000000000 ≤ a) (a2 : a ≤ 1000000000000000) (hb : 1 ≤ b) (hb2 : b ≤ 1000000000) (hf : Bx (sz n * sz a ≤ 1000000000000000 * b)) :
    Calls Try.prog 90 #[.int .i64 n, .int .i64 a, .int .i64 b] w fun e w' => e = .returned (.tuple #[.agg #[.int .i64 (a * n / b), .int .i64 (-(-(a * n) / b))], .bool true]) ∧ Below w.heap.size w w' := by
  have u1 := sz_nonneg n
  have u2 := sz_nonneg a
  have u3 := sz_le n1 n2
  have u4 := sz_le a1 a2
  have hu1 : U64 (sz n) := by unfold U64; omega
  have hu2 : U64 (sz a) := by unfold U64; omega
  have p0 : 0 ≤ sz n * sz a := Int.mul_nonneg u1 u2
  obtain ⟨ph, HM1⟩ : ∃ h, Bx (sz n * sz a / 18446744073709551616 = h) := ⟨_, ⟨rfl⟩⟩
  obtain ⟨pl, HM2⟩ : ∃ l, Bx (sz n * sz a % 18446744073709551616 = l) := ⟨_, ⟨rfl⟩⟩
  have HP := Bx.mk (show ph * 18446744073709551616 + pl = sz n * sz a by rw [← HM1.out, ← HM2.out]; omega)
  have ph0 : 0 ≤ ph := by rw [← HM1.out]; omega
  have pl0 : 0 ≤ pl := by rw [← HM2.out]; omega
  have pl1 : pl ≤ 18446744073709551615 := by rw [← HM2.out]; omega
  have phb : ph < b := by have := HP.out; have := hf.out; omega
  have e1 := Int.mul_ediv_add_emod (sz n * sz a) b
  have q0 : 0 ≤ sz n * sz a / b := Int.ediv_nonneg p0 (by omega)
  have r0 : 0 ≤ sz n * sz a % b := Int.emod_nonneg _ (by omega)
  have r1 : sz n * sz a % b < b := Int.emod_lt_of_pos _ (by omega)
  obtain ⟨q, hq⟩ : ∃ q, sz n * sz a / b = q := ⟨_, rfl⟩
  obtain ⟨r, hr⟩ : ∃ r, sz n * sz a % b = r := ⟨_, rfl⟩
  have HQ := Bx.mk (show (ph * 18446744073709551616 + pl) / b = q by rw [HP.out]; exact hq)
  have HR := Bx.mk (show (ph * 18446744073709551616 + pl) % b = r by rw [HP.out]; exact hr)
  rw [hq] at q0 e1
  rw [hr] at r0 r1 e1
  have HQ2 := Bx.mk hq
  have HR2 := Bx.mk hr
  clear hq hr
  have q1 : q ≤ 1000000000000000 := by
    have h := hf.out
    have : sz n * sz a / b ≤ 1000000000000000 := by
      have h2 : sz n * sz a / b < 1000000000000001 := by rw [Int.ediv_lt_iff_lt_mul (by omega)]; omega
      omega
    rw [HQ2.out] at this; exact this
  have q2 : 0 < r → q + 1 ≤ 1000000000000000 := fun h => by
    have h1 := hf.out
    have h3 : q < 1000000000000000 := by
      rcases Int.lt_or_le q 1000000000000000 with c | c
      · exact c
      · have := Int.mul_le_mul_of_nonneg_left c (show 0 ≤ b by omega)
        rw [Int.mul_comm b 1000000000000000] at this
        omega
    omega
  clear e1
  have HS := Bx.mk (prod_sign n a)
  have hz1 : ((0 : Int) == 0) = true := rfl
  by_cases sn : n < 0
  all_goals by_cases sa : a < 0

  · have hn0 : decide (n < 0) = true := by simpa using sn
    have ha0 : decide (a < 0) = true := by simpa using sa
    have HN := Bx.mk (show a * n = sz n * sz a by rw [HS.out, hn0, ha0]; rfl)
    clear HS
    by_cases c : 0 < r
    · have q3 := q2 c
      clear q2
      have HL := Bx.mk (show a * n / b = q by rw [HN.out, HQ2.out])
      have HH := Bx.mk (show -(-(a * n) / b) = (q + 1) by rw [HN.out, ceil_of hb, HQ2.out, HR2.out, if_pos c])
      have HC := Bx.mk (show ckRg q (q + 1) = 0 by unfold ckRg sz; rw [if_neg (by omega), if_neg (by omega)])
      have hl : I64 q := by unfold I64; omega
      have hh : I64 (q + 1) := by unfold I64; omega
      go_enter Try.func90, Try.ntmps90
      go_wp2_with (first
        | (go_at_call 87; (with_reducible refine (size_any n _ (by omega) (by omega)).mono ?_); rintro e w1 ⟨rfl, rfl⟩)
        | (go_at_call 87; (with_reducible refine (size_any a _ (by omega) (by omega)).mono ?_); rintro e w1 ⟨rfl, rfl⟩)
        | (go_at_call 115; refine (mul64_any _ _ hu1 hu2 _).mono ?_; rw [HM1.out, HM2.out]; rintro e w1 ⟨rfl, rfl⟩)
        | (go_at_call 116; refine (div64_any ph pl b _ ph0 phb pl0 pl1 hb2).mono ?_; rw [HQ.out, HR.out]; rintro e w1 ⟨rfl, k, rfl⟩))
      go_region_held3 (fun w' => w'.cell? ⟨w.heap.size + 1, 0, none⟩ = some (.int .i64 q) ∧ w'.cell? ⟨w.heap.size + 1, 1, none⟩ = some (.int .i64 (q + 1)))
        (first | (exact ⟨c0, c1⟩) | (refine ⟨?_, ?_⟩ <;> simp [go_sem, *]; done))
        ((go_at_call 46; refine (checkRange_any q (q + 1) _ hl hh).mono ?_; rw [HC.out]; rintro e w2 ⟨rfl, B2⟩; obtain ⟨hc2, hf2⟩ := bcell B2; have z2 : w.heap.size + 2 ≤ w2.heap.size := (by have := B2.size; simp at this; omega); have zz : w.heap.size < w2.heap.size := (by omega); have c0 : w2.cell? ⟨w.heap.size + 1, 0, none⟩ = some (.int .i64 q) := (by rw [hc2 _ _ (by simp <;> omega)]; simp [go_sem, World.cell?_alloc_past]); have c1 : w2.cell? ⟨w.heap.size + 1, 1, none⟩ = some (.int .i64 (q + 1)) := (by rw [hc2 _ _ (by simp <;> omega)]; simp [go_sem, World.cell?_alloc_past]); have j0 : w2.cell? ⟨w.heap.size, 0, none⟩ = some (.int .i64 0) := (by rw [hc2 _ _ (by simp <;> omega)]; simp [go_sem, World.cell?_alloc_past]); have j1 : w2.cell? ⟨w.heap.size, 1, none⟩ = some (.int .i64 0) := (by rw [hc2 _ _ (by simp <;> omega)]; simp [go_sem, World.cell?_alloc_past]); have j2 : w2.frozen? ⟨w.heap.size, 0, none⟩ = false := (by rw [hf2 _ _ (by simp <;> omega)]; simp [go_sem, World.frozen?_alloc_past]); have j3 : w2.frozen? ⟨w.heap.size, 1, none⟩ = false := (by rw [hf2 _ _ (by simp <;> omega)]; simp [go_sem, World.frozen?_alloc_past])))
      go_wp2
      obtain ⟨r0', r1'⟩ := set2 (w := w2) (b := w.heap.size) (x := .int .i64 0) (y := .int .i64 0) (.int .i64 q) (.int .i64 (q + 1)) j0 j1
      refine bodyPost_ret (ret_range rfl _ _ _ _ _ _ rfl rfl r0' r1') rfl ⟨(by rw [HL.out, HH.out]; first | done | rfl), ?_⟩
      exact (((((((Below.refl w.heap.size w).alloc (Nat.le_refl _) _).drewN' _).alloc (by simp) _).drew).trans (B2.mono (by simp <;> omega))).setCell (by simp) _).setCell (by simp) _
    · clear q2
      have HL := Bx.mk (show a * n / b = q by rw [HN.out, HQ2.out])
      have HH := Bx.mk (show -(-(a * n) / b) = q by rw [HN.out, ceil_of hb, HQ2.out, HR2.out, if_neg c])
      have HC := Bx.mk (show ckRg q q = 0 by unfold ckRg sz; rw [if_neg (by omega), if_neg (by omega)])
      have hl : I64 q := by unfold I64; omega
      have hh : I64 q := by unfold I64; omega
      obtain rfl : r = 0 := by omega
      clear c
      go_enter Try.func90, Try.ntmps90
      go_wp2_with (first
        | (go_at_call 87; (with_reducible refine (size_any n _ (by omega) (by omega)).mono ?_); rintro e w1 ⟨rfl, rfl⟩)
        | (go_at_call 87; (with_reducible refine (size_any a _ (by omega) (by omega)).mono ?_); rintro e w1 ⟨rfl, rfl⟩)
        | (go_at_call 115; refine (mul64_any _ _ hu1 hu2 _).mono ?_; rw [HM1.out, HM2.out]; rintro e w1 ⟨rfl, rfl⟩)
        | (go_at_call 116; refine (div64_any ph pl b _ ph0 phb pl0 pl1 hb2).mono ?_; rw [HQ.out, HR.out]; rintro e w1 ⟨rfl, k, rfl⟩))
      go_region_held3 (fun w' => w'.cell? ⟨w.heap.size + 1, 0, none⟩ = some (.int .i64 q) ∧ w'.cell? ⟨w.heap.size + 1, 1, none⟩ = some (.int .i64 q))
        (first | (exact ⟨c0, c1⟩) | (refine ⟨?_, ?_⟩ <;> simp [go_sem, *]; done))
        ((go_at_call 46; refine (checkRange_any q q _ hl hh).mono ?_; rw [HC.out]; rintro e w2 ⟨rfl, B2⟩; obtain ⟨hc2, hf2⟩ := bcell B2; have z2 : w.heap.size + 2 ≤ w2.heap.size := (by have := B2.size; simp at this; omega); have zz : w.heap.size < w2.heap.size := (by omega); have c0 : w2.cell? ⟨w.heap.size + 1, 0, none⟩ = some (.int .i64 q) := (by rw [hc2 _ _ (by simp <;> omega)]; simp [go_sem, World.cell?_alloc_past]); have c1 : w2.cell? ⟨w.heap.size + 1, 1, none⟩ = some (.int .i64 q) := (by rw [hc2 _ _ (by simp <;> omega)]; simp [go_sem, World.cell?_alloc_past]); have j0 : w2.cell? ⟨w.heap.size, 0, none⟩ = some (.int .i64 0) := (by rw [hc2 _ _ (by simp <;> omega)]; simp [go_sem, World.cell?_alloc_past]); have j1 : w2.cell? ⟨w.heap.size, 1, none⟩ = some (.int .i64 0) := (by rw [hc2 _ _ (by simp <;> omega)]; simp [go_sem, World.cell?_alloc_past]); have j2 : w2.frozen? ⟨w.heap.size, 0, none⟩ = false := (by rw [hf2 _ _ (by simp <;> omega)]; simp [go_sem, World.frozen?_alloc_past]); have j3 : w2.frozen? ⟨w.heap.size, 1, none⟩ = false := (by rw [hf2 _ _ (by simp <;> omega)]; simp [go_sem, World.frozen?_alloc_past])))
      go_wp2
      obtain ⟨r0', r1'⟩ := set2 (w := w2) (b := w.heap.size) (x := .int .i64 0) (y := .int .i64 0) (.int .i64 q) (.int .i64 q) j0 j1
      refine bodyPost_ret (ret_range rfl _ _ _ _ _ _ rfl rfl r0' r1') rfl ⟨(by rw [HL.out, HH.out]; first | done | rfl), ?_⟩
      exact (((((((Below.refl w.heap.size w).alloc (Nat.le_refl _) _).drewN' _).alloc (by simp) _).drew).trans (B2.mono (by simp <;> omega))).setCell (by simp) _).setCell (by simp) _
  · have hn0 : decide (n < 0) = true := by simpa using sn
    have ha0 : decide (a < 0) = false := by simpa using sa
    have HN := Bx.mk (show a * n = -(sz n * sz a) by rw [HS.out, hn0, ha0]; rfl)
    clear HS
    by_cases c : 0 < r
    · have q3 := q2 c
      clear q2
      have HL := Bx.mk (show a * n / b = (-(q + 1)) by rw [HN.out, neg_ceil hb, HQ2.out, HR2.out, if_pos c])
      have HH := Bx.mk (show -(-(a * n) / b) = (-q) by rw [HN.out, Int.neg_neg, HQ2.out])
      have HC := Bx.mk (show ckRg (-(q + 1)) (-q) = 0 by unfold ckRg sz; rw [if_neg (by omega), if_neg (by omega)])
      have hl : I64 (-(q + 1)) := by unfold I64; omega
      have hh : I64 (-q) := by unfold I64; omega
      go_enter Try.func90, Try.ntmps90
      go_wp2_with (first
        | (go_at_call 87; (with_reducible refine (size_any n _ (by omega) (by omega)).mono ?_); rintro e w1 ⟨rfl, rfl⟩)
        | (go_at_call 87; (with_reducible refine (size_any a _ (by omega) (by omega)).mono ?_); rintro e w1 ⟨rfl, rfl⟩)
        | (go_at_call 115; refine (mul64_any _ _ hu1 hu2 _).mono ?_; rw [HM1.out, HM2.out]; rintro e w1 ⟨rfl, rfl⟩)
        | (go_at_call 116; refine (div64_any ph pl b _ ph0 phb pl0 pl1 hb2).mono ?_; rw [HQ.out, HR.out]; rintro e w1 ⟨rfl, k, rfl⟩))
      go_region_held3 (fun w' => w'.cell? ⟨w.heap.size + 1, 0, none⟩ = some (.int .i64 (-(q + 1))) ∧ w'.cell? ⟨w.heap.size + 1, 1, none⟩ = some (.int .i64 (-q)))
        (first | (exact ⟨c0, c1⟩) | (refine ⟨?_, ?_⟩ <;> simp [go_sem, *]; done))
        ((go_at_call 46; refine (checkRange_any (-(q + 1)) (-q) _ hl hh).mono ?_; rw [HC.out]; rintro e w2 ⟨rfl, B2⟩; obtain ⟨hc2, hf2⟩ := bcell B2; have z2 : w.heap.size + 2 ≤ w2.heap.size := (by have := B2.size; simp at this; omega); have zz : w.heap.size < w2.heap.size := (by omega); have c0 : w2.cell? ⟨w.heap.size + 1, 0, none⟩ = some (.int .i64 (-(q + 1))) := (by rw [hc2 _ _ (by simp <;> omega)]; simp [go_sem, World.cell?_alloc_past]); have c1 : w2.cell? ⟨w.heap.size + 1, 1, none⟩ = some (.int .i64 (-q)) := (by rw [hc2 _ _ (by simp <;> omega)]; simp [go_sem, World.cell?_alloc_past]); have j0 : w2.cell? ⟨w.heap.size, 0, none⟩ = some (.int .i64 0) := (by rw [hc2 _ _ (by simp <;> omega)]; simp [go_sem, World.cell?_alloc_past]); have j1 : w2.cell? ⟨w.heap.size, 1, none⟩ = some (.int .i64 0) := (by rw [hc2 _ _ (by simp <;> omega)]; simp [go_sem, World.cell?_alloc_past]); have j2 : w2.frozen? ⟨w.heap.size, 0, none⟩ = false := (by rw [hf2 _ _ (by simp <;> omega)]; simp [go_sem, World.frozen?_alloc_past]); have j3 : w2.frozen? ⟨w.heap.size, 1, none⟩ = false := (by rw [hf2 _ _ (by simp <;> omega)]; simp [go_sem, World.frozen?_alloc_past])))
      go_wp2
      obtain ⟨r0', r1'⟩ := set2 (w := w2) (b := w.heap.size) (x := .int .i64 0) (y := .int .i64 0) (.int .i64 (-(q + 1))) (.int .i64 (-q)) j0 j1
      refine bodyPost_ret (ret_range rfl _ _ _ _ _ _ rfl rfl r0' r1') rfl ⟨(by rw [HL.out, HH.out]; first | done | rfl), ?_⟩
      exact (((((((Below.refl w.heap.size w).alloc (Nat.le_refl _) _).drewN' _).alloc (by simp) _).drew).trans (B2.mono (by simp <;> omega))).setCell (by simp) _).setCell (by simp) _
    · clear q2
      have HL := Bx.mk (show a * n / b = (-q) by rw [HN.out, neg_ceil hb, HQ2.out, HR2.out, if_neg c])
      have HH := Bx.mk (show -(-(a * n) / b) = (-q) by rw [HN.out, Int.neg_neg, HQ2.out])
      have HC := Bx.mk (show ckRg (-q) (-q) = 0 by unfold ckRg sz; rw [if_neg (by omega), if_neg (by omega)])
      have hl : I64 (-q) := by unfold I64; omega
      have hh : I64 (-q) := by unfold I64; omega
      obtain rfl : r = 0 := by omega
      clear c
      go_enter Try.func90, Try.ntmps90
      go_wp2_with (first
        | (go_at_call 87; (with_reducible refine (size_any n _ (by omega) (by omega)).mono ?_); rintro e w1 ⟨rfl, rfl⟩)
        | (go_at_call 87; (with_reducible refine (size_any a _ (by omega) (by omega)).mono ?_); rintro e w1 ⟨rfl, rfl⟩)
        | (go_at_call 115; refine (mul64_any _ _ hu1 hu2 _).mono ?_; rw [HM1.out, HM2.out]; rintro e w1 ⟨rfl, rfl⟩)
        | (go_at_call 116; refine (div64_any ph pl b _ ph0 phb pl0 pl1 hb2).mono ?_; rw [HQ.out, HR.out]; rintro e w1 ⟨rfl, k, rfl⟩))
      go_region_held3 (fun w' => w'.cell? ⟨w.heap.size + 1, 0, none⟩ = some (.int .i64 (-q)) ∧ w'.cell? ⟨w.heap.size + 1, 1, none⟩ = some (.int .i64 (-q)))
        (first | (exact ⟨c0, c1⟩) | (refine ⟨?_, ?_⟩ <;> simp [go_sem, *]; done))
        ((go_at_call 46; refine (checkRange_any (-q) (-q) _ hl hh).mono ?_; rw [HC.out]; rintro e w2 ⟨rfl, B2⟩; obtain ⟨hc2, hf2⟩ := bcell B2; have z2 : w.heap.size + 2 ≤ w2.heap.size := (by have := B2.size; simp at this; omega); have zz : w.heap.size < w2.heap.size := (by omega); have c0 : w2.cell? ⟨w.heap.size + 1, 0, none⟩ = some (.int .i64 (-q)) := (by rw [hc2 _ _ (by simp <;> omega)]; simp [go_sem, World.cell?_alloc_past]); have c1 : w2.cell? ⟨w.heap.size + 1, 1, none⟩ = some (.int .i64 (-q)) := (by rw [hc2 _ _ (by simp <;> omega)]; simp [go_sem, World.cell?_alloc_past]); have j0 : w2.cell? ⟨w.heap.size, 0, none⟩ = some (.int .i64 0) := (by rw [hc2 _ _ (by simp <;> omega)]; simp [go_sem, World.cell?_alloc_past]); have j1 : w2.cell? ⟨w.heap.size, 1, none⟩ = some (.int .i64 0) := (by rw [hc2 _ _ (by simp <;> omega)]; simp [go_sem, World.cell?_alloc_past]); have j2 : w2.frozen? ⟨w.heap.size, 0, none⟩ = false := (by rw [hf2 _ _ (by simp <;> omega)]; simp [go_sem, World.frozen?_alloc_past]); have j3 : w2.frozen? ⟨w.heap.size, 1, none⟩ = false := (by rw [hf2 _ _ (by simp <;> omega)]; simp [go_sem, World.frozen?_alloc_past])))
      go_wp2
      obtain ⟨r0', r1'⟩ := set2 (w := w2) (b := w.heap.size) (x := .int .i64 0) (y := .int .i64 0) (.int .i64 (-q)) (.int .i64 (-q)) j0 j1
      refine bodyPost_ret (ret_range rfl _ _ _ _ _ _ rfl rfl r0' r1') rfl ⟨(by rw [HL.out, HH.out]; first | done | rfl), ?_⟩
      exact (((((((Below.refl w.heap.size w).alloc (Nat.le_refl _) _).drewN' _).alloc (by simp) _).drew).trans (B2.mono (by simp <;> omega))).setCell (by simp) _).setCell (by simp) _
  · have hn0 : decide (n < 0) = false := by simpa using sn
    have ha0 : decide (a < 0) = true := by simpa using sa
    have HN := Bx.mk (show a * n = -(sz n * sz a) by rw [HS.out, hn0, ha0]; rfl)
    clear HS
    by_cases c : 0 < r
    · have q3 := q2 c
      clear q2
      have HL := Bx.mk (show a * n / b = (-(q + 1)) by rw [HN.out, neg_ceil hb, HQ2.out, HR2.out, if_pos c])
      have HH := Bx.mk (show -(-(a * n) / b) = (-q) by rw [HN.out, Int.neg_neg, HQ2.out])
      have HC := Bx.mk (show ckRg (-(q + 1)) (-q) = 0 by unfold ckRg sz; rw [if_neg (by omega), if_neg (by omega)])
      have hl : I64 (-(q + 1)) := by unfold I64; omega
      have hh : I64 (-q) := by unfold I64; omega
      go_enter Try.func90, Try.ntmps90
      go_wp2_with (first
        | (go_at_call 87; (with_reducible refine (size_any n _ (by omega) (by omega)).mono ?_); rintro e w1 ⟨rfl, rfl⟩)
        | (go_at_call 87; (with_reducible refine (size_any a _ (by omega) (by omega)).mono ?_); rintro e w1 ⟨rfl, rfl⟩)
        | (go_at_call 115; refine (mul64_any _ _ hu1 hu2 _).mono ?_; rw [HM1.out, HM2.out]; rintro e w1 ⟨rfl, rfl⟩)
        | (go_at_call 116; refine (div64_any ph pl b _ ph0 phb pl0 pl1 hb2).mono ?_; rw [HQ.out, HR.out]; rintro e w1 ⟨rfl, k, rfl⟩))
      go_region_held3 (fun w' => w'.cell? ⟨w.heap.size + 1, 0, none⟩ = some (.int .i64 (-(q + 1))) ∧ w'.cell? ⟨w.heap.size + 1, 1, none⟩ = some (.int .i64 (-q)))
        (first | (exact ⟨c0, c1⟩) | (refine ⟨?_, ?_⟩ <;> simp [go_sem, *]; done))
        ((go_at_call 46; refine (checkRange_any (-(q + 1)) (-q) _ hl hh).mono ?_; rw [HC.out]; rintro e w2 ⟨rfl, B2⟩; obtain ⟨hc2, hf2⟩ := bcell B2; have z2 : w.heap.size + 2 ≤ w2.heap.size := (by have := B2.size; simp at this; omega); have zz : w.heap.size < w2.heap.size := (by omega); have c0 : w2.cell? ⟨w.heap.size + 1, 0, none⟩ = some (.int .i64 (-(q + 1))) := (by rw [hc2 _ _ (by simp <;> omega)]; simp [go_sem, World.cell?_alloc_past]); have c1 : w2.cell? ⟨w.heap.size + 1, 1, none⟩ = some (.int .i64 (-q)) := (by rw [hc2 _ _ (by simp <;> omega)]; simp [go_sem, World.cell?_alloc_past]); have j0 : w2.cell? ⟨w.heap.size, 0, none⟩ = some (.int .i64 0) := (by rw [hc2 _ _ (by simp <;> omega)]; simp [go_sem, World.cell?_alloc_past]); have j1 : w2.cell? ⟨w.heap.size, 1, none⟩ = some (.int .i64 0) := (by rw [hc2 _ _ (by simp <;> omega)]; simp [go_sem, World.cell?_alloc_past]); have j2 : w2.frozen? ⟨w.heap.size, 0, none⟩ = false := (by rw [hf2 _ _ (by simp <;> omega)]; simp [go_sem, World.frozen?_alloc_past]); have j3 : w2.frozen? ⟨w.heap.size, 1, none⟩ = false := (by rw [hf2 _ _ (by simp <;> omega)]; simp [go_sem, World.frozen?_alloc_past])))
      go_wp2
      obtain ⟨r0', r1'⟩ := set2 (w := w2) (b := w.heap.size) (x := .int .i64 0) (y := .int .i64 0) (.int .i64 (-(q + 1))) (.int .i64 (-q)) j0 j1
      refine bodyPost_ret (ret_range rfl _ _ _ _ _ _ rfl rfl r0' r1') rfl ⟨(by rw [HL.out, HH.out]; first | done | rfl), ?_⟩
      exact (((((((Below.refl w.heap.size w).alloc (Nat.le_refl _) _).drewN' _).alloc (by simp) _).drew).trans (B2.mono (by simp <;> omega))).setCell (by simp) _).setCell (by simp) _
    · clear q2
      have HL := Bx.mk (show a * n / b = (-q) by rw [HN.out, neg_ceil hb, HQ2.out, HR2.out, if_neg c])
      have HH := Bx.mk (show -(-(a * n) / b) = (-q) by rw [HN.out, Int.neg_neg, HQ2.out])
      have HC := Bx.mk (show ckRg (-q) (-q) = 0 by unfold ckRg sz; rw [if_neg (by omega), if_neg (by omega)])
      have hl : I64 (-q) := by unfold I64; omega
      have hh : I64 (-q) := by unfold I64; omega
      obtain rfl : r = 0 := by omega
      clear c
      go_enter Try.func90, Try.ntmps90
      go_wp2_with (first
        | (go_at_call 87; (with_reducible refine (size_any n _ (by omega) (by omega)).mono ?_); rintro e w1 ⟨rfl, rfl⟩)
        | (go_at_call 87; (with_reducible refine (size_any a _ (by omega) (by omega)).mono ?_); rintro e w1 ⟨rfl, rfl⟩)
        | (go_at_call 115; refine (mul64_any _ _ hu1 hu2 _).mono ?_; rw [HM1.out, HM2.out]; rintro e w1 ⟨rfl, rfl⟩)
        | (go_at_call 116; refine (div64_any ph pl b _ ph0 phb pl0 pl1 hb2).mono ?_; rw [HQ.out, HR.out]; rintro e w1 ⟨rfl, k, rfl⟩))
      go_region_held3 (fun w' => w'.cell? ⟨w.heap.size + 1, 0, none⟩ = some (.int .i64 (-q)) ∧ w'.cell? ⟨w.heap.size + 1, 1, none⟩ = some (.int .i64 (-q)))
        (first | (exact ⟨c0, c1⟩) | (refine ⟨?_, ?_⟩ <;> simp [go_sem, *]; done))
        ((go_at_call 46; refine (checkRange_any (-q) (-q) _ hl hh).mono ?_; rw [HC.out]; rintro e w2 ⟨rfl, B2⟩; obtain ⟨hc2, hf2⟩ := bcell B2; have z2 : w.heap.size + 2 ≤ w2.heap.size := (by have := B2.size; simp at this; omega); have zz : w.heap.size < w2.heap.size := (by omega); have c0 : w2.cell? ⟨w.heap.size + 1, 0, none⟩ = some (.int .i64 (-q)) := (by rw [hc2 _ _ (by simp <;> omega)]; simp [go_sem, World.cell?_alloc_past]); have c1 : w2.cell? ⟨w.heap.size + 1, 1, none⟩ = some (.int .i64 (-q)) := (by rw [hc2 _ _ (by simp <;> omega)]; simp [go_sem, World.cell?_alloc_past]); have j0 : w2.cell? ⟨w.heap.size, 0, none⟩ = some (.int .i64 0) := (by rw [hc2 _ _ (by simp <;> omega)]; simp [go_sem, World.cell?_alloc_past]); have j1 : w2.cell? ⟨w.heap.size, 1, none⟩ = some (.int .i64 0) := (by rw [hc2 _ _ (by simp <;> omega)]; simp [go_sem, World.cell?_alloc_past]); have j2 : w2.frozen? ⟨w.heap.size, 0, none⟩ = false := (by rw [hf2 _ _ (by simp <;> omega)]; simp [go_sem, World.frozen?_alloc_past]); have j3 : w2.frozen? ⟨w.heap.size, 1, none⟩ = false := (by rw [hf2 _ _ (by simp <;> omega)]; simp [go_sem, World.frozen?_alloc_past])))
      go_wp2
      obtain ⟨r0', r1'⟩ := set2 (w := w2) (b := w.heap.size) (x := .int .i64 0) (y := .int .i64 0) (.int .i64 (-q)) (.int .i64 (-q)) j0 j1
      refine bodyPost_ret (ret_range rfl _ _ _ _ _ _ rfl rfl r0' r1') rfl ⟨(by rw [HL.out, HH.out]; first | done | rfl), ?_⟩
      exact (((((((Below.refl w.heap.size w).alloc (Nat.le_refl _) _).drewN' _).alloc (by simp) _).drew).trans (B2.mono (by simp <;> omega))).setCell (by simp) _).setCell (by simp) _
  · have hn0 : decide (n < 0) = false := by simpa using sn
    have ha0 : decide (a < 0) = false := by simpa using sa
    have HN := Bx.mk (show a * n = sz n * sz a by rw [HS.out, hn0, ha0]; rfl)
    clear HS
    by_cases c : 0 < r
    · have q3 := q2 c
      clear q2
      have HL := Bx.mk (show a * n / b = q by rw [HN.out, HQ2.out])
      have HH := Bx.mk (show -(-(a * n) / b) = (q + 1) by rw [HN.out, ceil_of hb, HQ2.out, HR2.out, if_pos c])
      have HC := Bx.mk (show ckRg q (q + 1) = 0 by unfold ckRg sz; rw [if_neg (by omega), if_neg (by omega)])
      have hl : I64 q := by unfold I64; omega
      have hh : I64 (q + 1) := by unfold I64; omega
      go_enter Try.func90, Try.ntmps90
      go_wp2_with (first
        | (go_at_call 87; (with_reducible refine (size_any n _ (by omega) (by omega)).mono ?_); rintro e w1 ⟨rfl, rfl⟩)
        | (go_at_call 87; (with_reducible refine (size_any a _ (by omega) (by omega)).mono ?_); rintro e w1 ⟨rfl, rfl⟩)
        | (go_at_call 115; refine (mul64_any _ _ hu1 hu2 _).mono ?_; rw [HM1.out, HM2.out]; rintro e w1 ⟨rfl, rfl⟩)
        | (go_at_call 116; refine (div64_any ph pl b _ ph0 phb pl0 pl1 hb2).mono ?_; rw [HQ.out, HR.out]; rintro e w1 ⟨rfl, k, rfl⟩))
      go_region_held3 (fun w' => w'.cell? ⟨w.heap.size + 1, 0, none⟩ = some (.int .i64 q) ∧ w'.cell? ⟨w.heap.size + 1, 1, none⟩ = some (.int .i64 (q + 1)))
        (first | (exact ⟨c0, c1⟩) | (refine ⟨?_, ?_⟩ <;> simp [go_sem, *]; done))
        ((go_at_call 46; refine (checkRange_any q (q + 1) _ hl hh).mono ?_; rw [HC.out]; rintro e w2 ⟨rfl, B2⟩; obtain ⟨hc2, hf2⟩ := bcell B2; have z2 : w.heap.size + 2 ≤ w2.heap.size := (by have := B2.size; simp at this; omega); have zz : w.heap.size < w2.heap.size := (by omega); have c0 : w2.cell? ⟨w.heap.size + 1, 0, none⟩ = some (.int .i64 q) := (by rw [hc2 _ _ (by simp <;> omega)]; simp [go_sem, World.cell?_alloc_past]); have c1 : w2.cell? ⟨w.heap.size + 1, 1, none⟩ = some (.int .i64 (q + 1)) := (by rw [hc2 _ _ (by simp <;> omega)]; simp [go_sem, World.cell?_alloc_past]); have j0 : w2.cell? ⟨w.heap.size, 0, none⟩ = some (.int .i64 0) := (by rw [hc2 _ _ (by simp <;> omega)]; simp [go_sem, World.cell?_alloc_past]); have j1 : w2.cell? ⟨w.heap.size, 1, none⟩ = some (.int .i64 0) := (by rw [hc2 _ _ (by simp <;> omega)]; simp [go_sem, World.cell?_alloc_past]); have j2 : w2.frozen? ⟨w.heap.size, 0, none⟩ = false := (by rw [hf2 _ _ (by simp <;> omega)]; simp [go_sem, World.frozen?_alloc_past]); have j3 : w2.frozen? ⟨w.heap.size, 1, none⟩ = false := (by rw [hf2 _ _ (by simp <;> omega)]; simp [go_sem, World.frozen?_alloc_past])))
      go_wp2
      obtain ⟨r0', r1'⟩ := set2 (w := w2) (b := w.heap.size) (x := .int .i64 0) (y := .int .i64 0) (.int .i64 q) (.int .i64 (q + 1)) j0 j1
      refine bodyPost_ret (ret_range rfl _ _ _ _ _ _ rfl rfl r0' r1') rfl ⟨(by rw [HL.out, HH.out]; first | done | rfl), ?_⟩
      exact (((((((Below.refl w.heap.size w).alloc (Nat.le_refl _) _).drewN' _).alloc (by simp) _).drew).trans (B2.mono (by simp <;> omega))).setCell (by simp) _).setCell (by simp) _
    · clear q2
      have HL := Bx.mk (show a * n / b = q by rw [HN.out, HQ2.out])
      have HH := Bx.mk (show -(-(a * n) / b) = q by rw [HN.out, ceil_of hb, HQ2.out, HR2.out, if_neg c])
      have HC := Bx.mk (show ckRg q q = 0 by unfold ckRg sz; rw [if_neg (by omega), if_neg (by omega)])
      have hl : I64 q := by unfold I64; omega
      have hh : I64 q := by unfold I64; omega
      obtain rfl : r = 0 := by omega
      clear c
      go_enter Try.func90, Try.ntmps90
      go_wp2_with (first
        | (go_at_call 87; (with_reducible refine (size_any n _ (by omega) (by omega)).mono ?_); rintro e w1 ⟨rfl, rfl⟩)
        | (go_at_call 87; (with_reducible refine (size_any a _ (by omega) (by omega)).mono ?_); rintro e w1 ⟨rfl, rfl⟩)
        | (go_at_call 115; refine (mul64_any _ _ hu1 hu2 _).mono ?_; rw [HM1.out, HM2.out]; rintro e w1 ⟨rfl, rfl⟩)
        | (go_at_call 116; refine (div64_any ph pl b _ ph0 phb pl0 pl1 hb2).mono ?_; rw [HQ.out, HR.out]; rintro e w1 ⟨rfl, k, rfl⟩))
      go_region_held3 (fun w' => w'.cell? ⟨w.heap.size + 1, 0, none⟩ = some (.int .i64 q) ∧ w'.cell? ⟨w.heap.size + 1, 1, none⟩ = some (.int .i64 q))
        (first | (exact ⟨c0, c1⟩) | (refine ⟨?_, ?_⟩ <;> simp [go_sem, *]; done))
        ((go_at_call 46; refine (checkRange_any q q _ hl hh).mono ?_; rw [HC.out]; rintro e w2 ⟨rfl, B2⟩; obtain ⟨hc2, hf2⟩ := bcell B2; have z2 : w.heap.size + 2 ≤ w2.heap.size := (by have := B2.size; simp at this; omega); have zz : w.heap.size < w2.heap.size := (by omega); have c0 : w2.cell? ⟨w.heap.size + 1, 0, none⟩ = some (.int .i64 q) := (by rw [hc2 _ _ (by simp <;> omega)]; simp [go_sem, World.cell?_alloc_past]); have c1 : w2.cell? ⟨w.heap.size + 1, 1, none⟩ = some (.int .i64 q) := (by rw [hc2 _ _ (by simp <;> omega)]; simp [go_sem, World.cell?_alloc_past]); have j0 : w2.cell? ⟨w.heap.size, 0, none⟩ = some (.int .i64 0) := (by rw [hc2 _ _ (by simp <;> omega)]; simp [go_sem, World.cell?_alloc_past]); have j1 : w2.cell? ⟨w.heap.size, 1, none⟩ = some (.int .i64 0) := (by rw [hc2 _ _ (by simp <;> omega)]; simp [go_sem, World.cell?_alloc_past]); have j2 : w2.frozen? ⟨w.heap.size, 0, none⟩ = false := (by rw [hf2 _ _ (by simp <;> omega)]; simp [go_sem, World.frozen?_alloc_past]); have j3 : w2.frozen? ⟨w.heap.size, 1, none⟩ = false := (by rw [hf2 _ _ (by simp <;> omega)]; simp [go_sem, World.frozen?_alloc_past])))
      go_wp2
      obtain ⟨r0', r1'⟩ := set2 (w := w2) (b := w.heap.size) (x := .int .i64 0) (y := .int .i64 0) (.int .i64 q) (.int .i64 q) j0 j1
      refine bodyPost_ret (ret_range rfl _ _ _ _ _ _ rfl rfl r0' r1') rfl ⟨(by rw [HL.out, HH.out]; first | done | rfl), ?_⟩
      exact (((((((Below.refl w.heap.size w).alloc (Nat.le_refl _) _).drewN' _).alloc (by simp) _).drew).trans (B2.mono (by simp <;> omega))).setCell (by simp) _).setCell (by simp) _


/-- It does not fit. -/
def NoFit (w : World) (e : Ending) (w' : World) : Prop := ∃ x y : Int, e = .returned (.tuple #[.agg #[.int .i64 x, .int .i64 y], .bool false]) ∧ Below w.heap.size w w'
set_option maxRecDepth 100000 in
set_option maxHeartbeats 8000000 in
theorem enclose_no (n a b : Int) (w : World) (n1 : -1000000000000000 ≤ n) (n2 : n ≤ 1000000000000000) (a1 : -1000000000000000 ≤ a) (a2 : a ≤ 1000000000000000) (hb : 1 ≤ b) (hb2 : b ≤ 1000000000) (hf : Bx (1000000000000000 * b < sz n * sz a)) :
    Calls Try.prog 90 #[.int .i64 n, .int .i64 a, .int .i64 b] w (NoFit w) := by
  have u1 := sz_nonneg n
  have u2 := sz_nonneg a
  have u3 := sz_le n1 n2
  have u4 := sz_le a1 a2
  have hu1 : U64 (sz n) := by unfold U64; omega
  have hu2 : U64 (sz a) := by unfold U64; omega
  have p0 : 0 ≤ sz n * sz a := Int.mul_nonneg u1 u2
  obtain ⟨ph, HM1⟩ : ∃ h, Bx (sz n * sz a / 18446744073709551616 = h) := ⟨_, ⟨rfl⟩⟩
  obtain ⟨pl, HM2⟩ : ∃ l, Bx (sz n * sz a % 18446744073709551616 = l) := ⟨_, ⟨rfl⟩⟩
  have HP := Bx.mk (show ph * 18446744073709551616 + pl = sz n * sz a by rw [← HM1.out, ← HM2.out]; omega)
  have ph0 : 0 ≤ ph := by rw [← HM1.out]; omega
  have pl0 : 0 ≤ pl := by rw [← HM2.out]; omega
  have pl1 : pl ≤ 18446744073709551615 := by rw [← HM2.out]; omega
  by_cases phb : ph < b
  · have hph : ¬ b ≤ ph := by omega
    have e1 := Int.mul_ediv_add_emod (sz n * sz a) b
    have q0 : 0 ≤ sz n * sz a / b := Int.ediv_nonneg p0 (by omega)
    have r0 : 0 ≤ sz n * sz a % b := Int.emod_nonneg _ (by omega)
    have r1 : sz n * sz a % b < b := Int.emod_lt_of_pos _ (by omega)
    obtain ⟨q, hq⟩ : ∃ q, sz n * sz a / b = q := ⟨_, rfl⟩
    obtain ⟨r, hr⟩ : ∃ r, sz n * sz a % b = r := ⟨_, rfl⟩
    have HQ := Bx.mk (show (ph * 18446744073709551616 + pl) / b = q by rw [HP.out]; exact hq)
    have HR := Bx.mk (show (ph * 18446744073709551616 + pl) % b = r by rw [HP.out]; exact hr)
    rw [hq] at q0 e1
    rw [hr] at r0 r1 e1
    have HQ2 := Bx.mk hq
    have HR2 := Bx.mk hr
    clear hq hr
    have q2 : 1000000000000000 ≤ q := by
      have h := hf.out
      have : 1000000000000000 ≤ sz n * sz a / b := by rw [Int.le_ediv_iff_mul_le (by omega)]; omega
      rw [HQ2.out] at this; exact this
    have q3 : q ≤ 18446744073709551615 := by
      have h := HP.out
      have : (ph * 18446744073709551616 + pl) / b < 18446744073709551616 := by
        rw [Int.ediv_lt_iff_lt_mul (by omega)]
        have := Int.mul_le_mul_of_nonneg_right (show ph + 1 ≤ b by omega) (show (0 : Int) ≤ 18446744073709551616 by omega)
        omega
      rw [HQ.out] at this; omega
    by_cases c : 1000000000000000 < q
    · clear e1
      go_enter Try.func90, Try.ntmps90
      go_wp2_with (first
        | (go_at_call 87; (with_reducible refine (size_any n _ (by omega) (by omega)).mono ?_); rintro e w1 ⟨rfl, rfl⟩)
        | (go_at_call 87; (with_reducible refine (size_any a _ (by omega) (by omega)).mono ?_); rintro e w1 ⟨rfl, rfl⟩)
        | (go_at_call 115; refine (mul64_any _ _ hu1 hu2 _).mono ?_; rw [HM1.out, HM2.out]; rintro e w1 ⟨rfl, rfl⟩)
        | (go_at_call 116; refine (div64_any ph pl b _ ph0 phb pl0 pl1 hb2).mono ?_; rw [HQ.out, HR.out]; rintro e w1 ⟨rfl, k, rfl⟩))
      refine bodyPost_ret (ret_range rfl _ _ _ _ _ _ rfl rfl (by simp [go_sem]; first | done | rfl) (by simp [go_sem]; first | done | rfl)) rfl ⟨_, _, rfl, ?_⟩
      repeat (first | exact Below.refl _ _ | refine Below.drew ?_ | refine Below.drewN' ?_ _ | refine Below.setCell ?_ (by simp) _ | refine Below.alloc ?_ (by first | exact Nat.le_refl _ | (simp; done) | (simp; omega)) _)
    · have c' : 0 < r := by
        have h := hf.out
        obtain rfl : q = 1000000000000000 := by omega
        omega
      obtain ⟨q4, hq4⟩ : ∃ t, q = t := ⟨_, rfl⟩
      clear e1 hq4
      have HS := Bx.mk (prod_sign n a)
      by_cases sn : n < 0
      all_goals by_cases sa : a < 0
      · have hn0 : decide (n < 0) = true := by simpa using sn
        have ha0 : decide (a < 0) = true := by simpa using sa
        have HN := Bx.mk (show a * n = sz n * sz a by rw [HS.out, hn0, ha0]; rfl)
        clear HS
        have HC := Bx.mk (show ckRg q (q + 1) = 2 by unfold ckRg sz; rw [if_pos (by omega)])
        have hl : I64 q := by unfold I64; omega
        have hh : I64 (q + 1) := by unfold I64; omega
        have hz2 : ((2 : Int) == 0) = false := rfl
        go_enter Try.func90, Try.ntmps90
        go_wp2_with (first
          | (go_at_call 87; (with_reducible refine (size_any n _ (by omega) (by omega)).mono ?_); rintro e w1 ⟨rfl, rfl⟩)
          | (go_at_call 87; (with_reducible refine (size_any a _ (by omega) (by omega)).mono ?_); rintro e w1 ⟨rfl, rfl⟩)
          | (go_at_call 115; refine (mul64_any _ _ hu1 hu2 _).mono ?_; rw [HM1.out, HM2.out]; rintro e w1 ⟨rfl, rfl⟩)
          | (go_at_call 116; refine (div64_any ph pl b _ ph0 phb pl0 pl1 hb2).mono ?_; rw [HQ.out, HR.out]; rintro e w1 ⟨rfl, k, rfl⟩))
        go_region_held3 (fun w' => w'.cell? ⟨w.heap.size + 1, 0, none⟩ = some (.int .i64 q) ∧ w'.cell? ⟨w.heap.size + 1, 1, none⟩ = some (.int .i64 (q + 1)))
          (first | (exact ⟨c0, c1⟩) | (refine ⟨?_, ?_⟩ <;> simp [go_sem, *]; done))
          ((go_at_call 46; refine (checkRange_any q (q + 1) _ hl hh).mono ?_; rw [HC.out]; rintro e w2 ⟨rfl, B2⟩; obtain ⟨hc2, hf2⟩ := bcell B2; have z2 : w.heap.size + 2 ≤ w2.heap.size := (by have := B2.size; simp at this; omega); have zz : w.heap.size < w2.heap.size := (by omega); have c0 : w2.cell? ⟨w.heap.size + 1, 0, none⟩ = some (.int .i64 q) := (by rw [hc2 _ _ (by simp <;> omega)]; simp [go_sem, World.cell?_alloc_past]); have c1 : w2.cell? ⟨w.heap.size + 1, 1, none⟩ = some (.int .i64 (q + 1)) := (by rw [hc2 _ _ (by simp <;> omega)]; simp [go_sem, World.cell?_alloc_past]); have j0 : w2.cell? ⟨w.heap.size, 0, none⟩ = some (.int .i64 0) := (by rw [hc2 _ _ (by simp <;> omega)]; simp [go_sem, World.cell?_alloc_past]); have j1 : w2.cell? ⟨w.heap.size, 1, none⟩ = some (.int .i64 0) := (by rw [hc2 _ _ (by simp <;> omega)]; simp [go_sem, World.cell?_alloc_past]); have j2 : w2.frozen? ⟨w.heap.size, 0, none⟩ = false := (by rw [hf2 _ _ (by simp <;> omega)]; simp [go_sem, World.frozen?_alloc_past]); have j3 : w2.frozen? ⟨w.heap.size, 1, none⟩ = false := (by rw [hf2 _ _ (by simp <;> omega)]; simp [go_sem, World.frozen?_alloc_past])))
        go_wp2
        obtain ⟨r0', r1'⟩ := set2 (w := w2) (b := w.heap.size) (x := .int .i64 0) (y := .int .i64 0) (.int .i64 q) (.int .i64 (q + 1)) j0 j1
        refine bodyPost_ret (ret_range rfl _ _ _ _ _ _ rfl rfl r0' r1') rfl ⟨_, _, rfl, ?_⟩
        exact (((((((Below.refl w.heap.size w).alloc (Nat.le_refl _) _).drewN' _).alloc (by simp) _).drew).trans (B2.mono (by simp <;> omega))).setCell (by simp) _).setCell (by simp) _
      · have hn0 : decide (n < 0) = true := by simpa using sn
        have ha0 : decide (a < 0) = false := by simpa using sa
        have HN := Bx.mk (show a * n = -(sz n * sz a) by rw [HS.out, hn0, ha0]; rfl)
        clear HS
        have HC := Bx.mk (show ckRg (-(q + 1)) (-q) = 2 by unfold ckRg sz; rw [if_pos (by omega)])
        have hl : I64 (-(q + 1)) := by unfold I64; omega
        have hh : I64 (-q) := by unfold I64; omega
        have hz2 : ((2 : Int) == 0) = false := rfl
        go_enter Try.func90, Try.ntmps90
        go_wp2_with (first
          | (go_at_call 87; (with_reducible refine (size_any n _ (by omega) (by omega)).mono ?_); rintro e w1 ⟨rfl, rfl⟩)
          | (go_at_call 87; (with_reducible refine (size_any a _ (by omega) (by omega)).mono ?_); rintro e w1 ⟨rfl, rfl⟩)
          | (go_at_call 115; refine (mul64_any _ _ hu1 hu2 _).mono ?_; rw [HM1.out, HM2.out]; rintro e w1 ⟨rfl, rfl⟩)
          | (go_at_call 116; refine (div64_any ph pl b _ ph0 phb pl0 pl1 hb2).mono ?_; rw [HQ.out, HR.out]; rintro e w1 ⟨rfl, k, rfl⟩))
        go_region_held3 (fun w' => w'.cell? ⟨w.heap.size + 1, 0, none⟩ = some (.int .i64 (-(q + 1))) ∧ w'.cell? ⟨w.heap.size + 1, 1, none⟩ = some (.int .i64 (-q)))
          (first | (exact ⟨c0, c1⟩) | (refine ⟨?_, ?_⟩ <;> simp [go_sem, *]; done))
          ((go_at_call 46; refine (checkRange_any (-(q + 1)) (-q) _ hl hh).mono ?_; rw [HC.out]; rintro e w2 ⟨rfl, B2⟩; obtain ⟨hc2, hf2⟩ := bcell B2; have z2 : w.heap.size + 2 ≤ w2.heap.size := (by have := B2.size; simp at this; omega); have zz : w.heap.size < w2.heap.size := (by omega); have c0 : w2.cell? ⟨w.heap.size + 1, 0, none⟩ = some (.int .i64 (-(q + 1))) := (by rw [hc2 _ _ (by simp <;> omega)]; simp [go_sem, World.cell?_alloc_past]); have c1 : w2.cell? ⟨w.heap.size + 1, 1, none⟩ = some (.int .i64 (-q)) := (by rw [hc2 _ _ (by simp <;> omega)]; simp [go_sem, World.cell?_alloc_past]); have j0 : w2.cell? ⟨w.heap.size, 0, none⟩ = some (.int .i64 0) := (by rw [hc2 _ _ (by simp <;> omega)]; simp [go_sem, World.cell?_alloc_past]); have j1 : w2.cell? ⟨w.heap.size, 1, none⟩ = some (.int .i64 0) := (by rw [hc2 _ _ (by simp <;> omega)]; simp [go_sem, World.cell?_alloc_past]); have j2 : w2.frozen? ⟨w.heap.size, 0, none⟩ = false := (by rw [hf2 _ _ (by simp <;> omega)]; simp [go_sem, World.frozen?_alloc_past]); have j3 : w2.frozen? ⟨w.heap.size, 1, none⟩ = false := (by rw [hf2 _ _ (by simp <;> omega)]; simp [go_sem, World.frozen?_alloc_past])))
        go_wp2
        obtain ⟨r0', r1'⟩ := set2 (w := w2) (b := w.heap.size) (x := .int .i64 0) (y := .int .i64 0) (.int .i64 (-(q + 1))) (.int .i64 (-q)) j0 j1
        refine bodyPost_ret (ret_range rfl _ _ _ _ _ _ rfl rfl r0' r1') rfl ⟨_, _, rfl, ?_⟩
        exact (((((((Below.refl w.heap.size w).alloc (Nat.le_refl _) _).drewN' _).alloc (by simp) _).drew).trans (B2.mono (by simp <;> omega))).setCell (by simp) _).setCell (by simp) _
      · have hn0 : decide (n < 0) = false := by simpa using sn
        have ha0 : decide (a < 0) = true := by simpa using sa
        have HN := Bx.mk (show a * n = -(sz n * sz a) by rw [HS.out, hn0, ha0]; rfl)
        clear HS
        have HC := Bx.mk (show ckRg (-(q + 1)) (-q) = 2 by unfold ckRg sz; rw [if_pos (by omega)])
        have hl : I64 (-(q + 1)) := by unfold I64; omega
        have hh : I64 (-q) := by unfold I64; omega
        have hz2 : ((2 : Int) == 0) = false := rfl
        go_enter Try.func90, Try.ntmps90
        go_wp2_with (first
          | (go_at_call 87; (with_reducible refine (size_any n _ (by omega) (by omega)).mono ?_); rintro e w1 ⟨rfl, rfl⟩)
          | (go_at_call 87; (with_reducible refine (size_any a _ (by omega) (by omega)).mono ?_); rintro e w1 ⟨rfl, rfl⟩)
          | (go_at_call 115; refine (mul64_any _ _ hu1 hu2 _).mono ?_; rw [HM1.out, HM2.out]; rintro e w1 ⟨rfl, rfl⟩)
          | (go_at_call 116; refine (div64_any ph pl b _ ph0 phb pl0 pl1 hb2).mono ?_; rw [HQ.out, HR.out]; rintro e w1 ⟨rfl, k, rfl⟩))
        go_region_held3 (fun w' => w'.cell? ⟨w.heap.size + 1, 0, none⟩ = some (.int .i64 (-(q + 1))) ∧ w'.cell? ⟨w.heap.size + 1, 1, none⟩ = some (.int .i64 (-q)))
          (first | (exact ⟨c0, c1⟩) | (refine ⟨?_, ?_⟩ <;> simp [go_sem, *]; done))
          ((go_at_call 46; refine (checkRange_any (-(q + 1)) (-q) _ hl hh).mono ?_; rw [HC.out]; rintro e w2 ⟨rfl, B2⟩; obtain ⟨hc2, hf2⟩ := bcell B2; have z2 : w.heap.size + 2 ≤ w2.heap.size := (by have := B2.size; simp at this; omega); have zz : w.heap.size < w2.heap.size := (by omega); have c0 : w2.cell? ⟨w.heap.size + 1, 0, none⟩ = some (.int .i64 (-(q + 1))) := (by rw [hc2 _ _ (by simp <;> omega)]; simp [go_sem, World.cell?_alloc_past]); have c1 : w2.cell? ⟨w.heap.size + 1, 1, none⟩ = some (.int .i64 (-q)) := (by rw [hc2 _ _ (by simp <;> omega)]; simp [go_sem, World.cell?_alloc_past]); have j0 : w2.cell? ⟨w.heap.size, 0, none⟩ = some (.int .i64 0) := (by rw [hc2 _ _ (by simp <;> omega)]; simp [go_sem, World.cell?_alloc_past]); have j1 : w2.cell? ⟨w.heap.size, 1, none⟩ = some (.int .i64 0) := (by rw [hc2 _ _ (by simp <;> omega)]; simp [go_sem, World.cell?_alloc_past]); have j2 : w2.frozen? ⟨w.heap.size, 0, none⟩ = false := (by rw [hf2 _ _ (by simp <;> omega)]; simp [go_sem, World.frozen?_alloc_past]); have j3 : w2.frozen? ⟨w.heap.size, 1, none⟩ = false := (by rw [hf2 _ _ (by simp <;> omega)]; simp [go_sem, World.frozen?_alloc_past])))
        go_wp2
        obtain ⟨r0', r1'⟩ := set2 (w := w2) (b := w.heap.size) (x := .int .i64 0) (y := .int .i64 0) (.int .i64 (-(q + 1))) (.int .i64 (-q)) j0 j1
        refine bodyPost_ret (ret_range rfl _ _ _ _ _ _ rfl rfl r0' r1') rfl ⟨_, _, rfl, ?_⟩
        exact (((((((Below.refl w.heap.size w).alloc (Nat.le_refl _) _).drewN' _).alloc (by simp) _).drew).trans (B2.mono (by simp <;> omega))).setCell (by simp) _).setCell (by simp) _
      · have hn0 : decide (n < 0) = false := by simpa using sn
        have ha0 : decide (a < 0) = false := by simpa using sa
        have HN := Bx.mk (show a * n = sz n * sz a by rw [HS.out, hn0, ha0]; rfl)
        clear HS
        have HC := Bx.mk (show ckRg q (q + 1) = 2 by unfold ckRg sz; rw [if_pos (by omega)])
        have hl : I64 q := by unfold I64; omega
        have hh : I64 (q + 1) := by unfold I64; omega
        have hz2 : ((2 : Int) == 0) = false := rfl
        go_enter Try.func90, Try.ntmps90
        go_wp2_with (first
          | (go_at_call 87; (with_reducible refine (size_any n _ (by omega) (by omega)).mono ?_); rintro e w1 ⟨rfl, rfl⟩)
          | (go_at_call 87; (with_reducible refine (size_any a _ (by omega) (by omega)).mono ?_); rintro e w1 ⟨rfl, rfl⟩)
          | (go_at_call 115; refine (mul64_any _ _ hu1 hu2 _).mono ?_; rw [HM1.out, HM2.out]; rintro e w1 ⟨rfl, rfl⟩)
          | (go_at_call 116; refine (div64_any ph pl b _ ph0 phb pl0 pl1 hb2).mono ?_; rw [HQ.out, HR.out]; rintro e w1 ⟨rfl, k, rfl⟩))
        go_region_held3 (fun w' => w'.cell? ⟨w.heap.size + 1, 0, none⟩ = some (.int .i64 q) ∧ w'.cell? ⟨w.heap.size + 1, 1, none⟩ = some (.int .i64 (q + 1)))
          (first | (exact ⟨c0, c1⟩) | (refine ⟨?_, ?_⟩ <;> simp [go_sem, *]; done))
          ((go_at_call 46; refine (checkRange_any q (q + 1) _ hl hh).mono ?_; rw [HC.out]; rintro e w2 ⟨rfl, B2⟩; obtain ⟨hc2, hf2⟩ := bcell B2; have z2 : w.heap.size + 2 ≤ w2.heap.size := (by have := B2.size; simp at this; omega); have zz : w.heap.size < w2.heap.size := (by omega); have c0 : w2.cell? ⟨w.heap.size + 1, 0, none⟩ = some (.int .i64 q) := (by rw [hc2 _ _ (by simp <;> omega)]; simp [go_sem, World.cell?_alloc_past]); have c1 : w2.cell? ⟨w.heap.size + 1, 1, none⟩ = some (.int .i64 (q + 1)) := (by rw [hc2 _ _ (by simp <;> omega)]; simp [go_sem, World.cell?_alloc_past]); have j0 : w2.cell? ⟨w.heap.size, 0, none⟩ = some (.int .i64 0) := (by rw [hc2 _ _ (by simp <;> omega)]; simp [go_sem, World.cell?_alloc_past]); have j1 : w2.cell? ⟨w.heap.size, 1, none⟩ = some (.int .i64 0) := (by rw [hc2 _ _ (by simp <;> omega)]; simp [go_sem, World.cell?_alloc_past]); have j2 : w2.frozen? ⟨w.heap.size, 0, none⟩ = false := (by rw [hf2 _ _ (by simp <;> omega)]; simp [go_sem, World.frozen?_alloc_past]); have j3 : w2.frozen? ⟨w.heap.size, 1, none⟩ = false := (by rw [hf2 _ _ (by simp <;> omega)]; simp [go_sem, World.frozen?_alloc_past])))
        go_wp2
        obtain ⟨r0', r1'⟩ := set2 (w := w2) (b := w.heap.size) (x := .int .i64 0) (y := .int .i64 0) (.int .i64 q) (.int .i64 (q + 1)) j0 j1
        refine bodyPost_ret (ret_range rfl _ _ _ _ _ _ rfl rfl r0' r1') rfl ⟨_, _, rfl, ?_⟩
        exact (((((((Below.refl w.heap.size w).alloc (Nat.le_refl _) _).drewN' _).alloc (by simp) _).drew).trans (B2.mono (by simp <;> omega))).setCell (by simp) _).setCell (by simp) _
  · have hph : b ≤ ph := by omega
    have ph1 : ph ≤ 18446744073709551615 := by
      have h := HP.out
      have m := mul_bd (x := sz n) (y := sz a) (A := 1000000000000000) (B := 1000000000000000) (by omega) (by omega) (by omega) (by omega)
      omega
    go_enter Try.func90, Try.ntmps90
    go_wp2_with (first
      | (go_at_call 87; (with_reducible refine (size_any n _ (by omega) (by omega)).mono ?_); rintro e w1 ⟨rfl, rfl⟩)
      | (go_at_call 87; (with_reducible refine (size_any a _ (by omega) (by omega)).mono ?_); rintro e w1 ⟨rfl, rfl⟩)
      | (go_at_call 115; refine (mul64_any _ _ hu1 hu2 _).mono ?_; rw [HM1.out, HM2.out]; rintro e w1 ⟨rfl, rfl⟩))
    refine bodyPost_ret (ret_range rfl _ _ _ _ _ _ rfl rfl (by simp [go_sem]; first | done | rfl) (by simp [go_sem]; first | done | rfl)) rfl ⟨_, _, rfl, ?_⟩
    repeat (first | exact Below.refl _ _ | refine Below.drew ?_ | refine Below.drewN' ?_ _ | refine Below.setCell ?_ (by simp) _ | refine Below.alloc ?_ (by first | exact Nat.le_refl _ | (simp; done) | (simp; omega)) _)

end Go.Proofs.Ytlkfkekglmjhhaa