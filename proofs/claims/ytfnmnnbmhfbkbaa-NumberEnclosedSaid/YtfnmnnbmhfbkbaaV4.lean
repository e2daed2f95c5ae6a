/- Walks: products of the reference's numbers of any size. -/
import Derived.Test.YtfnmnnbmhfbkbaaV3
set_option linter.unusedVariables false
set_option linter.unusedSimpArgs false
namespace Go.Proofs.Ytfnmnnbmhfbkbaa
open Go.RowKit

theorem vf_ge {s : Nat → Int} : ∀ (N t : Nat), t < N → (∀ j, T4.U64 (s j)) → s t * T4.BB ^ t ≤ T4.vf s N
  | 0, _, h, _ => by omega
  | N + 1, t, h, hs => by
    show s t * T4.BB ^ t ≤ T4.vf s N + s N * T4.BB ^ N
    have b := (T4.vf_bd (f := s) N (fun i _ => hs i)).1
    have p := Int.mul_nonneg (hs N).1 (Int.le_of_lt (T4.BB_pos N))
    rcases Nat.lt_or_ge t N with h1 | h1
    · have := vf_ge N t h1 hs; omega
    · obtain rfl : t = N := by omega
      omega
theorem zero_high {s : Nat → Int} {N p t : Nat} (hs : ∀ j, T4.U64 (s j)) (h : T4.vf s N < T4.BB ^ p) (h1 : p ≤ t) (h2 : t < N) : s t = 0 := by
  have g := vf_ge N t h2 hs
  have u := (hs t).1
  rcases Int.lt_or_le 0 (s t) with c | c
  · exfalso
    have e : T4.BB ^ p ≤ T4.BB ^ t := by
      obtain ⟨d, rfl⟩ : ∃ d, t = p + d := ⟨t - p, by omega⟩
      rw [Int.pow_add]
      have := Int.mul_le_mul_of_nonneg_left (show 1 ≤ T4.BB ^ d from by have := T4.BB_pos d; omega) (Int.le_of_lt (T4.BB_pos p))
      omega
    have := Int.mul_le_mul_of_nonneg_right (show 1 ≤ s t by omega) (Int.le_of_lt (T4.BB_pos t))
    omega
  · omega
theorem prod_lt {f g : Nat → Int} {i m : Nat} (hf : ∀ j, j < i → T4.U64 (f j)) (hg : ∀ j, j < m → T4.U64 (g j)) : T4.vf f i * T4.vf g m < T4.BB ^ (i + m) := by
  obtain ⟨a, b⟩ := T4.vf_bd i hf
  obtain ⟨c, d⟩ := T4.vf_bd m hg
  rw [Int.pow_add]
  have h1 := Int.mul_le_mul_of_nonneg_left (show T4.vf g m ≤ T4.BB ^ m - 1 by omega) a
  have h2 := Int.mul_le_mul_of_nonneg_right (show T4.vf f i ≤ T4.BB ^ i - 1 by omega) (show 0 ≤ T4.BB ^ m - 1 by have := T4.BB_pos m; omega)
  have h3 : (T4.BB ^ i - 1) * (T4.BB ^ m - 1) = T4.BB ^ i * T4.BB ^ m - T4.BB ^ i - T4.BB ^ m + 1 := by
    rw [Int.sub_mul, Int.mul_sub, Int.one_mul, Int.mul_one]; omega
  have := T4.BB_pos i
  have := T4.BB_pos m
  omega
theorem vf_tail {s s0 : Nat → Int} {p : Nat} : ∀ N, p ≤ N → (∀ t, p ≤ t → s t = s0 t) → T4.vf s N - T4.vf s p = T4.vf s0 N - T4.vf s0 p
  | 0, h, _ => by obtain rfl : p = 0 := by omega
                  rfl
  | N + 1, h, he => by
    rcases Nat.lt_or_ge N p with h1 | h1
    · obtain rfl : p = N + 1 := by omega
      omega
    · have := vf_tail N h1 he
      show T4.vf s N + s N * T4.BB ^ N - _ = T4.vf s0 N + s0 N * T4.BB ^ N - _
      rw [he N h1]; omega
theorem mul_row {s s0 f g : Nat → Int} {i m j N : Nat} (h : T4.vf s (i + j) + 0 * T4.BB ^ (i + j) = T4.vf s0 (i + j) + f i * T4.vf (T4.ext g m) j * T4.BB ^ i) (hj : m ≤ j) (hN : i + j ≤ N) (ht : ∀ t, i + j ≤ t → s t = s0 t) (h0 : T4.vf s0 N = T4.vf f i * T4.vf g m) :
    T4.vf s N = T4.vf f (i + 1) * T4.vf g m := by
  have a := vf_tail N hN ht
  rw [T4.vf_ext hj] at h
  show _ = (T4.vf f i + f i * T4.BB ^ i) * T4.vf g m
  rw [Int.add_mul, Int.mul_right_comm]
  omega

set_option maxRecDepth 100000 in
set_option maxHeartbeats 8000000 in
theorem mulW_core (s1 s2 : Int) (A C : Option Addr) (n m c d : Nat) (f g : Nat → Int) (w : World) (hA : DS w A n f) (hC : DS w C m g) (hn : n ≤ 1000000000) (hm : m ≤ 1000000000)
    (r1 : -1 ≤ s1) (r1' : s1 ≤ 1) (r2 : -1 ≤ s2) (r2' : s2 ≤ 1) (h1 : Bx (s1 = 0 → n = 0)) (h2 : Bx (s2 = 0 → m = 0)) :
    Calls Try.prog 128 #[.agg #[.int .i64 s1, .slice A n c], .agg #[.int .i64 s2, .slice C m d]] w fun e w' => ∃ s' sv, e = .returned (.agg #[.int .i64 s', sv]) ∧ WG w' s' sv (s1 * T4.vf f n * (s2 * T4.vf g m)) (n + m + 1) ∧ Below w.heap.size w w' := by
  have hmk := run_make_row' (P := Try.prog) 63 3 (.int .i64 0) 8 Try.underlying63 info_int8 rfl .i64 .i64 (n + m + 1) (by omega) (by omega)
  have X0 := Bx.mk (XS.new w (.int .i64 s1) (.slice A n c) (.int .i64 s2) (.slice C m d))
  have ec : ((n + m + 1 : Nat) : Int) = (n : Int) + (m : Int) + 1 := by omega
  rw [ec] at hmk
  have HP := Bx.mk (show -1 ≤ s1 * s2 ∧ s1 * s2 ≤ 1 by
    have := mul_bd (x := s1) (y := s2) (A := 1) (B := 1) r1 r1' r2 r2'; omega)
  obtain ⟨wy1, wy2⟩ := HP.out
  have HVAL := Bx.mk (show s1 * s2 * (T4.vf f n * T4.vf g m) = s1 * T4.vf f n * (s2 * T4.vf g m) by rw [Int.mul_assoc, Int.mul_assoc, ← Int.mul_assoc s2, Int.mul_comm s2 (T4.vf f n), Int.mul_assoc (T4.vf f n)])
  have HZ := Bx.mk (show s1 * s2 = 0 → T4.vf f n * T4.vf g m = 0 from fun h => by
    rcases Int.mul_eq_zero.1 h with h | h
    · rw [h1.out h]; simp [T4.vf]
    · rw [h2.out h]; simp [T4.vf])
  go_enter Try.func128, Try.ntmps128
  go_wp2
  have hrow := World.rowIs_made (WX w (.int .i64 s1) (.slice A n c) (.int .i64 s2) (.slice C m d)) (.int .i64 0) (n + m + 1) 3
  have hs3 : (WX w (.int .i64 s1) (.slice A n c) (.int .i64 s2) (.slice C m d)).heap.size = w.heap.size + 1 + 1 + 1 := by simp
  rw [hs3] at hrow
  have hB0 : Below (w.heap.size + 1 + 1 + 1) (WX w (.int .i64 s1) (.slice A n c) (.int .i64 s2) (.slice C m d)) ((WX w (.int .i64 s1) (.slice A n c) (.int .i64 s2) (.slice C m d)).alloc (.cells (madeCells #[.int .i64 0] (n + m + 1)) 3)) := by rw [← hs3]; exact below_alloc1 _ _
  have HS3 := Bx.mk hs3
  clear hs3 ec
  generalize hW : (WX w (.int .i64 s1) (.slice A n c) (.int .i64 s2) (.slice C m d)).alloc (.cells (madeCells #[.int .i64 0] (n + m + 1)) 3) = W0 at *
  clear hW
  generalize hWQ : WX w (.int .i64 s1) (.slice A n c) (.int .i64 s2) (.slice C m d) = WQ at *
  clear hWQ
  go_loopw [6] (fun i wr => ∃ (k : Nat) (s : Nat → Int), k ≤ n ∧ i = .int .i64 k ∧ Bx (∀ j, T4.U64 (s j)) ∧ Bx (T4.vf s (n + m + 1) = T4.vf f k * T4.vf g m) ∧
      Bx (wr.rowIs (w.heap.size + 1 + 1 + 1) 3 (n + m + 1) (fun j => .int .i64 (s j))) ∧ Bx (Below (w.heap.size + 1 + 1 + 1) WQ wr)) (fun i _ => n - (intOf i).toNat)
  case atStart => exact ⟨0, fun _ => 0, by omega, rfl, ⟨fun _ => show T4.U64 0 from ⟨by decide, by decide⟩⟩, ⟨by rw [T4.vf_trim (m := 0) _ (by omega) (fun _ _ _ => rfl)]; simp [T4.vf]⟩, ⟨hrow⟩, ⟨hB0⟩⟩
  case round =>
    obtain ⟨k, s0, hk, rfl, HS0, HV0, HR0, HB0⟩ := hrel
    clear hrow hB0 hmk
    have XR := Bx.mk (X0.out.call (HS3.out ▸ HB0.out))
    obtain ⟨ltr, q0r, q1r, q2r, q3r, k0r, k1r, k2r, k3r, -, -, -, -, -⟩ := XR.out
    by_cases hlt : k < n
    · have hlt' : (k : Int) < n := by omega
      have HF := Bx.mk (hA.1 k hlt)
      have HZH := Bx.mk (show s0 (k + m) = 0 from zero_high HS0.out (by rw [HV0.out]; exact prod_lt (fun j hj => hA.1 j (by omega)) hC.1) (Nat.le_refl _) (by omega))
      go_wp2_with fail
      obtain ⟨wo, hwo⟩ : ∃ wo : World, wo = wr := ⟨_, rfl⟩
      subst hwo
      clear q0r q1r q2r q3r k0r k1r k2r k3r ltr
      go_loopw [7, 8] (fun cr i w2 => ∃ (j : Nat) (c0 : Int) (s : Nat → Int), j ≤ m + 1 ∧ Bx (j = m + 1 → c0 = 0) ∧ i = .int .i64 j ∧ cr = .int .i64 c0 ∧ 0 ≤ c0 ∧ c0 ≤ 9999 ∧ Bx (∀ j, T4.U64 (s j)) ∧ Bx (∀ t, k + j ≤ t → s t = s0 t) ∧
          Bx (T4.vf s (k + j) + c0 * T4.BB ^ (k + j) = T4.vf s0 (k + j) + f k * T4.vf (T4.ext g m) j * T4.BB ^ k) ∧ Bx (w2.rowIs (w.heap.size + 1 + 1 + 1) 3 (n + m + 1) (fun j => .int .i64 (s j))) ∧ Bx (Below (w.heap.size + 1 + 1 + 1) WQ w2)) (fun _ i _ => m + 2 - (intOf i).toNat)
      case atStart => exact ⟨0, 0, s0, by omega, ⟨fun _ => rfl⟩, rfl, rfl, by omega, by omega, HS0, ⟨fun _ _ => rfl⟩, ⟨by simp [T4.vf]⟩, HR0, HB0⟩
      case round =>
        obtain ⟨j, c0, s, hj, HJ, rfl, rfl, hc0, hc1, HS, HT, HV, HR, HB⟩ := hrel
        have X2 := Bx.mk (X0.out.call (HS3.out ▸ HB.out))
        obtain ⟨ltr, q0r, q1r, q2r, q3r, k0r, k1r, k2r, k3r, -, -, -, -, -⟩ := X2.out
        have HDA := Bx.mk (hA.below (Nat.le_refl _) X2.out.B)
        have HDC := Bx.mk (hC.below (Nat.le_refl _) X2.out.B)
        have hpp : T4.U64 (s (k + j)) := HS.out _
        obtain ⟨hp0, hp1⟩ := hpp
        have HST0 := Bx.mk (HT.out (k + j) (Nat.le_refl _))
        obtain ⟨hx1, hx2⟩ := HF.out
        rcases (by omega : j < m ∨ (m ≤ j ∧ 0 < c0) ∨ (m ≤ j ∧ ¬ 0 < c0)) with h3 | ⟨h3, h4⟩ | ⟨h3, h4⟩
        · have hjm : (j : Int) < m := by omega
          obtain ⟨b1, ea, hb1, hcl1⟩ := HDA.out.2 (by omega)
          replace hb1 := hb1.lt
          subst ea
          have hcx := hcl1 k hlt
          obtain ⟨b2, eb, hb2, hcl2⟩ := HDC.out.2 (by omega)
          replace hb2 := hb2.lt
          subst eb
          have hy := hC.1 j (by omega)
          obtain ⟨hy1, hy2⟩ := hy
          have hcy := hcl2 j (by omega)
          have hcell := HR.out.cell (i := k + j) (by omega)
          have hfr := HR.out.frozen (k + j)
          clear hcl1 hcl2
          have mm := mul_bd (x := f k) (y := g j) (A := 9999) (B := 9999) (by omega) (by omega) (by omega) (by omega)
          have mm0 := Int.mul_nonneg hx1 hy1
          have HE := Bx.mk (show T4.ext g m j = g j from T4.ext_lt h3)
          have HSTEP := Bx.mk (fun (new c' : Int) (h : new + c' * T4.BB = f k * g j + s0 (k + j) + c0) => T4.mul_step (g := T4.ext g m) HV.out (by rw [HE.out]; exact h))
          have hix : ((k : Int) + (j : Int)).toNat = k + j := by omega
          have hi0 : (0 : Int) ≤ (k : Int) + j := by omega
          have hi1 : (k : Int) + j < (n : Int) + m + 1 := by omega
          generalize hP : s (k + j) = p at *
          have HP2 := Bx.mk hP
          clear hP
          have hd0 : 0 ≤ (p + c0 + f k * g j) / 10000 := by omega
          have hd1 : (p + c0 + f k * g j) / 10000 ≤ 9999 := by omega
          go_wp2
          go_quiet (fail)
          go_wp2
          go_roundw
          case rel => exact ⟨j + 1, (p + c0 + f k * g j) / 10000, T4.upd s (k + j) ((p + c0 + f k * g j) % 10000), by omega, ⟨fun h => by omega⟩, by go_num, rfl, hd0, hd1, ⟨T4.upd_U64 HS.out (T4.U64_mod _)⟩, ⟨fun t ht => by rw [T4.upd_other (by omega)]; exact HT.out t (by omega)⟩,
            ⟨HSTEP.out _ _ (by rw [← HST0.out]; show _ % 10000 + _ / 10000 * 10000 = _; omega)⟩, ⟨(HR.out.set (k + j) _).congr (fun i _ => by unfold T4.upd; split <;> rfl)⟩, ⟨by first | exact HB.out.setCell (Nat.le_refl _) _ | exact (HB.out.setCell (Nat.le_refl _) _).drew | exact below_drewN (HB.out.setCell (Nat.le_refl _) _) _ | exact (below_drewN HB.out _).setCell (Nat.le_refl _) _⟩⟩
          case measure => simp [intOf]; omega
        · have hjm : ¬ (j : Int) < m := by omega
          have hjm2 : j = m := by
            have := HJ.out
            omega
          have hcell := HR.out.cell (i := k + j) (by omega)
          have hfr := HR.out.frozen (k + j)
          have HE := Bx.mk (show T4.ext g m j = 0 from T4.ext_ge (by omega))
          have HSTEP := Bx.mk (fun (new c' : Int) (h : new + c' * T4.BB = f k * 0 + s0 (k + j) + c0) => T4.mul_step (g := T4.ext g m) HV.out (by rw [HE.out]; exact h))
          have HP0 := Bx.mk (show s (k + j) = 0 by rw [HST0.out, hjm2]; exact HZH.out)
          have hix : ((k : Int) + (j : Int)).toNat = k + j := by omega
          have hi0 : (0 : Int) ≤ (k : Int) + j := by omega
          have hi1 : (k : Int) + j < (n : Int) + m + 1 := by omega
          generalize hP : s (k + j) = p at *
          have HP2 := Bx.mk hP
          clear hP
          have hpz : p = 0 := HP0.out
          have HPZ := Bx.mk hpz
          have hd0 : 0 ≤ (p + c0) / 10000 := by omega
          have hd1 : (p + c0) / 10000 ≤ 9999 := by omega
          have HD2 := Bx.mk (show (p + c0) / 10000 = 0 by omega)
          have HJM := Bx.mk hjm2
          clear hpz hjm2
          go_wp2
          go_roundw
          case rel => exact ⟨j + 1, (p + c0) / 10000, T4.upd s (k + j) ((p + c0) % 10000), by have := HJM.out; omega, ⟨fun _ => HD2.out⟩, by go_num, rfl, hd0, hd1, ⟨T4.upd_U64 HS.out (T4.U64_mod _)⟩, ⟨fun t ht => by rw [T4.upd_other (by omega)]; exact HT.out t (by omega)⟩,
            ⟨HSTEP.out _ _ (by rw [← HST0.out, Int.mul_zero, Int.zero_add]; show _ % 10000 + _ / 10000 * 10000 = _; omega)⟩, ⟨(HR.out.set (k + j) _).congr (fun i _ => by unfold T4.upd; split <;> rfl)⟩, ⟨HB.out.setCell (Nat.le_refl _) _⟩⟩
          case measure => have := HJM.out; simp [intOf]; omega
        · have hjm : ¬ (j : Int) < m := by omega
          have HC0 := Bx.mk (show c0 = 0 by omega)
          have HX := Bx.mk (show T4.vf s (n + m + 1) = T4.vf f (k + 1) * T4.vf g m from mul_row (by have h := HV.out; rw [HC0.out] at h; exact h) h3 (by omega) HT.out HV0.out)
          go_wp2
          go_roundw
          case rel => exact ⟨k + 1, _, by omega, by go_num, HS, HX, HR, HB⟩
          case measure => simp [intOf]; omega
    · have hkn : k = n := by omega
      have hlt' : ¬ (k : Int) < n := by omega
      have HX := Bx.mk (show T4.vf s0 (n + m + 1) = T4.vf f n * T4.vf g m by have h := HV0.out; rw [hkn] at h; exact h)
      have HD := Bx.mk (show DS wr (some ⟨(w.heap.size + 1 + 1 + 1), 0, none⟩) (n + m + 1) s0 from ⟨fun i _ => HS0.out i, fun _ => ⟨_, rfl, IntRow.of HR0.out, fun j hj => HR0.out.cell hj⟩⟩)
      clear hkn
      go_wp2_with (go_at_call 143; (with_reducible refine (cut_any (s1 * s2) (some ⟨(w.heap.size + 1 + 1 + 1), 0, none⟩) (n + m + 1) (n + m + 1) s0 _ HD.out (Nat.le_refl _) (by omega)).mono ?_); rintro e w2 ⟨mm, hmm, hcan, hzz, he, B2⟩; generalize hS1 : (if mm = 0 then (0 : Int) else s1 * s2) = S1 at he; subst he; have HS1 := Bx.mk hS1; clear hS1; have X2 := Bx.mk (XR.out.call B2); obtain ⟨lt2, q02, q12, q22, q32, k02, k12, k22, k32, -, -, -, -, -⟩ := X2.out; have HCAN := Bx.mk hcan; have HZZ := Bx.mk hzz; have HB2 := Bx.mk B2; clear hcan hzz B2)
      obtain ⟨r0, r1⟩ := set2 (b := w.heap.size + 1 + 1) (x := .int .i64 0) (y := .slice none 0 0) (.int .i64 S1) (.slice (some ⟨(w.heap.size + 1 + 1 + 1), 0, none⟩) mm (n + m + 1)) k02 k12
      refine bodyPost_ret (ret_wide rfl _ _ _ _ _ rfl r0 r1) rfl ⟨_, _, rfl, ?_, ?_⟩
      · have hD2 := (HD.out.below (Nat.le_refl _) HB2.out).set (fun b hb => by injection hb with hb; injection hb with hb; omega) (.int .i64 S1) (.slice (some ⟨(w.heap.size + 1 + 1 + 1), 0, none⟩) mm (n + m + 1)) (g := w.heap.size + 1 + 1)
        have hzero : s1 * s2 = 0 → mm = 0 := fun h => by
          have h5 := HZ.out h
          rw [← HX.out, T4.vf_trim (n + m + 1) hmm HZZ.out] at h5
          exact (T4.Can.zero HCAN.out (fun i _ => HS0.out i)).1 h5
        have := WG.mk' (s := s1 * s2) (L := n + m + 1) (z := s1 * T4.vf f n * (s2 * T4.vf g m)) hD2 hmm HCAN.out HZZ.out hmm (Nat.le_refl _) (by omega) (by rw [HX.out]; exact HVAL.out.symm) ⟨HP.out.1, HP.out.2, hzero⟩
        rw [HS1.out] at this
        exact this
      · exact (X2.out.B.setCell (by show w.heap.size ≤ w.heap.size + 1 + 1; omega) _).setCell (by show w.heap.size ≤ w.heap.size + 1 + 1; omega) _

theorem mulW_any (s1 s2 z1 z2 : Int) (v1 v2 : Value) (L1 L2 : Nat) (w : World) (h1 : WG w s1 v1 z1 L1) (h2 : WG w s2 v2 z2 L2) (l1 : L1 ≤ 1000000000) (l2 : L2 ≤ 1000000000) :
    Calls Try.prog 128 #[.agg #[.int .i64 s1, v1], .agg #[.int .i64 s2, v2]] w fun e w' => ∃ s' sv, e = .returned (.agg #[.int .i64 s', sv]) ∧ WG w' s' sv (z1 * z2) (L1 + L2 + 1) ∧ Below w.heap.size w w' := by
  obtain ⟨A, n, c, f, rfl, d1, e1, e2, e3, e4, e5, e6, e7, e8⟩ := h1
  obtain ⟨C, m, d, g, rfl, d2, k1, k2, k3, k4, k5, k6, k7, k8⟩ := h2
  refine (mulW_core s1 s2 A C n m c d f g w d1 d2 (by omega) (by omega) e7 e8 k7 k8 ⟨e6.2⟩ ⟨k6.2⟩).mono fun e' w' ⟨s', sv, he, hg, hb⟩ => ⟨s', sv, he, ?_, hb⟩
  rw [e5, k5]; exact hg.more (by omega)

end Go.Proofs.Ytfnmnnbmhfbkbaa
