/- Walks: the reference's remainder of lists of wide numbers. -/
import Derived.Test.YtfnmnnbmhfbkbaaV9
import Derived.Test.YtfnmnnbmhfbkbaaVP
import Derived.Deep.RegionHeld3
import Derived.Deep.DeepCutAuto
set_option linter.unusedVariables false
set_option linter.unusedSimpArgs false
namespace Go.Proofs.Ytfnmnnbmhfbkbaa
open Go.RowKit

theorem WG.abs {w : World} {s : Int} {sv : Value} {z : Int} {L : Nat} (h : WG w s sv z L) (hz : z ≠ 0) : WG w 1 sv (sz z) L := by
  obtain ⟨A, n, c, f, e, h1, h2, h3, h4, h5, h6, h7, h8, h9⟩ := h
  have hs : s ≠ 0 := fun e => hz (by rw [h6, e, Int.zero_mul])
  have hv := (T4.vf_bd n h1.1).1
  refine ⟨A, n, c, f, e, h1, h2, h3, h4, h5, ?_, ⟨fun e0 => absurd (h7.1 e0) hs, fun e0 => by omega⟩, by omega, by omega⟩
  have hs2 : s = 1 ∨ s = -1 := by omega
  unfold sz
  rcases hs2 with e | e <;> subst e <;> rw [h6] <;> omega
theorem WG.turn {w : World} {s : Int} {sv : Value} {z : Int} {L : Nat} (h : WG w s sv z L) {t : Int} (ht : t = 1 ∨ t = -1) : WG w (-s * t) sv (-z * t) L := by
  have h2 := h.neg
  rcases ht with e | e <;> subst e
  · rw [Int.mul_one, Int.mul_one]; exact h2
  · have e1 : -s * -1 = s := by omega
    have e2 : -z * -1 = z := by omega
    rw [e1, e2]; exact h
theorem cmpI_01 {x : Int} (h : x ≠ 0) : cmpI x 0 = 1 ∨ cmpI x 0 = -1 := by
  rcases Int.lt_or_le x 0 with c | c
  · exact .inr (cmpI_lt c)
  · exact .inl (cmpI_gt (by omega))
theorem WPO.cap {w : World} {base : Nat} {A : Option Addr} {c m : Nat} {z : Row} {L : Nat} (h : WPO w base (.slice A m c) m z L) (hm : 0 < m) : m ≤ c ∧ c ≤ 9223372036854775807 := by
  obtain ⟨h0, xs, ho, hx⟩ := h
  rcases ho.2 with ⟨_, e⟩ | ⟨g, cap, cur, e, _, _, h1, h2, _⟩
  · omega
  · injection e with _ _ e
    subst e
    exact ⟨h1, by simpa [maxLen] using h2⟩
/-- One step of division, in the reference's words. -/
theorem stepW_hi {a b : Nat} {r q : Row} {j : Nat} (h : a - b ≤ j) (hq : q b ≠ 0) : stepR (a + 1) r (b + 1) q j = sz (q b) * r j + -(r a * q (j - (a - b))) * cmpI (q b) 0 := by
  rw [stepR_hi h]
  unfold facR
  rw [show a + 1 - 1 = a by omega]
  rcases Int.lt_or_le (q b) 0 with c | c
  · rw [if_pos c, cmpI_lt c, Int.mul_comm (r j), Int.mul_comm (q (j - (a - b)))]
    have : -(r a * q (j - (a - b))) * -1 = r a * q (j - (a - b)) := by omega
    rw [this, Int.neg_mul]; omega
  · rw [if_neg (by omega), cmpI_gt (by omega), Int.mul_comm (r j), Int.mul_comm (q (j - (a - b))), Int.mul_one]; omega
theorem stepW_lo {a b : Nat} {r q : Row} {j : Nat} (h : ¬ a - b ≤ j) : stepR (a + 1) r (b + 1) q j = sz (q b) * r j := by
  rw [stepR_lo h, Int.mul_comm]
theorem restR_eq {m : Nat} {q : Row} {f mr : Nat} {r : Row} {R : Nat × Row} (h : restR m q (f + 1) mr r = R) (hm : m ≤ mr) (h1 : 1 ≤ m) : restR m q f (trimN (mr - 1) (stepR mr r m q)) (stepR mr r m q) = R := by
  have h2 := restR_step h hm
  obtain ⟨t, rfl⟩ : ∃ t, mr = t + 1 := ⟨mr - 1, by omega⟩
  have h0 := stepR_top (m := t + 1) (r := r) (nq := m) (q := q) hm (by omega)
  simp only [Nat.add_sub_cancel] at h0 ⊢
  rw [trimN_drop h0] at h2
  exact h2

set_option maxRecDepth 100000 in
set_option maxHeartbeats 8000000 in
theorem remW_any (A C : Option Addr) (n m c d : Nat) (z q : Row) (L Lq : Nat) (w : World) (hA : WPA w A n z L) (hC : WPA w C m q Lq) (hm : 1 ≤ m) (hn' : n ≤ 20) (hm' : m ≤ 20) (hL : L ≤ 10000000) (hLq : Lq ≤ 3000000) (hq : q (m - 1) ≠ 0) :
    Calls Try.prog 130 #[.slice A n c, .slice C m d] w fun e w' => ∃ A' c', e = .returned (.slice A' (restR m q n n z).1 c') ∧ WPA w' A' (restR m q n n z).1 (restR m q n n z).2 (L + n * (Lq + 2)) ∧ (restR m q n n z).1 ≤ n ∧ Below w.heap.size w w' := by
  obtain ⟨i0, hi0, hz0, hz1, hz2⟩ := info_wide_parts
  obtain ⟨gq, rfl, hgq, hpq⟩ := hC hm
  obtain ⟨bl, sl, cl0, cl1, _, _, gl⟩ := hpq (m - 1) (by omega)
  obtain ⟨Al, nl, dl, rfl⟩ := gl.form
  have hidx : ((m : Int) - 1).toNat = m - 1 := by omega
  obtain ⟨m1, hm1⟩ : ∃ m1, m = m1 + 1 := ⟨m - 1, by omega⟩
  subst hm1
  simp only [Nat.add_sub_cancel] at cl0 cl1 gl hidx hq
  have HQ0 := Bx.mk hq
  have HCM := Bx.mk (cmpI_01 hq)
  have PQ := Bx.mk (show WPR w gq (m1 + 1) q Lq from ⟨hgq, hpq⟩)
  have HA := Bx.mk hA
  have GL := Bx.mk gl
  have hgq1 := hgq.lt
  clear hq hA gl hpq hgq
  go_enter Try.func130, Try.ntmps130
  go_wp2
  have HLB := Bx.mk (WB.new GL.out)
  have HB0 := Bx.mk (below_alloc1 w (.cells #[.int .i64 bl, .slice Al nl dl] 138))
  have HA0 := Bx.mk (HA.out.below (Nat.le_refl _) HB0.out)
  clear HA GL cl0 cl1
  go_loopw [0] (fun x wr => ∃ (k mr cr : Nat) (r : Row) (Aa : Option Addr), k + mr ≤ n ∧ x = .slice Aa mr cr ∧ Bx (restR (m1 + 1) q (n - k) mr r = restR (m1 + 1) q n n z) ∧ Bx (WPA wr Aa mr r (L + k * (Lq + 2))) ∧ Bx (WB wr w.heap.size (q m1) Lq) ∧ Bx (Below w.heap.size w wr)) (fun x _ => lenOfS x)
  case atStart => exact ⟨0, n, c, z, A, by omega, rfl, ⟨rfl⟩, ⟨by rw [Nat.zero_mul, Nat.add_zero]; exact HA0.out⟩, HLB, HB0⟩
  case round =>
    obtain ⟨k, mr, cr, r, Aa, hk, rfl, HRS, HPR, HWB, HB⟩ := hrel
    clear HLB HB0 HA0
    by_cases hlen : m1 + 1 ≤ mr
    · have hlen' : ((m1 : Int) + 1) ≤ mr := by omega
      obtain ⟨mr1, hmr1⟩ : ∃ t, mr = t + 1 := ⟨mr - 1, by omega⟩
      subst hmr1
      have hrs := HRS.out
      rw [show n - k = (n - k - 1) + 1 by omega] at hrs
      have HR2 := Bx.mk (restR_eq hrs hlen (by omega))
      clear hrs HRS
      have hLr : L + k * (Lq + 2) ≤ 90000000 := by
        have := Nat.mul_le_mul (show k ≤ 20 by omega) (show Lq + 2 ≤ 3000002 by omega); omega
      have HLk := Bx.mk (show L + (k + 1) * (Lq + 2) = L + k * (Lq + 2) + Lq + 2 by rw [Nat.add_mul, Nat.one_mul]; omega)
      generalize hLre : L + k * (Lq + 2) = Lr at *
      clear hLre
      obtain ⟨ga, rfl, hga⟩ := HPR.out (by omega)
      obtain ⟨bt, st, t0, t1, _, _, gt⟩ := hga.2 mr1 (by omega)
      obtain ⟨At, nt, ct, rfl⟩ := gt.form
      have hgal := hga.1.lt
      have HGA := Bx.mk hga
      have GT := Bx.mk gt
      have hix : ((mr1 : Int)).toNat = mr1 := by omega
      have hdd : decide (m1 ≤ mr1) = true := decide_eq_true (by omega)
      clear hga gt
      go_wp2
      have hwl := HWB.out.1.lt
      have HB0 := Bx.mk (show Below w.heap.size w (wr.alloc (.cells #[.int .i64 bt, .slice At nt ct] 138)) from HB.out.alloc HB.out.size _)
      have GA0 := Bx.mk (show WPR (wr.alloc (.cells #[.int .i64 bt, .slice At nt ct] 138)) ga (mr1 + 1) r Lr from HGA.out.alloc _)
      have PQ0 := Bx.mk (show WPR (wr.alloc (.cells #[.int .i64 bt, .slice At nt ct] 138)) gq (m1 + 1) q Lq from (PQ.out.below (Nat.le_refl _) HB.out).alloc _)
      have WL0 := Bx.mk (show WB (wr.alloc (.cells #[.int .i64 bt, .slice At nt ct] 138)) w.heap.size (q m1) Lq from HWB.out.alloc _)
      have WF0 := Bx.mk (show WB (wr.alloc (.cells #[.int .i64 bt, .slice At nt ct] 138)) wr.heap.size (r mr1) Lr from WB.new GT.out)
      have hW0s : (wr.alloc (.cells #[.int .i64 bt, .slice At nt ct] 138)).heap.size = wr.heap.size + 1 := by simp
      clear HGA GT HWB HB HPR t0 t1
      generalize wr.alloc (.cells #[.int .i64 bt, .slice At nt ct] 138) = W0 at *
      generalize wr.heap.size = B7 at *
      have hW0a : W0.heap.size ≤ B7 + 1 := by omega
      have hW0b : B7 + 1 ≤ W0.heap.size := by omega
      clear hW0s
      go_loopw [7, 8] (fun nv i wi => ∃ t : Nat, t ≤ mr1 ∧ i = .int .i64 t ∧ Bx (WPO wi W0.heap.size nv t (stepR (mr1 + 1) r (m1 + 1) q) (Lr + Lq + 2)) ∧ Bx (Below W0.heap.size W0 wi)) (fun _ i _ => mr1 - (intOf i).toNat)
      case atStart => exact ⟨0, by omega, rfl, ⟨WPO.nil _ _ _ _⟩, ⟨Below.refl _ _⟩⟩
      case round =>
        obtain ⟨t, ht, rfl, HO, HBi⟩ := hrel
        obtain ⟨Ad, cd, rfl⟩ := HO.out.form
        by_cases hlt : t < mr1
        · have hlt' : (t : Int) < mr1 := by omega
          have GAr := Bx.mk (GA0.out.below (Nat.le_refl _) HBi.out)
          have PQr := Bx.mk (PQ0.out.below (Nat.le_refl _) HBi.out)
          have WLr := Bx.mk (WB.below WL0.out (Nat.le_refl _) HBi.out)
          have WFr := Bx.mk (WB.below WF0.out (Nat.le_refl _) HBi.out)
          obtain ⟨bj, sj, j0, j1, _, _, gj⟩ := GAr.out.2 t (by omega)
          obtain ⟨Aj, nj, cj, rfl⟩ := gj.form
          obtain ⟨b5, A5, n5, c5, l0, l1, lf0, lf1, g5⟩ := WLr.out.open
          have HGJ := Bx.mk gj
          have HG5 := Bx.mk (g5.abs HQ0.out)
          have HS5 := Bx.mk g5.sign
          clear gj g5
          have hrs := HBi.out.size
          obtain ⟨xs, ho, hx⟩ := HO.out.2
          have HX := Bx.mk hx
          have HOW := Bx.mk ho
          clear hx ho
          have hga : ga < wr.heap.size := by omega
          have hgl : w.heap.size < wr.heap.size := by omega
          have hi1 : (t : Int) < (mr1 : Int) + 1 := by omega
          have hx0 : (0 : Int) ≤ (t : Int) := by omega
          go_upto_region 8 with (fail)
          go_cut [9] (fun sx wx => ∃ B : Nat, sx = .pointer (some ⟨B, 0, none⟩) ∧ wr.heap.size ≤ B ∧ Bx (WB wx B (sz (q m1) * r t) (Lq + Lr + 1)) ∧ Bx (Below wr.heap.size wr wx))
          case first =>
            have HZA := Bx.mk (show Below wr.heap.size wr (wr.alloc (.cells #[.int .i64 0, .slice none 0 0] 138)) from below_alloc1 _ _)
            have z0 : (wr.alloc (.cells #[.int .i64 0, .slice none 0 0] 138)).cell? ⟨w.heap.size, 1, none⟩ = some (.slice A5 n5 c5) := (by rw [World.cell?_alloc_lt _ _ _ (by show w.heap.size < _; omega)]; exact l1)
            have z1 : (wr.alloc (.cells #[.int .i64 0, .slice none 0 0] 138)).cell? ⟨ga, t * 2, none⟩ = some (.int .i64 bj) := (by rw [World.cell?_alloc_lt _ _ _ (by show ga < _; omega)]; exact j0)
            have z2 : (wr.alloc (.cells #[.int .i64 0, .slice none 0 0] 138)).cell? ⟨ga, t * 2 + 1, none⟩ = some (.slice Aj nj cj) := (by rw [World.cell?_alloc_lt _ _ _ (by show ga < _; omega)]; exact j1)
            go_region_held3 (fun w' => w'.cell? ⟨w.heap.size, 1, none⟩ = some (.slice A5 n5 c5) ∧ w'.cell? ⟨ga, t * 2, none⟩ = some (.int .i64 bj) ∧ w'.cell? ⟨ga, t * 2 + 1, none⟩ = some (.slice Aj nj cj))
              (first | (exact ⟨l1, j0, j1⟩) | (exact ⟨z0, z1, z2⟩) | (exact ⟨u0, u1, u2⟩) | (exact ⟨x0, x1, x2⟩) | (exact ⟨y0, y1, y2⟩) | (exact ⟨v0, v1, v2⟩))
              (first
                | (go_at_call 128; (with_reducible refine (mulW_any 1 bj _ _ _ _ Lq Lr _ (by first | exact HG5.out | exact HG5.out.drew | exact HG5.out.below (Nat.le_refl _) HZA.out | exact (HG5.out.below (Nat.le_refl _) HZA.out).drew) (by first | exact HGJ.out | exact HGJ.out.drew | exact HGJ.out.below (Nat.le_refl _) HZA.out | exact (HGJ.out.below (Nat.le_refl _) HZA.out).drew) (by omega) (by omega)).mono ?_); rintro e w3 ⟨b3, s3, rfl, G3, B3⟩; obtain ⟨A3, n3, c3, rfl⟩ := G3.form; have HBB : Below wr.heap.size wr w3 := (by first | exact B3 | exact (Below.refl _ _).drew.trans B3 | exact HZA.out.trans (B3.mono (by simp)) | exact HZA.out.drew.trans (B3.mono (by simp))); have hz3 := HBB.size; have u0 := (HBB.cell (p := ⟨w.heap.size, 1, none⟩) hgl).trans l1; have u1 := (HBB.cell (p := ⟨ga, t * 2, none⟩) hga).trans j0; have u2 := (HBB.cell (p := ⟨ga, t * 2 + 1, none⟩) hga).trans j1; have x0 : (w3.alloc (.cells #[.int .i64 0, .slice none 0 0] 138)).cell? ⟨w.heap.size, 1, none⟩ = some (.slice A5 n5 c5) := (by rw [World.cell?_alloc_lt _ _ _ (by show w.heap.size < _; omega)]; exact u0); have x1 : (w3.alloc (.cells #[.int .i64 0, .slice none 0 0] 138)).cell? ⟨ga, t * 2, none⟩ = some (.int .i64 bj) := (by rw [World.cell?_alloc_lt _ _ _ (by show ga < _; omega)]; exact u1); have x2 : (w3.alloc (.cells #[.int .i64 0, .slice none 0 0] 138)).cell? ⟨ga, t * 2 + 1, none⟩ = some (.slice Aj nj cj) := (by rw [World.cell?_alloc_lt _ _ _ (by show ga < _; omega)]; exact u2); have y0 : (w3.alloc (.cells #[.int .i64 b3, .slice A3 n3 c3] 138)).cell? ⟨w.heap.size, 1, none⟩ = some (.slice A5 n5 c5) := (by rw [World.cell?_alloc_lt _ _ _ (by show w.heap.size < _; omega)]; exact u0); have y1 : (w3.alloc (.cells #[.int .i64 b3, .slice A3 n3 c3] 138)).cell? ⟨ga, t * 2, none⟩ = some (.int .i64 bj) := (by rw [World.cell?_alloc_lt _ _ _ (by show ga < _; omega)]; exact u1); have y2 : (w3.alloc (.cells #[.int .i64 b3, .slice A3 n3 c3] 138)).cell? ⟨ga, t * 2 + 1, none⟩ = some (.slice Aj nj cj) := (by rw [World.cell?_alloc_lt _ _ _ (by show ga < _; omega)]; exact u2); have v0 : ((w3.setCell ⟨wr.heap.size, 0, none⟩ (.int .i64 b3)).setCell ⟨wr.heap.size, 1, none⟩ (.slice A3 n3 c3)).cell? ⟨w.heap.size, 1, none⟩ = some (.slice A5 n5 c5) := (by rw [World.cell?_setCell_other _ _ _ _ (by simp <;> omega), World.cell?_setCell_other _ _ _ _ (by simp <;> omega)]; exact u0); have v1 : ((w3.setCell ⟨wr.heap.size, 0, none⟩ (.int .i64 b3)).setCell ⟨wr.heap.size, 1, none⟩ (.slice A3 n3 c3)).cell? ⟨ga, t * 2, none⟩ = some (.int .i64 bj) := (by rw [World.cell?_setCell_other _ _ _ _ (by simp <;> omega), World.cell?_setCell_other _ _ _ _ (by simp <;> omega)]; exact u1); have v2 : ((w3.setCell ⟨wr.heap.size, 0, none⟩ (.int .i64 b3)).setCell ⟨wr.heap.size, 1, none⟩ (.slice A3 n3 c3)).cell? ⟨ga, t * 2 + 1, none⟩ = some (.slice Aj nj cj) := (by rw [World.cell?_setCell_other _ _ _ _ (by simp <;> omega), World.cell?_setCell_other _ _ _ _ (by simp <;> omega)]; exact u2); (try (have HWX := Bx.mk (show WB w3 wr.heap.size 0 (Lq + Lr + 1) from WB.below (WB.new (WG.zero wr (Lq + Lr + 1))) (Nat.le_refl _) (by first | exact B3 | exact (Below.refl _ _).drew.trans B3)); obtain ⟨bx, Ax, nx, cx, wx0, wx1, wf0, wf1, gx⟩ := HWX.out.open; clear gx))))
            all_goals
              go_wp2_with fail
              go_meet
              first
                | exact ⟨_, rfl, Nat.le_refl _, ⟨WB.put HWX.out G3⟩, ⟨(HBB.setCell (Nat.le_refl _) _).setCell (Nat.le_refl _) _⟩⟩
                | exact ⟨_, rfl, HBB.size, ⟨WB.new G3⟩, ⟨HBB.alloc HBB.size _⟩⟩
          case rest =>
            obtain ⟨B1, rfl, hb1, HW1, HBc⟩ := hcut
            obtain ⟨wy, hwy⟩ : ∃ x : World, x = wc := ⟨_, rfl⟩
            subst hwy
            have HBW := Bx.mk (HBi.out.trans (HBc.out.mono hrs))
            have PQc := Bx.mk (PQ0.out.below (Nat.le_refl _) HBW.out)
            have WLc := Bx.mk (WB.below WL0.out (Nat.le_refl _) HBW.out)
            have WFc := Bx.mk (WB.below WF0.out (Nat.le_refl _) HBW.out)
            have hcs := HBc.out.size
            have hB1 := HW1.out.1.lt
            clear l0 l1 lf0 lf1 j0 j1 HGJ HG5 HS5 GAr PQr WLr WFr hga hgl
            by_cases hsh : mr1 - m1 ≤ t
            · obtain ⟨tt, htt⟩ : ∃ tt : Nat, t - (mr1 - m1) = tt := ⟨_, rfl⟩
              have hixe : (t : Int) - ((mr1 : Int) + 1 - ((m1 : Int) + 1)) = (tt : Int) := by omega
              have hwr : IntKind.i64.wrap ((t : Int) - ((mr1 : Int) + 1 - ((m1 : Int) + 1))) = (tt : Int) := by rw [hixe]; exact IntWalk.i64_in _ (by omega)
              have htm : tt < m1 + 1 := by omega
              have htmI : (tt : Int) < (m1 : Int) + 1 := by omega
              have HTT := Bx.mk htt
              have HIX := Bx.mk hixe
              clear htt
              obtain ⟨bj, sj, j0, j1, _, _, gj⟩ := PQc.out.2 tt htm
              obtain ⟨Aj, nj, cj, rfl⟩ := gj.form
              obtain ⟨b7, A7, n7, c7, l0, l1, lf0, lf1, g7⟩ := WFc.out.open
              have HGJ := Bx.mk gj
              have HG7 := Bx.mk g7
              clear gj g7 hixe
              have hga : gq < wy.heap.size := by omega
              have hgl : B7 < wy.heap.size := by omega
              go_upto_region 11 with (fail)
              go_cut [11] (fun sx wx => ∃ B : Nat, sx = .pointer (some ⟨B, 0, none⟩) ∧ wy.heap.size ≤ B ∧ Bx (WB wx B (r mr1 * q tt) (Lr + Lq + 1)) ∧ Bx (Below wy.heap.size wy wx))
              case first =>
                have HZA := Bx.mk (show Below wy.heap.size wy (wy.alloc (.cells #[.int .i64 0, .slice none 0 0] 138)) from below_alloc1 _ _)
                have z0 : (wy.alloc (.cells #[.int .i64 0, .slice none 0 0] 138)).cell? ⟨B7, 0, none⟩ = some (.int .i64 b7) := (by rw [World.cell?_alloc_lt _ _ _ (by show B7 < _; omega)]; exact l0)
                have z1 : (wy.alloc (.cells #[.int .i64 0, .slice none 0 0] 138)).cell? ⟨B7, 1, none⟩ = some (.slice A7 n7 c7) := (by rw [World.cell?_alloc_lt _ _ _ (by show B7 < _; omega)]; exact l1)
                have z2 : (wy.alloc (.cells #[.int .i64 0, .slice none 0 0] 138)).cell? ⟨gq, tt * 2, none⟩ = some (.int .i64 bj) := (by rw [World.cell?_alloc_lt _ _ _ (by show gq < _; omega)]; exact j0)
                have z3 : (wy.alloc (.cells #[.int .i64 0, .slice none 0 0] 138)).cell? ⟨gq, tt * 2 + 1, none⟩ = some (.slice Aj nj cj) := (by rw [World.cell?_alloc_lt _ _ _ (by show gq < _; omega)]; exact j1)
                go_region_held3 (fun w' => w'.cell? ⟨B7, 0, none⟩ = some (.int .i64 b7) ∧ w'.cell? ⟨B7, 1, none⟩ = some (.slice A7 n7 c7) ∧ w'.cell? ⟨gq, tt * 2, none⟩ = some (.int .i64 bj) ∧ w'.cell? ⟨gq, tt * 2 + 1, none⟩ = some (.slice Aj nj cj))
                  (first | (exact ⟨l0, l1, j0, j1⟩) | (exact ⟨z0, z1, z2, z3⟩) | (exact ⟨u0, u1, u2, u3⟩) | (exact ⟨x0, x1, x2, x3⟩) | (exact ⟨y0, y1, y2, y3⟩) | (exact ⟨v0, v1, v2, v3⟩))
                  (first
                    | (go_at_call 128; (with_reducible refine (mulW_any b7 bj _ _ _ _ Lr Lq _ (by first | exact HG7.out | exact HG7.out.drew | exact HG7.out.below (Nat.le_refl _) HZA.out | exact (HG7.out.below (Nat.le_refl _) HZA.out).drew) (by first | exact HGJ.out | exact HGJ.out.drew | exact HGJ.out.below (Nat.le_refl _) HZA.out | exact (HGJ.out.below (Nat.le_refl _) HZA.out).drew) (by omega) (by omega)).mono ?_); rintro e w3 ⟨b3, s3, rfl, G3, B3⟩; obtain ⟨A3, n3, c3, rfl⟩ := G3.form; have HBB : Below wy.heap.size wy w3 := (by first | exact B3 | exact (Below.refl _ _).drew.trans B3 | exact HZA.out.trans (B3.mono (by simp)) | exact HZA.out.drew.trans (B3.mono (by simp))); have hz3 := HBB.size; have u0 := (HBB.cell (p := ⟨B7, 0, none⟩) hgl).trans l0; have u1 := (HBB.cell (p := ⟨B7, 1, none⟩) hgl).trans l1; have u2 := (HBB.cell (p := ⟨gq, tt * 2, none⟩) hga).trans j0; have u3 := (HBB.cell (p := ⟨gq, tt * 2 + 1, none⟩) hga).trans j1; have x0 : (w3.alloc (.cells #[.int .i64 0, .slice none 0 0] 138)).cell? ⟨B7, 0, none⟩ = some (.int .i64 b7) := (by rw [World.cell?_alloc_lt _ _ _ (by show B7 < _; omega)]; exact u0); have x1 : (w3.alloc (.cells #[.int .i64 0, .slice none 0 0] 138)).cell? ⟨B7, 1, none⟩ = some (.slice A7 n7 c7) := (by rw [World.cell?_alloc_lt _ _ _ (by show B7 < _; omega)]; exact u1); have x2 : (w3.alloc (.cells #[.int .i64 0, .slice none 0 0] 138)).cell? ⟨gq, tt * 2, none⟩ = some (.int .i64 bj) := (by rw [World.cell?_alloc_lt _ _ _ (by show gq < _; omega)]; exact u2); have x3 : (w3.alloc (.cells #[.int .i64 0, .slice none 0 0] 138)).cell? ⟨gq, tt * 2 + 1, none⟩ = some (.slice Aj nj cj) := (by rw [World.cell?_alloc_lt _ _ _ (by show gq < _; omega)]; exact u3); have y0 : (w3.alloc (.cells #[.int .i64 b3, .slice A3 n3 c3] 138)).cell? ⟨B7, 0, none⟩ = some (.int .i64 b7) := (by rw [World.cell?_alloc_lt _ _ _ (by show B7 < _; omega)]; exact u0); have y1 : (w3.alloc (.cells #[.int .i64 b3, .slice A3 n3 c3] 138)).cell? ⟨B7, 1, none⟩ = some (.slice A7 n7 c7) := (by rw [World.cell?_alloc_lt _ _ _ (by show B7 < _; omega)]; exact u1); have y2 : (w3.alloc (.cells #[.int .i64 b3, .slice A3 n3 c3] 138)).cell? ⟨gq, tt * 2, none⟩ = some (.int .i64 bj) := (by rw [World.cell?_alloc_lt _ _ _ (by show gq < _; omega)]; exact u2); have y3 : (w3.alloc (.cells #[.int .i64 b3, .slice A3 n3 c3] 138)).cell? ⟨gq, tt * 2 + 1, none⟩ = some (.slice Aj nj cj) := (by rw [World.cell?_alloc_lt _ _ _ (by show gq < _; omega)]; exact u3); have v0 : ((w3.setCell ⟨wy.heap.size, 0, none⟩ (.int .i64 b3)).setCell ⟨wy.heap.size, 1, none⟩ (.slice A3 n3 c3)).cell? ⟨B7, 0, none⟩ = some (.int .i64 b7) := (by rw [World.cell?_setCell_other _ _ _ _ (by simp <;> omega), World.cell?_setCell_other _ _ _ _ (by simp <;> omega)]; exact u0); have v1 : ((w3.setCell ⟨wy.heap.size, 0, none⟩ (.int .i64 b3)).setCell ⟨wy.heap.size, 1, none⟩ (.slice A3 n3 c3)).cell? ⟨B7, 1, none⟩ = some (.slice A7 n7 c7) := (by rw [World.cell?_setCell_other _ _ _ _ (by simp <;> omega), World.cell?_setCell_other _ _ _ _ (by simp <;> omega)]; exact u1); have v2 : ((w3.setCell ⟨wy.heap.size, 0, none⟩ (.int .i64 b3)).setCell ⟨wy.heap.size, 1, none⟩ (.slice A3 n3 c3)).cell? ⟨gq, tt * 2, none⟩ = some (.int .i64 bj) := (by rw [World.cell?_setCell_other _ _ _ _ (by simp <;> omega), World.cell?_setCell_other _ _ _ _ (by simp <;> omega)]; exact u2); have v3 : ((w3.setCell ⟨wy.heap.size, 0, none⟩ (.int .i64 b3)).setCell ⟨wy.heap.size, 1, none⟩ (.slice A3 n3 c3)).cell? ⟨gq, tt * 2 + 1, none⟩ = some (.slice Aj nj cj) := (by rw [World.cell?_setCell_other _ _ _ _ (by simp <;> omega), World.cell?_setCell_other _ _ _ _ (by simp <;> omega)]; exact u3); (try (have HWX := Bx.mk (show WB w3 wy.heap.size 0 (Lr + Lq + 1) from WB.below (WB.new (WG.zero wy (Lr + Lq + 1))) (Nat.le_refl _) (by first | exact B3 | exact (Below.refl _ _).drew.trans B3)); obtain ⟨bx, Ax, nx, cx, wx0, wx1, wf0, wf1, gx⟩ := HWX.out.open; clear gx))))
                all_goals
                  go_wp2_with fail
                  go_meet
                  first
                    | exact ⟨_, rfl, Nat.le_refl _, ⟨WB.put HWX.out G3⟩, ⟨(HBB.setCell (Nat.le_refl _) _).setCell (Nat.le_refl _) _⟩⟩
                    | exact ⟨_, rfl, HBB.size, ⟨WB.new G3⟩, ⟨HBB.alloc HBB.size _⟩⟩
              case rest =>
                obtain ⟨B2, rfl, hb2, HW2, HBd⟩ := hcut
                have hdsz := HBd.out.size
                have HX1 := Bx.mk (WB.below HW1.out (Nat.le_refl _) HBd.out)
                have HL1 := Bx.mk (WB.below WLc.out (Nat.le_refl _) HBd.out)
                clear l0 l1 lf0 lf1 j0 j1 HGJ HG7 hga hgl
                obtain ⟨bx, Ax, nx, cx, x0, x1, xf0, xf1, gx⟩ := HX1.out.open
                obtain ⟨by', Ay, ny, cy, y0, y1, yf0, yf1, gy⟩ := HW2.out.open
                obtain ⟨bz, Az, nz, cz, l0, l1, lf0, lf1, gz⟩ := HL1.out.open
                have HSZ := Bx.mk gz.sign
                have hz01 : bz = 1 ∨ bz = -1 := by have h := HCM.out; rw [← HSZ.out] at h; exact h
                have HGT := Bx.mk (gy.turn hz01)
                have HGX := Bx.mk gx
                obtain ⟨yb1, yb2⟩ := gy.bounds
                obtain ⟨zb1, zb2⟩ := gz.bounds
                have hmm := mul_bd (x := -by') (y := bz) (A := 1) (B := 1) (by omega) (by omega) (by omega) (by omega)
                obtain ⟨hm1', hm2'⟩ := hmm
                clear gx gy gz hz01
                have hwy1 : B1 < wc.heap.size := by omega
                have hwy2 : B2 < wc.heap.size := HW2.out.1.lt
                go_upto_region 13 with (go_at_call 127; (with_reducible refine (plusW_any bx (-by' * bz) _ _ _ _ (Lq + Lr + 1) _ HGX.out (HGT.out.more (by omega)) (by omega)).mono ?_); rintro e w6 ⟨b6, s6, rfl, G6, B6⟩; obtain ⟨A6, n6, c6, rfl⟩ := G6.form; have HG6 := Bx.mk G6; have HB6 := Bx.mk B6; have HX6 := Bx.mk (WB.below HX1.out (Nat.le_refl _) B6); obtain ⟨_, _, _, _, q0, q1, qf0, qf1, _⟩ := HX6.out.open; clear G6 B6)
                have HW8 := Bx.mk (WB.put (WB.more' HX6.out (show Lq + Lr + 1 ≤ Lr + Lq + 2 by omega)) (HG6.out.more (show Lq + Lr + 1 + 1 ≤ Lr + Lq + 2 by omega)))
                have HB8 := Bx.mk (show Below wr.heap.size wr ((w6.setCell ⟨B1, 0, none⟩ (.int .i64 b6)).setCell ⟨B1, 1, none⟩ (.slice A6 n6 c6)) from (((HBc.out.trans (HBd.out.mono hcs)).trans (HB6.out.mono (Nat.le_trans hcs hdsz))).setCell hb1 _).setCell hb1 _)
                have HVE := Bx.mk (show stepR (mr1 + 1) r (m1 + 1) q t = sz (q m1) * r t + -(r mr1 * q tt) * bz by rw [stepW_hi hsh HQ0.out, HTT.out, HSZ.out])
                clear q0 q1 qf0 qf1 x0 x1 xf0 xf1 y0 y1 yf0 yf1 l0 l1 lf0 lf1 HX6 HG6 HB6 HX1 HL1 HW2 HGT HGX
                generalize (w6.setCell ⟨B1, 0, none⟩ (.int .i64 b6)).setCell ⟨B1, 1, none⟩ (.slice A6 n6 c6) = W8 at *
                obtain ⟨b8, A8, n8, c8, e80, e81, _, _, g8⟩ := WB.open HW8.out
                have HG8 := Bx.mk g8
                clear g8
                have hB18 : B1 < W8.heap.size := by have := HW8.out.1.lt; omega
                have HKA := Bx.mk (show Below wr.heap.size wr (W8.alloc (.cells #[.int .i64 b8, .slice A8 n8 c8] 138)) from HB8.out.alloc HB8.out.size _)
                have HZB := Bx.mk (show W0.heap.size ≤ W8.heap.size from Nat.le_trans hrs HB8.out.size)
                go_wp2_with (at_builtin; refine wpList_append_lies _ rfl _ _ _ rfl W0.heap.size 138 i0 _ 2 32 Try.underlying114 hi0 hz0 hz1 hz2 rfl (by omega) (.slice Ad t cd) t xs rfl (owns_below HOW.out HKA.out) ⟨W8.heap.size, 0, none⟩ 1 1 [.int .i64 b8, .slice A8 n8 c8] rfl rfl (World.news_of_block (cs := #[.int .i64 b8, .slice A8 n8 c8]) (t := 138) (fr := (0, 0)) (heap_alloc_new W8 _)) (by simp [Value.oneCell']) (by omega) (by simp only [maxLen]; omega) (by omega) (by have := HZB.out; simp; omega) (W8.heap.size + 1) (by simp) ?_)
                intro gg cap w9 hown9 hgrow9 hat9 hlt9
                have P9 := Bx.mk (WPO.more1 (HO.out.below HKA.out) ((HG8.out.more (Nat.le_refl _)).below (Nat.le_refl _) ((Below.refl _ _).alloc (Nat.le_refl _) _)) (show stepR (mr1 + 1) r (m1 + 1) q t = _ from HVE.out) xs (owns_below HOW.out HKA.out) (fun i hi => by
                  obtain ⟨b, sv, k1, k2, k3⟩ := HX.out i hi
                  exact ⟨b, sv, k1, k2, k3.below (Nat.le_refl _) HKA.out⟩) hown9 hgrow9)
                have hlt5 := HOW.out.lt
                have hB9 := Bx.mk (show Below W0.heap.size W0 w9 from (HBi.out.trans (HKA.out.mono hrs)).grown hgrow9 (by have := HZB.out; simp; omega) (fun j hj => (hlt5 j hj).1))
                clear hown9 hgrow9 hlt5 hat9 hlt9 HKA HG8
                go_wp2
                go_roundw
                case rel => exact ⟨t + 1, by omega, by go_num, P9, hB9⟩
                case measure => simp [intOf]; omega
            · have hsh0 : ¬ (0 : Int) ≤ (t : Int) - ((mr1 : Int) + 1 - ((m1 : Int) + 1)) := by omega
              have hsh1 : ¬ (mr1 : Int) + 1 - ((m1 : Int) + 1) ≤ (t : Int) := by omega
              have HVE := Bx.mk (show stepR (mr1 + 1) r (m1 + 1) q t = sz (q m1) * r t from stepW_lo hsh)
              go_upto_region 13 with (fail)
              obtain ⟨b8, A8, n8, c8, e80, e81, _, _, g8⟩ := WB.open HW1.out
              have HG8 := Bx.mk g8
              clear g8
              have hB18 : B1 < wy.heap.size := by have := HW1.out.1.lt; omega
              have HKA := Bx.mk (show Below wr.heap.size wr (wy.alloc (.cells #[.int .i64 b8, .slice A8 n8 c8] 138)) from HBc.out.alloc HBc.out.size _)
              have HZB := Bx.mk (show W0.heap.size ≤ wy.heap.size from Nat.le_trans hrs HBc.out.size)
              go_wp2_with (at_builtin; refine wpList_append_lies _ rfl _ _ _ rfl W0.heap.size 138 i0 _ 2 32 Try.underlying114 hi0 hz0 hz1 hz2 rfl (by omega) (.slice Ad t cd) t xs rfl (owns_below HOW.out HKA.out) ⟨wy.heap.size, 0, none⟩ 1 1 [.int .i64 b8, .slice A8 n8 c8] rfl rfl (World.news_of_block (cs := #[.int .i64 b8, .slice A8 n8 c8]) (t := 138) (fr := (0, 0)) (heap_alloc_new wy _)) (by simp [Value.oneCell']) (by omega) (by simp only [maxLen]; omega) (by omega) (by have := HZB.out; simp; omega) (wy.heap.size + 1) (by simp) ?_)
              intro gg cap w9 hown9 hgrow9 hat9 hlt9
              have P9 := Bx.mk (WPO.more1 (HO.out.below HKA.out) ((HG8.out.more (show Lq + Lr + 1 ≤ Lr + Lq + 2 by omega)).below (Nat.le_refl _) ((Below.refl _ _).alloc (Nat.le_refl _) _)) (show stepR (mr1 + 1) r (m1 + 1) q t = _ from HVE.out) xs (owns_below HOW.out HKA.out) (fun i hi => by
                obtain ⟨b, sv, k1, k2, k3⟩ := HX.out i hi
                exact ⟨b, sv, k1, k2, k3.below (Nat.le_refl _) HKA.out⟩) hown9 hgrow9)
              have hlt5 := HOW.out.lt
              have hB9 := Bx.mk (show Below W0.heap.size W0 w9 from (HBi.out.trans (HKA.out.mono hrs)).grown hgrow9 (by have := HZB.out; simp; omega) (fun j hj => (hlt5 j hj).1))
              clear hown9 hgrow9 hlt5 hat9 hlt9 HKA HG8
              go_wp2
              go_roundw
              case rel => exact ⟨t + 1, by omega, by go_num, P9, hB9⟩
              case measure => simp [intOf]; omega
        · obtain rfl : t = mr1 := by omega
          have HPW := Bx.mk (HO.out.pa)
          have HCAP := Bx.mk (HO.out.cap)
          have WLr := Bx.mk (WB.below WL0.out (Nat.le_refl _) HBi.out)
          have HBr := Bx.mk (HB0.out.trans (HBi.out.mono HB0.out.size))
          clear HO HBi WL0 WF0 GA0 PQ0
          go_wp2
          go_loop [7] (fun nv => ∃ mm : Nat, mm ≤ t ∧ nv = .slice Ad mm cd ∧ Bx (∀ s, mm ≤ s → s < t → stepR (t + 1) r (m1 + 1) q s = 0)) (fun nv => lenOfS nv)
          case atStart => exact ⟨t, by omega, rfl, ⟨fun s _ _ => by omega⟩⟩
          case round =>
            obtain ⟨mm, hmm, rfl, HZ⟩ := hrel
            rcases Nat.eq_zero_or_pos mm with h0 | h0
            · subst h0
              have HRR := Bx.mk (show restR (m1 + 1) q (n - k - 1) 0 (stepR (t + 1) r (m1 + 1) q) = restR (m1 + 1) q n n z by
                have h1 := HR2.out
                rw [Nat.add_sub_cancel, trimN_of (k := 0) (by omega) HZ.out (by omega)] at h1
                exact h1)
              have HPN := Bx.mk (show WPA wr Ad 0 (stepR (t + 1) r (m1 + 1) q) (L + (k + 1) * (Lq + 2)) from fun h => by omega)
              go_wp2
              go_roundw
              case rel => exact ⟨k + 1, 0, cd, stepR (t + 1) r (m1 + 1) q, Ad, by omega, rfl, HRR, HPN, WLr, HBr⟩
              case measure => simp [lenOfS]
            · obtain ⟨mk, rfl⟩ : ∃ mk, mm = mk + 1 := ⟨mm - 1, by omega⟩
              obtain ⟨g, rfl, hg⟩ := HPW.out (by omega)
              obtain ⟨bk, sk, k0, k1, _, _, gk⟩ := hg.2 mk (by omega)
              obtain ⟨hc1, hc2⟩ := HCAP.out (by omega)
              have HSK := Bx.mk gk.sign
              clear gk hg
              by_cases hz : stepR (t + 1) r (m1 + 1) q mk = 0
              · have HZ2 := Bx.mk (show ∀ s, mk ≤ s → s < t → stepR (t + 1) r (m1 + 1) q s = 0 from fun s hs hs' => by
                  rcases Nat.eq_or_lt_of_le hs with e | e
                  · subst e; exact hz
                  · exact HZ.out s (by omega) hs')
                have hb0 : bk = 0 := by rw [HSK.out, hz]; exact cmpI_eq 0
                clear hz HSK
                subst hb0
                go_wp2
                go_round
                case rel => exact ⟨mk, by omega, rfl, HZ2⟩
                case measure => simp [lenOfS]
              · have hb0 : (bk == 0) = false := by
                  have h := cmpI_ne hz
                  rw [← HSK.out] at h
                  simpa using h
                have HRR := Bx.mk (show restR (m1 + 1) q (n - k - 1) (mk + 1) (stepR (t + 1) r (m1 + 1) q) = restR (m1 + 1) q n n z by
                  have h1 := HR2.out
                  rw [Nat.add_sub_cancel, trimN_of (k := mk + 1) (by omega) HZ.out (fun _ => hz)] at h1
                  exact h1)
                have HPN := Bx.mk (show WPA wr (some ⟨g, 0, none⟩) (mk + 1) (stepR (t + 1) r (m1 + 1) q) (L + (k + 1) * (Lq + 2)) from fun h => by
                  obtain ⟨g', e, h'⟩ := HPW.out (by omega)
                  exact ⟨g', e, (h'.less (by omega)).more (by rw [HLk.out]; omega)⟩)
                clear hz HSK
                go_wp2
                go_roundw
                case rel => exact ⟨k + 1, mk + 1, cd, stepR (t + 1) r (m1 + 1) q, _, by omega, rfl, HRR, HPN, WLr, HBr⟩
                case measure => simp [lenOfS]; omega
    · have hlen' : ¬ ((m1 : Int) + 1) ≤ mr := by omega
      have HE := Bx.mk (restR_end HRS.out hlen)
      have hLr : L + k * (Lq + 2) ≤ L + n * (Lq + 2) := Nat.add_le_add_left (Nat.mul_le_mul_right _ (by omega)) _
      go_wp2
      go_ret
      rw [HE.out]
      exact ⟨_, ⟨_, rfl⟩, HPR.out.more hLr, (by show mr ≤ n; omega), HB.out⟩

end Go.Proofs.Ytfnmnnbmhfbkbaa
