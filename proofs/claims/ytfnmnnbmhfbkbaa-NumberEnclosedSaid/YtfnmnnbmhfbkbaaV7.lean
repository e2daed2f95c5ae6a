/- Walks: the sign of the reference's polynomial at a fraction. -/
import Derived.Test.YtfnmnnbmhfbkbaaV6
set_option linter.unusedVariables false
set_option linter.unusedSimpArgs false
namespace Go.Proofs.Ytfnmnnbmhfbkbaa
open Go.RowKit

set_option maxRecDepth 100000 in
set_option maxHeartbeats 4000000 in
theorem signW_any (A : Option Addr) (n c : Nat) (z : Row) (L : Nat) (N D : Int) (w : World) (hA : WPA w A n z L) (hn : n ≤ 1000) (hL : L ≤ 100000000) (hN : -100000000000000000 ≤ N) (hN' : N ≤ 100000000000000000) (hD : -100000000000000000 ≤ D) (hD' : D ≤ 100000000000000000) :
    Calls Try.prog 107 #[.slice A n c, .int .i64 N, .int .i64 D] w fun e w' => e = .returned (.int .i64 (sgAt n z N D)) ∧ Below w.heap.size w w' := by
  go_enter Try.func107, Try.ntmps107
  go_wp2_with (first
    | (go_at_call 126; (with_reducible refine (wideOf_any N _ hN hN').mono ?_); rintro e w1 ⟨b1, s1, rfl, G1, B1⟩; obtain ⟨A1, n1, c1, rfl⟩ := G1.form; have HG1 := Bx.mk G1; have HB1 := Bx.mk B1; clear G1 B1)
    | (go_at_call 126; (with_reducible refine (wideOf_any D _ hD hD').mono ?_); rintro e w2 ⟨b2, s2, rfl, G2, B2⟩; obtain ⟨A2, n2, c2, rfl⟩ := G2.form; have HG2 := Bx.mk G2; have HB2 := Bx.mk B2; clear G2 B2)
    | (go_at_call 126; (with_reducible refine (wideOf_any 1 _ (by omega) (by omega)).mono ?_); rintro e w3 ⟨b3, s3, rfl, G3, B3⟩; obtain ⟨A3, n3, c3, rfl⟩ := G3.form; have HG3 := Bx.mk G3; have HB3 := Bx.mk B3; clear G3 B3))
  have H0 := Bx.mk (show w.heap.size ≤ w2.heap.size from Nat.le_trans HB1.out.size HB2.out.size)
  have H3 := Bx.mk (show w2.heap.size + 2 ≤ w3.heap.size by have := HB3.out.size; simp at this; omega)
  have HW := Bx.mk (show Below w.heap.size w ((w3.alloc (.cells #[.int .i64 0, .slice none 0 0] 138)).alloc (.cells #[.int .i64 b3, .slice A3 n3 c3] 138)) from by
    have h := (below_call0 HB1.out HB2.out).alloc H0.out (.cells #[.int .i64 b1, .slice A1 n1 c1] 138)
    have h' := h.alloc (by simp; have := H0.out; omega) (.cells #[.int .i64 b2, .slice A2 n2 c2] 138)
    exact ((below_call0 h' HB3.out).alloc (by have := H0.out; have := H3.out; omega) _).alloc (by simp; have := H0.out; have := H3.out; omega) _)
  have B4 := Bx.mk (show Below w3.heap.size w3 ((w3.alloc (.cells #[.int .i64 0, .slice none 0 0] 138)).alloc (.cells #[.int .i64 b3, .slice A3 n3 c3] 138)) from ((Below.refl _ _).alloc (Nat.le_refl _) _).alloc (by simp) _)
  have RN := Bx.mk ((((WB.new (HG1.out.below (Nat.le_refl _) HB2.out)).alloc (.cells #[.int .i64 b2, .slice A2 n2 c2] 138)).below (Nat.le_refl _) HB3.out).below (Nat.le_refl _) B4.out)
  have RD := Bx.mk (((WB.new (HG2.out.below (Nat.le_refl _) ((Below.refl _ _).alloc (Nat.le_refl _) (.cells #[.int .i64 b1, .slice A1 n1 c1] 138)))).below (Nat.le_refl _) HB3.out).below (Nat.le_refl _) B4.out)
  have RV := Bx.mk ((WB.new (WG.zero w3 (L + 7))).alloc (.cells #[.int .i64 b3, .slice A3 n3 c3] 138))
  have RP := Bx.mk (WB.new ((HG3.out.more (show 5 ≤ 6 by omega)).below (Nat.le_refl _) ((Below.refl _ _).alloc (Nat.le_refl _) (.cells #[.int .i64 0, .slice none 0 0] 138))))
  simp only [World.size_alloc] at RN RD RV RP
  clear HB1 HB2 HB3 B4 HG1 HG2 HG3
  generalize (w3.alloc (.cells #[.int .i64 0, .slice none 0 0] 138)).alloc (.cells #[.int .i64 b3, .slice A3 n3 c3] 138) = W0 at *
  generalize w2.heap.size = gN at *
  generalize w3.heap.size = gV at *
  go_loopw [11] (fun i wr => ∃ k : Nat, k ≤ n ∧ i = .int .i64 ((n : Int) - 1 - k) ∧ Bx (WB wr gN N 5) ∧ Bx (WB wr (gN + 1) D 5) ∧ Bx (WB wr gV (vpN z N D n k).1 (L + 7 * (k + 1))) ∧ Bx (WB wr (gV + 1) (vpN z N D n k).2 (6 * (k + 1))) ∧ Bx (Below w.heap.size w wr)) (fun i _ => (intOf i + 1).toNat)
  case atStart => exact ⟨0, by omega, by simp, RN, RD, RV, RP, HW⟩
  case round =>
    obtain ⟨k, hk, rfl, KN, KD, KV, KP, HB⟩ := hrel
    clear RN RD RV RP HW
    have hg0 := H0.out
    have hg3 := H3.out
    by_cases hlt : k < n
    · have hlt' : (0 : Int) ≤ (n : Int) - 1 - k := by omega
      obtain ⟨g, rfl, hg⟩ := hA (by omega)
      have hgl := hg.1.lt
      have hq := hg.below (Nat.le_refl _) HB.out
      obtain ⟨be, se, e0, e1, ef0, ef1, GE⟩ := hq.2 (n - 1 - k) (by omega)
      obtain ⟨Ae, ne, ce, rfl⟩ := GE.form
      obtain ⟨bn, An, nn, cn, n0, n1, nf0, nf1, GN⟩ := KN.out.open
      obtain ⟨bv, Av, nv, cv, v0, v1, vf0, vf1, GV⟩ := KV.out.open
      obtain ⟨bp, Ap, np, cp, p0, p1, pf0, pf1, GP⟩ := KP.out.open
      have hix : ((n : Int) - 1 - k).toNat = n - 1 - k := by omega
      have hin : (n : Int) - 1 - k < n := by omega
      have HGE := Bx.mk GE
      have HGN := Bx.mk GN
      have HGV := Bx.mk GV
      have HGP := Bx.mk GP
      clear GE GN GV GP hq hg
      have lN := KN.out.1.lt
      have lD := KD.out.1.lt
      have lV := KV.out.1.lt
      have lP := KP.out.1.lt
      have hge : g < wr.heap.size := Nat.lt_of_lt_of_le hgl HB.out.size
      go_wp2
      clear hA H0 H3
      go_region_law (first
        | (go_simp; go_at_call 128; (with_reducible refine (mulW_any bv bn _ _ _ _ _ _ _ (by exact HGV.out.drew) (by exact HGN.out.drew) (by omega) (by omega)).mono ?_); rintro e w4 ⟨b4, s4, rfl, G4, K4⟩; obtain ⟨A4, n4, c4, rfl⟩ := G4.form; obtain ⟨hcp, hfp⟩ := bcell K4; have p00 := (hcp (gV + 1) 0 (by first | omega | (simp; omega))).trans p0; have p01 := (hcp (gV + 1) 1 (by first | omega | (simp; omega))).trans p1; have e00 := (hcp g ((n - 1 - k) * 2) (by first | omega | (simp; omega))).trans e0; have e01 := (hcp g ((n - 1 - k) * 2 + 1) (by first | omega | (simp; omega))).trans e1)
        | (go_simp; go_at_call 128; (with_reducible refine (mulW_any be bp _ _ _ _ _ _ _ (by exact HGE.out.drew.below (Nat.le_refl _) K4) (by exact HGP.out.drew.below (Nat.le_refl _) K4) (by omega) (by omega)).mono ?_); rintro e w5 ⟨b5, s5, rfl, G5, K5⟩; obtain ⟨A5, n5, c5, rfl⟩ := G5.form)
        | (go_simp; go_at_call 127; (with_reducible refine (plusW_any b4 b5 _ _ _ _ (L + 7 * (k + 1) + 6) _ (by exact (G4.below (Nat.le_refl _) K5).more (by omega)) (by exact G5.more (by omega)) (by omega)).mono ?_); rintro e w6 ⟨b6, s6, rfl, G6, K6⟩; obtain ⟨A6, n6, c6, rfl⟩ := G6.form; have hv6 := Bx.mk (WB.below (WB.below (WB.below (show WB wr.drew gV _ _ from KV.out) (Nat.le_refl _) K4) (Nat.le_refl _) K5) (Nat.le_refl _) K6); obtain ⟨b96, A96, n96, c96, r90, r91, fr90, fr91, g96⟩ := hv6.out.open))
      all_goals
        clear r90 r91 fr90 fr91 g96 hcp hfp p00 p01 e00 e01 e0 e1 ef0 ef1 n0 n1 nf0 nf1 v0 v1 vf0 vf1 p0 p1 pf0 pf1
        have KW := Bx.mk (show Below wr.heap.size wr w6 from (((Below.refl wr.heap.size wr).drew.trans K4).trans (K5.mono K4.size)).trans (K6.mono (Nat.le_trans K4.size K5.size)))
        have RN := Bx.mk (WPR.other (WB.below KN.out (Nat.le_refl _) KW.out) hv6.out (by omega) 0 1 (.int .i64 b6) (.slice A6 n6 c6))
        have RD := Bx.mk (WPR.other (WB.below KD.out (Nat.le_refl _) KW.out) hv6.out (by omega) 0 1 (.int .i64 b6) (.slice A6 n6 c6))
        have RP := Bx.mk (WPR.other (WB.below KP.out (Nat.le_refl _) KW.out) hv6.out (by omega) 0 1 (.int .i64 b6) (.slice A6 n6 c6))
        have RV := Bx.mk (WB.put (WB.more' hv6.out (show L + 7 * (k + 1) ≤ L + 7 * (k + 1 + 1) by omega)) (G6.more (show L + 7 * (k + 1) + 6 + 1 ≤ L + 7 * (k + 1 + 1) by omega)))
        have RB := Bx.mk ((((HB.out.trans (KW.out.mono HB.out.size)).setCell (p := ⟨gV, 0, none⟩) (show w.heap.size ≤ gV by omega) (.int .i64 b6)).setCell (p := ⟨gV, 1, none⟩) (show w.heap.size ≤ gV by omega) (.slice A6 n6 c6)))
        clear K4 K5 K6 KW G4 G5 G6 hv6 KN KD KV KP HB HGE HGN HGV HGP
        generalize (w6.setCell ⟨gV, 0, none⟩ (.int .i64 b6)).setCell ⟨gV, 1, none⟩ (.slice A6 n6 c6) = V at *
        obtain ⟨bd, Ad, nd, cd, d0, d1, df0, df1, GD⟩ := WB.open RD.out
        obtain ⟨bp', Ap', np', cp', p0', p1', pf0', pf1', GP'⟩ := WB.open RP.out
        have HGD := Bx.mk GD
        have HGP' := Bx.mk GP'
        clear GD GP'
        go_wp2_with (go_at_call 128; (with_reducible refine (mulW_any bp' bd _ _ _ _ _ _ _ HGP'.out HGD.out (by omega) (by omega)).mono ?_); rintro e w7 ⟨b7, s7, rfl, G7, K7⟩; obtain ⟨A7, n7, c7, rfl⟩ := G7.form; have HG7 := Bx.mk G7; have HK7 := Bx.mk K7; have j0 := Bx.mk (WB.below RP.out (Nat.le_refl _) K7); obtain ⟨bj, Aj, nj, cj, w00, w01, wf0, wf1, _⟩ := WB.open j0.out; clear G7 K7)
        go_roundw
        case rel => exact ⟨k + 1, by omega, by first | go_num | (congr 1; omega), ⟨WPR.other (WB.below RN.out (Nat.le_refl _) HK7.out) j0.out (by omega) _ _ _ _⟩, ⟨WPR.other (WB.below RD.out (Nat.le_refl _) HK7.out) j0.out (by omega) _ _ _ _⟩, ⟨WPR.other (WB.below RV.out (Nat.le_refl _) HK7.out) j0.out (by omega) _ _ _ _⟩, ⟨WB.put (WB.more' j0.out (by omega)) (HG7.out.more (by omega))⟩, ⟨((RB.out.trans (HK7.out.mono RB.out.size)).setCell (p := ⟨gV + 1, 0, none⟩) (show w.heap.size ≤ gV + 1 by omega) _).setCell (p := ⟨gV + 1, 1, none⟩) (show w.heap.size ≤ gV + 1 by omega) _⟩⟩
        case measure => simp [intOf]; omega
    · have hkn : k = n := by omega
      have hlt' : ¬ (0 : Int) ≤ (n : Int) - 1 - k := by omega
      subst hkn
      obtain ⟨bv, Av, nv, cv, v0, v1, vf0, vf1, GV⟩ := KV.out.open
      have HS := Bx.mk GV.sign
      clear GV
      go_wp2
      go_ret
      exact ⟨by rw [HS.out]; rfl, HB.out⟩

end Go.Proofs.Ytfnmnnbmhfbkbaa
