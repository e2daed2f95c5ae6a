/- Walks: the sign of the reference's polynomial just behind a fraction. -/
import Derived.Test.YtfnmnnbmhfbkbaaV7
import Derived.Test.YtfnmnnbmhfbkbaaVP
set_option linter.unusedVariables false
set_option linter.unusedSimpArgs false
namespace Go.Proofs.Ytfnmnnbmhfbkbaa
open Go.RowKit

set_option maxRecDepth 100000 in
set_option maxHeartbeats 4000000 in
theorem behindW_any (A : Option Addr) (n c : Nat) (z : Row) (L : Nat) (N D : Int) (w : World) (hA : WPA w A n z L) (hn : n ≤ 100) (hL : L ≤ 90000000) (hN : -100000000000000000 ≤ N) (hN' : N ≤ 100000000000000000) (hD : -100000000000000000 ≤ D) (hD' : D ≤ 100000000000000000) :
    Calls Try.prog 135 #[.slice A n c, .int .i64 N, .int .i64 D] w fun e w' => e = .returned (.int .i64 (sgBehind N D n z)) ∧ Below w.heap.size w w' := by
  obtain ⟨i0, hi0, hz0, hz1, hz2⟩ := info_wide_parts
  go_enter Try.func135, Try.ntmps135
  go_wp2
  go_loopw [0] (fun x wr => ∃ (A' : Option Addr) (m c' : Nat) (y : Row), m ≤ n ∧ x = .slice A' m c' ∧ Bx (sgBehind N D m y = sgBehind N D n z) ∧ Bx (WPA wr A' m y (L + 6 * (n - m))) ∧ Bx (Below w.heap.size w wr)) (fun x _ => lenOfS x)
  case atStart => exact ⟨A, n, c, z, by omega, rfl, ⟨rfl⟩, ⟨by rw [Nat.sub_self]; exact hA⟩, ⟨Below.refl _ _⟩⟩
  case round =>
    obtain ⟨A', m, c', y, hm, rfl, HS, HP, hB⟩ := hrel
    rcases Nat.eq_zero_or_pos m with h0 | h0
    · subst h0
      go_wp2
      go_ret
      exact ⟨ret_int HS.out, hB.out⟩
    · obtain ⟨j, rfl⟩ : ∃ j, m = j + 1 := ⟨m - 1, by omega⟩
      have HLm := Bx.mk (show L + 6 * (n - (j + 1)) + 6 ≤ L + 6 * (n - j) by omega)
      have hLm : L + 6 * (n - (j + 1)) ≤ 100000000 := by omega
      generalize L + 6 * (n - (j + 1)) = Lm at *
      by_cases hs : sgAt (j + 1) y N D = 0
      · have hs' : (sgAt (j + 1) y N D != 0) = false := by rw [hs]; rfl
        have HN := Bx.mk ((sgBehind_no hs).symm.trans HS.out)
        clear hs
        go_wp2_with (go_at_call 107; (with_reducible refine (signW_any A' (j + 1) c' y Lm N D _ HP.out (by omega) (by omega) hN hN' hD hD').mono ?_); rintro e w1 ⟨rfl, B1⟩; have HB1 := Bx.mk B1; clear B1)
        have HP1 := Bx.mk (HP.out.below (Nat.le_refl _) HB1.out)
        have hBw := Bx.mk (hB.out.trans (HB1.out.mono hB.out.size))
        clear HP hB HB1 HS hs'
        go_loopw [8, 9] (fun dv i wi => ∃ t : Nat, t ≤ j ∧ i = .int .i64 ((t : Int) + 1) ∧ Bx (WPO wi w1.heap.size dv t (dRow y) (Lm + 6)) ∧ Bx (Below w1.heap.size w1 wi)) (fun _ i _ => j + 1 - (intOf i).toNat)
        case atStart => exact ⟨0, by omega, rfl, ⟨WPO.nil _ _ _ _⟩, ⟨Below.refl _ _⟩⟩
        case round =>
          obtain ⟨t, ht, rfl, HO, HB⟩ := hrel
          obtain ⟨Ad, cd, rfl⟩ := HO.out.form
          by_cases hlt : t < j
          · have hlt' : (t : Int) + 1 < (j : Int) + 1 := by omega
            obtain ⟨g, rfl, hg⟩ := (HP1.out.below (Nat.le_refl _) HB.out) (by omega)
            obtain ⟨b1, s1, c1, c2, f1, f2, hL1⟩ := hg.2 (t + 1) (by omega)
            have hgw := hg.1.lt
            have HG := Bx.mk (show g < w1.heap.size from (by obtain ⟨g', e, h⟩ := HP1.out (by omega); injection e with e; injection e with e; subst e; exact h.1.lt))
            obtain ⟨A1, n1, d1, rfl⟩ := hL1.form
            have HL1 := Bx.mk hL1
            obtain ⟨xs, ho, hx⟩ := HO.out.2
            have HX := Bx.mk hx
            have HOW := Bx.mk ho
            clear hx ho hg hL1
            have hix : ((t : Int) + 1).toNat = t + 1 := by omega
            have hx0 : (0 : Int) ≤ (t : Int) + 1 := by omega
            have hne : some g ≠ (Value.slice Ad t cd).ownBlock := fun e => by have := (HOW.out.lt _ e.symm).1; have := HG.out; omega
            go_wp2
            go_region_held3 (fun w' => w'.cell? ⟨g, (t + 1) * 2, none⟩ = some (.int .i64 b1) ∧ w'.cell? ⟨g, (t + 1) * 2 + 1, none⟩ = some (.slice A1 n1 d1))
              (first | (exact ⟨c1, c2⟩) | (exact ⟨u0, u1⟩) | (exact ⟨v0, v1⟩) | (exact ⟨x0, x1⟩) | (exact ⟨y0, y1⟩) | (refine ⟨?_, ?_⟩ <;> simp [go_sem, *]; done))
              (first
                | (go_at_call 126; (with_reducible refine (wideOf_any ((t : Int) + 1) _ (by omega) (by omega)).mono ?_); rintro e w2 ⟨b2, s2, rfl, G2, B2⟩; obtain ⟨A2, n2, d2, rfl⟩ := G2.form; replace B2 : Below wr.heap.size wr w2 := (by first | exact B2 | exact (Below.refl _ _).drew.trans B2 | exact (below_drewN (Below.refl _ _) _).trans B2); have u0 := (B2.cell (p := ⟨g, (t + 1) * 2, none⟩) hgw).trans c1; have u1 := (B2.cell (p := ⟨g, (t + 1) * 2 + 1, none⟩) hgw).trans c2; have hgw2 : g < w2.heap.size := (Nat.lt_of_lt_of_le hgw B2.size))
                | (go_at_call 128; (with_reducible refine (mulW_any b2 b1 _ _ _ _ 5 Lm _ (by exact G2) (by exact HL1.out.below (Nat.le_refl _) B2) (by omega) (by omega)).mono ?_); rintro e w3 ⟨b3, s3, rfl, G3, B3⟩; obtain ⟨A3, n3, d3, rfl⟩ := G3.form; replace B3 : Below w2.heap.size w2 w3 := (by first | exact B3 | exact (Below.refl _ _).drew.trans B3 | exact (below_drewN (Below.refl _ _) _).trans B3); have v0 := (B3.cell (p := ⟨g, (t + 1) * 2, none⟩) hgw2).trans u0; have v1 := (B3.cell (p := ⟨g, (t + 1) * 2 + 1, none⟩) hgw2).trans u1; have KB3 : Below wr.heap.size wr w3 := (B2.trans (B3.mono B2.size)); have hgw3 : g < w3.heap.size := (Nat.lt_of_lt_of_le hgw KB3.size); have x0 : (w3.alloc (.cells #[.int .i64 b3, .slice A3 n3 d3] 138)).cell? ⟨g, (t + 1) * 2, none⟩ = some (.int .i64 b1) := (by rw [World.cell?_alloc_lt _ _ _ (by show g < _; omega)]; exact v0); have x1 : (w3.alloc (.cells #[.int .i64 b3, .slice A3 n3 d3] 138)).cell? ⟨g, (t + 1) * 2 + 1, none⟩ = some (.slice A1 n1 d1) := (by rw [World.cell?_alloc_lt _ _ _ (by show g < _; omega)]; exact v1))
                | ((refine step_append_lies _ (by rfl) _ _ _ (by rfl) w1.heap.size 138 i0 _ 2 32 Try.underlying114 hi0 hz0 hz1 hz2 rfl (by omega) (.slice Ad t cd) t xs (by rfl) (owns_below HOW.out (KB3.alloc KB3.size _)) ⟨w3.heap.size, 0, none⟩ 1 1 [.int .i64 b3, .slice A3 n3 d3] (by rfl) (by rfl) (World.news_of_block (cs := #[.int .i64 b3, .slice A3 n3 d3]) (t := 138) (fr := (0, 0)) (heap_alloc_new w3 _)) (by simp [Value.oneCell']) (by omega) (by simp only [maxLen]; omega) (by omega) (by have := HB.out.size; have := KB3.size; simp; omega) (w3.heap.size + 1) (by simp) ?_; intro gg cap w4 hown4 hgrow4 hat4 hlt4; have y0 : w4.cell? ⟨g, (t + 1) * 2, none⟩ = some (.int .i64 b1) := (by rw [hgrow4.cell_far _ (by simp; omega) hne]; exact x0); have y1 : w4.cell? ⟨g, (t + 1) * 2 + 1, none⟩ = some (.slice A1 n1 d1) := (by rw [hgrow4.cell_far _ (by simp; omega) hne]; exact x1))))
            have HKA := Bx.mk (show Below wr.heap.size wr (w3.alloc (.cells #[.int .i64 b3, .slice A3 n3 d3] 138)) from KB3.alloc KB3.size _)
            have P4 := Bx.mk (WPO.more1 (HO.out.below HKA.out) ((G3.more (show 5 + Lm + 1 ≤ Lm + 6 by omega)).below (Nat.le_refl _) ((Below.refl _ _).alloc (Nat.le_refl _) _)) (show dRow y t = ((t : Int) + 1) * y (t + 1) from Int.mul_comm _ _) xs (owns_below HOW.out HKA.out) (fun i hi => by
              obtain ⟨b, sv, k1, k2, k3⟩ := HX.out i hi
              exact ⟨b, sv, k1, k2, k3.below (Nat.le_refl _) HKA.out⟩) hown4 hgrow4)
            have hlt5 := HOW.out.lt
            have hB4 := Bx.mk (show Below w1.heap.size w1 w4 from (HB.out.trans (HKA.out.mono HB.out.size)).grown hgrow4 (by have := HB.out.size; have := KB3.size; simp; omega) (fun j hj => (hlt5 j hj).1))
            clear hown4 hgrow4 hlt5 hat4 HKA KB3 G3 G2 B2 B3 v0 v1 u0 u1 x0 x1 y0 y1
            go_wp2
            go_roundw
            case rel => exact ⟨t + 1, by omega, by go_num, P4, hB4⟩
            case measure => simp [intOf]; omega
          · obtain rfl : t = j := by omega
            have HQ := Bx.mk ((HO.out.pa).more HLm.out)
            go_wp2
            go_roundw
            case rel => exact ⟨_, t, _, dRow y, by omega, rfl, HN, HQ, ⟨hBw.out.trans (HB.out.mono hBw.out.size)⟩⟩
            case measure => simp [lenOfS]
      · have hs' : (sgAt (j + 1) y N D != 0) = true := by simpa using hs
        have HN := Bx.mk ((sgBehind_yes hs).symm.trans HS.out)
        clear hs
        go_wp2_with (go_at_call 107; (with_reducible refine (signW_any A' (j + 1) c' y Lm N D _ HP.out (by omega) (by omega) hN hN' hD hD').mono ?_); rintro e w1 ⟨rfl, B1⟩; have HB1 := Bx.mk B1; clear B1)
        go_ret
        exact ⟨ret_int HN.out, hB.out.trans (HB1.out.mono hB.out.size)⟩

end Go.Proofs.Ytfnmnnbmhfbkbaa
