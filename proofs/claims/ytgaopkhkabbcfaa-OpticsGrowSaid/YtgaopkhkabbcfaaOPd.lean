/- Chapter 2, plain: sags and slopes, and the law of sags. -/
import Derived.Test.YtgaopkhkabbcfaaOPc
import Derived.Test.YtgaopkhkabbcfaaOS
set_option linter.unusedVariables false
set_option linter.unusedSimpArgs false
namespace Go.Proofs.Ytgaopkhkabbcfaa.Vg
open Go Go.Proofs.Ytgaopkhkabbcfaa.Ev Go.Proofs.Ytgaopkhkabbcfaa.Vv
def absR (c : SConic) : Int := if c.Radius < 0 then -c.Radius else c.Radius
theorem RC.abs {c : SConic} (h : RC c) : 1 ≤ absR c ∧ absR c ≤ 10000000 := by
  have := h.r; have := h.r0; unfold absR; split <;> omega
theorem w_abs {c : SConic} (h : RC c) : maxI c.Radius (w64 (0 - c.Radius)) = absR c := by
  have := h.r
  unfold absR maxI
  rw [w64_id (by omega) (by omega)]
  split <;> split <;> omega
def negC (c : SConic) : SConic := ⟨-c.Radius, c.K⟩
theorem negC_rad (c : SConic) (r : Int) : rad (negC c) r = rad c r := by
  unfold rad radLo radHi lessC sC negC
  dsimp only
  rw [Int.neg_mul_neg]
theorem negC_pl (c : SConic) (r : Int) : plE (negC c) r = plE c r := by
  unfold plE beyB sC negC
  dsimp only
  rw [Int.neg_mul_neg]
theorem RC.neg {c : SConic} (h : RC c) : RC (negC c) := ⟨fun e => h.r0 (by have e : -c.Radius = 0 := e; omega), by have := h.r; exact ⟨show -10000000 ≤ -c.Radius by omega, show -c.Radius ≤ 10000000 by omega⟩, h.n, h.d⟩
theorem Pl.neg {c : SConic} {r : Int} (p : Pl c r) : Pl (negC c) r := ⟨p.rc.neg, p.rr, by have := p.bb; unfold sC negC at *; dsimp only at *; rw [Int.neg_mul_neg]; exact this⟩
theorem absR_neg {c : SConic} (h : c.Radius < 0) : (negC c).Radius = absR c := by unfold absR negC; rw [if_pos h]
theorem absR_pos {c : SConic} (h : ¬ c.Radius < 0) : c.Radius = absR c := by unfold absR; rw [if_neg h]
def opp (x : SRange) : SRange := ⟨-x.Hi, -x.Lo⟩
noncomputable def posSag (c : SConic) (r : Int) : SRange := ⟨100000 * (r * r) / (100 * absR c + (rad c r).Hi), -((-(100000 * (r * r))) / (100 * absR c + (rad c r).Lo))⟩
noncomputable def sagV (c : SConic) (r : Int) : SRange := if c.Radius < 0 then opp (posSag c r) else posSag c r
theorem w_over {r : Int} (hr : 0 ≤ r ∧ r ≤ 1000000) : w64 ((w64 (100000 * r)) * r) = 100000 * (r * r) ∧ 0 ≤ r * r ∧ r * r ≤ 1000000000000 := by
  have h2 := sq_bd (x := r) (B := 1000000) (by omega) hr.2
  refine ⟨?_, h2.1, by omega⟩
  rw [w64_id (n := 100000 * r) (by omega) (by omega), Int.mul_assoc, w64_id (by omega) (by omega)]
theorem ceil_bd {x d : Int} (h0 : 0 ≤ x) (hd : 0 < d) : 0 ≤ -((-x) / d) ∧ -((-x) / d) ≤ x := by
  have h1 : -x ≤ (-x) / d := by
    apply Int.le_ediv_of_mul_le hd
    have := Int.mul_le_mul_of_nonneg_left (show 1 ≤ d by omega) h0
    rw [Int.neg_mul]; omega
  have h2 : (-x) / d ≤ 0 := by
    have := Int.ediv_le_ediv hd (show -x ≤ 0 by omega)
    rwa [Int.zero_ediv] at this
  omega
theorem Pl.sagB {c : SConic} {r : Int} (p : Pl c r) : (0 ≤ (posSag c r).Lo ∧ (posSag c r).Lo ≤ 100000000000000000) ∧ (0 ≤ (posSag c r).Hi ∧ (posSag c r).Hi ≤ 100000000000000000) := by
  obtain ⟨a1, a2, a3, a4⟩ := p.radB
  have ha := p.rc.abs
  obtain ⟨_, h1, h2⟩ := w_over p.rr
  have e1 := div_le (n := 100000 * (r * r)) (d := 100 * absR c + (rad c r).Hi) (by omega) (by omega)
  have e2 := ceil_bd (x := 100000 * (r * r)) (d := 100 * absR c + (rad c r).Lo) (by omega) (by omega)
  unfold posSag
  refine ⟨⟨e1.1, by dsimp only; omega⟩, ⟨e2.1, by dsimp only; omega⟩⟩
theorem opp_opt (k : Nat) {x : SRange} (h1 : 0 ≤ x.Lo ∧ x.Lo ≤ 1000000000000000000) (h2 : 0 ≤ x.Hi ∧ x.Hi ≤ 1000000000000000000) : noptics_opposite k x = some (opp x) := by
  unfold noptics_opposite opp
  rw [w64_id (by omega) (by omega), w64_id (by omega) (by omega), show 0 - x.Hi = -x.Hi by omega, show 0 - x.Lo = -x.Lo by omega]
theorem opp_ref (k : Nat) {x : SRange} (h1 : 0 ≤ x.Lo ∧ x.Lo ≤ 1000000000000000000) (h2 : 0 ≤ x.Hi ∧ x.Hi ≤ 1000000000000000000) : nspeculumref02_Opposite k x = some (opp x) := opp_opt k h1 h2
theorem sag_opt (k : Nat) (hk : 100000000000000000000 ≤ k) {c : SConic} (hc : IC c) (r : Int) : noptics_Sag k c r = some (if conE c = 0 then (if plE c r = 0 then (sagV c r, 0) else (⟨0, 0⟩, plE c r)) else (⟨0, 0⟩, conE c)) := by
  unfold noptics_Sag
  rw [place_opt k hk hc, Option.bind_some]
  by_cases h : conE c = 0
  · rw [if_pos h, if_pos h]
    by_cases h2 : plE c r = 0
    · have p := Pl.of (RC.of h) h2
      obtain ⟨a1, a2, a3, a4⟩ := p.radB
      have ha := p.rc.abs
      obtain ⟨g0, g1, g2⟩ := w_over p.rr
      have hs := p.sagB
      rw [if_pos h2, if_pos h2, radicand_opt k hk p, Option.bind_some, g0, w_abs p.rc, w64_id (n := 100 * absR c) (by omega) (by omega), w64_id (n := 100 * absR c + (rad c r).Hi) (by omega) (by omega), w64_id (n := 100 * absR c + (rad c r).Lo) (by omega) (by omega), down_any k (by omega) (by omega) (by omega), Option.bind_some, up_any k (by omega) (by omega) (by omega), Option.bind_some]
      unfold sagV
      by_cases hn : c.Radius < 0
      · rw [if_pos hn, if_pos hn]
        show (noptics_opposite k (posSag c r)).bind _ = _
        rw [opp_opt k (x := posSag c r) ⟨hs.1.1, by omega⟩ ⟨hs.2.1, by omega⟩, Option.bind_some]
      · rw [if_neg hn, if_neg hn]; rfl
    · rw [if_neg h2, if_neg h2]
  · rw [if_neg h, if_neg h, if_neg h]
theorem sag_pos (k : Nat) (hk : 100000000000000000000 ≤ k) (g : Nat) {c : SConic} {r : Int} (p : Pl c r) (hp : plE c r = 0) (hn : ¬ c.Radius < 0) (self : SConic → Int → Option (SRange × Int)) : nspeculumref02_Sag_s self k c r = some (posSag c r, 0) := by
  obtain ⟨a1, a2, a3, a4⟩ := p.radB
  have ha := p.rc.abs
  obtain ⟨g0, g1, g2⟩ := w_over p.rr
  unfold nspeculumref02_Sag_s
  rw [place_ref k p.rc, Option.bind_some, if_pos hp, if_neg hn, roots_ref k hk p, Option.bind_some, g0, absR_pos hn, w64_id (n := 100 * absR c) (by omega) (by omega), w64_id (n := 100 * absR c + (rad c r).Hi) (by omega) (by omega), w64_id (n := 100 * absR c + (rad c r).Lo) (by omega) (by omega), floor_any k (by omega) (by omega) (by omega), Option.bind_some, ceil_any k (by omega) (by omega) (by omega), Option.bind_some]
  rfl
theorem sag_ref (k : Nat) (hk : 100000000000000000002 ≤ k) {c : SConic} (h : RC c) (r : Int) : nspeculumref02_Sag k c r = some (if plE c r = 0 then (sagV c r, 0) else (⟨0, 0⟩, plE c r)) := by
  obtain ⟨g, rfl⟩ : ∃ g, k = g + 2 := ⟨k - 2, by omega⟩
  rw [nspeculumref02_Sag.eq_2]
  by_cases h2 : plE c r = 0
  · have p := Pl.of h h2
    rw [if_pos h2]
    unfold sagV
    by_cases hn : c.Radius < 0
    · have hR := h.r
      have hs := p.sagB
      have e : posSag (negC c) r = posSag c r := by
        unfold posSag
        rw [negC_rad, show absR (negC c) = absR c by rw [← absR_neg hn]; exact (absR_pos (by show ¬ -c.Radius < 0; omega)).symm]
      rw [if_pos hn]
      unfold nspeculumref02_Sag_s
      rw [place_ref _ h, Option.bind_some, if_pos h2, if_pos hn, w64_id (n := 0 - c.Radius) (by omega) (by omega), show (⟨0 - c.Radius, c.K⟩ : SConic) = negC c from (by unfold negC; rw [show 0 - c.Radius = -c.Radius by omega]), nspeculumref02_Sag.eq_2, sag_pos g (by omega) g p.neg (by rw [negC_pl]; exact h2) (by show ¬ -c.Radius < 0; omega), Option.bind_some, e, opp_ref _ ⟨hs.1.1, by omega⟩ ⟨hs.2.1, by omega⟩, Option.bind_some]
    · rw [if_neg hn]
      exact sag_pos (g + 1) (by omega) g p h2 hn _
  · rw [if_neg h2]
    unfold nspeculumref02_Sag_s
    rw [place_ref _ h, Option.bind_some, if_neg h2]
theorem rtI_mono {a b : Int} (h0 : 0 ≤ a) (h1 : a ≤ b) (h2 : b ≤ 3000000000000000000) : rtI a ≤ rtI b := by
  obtain ⟨a1, a2, a3⟩ := rtI_is h0 (by omega)
  obtain ⟨b1, b2, b3⟩ := rtI_is (n := b) (by omega) h2
  have : rtI a < rtI b + 1 := sq_lt (by omega) (by omega)
  omega
theorem Pl.loHi {c : SConic} {r : Int} (p : Pl c r) : (rad c r).Lo ≤ (rad c r).Hi := by
  obtain ⟨h1, h2, h3, h4⟩ := p.rads
  have := rtI_mono h2.1 h4 h3.2
  have := upI_le h3.1 h3.2
  unfold Vg.rad
  dsimp only
  omega
noncomputable def posSlope (c : SConic) (r : Int) : SRange := ⟨100000000 * r / (rad c r).Hi, -((-(100000000 * r)) / (rad c r).Lo)⟩
noncomputable def slopeV (c : SConic) (r : Int) : SRange × Int := if (rad c r).Lo = 0 then (⟨0, 0⟩, 11) else if c.Radius < 0 then (opp (posSlope c r), 0) else (posSlope c r, 0)
theorem Pl.slopeB {c : SConic} {r : Int} (p : Pl c r) (h0 : (rad c r).Lo ≠ 0) : (0 ≤ (posSlope c r).Lo ∧ (posSlope c r).Lo ≤ 100000000000000) ∧ (0 ≤ (posSlope c r).Hi ∧ (posSlope c r).Hi ≤ 100000000000000) := by
  obtain ⟨a1, a2, a3, a4⟩ := p.radB
  have a5 := p.loHi
  have hr := p.rr
  have e1 := div_le (n := 100000000 * r) (d := (rad c r).Hi) (by omega) (by omega)
  have e2 := ceil_bd (x := 100000000 * r) (d := (rad c r).Lo) (by omega) (by omega)
  unfold posSlope
  refine ⟨⟨e1.1, by dsimp only; omega⟩, ⟨e2.1, by dsimp only; omega⟩⟩
theorem slope_opt (k : Nat) (hk : 100000000000000000000 ≤ k) {c : SConic} (hc : IC c) (r : Int) : noptics_Slope k c r = some (if conE c = 0 then (if plE c r = 0 then slopeV c r else (⟨0, 0⟩, plE c r)) else (⟨0, 0⟩, conE c)) := by
  unfold noptics_Slope
  rw [place_opt k hk hc, Option.bind_some]
  by_cases h : conE c = 0
  · rw [if_pos h, if_pos h]
    by_cases h2 : plE c r = 0
    · have p := Pl.of (RC.of h) h2
      obtain ⟨a1, a2, a3, a4⟩ := p.radB
      have a5 := p.loHi
      have hr := p.rr
      rw [if_pos h2, if_pos h2, radicand_opt k hk p, Option.bind_some]
      unfold slopeV
      by_cases h0 : (rad c r).Lo = 0
      · rw [if_pos h0, if_pos h0]
      · have hs := p.slopeB h0
        rw [if_neg h0, if_neg h0, w64_id (n := 100000000 * r) (by omega) (by omega), down_any k (by omega) (by omega) (by omega), Option.bind_some, up_any k (by omega) (by omega) (by omega), Option.bind_some]
        by_cases hn : c.Radius < 0
        · rw [if_pos hn, if_pos hn]
          show (noptics_opposite k (posSlope c r)).bind _ = _
          rw [opp_opt k (x := posSlope c r) ⟨hs.1.1, by omega⟩ ⟨hs.2.1, by omega⟩, Option.bind_some]
        · rw [if_neg hn, if_neg hn]; rfl
    · rw [if_neg h2, if_neg h2]
  · rw [if_neg h, if_neg h, if_neg h]
theorem slope_pos (k : Nat) (hk : 100000000000000000000 ≤ k) {c : SConic} {r : Int} (p : Pl c r) (hp : plE c r = 0) (hn : ¬ c.Radius < 0) (self : SConic → Int → Option (SRange × Int)) : nspeculumref02_Slope_s self k c r = some (if (rad c r).Lo = 0 then (⟨0, 0⟩, 11) else (posSlope c r, 0)) := by
  obtain ⟨a1, a2, a3, a4⟩ := p.radB
  have a5 := p.loHi
  have hr := p.rr
  unfold nspeculumref02_Slope_s
  rw [place_ref k p.rc, Option.bind_some, if_pos hp, if_neg hn, roots_ref k hk p, Option.bind_some]
  by_cases h0 : (rad c r).Lo = 0
  · rw [if_pos h0, if_pos h0]
  · rw [if_neg h0, if_neg h0, w64_id (n := 100000000 * r) (by omega) (by omega), floor_any k (by omega) (by omega) (by omega), Option.bind_some, ceil_any k (by omega) (by omega) (by omega), Option.bind_some]
    rfl
theorem slope_ref (k : Nat) (hk : 100000000000000000002 ≤ k) {c : SConic} (h : RC c) (r : Int) : nspeculumref02_Slope k c r = some (if plE c r = 0 then slopeV c r else (⟨0, 0⟩, plE c r)) := by
  obtain ⟨g, rfl⟩ : ∃ g, k = g + 2 := ⟨k - 2, by omega⟩
  rw [nspeculumref02_Slope.eq_2]
  by_cases h2 : plE c r = 0
  · have p := Pl.of h h2
    rw [if_pos h2]
    unfold slopeV
    by_cases hn : c.Radius < 0
    · have hR := h.r
      have e : posSlope (negC c) r = posSlope c r := by unfold posSlope; rw [negC_rad]
      unfold nspeculumref02_Slope_s
      rw [place_ref _ h, Option.bind_some, if_pos h2, if_pos hn, w64_id (n := 0 - c.Radius) (by omega) (by omega), show (⟨0 - c.Radius, c.K⟩ : SConic) = negC c from (by unfold negC; rw [show 0 - c.Radius = -c.Radius by omega]), nspeculumref02_Slope.eq_2, slope_pos g (by omega) p.neg (by rw [negC_pl]; exact h2) (by show ¬ -c.Radius < 0; omega), Option.bind_some, e, negC_rad]
      by_cases h0 : (rad c r).Lo = 0
      · rw [if_pos h0, if_pos h0]; rfl
      · have hs := p.slopeB h0
        rw [if_neg h0, if_neg h0, if_pos hn, opp_ref _ ⟨hs.1.1, by omega⟩ ⟨hs.2.1, by omega⟩, Option.bind_some]
    · rw [if_neg hn]
      exact slope_pos (g + 1) (by omega) p h2 hn _
  · rw [if_neg h2]
    unfold nspeculumref02_Slope_s
    rw [place_ref _ h, Option.bind_some, if_neg h2]
abbrev big2 : Nat := 100000000000000000002
set_option maxRecDepth 100000 in
theorem awake_big2 : nspeculumlaw02_awake big2 = some true := by kernel_rfl
theorem law_sags (c : SConic) (hc : IC c) (r : Int) : nspeculumlaw02_OpticsSags big2 c r = some true := by
  unfold nspeculumlaw02_OpticsSags
  rw [awake_big2, Option.bind_some, if_pos rfl, sag_opt _ (by decide) hc, Option.bind_some, slope_opt _ (by decide) hc, Option.bind_some, conic_ref _ (by decide) hc, Option.bind_some]
  by_cases h : conE c = 0
  · rw [if_pos h, if_pos h, if_pos h, sag_ref _ (by decide) (RC.of h), Option.bind_some, slope_ref _ (by decide) (RC.of h), Option.bind_some]
    rw [if_pos rfl, if_pos (by simp), if_pos rfl]
    simp
  · rw [if_neg h, if_neg h, if_neg h]
    dsimp only
    rw [if_pos rfl, if_pos rfl]
    simp
theorem vc_sags (c : SConic) (r : Int) (hc : ((Vv.In64 c.Radius) ∧ ((Vv.In64 c.K.Num) ∧ (Vv.In64 c.K.Den)))) : VC Go.Proofs.Try.prog 4 [VV.ag (c_SConic c), vi r] (vb true) := nspeculumlaw02_OpticsSags_ok _ _ _ _ (law_sags c ⟨hc.1, hc.2.1, hc.2.2⟩ r)
end Go.Proofs.Ytgaopkhkabbcfaa.Vg
