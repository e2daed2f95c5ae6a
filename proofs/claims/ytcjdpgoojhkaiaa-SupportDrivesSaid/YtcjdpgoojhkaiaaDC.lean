/- SupportDrives, plain. -/
import Derived.Test.YtcjdpgoojhkaiaaDB
set_option linter.unusedVariables false
set_option linter.unusedSimpArgs false
namespace Go.Proofs.Ytcjdpgoojhkaiaa.Vg
open Go Go.Proofs.Ytcjdpgoojhkaiaa.Ev Go.Proofs.Ytcjdpgoojhkaiaa.Vv
theorem sub_both (k : Nat) (hk : 18446744073709551617 ≤ k) (f g : SFrac) (hf : Ok f) (hg : Ok g) : nnumber_Sub k f g = some (lowS (f.Num * g.Den - g.Num * f.Den) (f.Den * g.Den)) ∧ nspeculumref01_Sub k f g = some (lowS (f.Num * g.Den - g.Num * f.Den) (f.Den * g.Den)) := by
  have f1 := hf.den
  have f2 := hf.denB
  have g1 := hg.den
  have g2 := hg.denB
  have b1 := mul_bd9 (a := f.Num) (b := g.Den) hf.num (by omega)
  have b4 := mul_bd9 (a := g.Num) (b := f.Den) hg.num (by omega)
  have b2 := mul_bd9 (a := f.Den) (b := g.Den) (by omega) (by omega)
  have b3 : 0 < f.Den * g.Den := Int.mul_pos (by omega) (by omega)
  unfold nnumber_Sub nspeculumref01_Sub
  rw [checkFracs_one k hk f g hf hg, Option.bind_some, if_pos rfl, w64_id (n := f.Num * g.Den) (by omega) (by omega), w64_id (n := g.Num * f.Den) (by omega) (by omega), w64_id (n := f.Den * g.Den) (by omega) (by omega), w64_id (n := f.Num * g.Den - g.Num * f.Den) (by omega) (by omega), low_num k hk _ _ (by omega) (by omega) (by omega), made_any k hk _ _ (by omega) (by omega) (by omega)]
  exact ⟨rfl, rfl⟩
theorem sky_ok : Ok ⟨324000000, 21541⟩ := ⟨by decide, by decide, by decide, by decide⟩
theorem round_both (k : Nat) {a b : Int} (ha : a.natAbs ≤ 1000000000000000) (hb : 1 ≤ b) : ∃ lo hi, nsupport_rounded k a b = some ⟨lo, hi⟩ ∧ nspeculumbase_Floor k a b = some lo ∧ nspeculumbase_Ceil k a b = some hi := by
  have h := tdiv_le a b
  unfold nsupport_rounded nspeculumbase_Ceil nspeculumbase_Floor
  rw [if_pos (show b ≠ 0 by omega), if_pos (show b ≠ 0 by omega), if_pos (show b ≠ 0 by omega), w64_id (n := 0 - a) (by omega) (by omega), show (0 : Int) - a = -a by omega, Int.neg_tmod, Int.neg_tdiv, w64_id (n := a.tdiv b) (by omega) (by omega), w64_id (n := -(a.tdiv b)) (by omega) (by omega)]
  by_cases c1 : a.tmod b < 0
  · rw [if_pos c1, if_pos c1, if_neg (by omega), Option.bind_some, w64_id (by omega) (by omega), w64_id (by omega) (by omega)]
    exact ⟨_, _, rfl, rfl, by congr 1; omega⟩
  · rw [if_neg c1, if_neg c1]
    by_cases c2 : 0 < a.tmod b
    · rw [if_pos c2, if_pos (by omega), Option.bind_some, w64_id (by omega) (by omega), w64_id (n := -(a.tdiv b) - 1) (by omega) (by omega), w64_id (by omega) (by omega)]
      exact ⟨_, _, rfl, rfl, by congr 1; omega⟩
    · rw [if_neg c2, if_neg (by omega), Option.bind_some, w64_id (by omega) (by omega)]
      exact ⟨_, _, rfl, rfl, by congr 1; omega⟩
theorem drift_both (k : Nat) (hk : 18446744073709551617 ≤ k) (l : List SGearPair) (h : trE l = 0) (dr : A23) (t : Int) : ∃ r e, nsupport_Drift k l dr t = some (r, e) ∧ nspeculumref07_Drift k l dr t = some (r, e) := by
  obtain ⟨f, e, r1, r2, r3, _⟩ := rate_both k hk l h dr.e0 dr.e1
  unfold nsupport_Drift nspeculumref07_Drift
  rw [r1, r2, Option.bind_some, Option.bind_some]
  dsimp only
  by_cases h0 : e = 0
  · rw [if_pos h0, if_pos h0, within_time k (by omega), within_b, Option.bind_some, Option.bind_some]
    by_cases c : 0 ≤ t ∧ t ≤ 1000000
    · obtain ⟨s1, s2⟩ := sub_both k hk f ⟨324000000, 21541⟩ (r3 h0) sky_ok
      rw [decide_eq_true c, if_pos rfl, if_pos rfl, show nsupport_sky k = some ⟨324000000, 21541⟩ from rfl, Option.bind_some, s1, s2, Option.bind_some, Option.bind_some]
      generalize hs : lowS _ _ = d
      by_cases z : d.2 = 0
      · rw [if_pos z, if_pos z]
        have ok : Ok d.1 := by rw [← hs] at z ⊢; exact (lowS_ok z).1
        have o1 := ok.num
        have o2 := ok.den
        have o3 := ok.denB
        have b1 : (d.1.Num * t).natAbs ≤ 1000000000000000 := by
          rw [Int.natAbs_mul]; have := Nat.mul_le_mul (n₁ := d.1.Num.natAbs) (m₁ := t.natAbs) (n₂ := 1000000000) (m₂ := 1000000) o1 (by omega); omega
        obtain ⟨lo, hi, t1, t2, t3⟩ := round_both k (a := d.1.Num * t) (b := d.1.Den * 1000) b1 (by omega)
        rw [w64_id (n := d.1.Num * t) (by omega) (by omega), w64_id (n := d.1.Den * 1000) (by omega) (by omega), t1, t2, t3]
        exact ⟨_, _, rfl, rfl⟩
      · rw [if_neg z, if_neg z]
        have : d.2 = 8 := by
          rcases lowS_err (f.Num * (⟨324000000, 21541⟩ : SFrac).Den - (⟨324000000, 21541⟩ : SFrac).Num * f.Den) (f.Den * (⟨324000000, 21541⟩ : SFrac).Den) with x | x
          · rw [hs] at x; exact absurd x z
          · rw [hs] at x; exact x
        rw [this]; exact ⟨_, _, rfl, rfl⟩
    · rw [decide_eq_false c, if_neg (by simp), if_neg (by simp)]; exact ⟨_, _, rfl, rfl⟩
  · rw [if_neg h0, if_neg h0]; exact ⟨_, _, rfl, rfl⟩
theorem law_drives (k : Nat) (hk : 18446744073709551617 ≤ k) (l : List SGearPair) (dr : A23) (t : Int) : nspeculumlaw07_SupportDrives k l dr t = some true := by
  unfold nspeculumlaw07_SupportDrives
  rw [show nawake k = some true from rfl, Option.bind_some, if_pos rfl]
  have main : l.length ≤ 15 → nspeculumlaw07_short k l = some true → nspeculumlaw07_SupportDrives k l dr t = some true := by
    intro hl hs
    unfold nspeculumlaw07_SupportDrives
    have ht : nspeculumlaw07_train k l = some l := by unfold nspeculumlaw07_train; rw [if_pos (by simp; omega)]; rfl
    obtain ⟨c1, c2⟩ := train_any k (by omega) l hl
    rw [show nawake k = some true from rfl, Option.bind_some, if_pos rfl, hs, Option.bind_some, if_pos rfl, ht, Option.bind_some, c2]
    by_cases h0 : trE l = 0
    · obtain ⟨f, e, r1, r2, _⟩ := rate_both k hk l h0 dr.e0 dr.e1
      obtain ⟨r, e', d1, d2⟩ := drift_both k hk l h0 dr t
      rw [r1, d1, r2, d2]
      simp [h0]
    · have r1 := ratio_bad k hk l hl h0
      have e1 : nsupport_Rate k l dr.e0 dr.e1 = some (⟨0, 0⟩, trE l) := by
        unfold nsupport_Rate
        rw [r1, Option.bind_some, if_neg h0]
      have e2 : nsupport_Drift k l dr t = some (⟨0, 0⟩, trE l) := by
        unfold nsupport_Drift
        rw [e1, Option.bind_some, if_neg h0]
      rw [e1, e2]
      simp [h0]
  by_cases c1 : (l.length : Int) ≤ 5
  · have hs : nspeculumlaw07_short k l = some true := by unfold nspeculumlaw07_short; rw [if_pos c1]
    have := main (by omega) hs
    unfold nspeculumlaw07_SupportDrives at this
    rw [show nawake k = some true from rfl, Option.bind_some, if_pos rfl] at this
    exact this
  · by_cases c2 : (12 : Int) < (l.length : Int)
    · by_cases c3 : (l.length : Int) ≤ 15
      · have hs : nspeculumlaw07_short k l = some true := by unfold nspeculumlaw07_short; rw [if_neg c1, if_pos c2, decide_eq_true c3]
        have := main (by omega) hs
        unfold nspeculumlaw07_SupportDrives at this
        rw [show nawake k = some true from rfl, Option.bind_some, if_pos rfl] at this
        exact this
      · have hs : nspeculumlaw07_short k l = some false := by unfold nspeculumlaw07_short; rw [if_neg c1, if_pos c2, decide_eq_false c3]
        rw [hs]; rfl
    · have hs : nspeculumlaw07_short k l = some false := by unfold nspeculumlaw07_short; rw [if_neg c1, if_neg c2]
      rw [hs]; rfl
theorem vc_drives (l : List SGearPair) (dr : A23) (t : Int) : VC Go.Proofs.Try.prog 3 [VV.tr (l.flatMap c_SGearPair) l.length, VV.ag (c_A23 dr), vi t] (vb true) := nspeculumlaw07_SupportDrives_ok _ _ _ _ _ (law_drives 100000000000000000000 (by decide) l dr t)
end Go.Proofs.Ytcjdpgoojhkaiaa.Vg
