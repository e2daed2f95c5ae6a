/- Law of thickness: it lies in its range. -/
import Derived.Test.YtpnlkhmnhjcgkaaO3
import Derived.Test.YtpnlkhmnhjcgkaaYa
set_option linter.unusedVariables false
set_option linter.unusedSimpArgs false
namespace Go.Proofs.Ytpnlkhmnhjcgkaa.Vg
open Go Go.Proofs.Ytpnlkhmnhjcgkaa.Ev Go.Proofs.Ytpnlkhmnhjcgkaa.Vv
theorem mod_any (k : Nat) (a : Int) {b : Int} (hb : 0 < b) (hb2 : b ≤ 1000000000) : ∃ r, nspeculumbase_Mod k a b = some r ∧ 0 ≤ r ∧ r < b := by
  unfold nspeculumbase_Mod
  have h1 := Int.tmod_lt_of_pos a hb
  have h2 : -b < a.tmod b := by
    rcases Int.le_total 0 a with h | h
    · have := Int.tmod_nonneg b h; omega
    · have := Int.tmod_lt_of_pos (-a) hb
      rw [Int.neg_tmod] at this; omega
  rw [if_pos (by omega)]
  by_cases c : a.tmod b < 0
  · rw [if_pos c, w64_id (by omega) (by omega)]; exact ⟨_, rfl, by omega, by omega⟩
  · rw [if_neg c]; exact ⟨_, rfl, by omega, by omega⟩
theorem fm_first {l : List SMaterial} (h : 0 < l.length) : fmI l (gm l 0).Name = 0 := by
  obtain ⟨d, hd⟩ : ∃ d, l.length = d + 1 := ⟨l.length - 1, by omega⟩
  unfold fmI
  rw [hd, fmL_succ, if_pos rfl]; rfl
/-- one layer of the first material. -/
theorem thick_any (k : Nat) (hk : 100 < k) (hk2 : k ≤ 100000000) {l : List SMaterial} (c0 : maE l = 0) (h : 0 < l.length) {c : Int} (hc : 1 ≤ c ∧ c ≤ 100000) :
    ncoat_Thickness k l ⟨(gm l 0).Name, c⟩ = some (⟨c * (gm l 0).PerCount.Lo, (c + 1) * (gm l 0).PerCount.Hi⟩, 0) := by
  obtain ⟨g1, g2⟩ := maE_zero c0
  have hp := g2 0 h
  obtain ⟨g, hg⟩ : ∃ g, k = g + 2 := ⟨k - 2, by omega⟩
  have hfind : ncoat_find k l (gm l 0).Name = some 0 := by rw [find_coat k l (by omega) hk2, fm_first h]
  have m1 := mb (a := c) (A := 100000) (b := (gm l 0).PerCount.Lo) (B := 1000000) (by omega) hc.2 (by omega) (by omega)
  have m2 := mb (a := c + 1) (A := 100001) (b := (gm l 0).PerCount.Hi) (B := 1000000) (by omega) (by omega) (by omega) hp.2.2
  have hrec : ncoat_CheckRecipe k l [⟨(gm l 0).Name, c⟩] = some 0 := by
    unfold ncoat_CheckRecipe
    rw [materials_coat k hk hk2, Option.bind_some, if_pos c0, if_neg (by simp)]
    have : ncoat_CheckRecipe_l0_0 k l [⟨(gm l 0).Name, c⟩] k 0 = some (.inr ()) := by
      conv => lhs; arg 4; rw [hg]
      rw [ncoat_CheckRecipe_l0_0.eq_2, if_pos (by simp), if_pos (by simp), show (([⟨(gm l 0).Name, c⟩] : List SCoatLayer).getD (0 : Int).toNat default) = ⟨(gm l 0).Name, c⟩ from rfl, hfind, Option.bind_some, if_neg (by decide), areWithin_1 k _ _ _ (by omega) (by omega), Option.bind_some, if_pos (inR_t.2 hc), show w64 (0 + 1) = 1 from by decide, ncoat_CheckRecipe_l0_0.eq_2, if_neg (by simp)]
    rw [this]; rfl
  have htot : ncoat_Total k l [⟨(gm l 0).Name, c⟩] = some (⟨c * (gm l 0).PerCount.Lo, (c + 1) * (gm l 0).PerCount.Hi⟩, 0) := by
    unfold ncoat_Total
    rw [hrec, Option.bind_some, if_pos rfl]
    have : ncoat_Total_l0_0 k l [⟨(gm l 0).Name, c⟩] k 0 0 0 = some (c * (gm l 0).PerCount.Lo, (c + 1) * (gm l 0).PerCount.Hi) := by
      conv => lhs; arg 4; rw [hg]
      rw [ncoat_Total_l0_0.eq_2, if_pos (by simp), if_pos (by simp), show (([⟨(gm l 0).Name, c⟩] : List SCoatLayer).getD (0 : Int).toNat default) = ⟨(gm l 0).Name, c⟩ from rfl, hfind, Option.bind_some, if_pos (by omega), show w64 (0 + 1) = 1 from by decide, ncoat_Total_l0_0.eq_2, if_neg (by simp)]
      rw [show (l.getD (0 : Int).toNat default) = gm l 0 from rfl]
      rw [w64_id (n := c + 1) (by omega) (by omega), w64_id (n := c * (gm l 0).PerCount.Lo) (by omega) (by omega), w64_id (n := (c + 1) * (gm l 0).PerCount.Hi) (by omega) (by omega), Int.zero_add, Int.zero_add, w64_id (n := c * (gm l 0).PerCount.Lo) (by omega) (by omega), w64_id (n := (c + 1) * (gm l 0).PerCount.Hi) (by omega) (by omega)]
    rw [this]; rfl
  unfold ncoat_Thickness
  rw [show ncoat_Total k l _ = _ from htot]; rfl
theorem cdiv_ge {n d c : Int} (hd : 0 < d) (h : cdiv n d ≤ c) : n ≤ c * d := by
  rw [cdiv_eq hd] at h
  have h0 := Int.emod_add_mul_ediv n d
  have h1 := Int.emod_nonneg n (show d ≠ 0 by omega)
  have h2 := Int.emod_lt_of_pos n hd
  by_cases e : n % d = 0
  · rw [if_pos e] at h
    have := Int.mul_le_mul_of_nonneg_right h (show 0 ≤ d by omega)
    rw [Int.mul_comm (n / d) d] at this; omega
  · rw [if_neg e] at h
    have := Int.mul_le_mul_of_nonneg_right h (show 0 ≤ d by omega)
    rw [Int.add_mul, Int.mul_comm (n / d) d] at this; omega
theorem div_le_of {n d c : Int} (hd : 0 < d) (h : c ≤ n / d) : c * d ≤ n := by
  have h0 := Int.emod_add_mul_ediv n d
  have h1 := Int.emod_nonneg n (show d ≠ 0 by omega)
  have := Int.mul_le_mul_of_nonneg_right h (show 0 ≤ d by omega)
  rw [Int.mul_comm (n / d) d] at this; omega
theorem maxI_cases (a b : Int) : (maxI a b = a ∧ b ≤ a) ∨ (maxI a b = b ∧ a ≤ b) := by unfold maxI; split <;> omega
theorem minI_cases (a b : Int) : (minI a b = a ∧ a ≤ b) ∨ (minI a b = b ∧ b ≤ a) := by unfold minI; split <;> omega
theorem law_within (k : Nat) (hk : 100 < k) (hk2 : k ≤ 100000000) (l : List SMaterial) (w : SRange) (x : STrue) (h1 : In w.Lo) (h2 : In w.Hi) : nspeculumlaw08_CoatWithin k l w x = some true := by
  unfold nspeculumlaw08_CoatWithin
  obtain ⟨b, hb, hlen⟩ := short_any k hk l
  rw [show nawake k = some true from rfl, Option.bind_some, if_pos rfl, hb, Option.bind_some]
  cases b with
  | false => rfl
  | true =>
    have hlen := hlen rfl
    rw [if_pos rfl, materials_ref k hk hk2, Option.bind_some]
    by_cases c0 : maE l = 0
    case neg => rw [if_neg c0]
    rw [if_pos c0]
    by_cases c1 : (l.length : Int) = 0
    · rw [if_pos c1]
    rw [if_neg c1, show nspeculumref01_CheckRange k _ = _ from range_ref k (by omega) w, Option.bind_some]
    by_cases c2 : rgE w = 0
    case neg => rw [if_neg c2]
    rw [if_pos c2]
    by_cases c3 : w.Lo < 0
    · rw [if_pos c3]
    have hw := rgE_zero c2
    obtain ⟨g1, g2⟩ := maE_zero c0
    have hp := g2 0 (by omega)
    have hcv : ncoat_CountsFor k l (gm l 0).Name w = some (coV (gm l 0).PerCount w) := by
      rw [counts_coat k hk hk2 l (gm l 0).Name (w := w) h1 h2, if_pos c0]
      unfold coR
      rw [fm_first (by omega), if_neg (by decide), if_pos c2, if_neg c3]; rfl
    rw [if_neg c3, if_pos (by omega), own_any k (by omega), Option.bind_some]
    rw [show (l.getD (0 : Int).toNat default) = gm l 0 from rfl]
    rw [show ncoat_CountsFor k l _ _ = _ from hcv, Option.bind_some]
    unfold coV
    by_cases c4 : minI (w.Hi / (gm l 0).PerCount.Hi - 1) 100000 < maxI 1 (cdiv w.Lo (gm l 0).PerCount.Lo)
    · simp only [if_pos c4]; rfl
    · simp only [if_neg c4]
      generalize ha : maxI 1 (cdiv w.Lo (gm l 0).PerCount.Lo) = a at c4 ⊢
      generalize hz : minI (w.Hi / (gm l 0).PerCount.Hi - 1) 100000 = z at c4 ⊢
      have ha1 := maxI_cases 1 (cdiv w.Lo (gm l 0).PerCount.Lo)
      have hz1 := minI_cases (w.Hi / (gm l 0).PerCount.Hi - 1) 100000
      rw [ha] at ha1; rw [hz] at hz1
      rw [if_pos trivial, within_base, Option.bind_some, if_pos (inR_t.2 (by omega)), if_neg (by omega), w64_id (n := z - a) (by omega) (by omega), w64_id (n := z - a + 1) (by omega) (by omega)]
      obtain ⟨r, hr, r0, r1⟩ := mod_any k x.Late (b := z - a + 1) (by omega) (by omega)
      rw [hr, Option.bind_some, w64_id (n := a + r) (by omega) (by omega), thick_any k hk hk2 c0 (by omega) (c := a + r) (by omega), Option.bind_some, w64_id (n := (gm l 0).PerCount.Hi - (gm l 0).PerCount.Lo) (by omega) (by omega), w64_id (n := (gm l 0).PerCount.Hi - (gm l 0).PerCount.Lo + 1) (by omega) (by omega)]
      obtain ⟨s, hs, s0, s1⟩ := mod_any k x.Worth (b := (gm l 0).PerCount.Hi - (gm l 0).PerCount.Lo + 1) (by omega) (by omega)
      rw [hs, Option.bind_some, w64_id (n := (gm l 0).PerCount.Lo + s) (by omega) (by omega)]
      obtain ⟨t, ht, t0, t1⟩ := mod_any k x.Late (b := (gm l 0).PerCount.Lo + s) (by omega) (by omega)
      have m1 := mb (a := a + r) (A := 100000) (b := (gm l 0).PerCount.Lo + s) (B := 1000000) (by omega) (by omega) (by omega) (by omega)
      rw [ht, Option.bind_some, if_pos rfl, w64_id (n := (a + r) * ((gm l 0).PerCount.Lo + s)) (by omega) (by omega), w64_id (n := (a + r) * ((gm l 0).PerCount.Lo + s) + t) (by omega) (by omega)]
      dsimp only
      have q1 : (a + r) * (gm l 0).PerCount.Lo ≤ (a + r) * ((gm l 0).PerCount.Lo + s) := Int.mul_le_mul_of_nonneg_left (by omega) (by omega)
      have q2 : (a + r + 1) * ((gm l 0).PerCount.Lo + s) ≤ (a + r + 1) * (gm l 0).PerCount.Hi := Int.mul_le_mul_of_nonneg_left (by omega) (by omega)
      have q3 : (a + r + 1) * ((gm l 0).PerCount.Lo + s) = (a + r) * ((gm l 0).PerCount.Lo + s) + ((gm l 0).PerCount.Lo + s) := by rw [Int.add_mul (a + r) 1, Int.one_mul]
      have q4 : w.Lo ≤ (a + r) * (gm l 0).PerCount.Lo := cdiv_ge (by omega) (by omega)
      have q5 : (a + r + 1) * (gm l 0).PerCount.Hi ≤ w.Hi := div_le_of (by omega) (by omega)
      rw [within_base, Option.bind_some, if_pos (inR_t.2 (by omega)), within_base, Option.bind_some, show inR w.Lo w.Hi _ = true from inR_t.2 (by omega)]
theorem vc_within (l : List SMaterial) (w : SRange) (x : STrue) (h1 : In64 w.Lo) (h2 : In64 w.Hi) : VC Go.Proofs.Try.prog 5 [VV.tr (l.flatMap c_SMaterial) l.length, VV.ag [vi w.Lo, vi w.Hi], VV.ag [vi x.Worth, vi x.Late]] (vb true) :=
  nspeculumlaw08_CoatWithin_ok 10000 l w x true (law_within 10000 (by decide) (by decide) l w x (by unfold In; unfold In64 at h1; omega) (by unfold In; unfold In64 at h2; omega))
end Go.Proofs.Ytpnlkhmnhjcgkaa.Vg
