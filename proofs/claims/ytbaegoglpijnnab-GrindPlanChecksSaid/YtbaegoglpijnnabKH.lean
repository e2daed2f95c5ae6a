/- GrindPlanChecks, plain. -/
import Derived.Test.YtbaegoglpijnnabP1
import Derived.Test.YtbaegoglpijnnabKG
set_option linter.unusedVariables false
set_option linter.unusedSimpArgs false
namespace Go.Proofs.Ytbaegoglpijnnab.Vg
open Go Go.Proofs.Ytbaegoglpijnnab.Ev Go.Proofs.Ytbaegoglpijnnab.Vv
theorem div_one {n b : Int} (hb : 1 ≤ b) : ∃ q r, n = b * q + r ∧ 0 ≤ r ∧ r < b ∧ n / b = q ∧ n % b = r := ⟨n / b, n % b, (Int.mul_ediv_add_emod n b).symm, Int.emod_nonneg _ (by omega), Int.emod_lt_of_pos _ (by omega), rfl, rfl⟩
theorem ceil_eq {n b : Int} (hb : 1 ≤ b) : (n + b - 1) / b = if n % b = 0 then n / b else n / b + 1 := by
  obtain ⟨q, r, h1, h2, h3, h4, h5⟩ := div_one (n := n) hb
  rw [h4, h5]
  by_cases h : r = 0
  · rw [if_pos h]
    rw [show n + b - 1 = (b - 1) + b * q by omega, Int.add_mul_ediv_left _ _ (by omega), Int.ediv_eq_zero_of_lt (by omega) (by omega)]; omega
  · rw [if_neg h]
    rw [show n + b - 1 = (r - 1) + b * (q + 1) by rw [Int.mul_add]; omega, Int.add_mul_ediv_left _ _ (by omega), Int.ediv_eq_zero_of_lt (by omega) (by omega)]; omega
theorem div_bd {n b : Int} (hb : 1 ≤ b) (hn : 0 ≤ n) : 0 ≤ n / b ∧ n / b ≤ n := ⟨Int.ediv_nonneg hn (by omega), Int.ediv_le_self _ hn⟩
theorem up_p (k : Nat) {n b : Int} (hn : 0 ≤ n ∧ n ≤ 1000000000000000) (hb : 1 ≤ b ∧ b ≤ 10000000) : ngrind_up k n b = some ((n + b - 1) / b) := by
  unfold ngrind_up
  have h := div_bd (n := n + b - 1) hb.1 (by omega)
  rw [if_pos (by omega), w64_id (n := n + b) (by omega) (by omega), w64_id (n := n + b - 1) (by omega) (by omega), Int.tdiv_eq_ediv_of_nonneg (by omega), w64_id (by omega) (by omega)]
theorem floor_r (k : Nat) {n b : Int} (hn : 0 ≤ n ∧ n ≤ 1000000000000000) (hb : 1 ≤ b ∧ b ≤ 10000000) : nspeculumbase_Floor k n b = some (n / b) := by
  unfold nspeculumbase_Floor
  have h := div_bd (n := n) hb.1 hn.1
  have h2 := Int.emod_nonneg n (show b ≠ 0 by omega)
  rw [if_pos (by omega), Int.tmod_eq_emod_of_nonneg hn.1, if_neg (by omega), Int.tdiv_eq_ediv_of_nonneg hn.1, w64_id (by omega) (by omega)]
theorem ceil_r (k : Nat) {n b : Int} (hn : 0 ≤ n ∧ n ≤ 1000000000000000) (hb : 1 ≤ b ∧ b ≤ 10000000) : nspeculumbase_Ceil k n b = some ((n + b - 1) / b) := by
  unfold nspeculumbase_Ceil nspeculumbase_Floor
  have h := div_bd (n := n) hb.1 hn.1
  have h2 := Int.emod_nonneg n (show b ≠ 0 by omega)
  have h3 := Int.emod_lt_of_pos n (show 0 < b by omega)
  rw [w64_id (n := 0 - n) (by omega) (by omega), show (0 : Int) - n = -n by omega, Int.neg_tmod, Int.neg_tdiv, Int.tdiv_eq_ediv_of_nonneg hn.1, Int.tmod_eq_emod_of_nonneg hn.1, if_pos (by omega), ceil_eq hb.1]
  by_cases c : n % b = 0
  · rw [if_neg (by omega), if_pos c, w64_id (by omega) (by omega), Option.bind_some, w64_id (by omega) (by omega)]; congr 1; omega
  · rw [if_pos (by omega), if_neg c, w64_id (n := -(n / b)) (by omega) (by omega), w64_id (n := -(n / b) - 1) (by omega) (by omega), Option.bind_some, w64_id (by omega) (by omega)]; congr 1; omega
theorem getD_mem {l : List Int} {i : Nat} (h : i < l.length) : l.getD i 0 ∈ l := by
  rw [List.getD_eq_getElem?_getD, List.getElem?_eq_getElem h]; exact List.getElem_mem h
theorem ws_bd (l : List SStroke) (hl : strE l = 0) (p : SGrindPlan) (hp : GoodP l p) (z : Nat) (hz : z < zones l) : ∀ (n i : Nat) (s : Int), l.length = i + n → 0 ≤ s → s ≤ (i : Int) * 100000000000 → 0 ≤ wsL l p.Minutes z n i s ∧ wsL l p.Minutes z n i s ≤ (l.length : Int) * 100000000000 := by
  obtain ⟨_, h12, hg⟩ := strE_zero hl
  intro n
  induction n with
  | zero => intro i s h h1 h2; simp only [wsL]; omega
  | succ n ih =>
    intro i s h h1 h2
    have hgi := (hg i (by omega)).1
    have hm := hp.mins i (by rw [hp.len]; omega)
    have hw : 0 ≤ (l.getD i default).Wear.getD z 0 ∧ (l.getD i default).Wear.getD z 0 ≤ 100 := by
      have hlen := hgi.len
      unfold zones at hz
      have hzl : z < (l.getD i default).Wear.length := by omega
      exact hgi.wear _ (getD_mem hzl)
    have p1 := Int.mul_nonneg hm.1 hw.1
    have p2 := Int.mul_le_mul hm.2 hw.2 hw.1 (by omega)
    simp only [wsL]
    generalize p.Minutes.getD i 0 * (l.getD i default).Wear.getD z 0 = t at *
    rw [w64_id (n := t) (by omega) (by omega), w64_id (by omega) (by omega)]
    exact ih (i + 1) _ (by omega) (by omega) (by omega)
def rangeZ (l : List SStroke) (p : SGrindPlan) (z : Nat) : SRange := ⟨wearZ l p z / p.Den, (wearZ l p z + p.Den - 1) / p.Den⟩
theorem wear_bd (l : List SStroke) (hl : strE l = 0) (p : SGrindPlan) (hp : GoodP l p) (z : Nat) (hz : z < zones l) : 0 ≤ wearZ l p z ∧ wearZ l p z ≤ 1000000000000000 := by
  obtain ⟨_, h12, _⟩ := strE_zero hl
  have := ws_bd l hl p hp z hz l.length 0 0 (by omega) (by omega) (by omega)
  unfold wearZ; omega
theorem by_p (k : Nat) (hk : 100 < k) (l : List SStroke) (hl : strE l = 0) (p : SGrindPlan) (hp : GoodP l p) (a : List SStroke) (b : List Int × Int × List SStroke) : ∀ (n fuel i : Nat), zones l = i + n → n < fuel →
    ngrind_WearBy_l0_0 k l p a b (zones l : Int) fuel ((List.range i).map (rangeZ l p) ++ List.replicate n (⟨0, 0⟩ : SRange)) (i : Int) = some ((List.range (zones l)).map (rangeZ l p)) := by
  obtain ⟨h0, h12, hg⟩ := strE_zero hl
  have hz2 : zones l ≤ 40 := (hg 0 h0).1.z2
  intro n
  induction n with
  | zero =>
    intro fuel i h hf
    obtain ⟨g, rfl⟩ : ∃ g, fuel = g + 1 := ⟨fuel - 1, by omega⟩
    rw [ngrind_WearBy_l0_0.eq_2, if_neg (by rw [Int.toNat_natCast]; omega), show i = zones l by omega]; simp
  | succ n ih =>
    intro fuel i h hf
    obtain ⟨g, rfl⟩ : ∃ g, fuel = g + 1 := ⟨fuel - 1, by omega⟩
    obtain ⟨w1, _⟩ := wear_any k hk l hl p hp.len i (by omega)
    have hb := wear_bd l hl p hp i (by omega)
    have hden := hp.den
    have hd := div_bd (n := wearZ l p i) hden.1 hb.1
    have hset : ((List.range i).map (rangeZ l p) ++ List.replicate (n + 1) (⟨0, 0⟩ : SRange)).set i (rangeZ l p i) = (List.range (i + 1)).map (rangeZ l p) ++ List.replicate n (⟨0, 0⟩ : SRange) := by
      rw [List.replicate_succ, List.set_append, if_neg (by simp), List.range_succ, List.map_append]
      simp
    have e : (⟨w64 ((wearZ l p i).tdiv p.Den), (wearZ l p i + p.Den - 1) / p.Den⟩ : SRange) = rangeZ l p i := by
      rw [Int.tdiv_eq_ediv_of_nonneg hb.1, w64_id (by omega) (by omega)]; rfl
    rw [ngrind_WearBy_l0_0.eq_2, if_pos (by rw [Int.toNat_natCast]; omega), w1, Option.bind_some, if_pos (by omega), up_p k hb hden, Option.bind_some, if_pos (by simp; omega), Int.toNat_natCast, big_succ (by omega), e, hset]
    exact ih g (i + 1) (by omega) (by omega)
theorem by_r (k : Nat) (hk : 100 < k) (l : List SStroke) (hl : strE l = 0) (p : SGrindPlan) (hp : GoodP l p) : ∀ (n fuel i : Nat), zones l = i + n → n < fuel →
    nspeculumref04_WearBy_l0_0 k l p fuel ((List.range i).map (rangeZ l p)) (i : Int) = some ((List.range (zones l)).map (rangeZ l p)) := by
  obtain ⟨h0, h12, hg⟩ := strE_zero hl
  have hz2 : zones l ≤ 40 := (hg 0 h0).1.z2
  intro n
  induction n with
  | zero =>
    intro fuel i h hf
    obtain ⟨g, rfl⟩ : ∃ g, fuel = g + 1 := ⟨fuel - 1, by omega⟩
    rw [nspeculumref04_WearBy_l0_0.eq_2, if_pos (by omega), show ((0 : Int)).toNat = 0 from rfl, if_neg (by unfold zones at h; omega), show i = zones l by omega]
  | succ n ih =>
    intro fuel i h hf
    obtain ⟨g, rfl⟩ : ∃ g, fuel = g + 1 := ⟨fuel - 1, by omega⟩
    obtain ⟨_, w2⟩ := wear_any k hk l hl p hp.len i (by omega)
    have hb := wear_bd l hl p hp i (by omega)
    rw [nspeculumref04_WearBy_l0_0.eq_2, if_pos (by omega), show ((0 : Int)).toNat = 0 from rfl, if_pos (by unfold zones at h; omega), w2, Option.bind_some, floor_r k hb hp.den, Option.bind_some, ceil_r k hb hp.den, Option.bind_some, if_pos (by simp; omega), big_succ (by omega)]
    have := ih g (i + 1) (by omega) (by omega)
    rw [List.range_succ, List.map_append] at this
    exact this
theorem ranges_l (k : Nat) (y : List SRange) (hl : y.length ≤ 43) : ∀ (d fuel i : Nat), y.length = i + d → d < fuel → nspeculumbase_Ranges_l0_0 k y y fuel (i : Int) = some (.inr ()) := by
  intro d
  induction d with
  | zero =>
    intro fuel i h hf
    obtain ⟨g, rfl⟩ : ∃ g, fuel = g + 1 := ⟨fuel - 1, by omega⟩
    rw [nspeculumbase_Ranges_l0_0.eq_2, if_neg (by omega)]
  | succ d ih =>
    intro fuel i h hf
    obtain ⟨g, rfl⟩ : ∃ g, fuel = g + 1 := ⟨fuel - 1, by omega⟩
    rw [nspeculumbase_Ranges_l0_0.eq_2, if_pos (by omega), if_pos (by omega), if_pos (by omega), if_pos (by simp), big_succ (by omega)]
    exact ih g (i + 1) (by omega) (by omega)
theorem ranges_same (k : Nat) (hk : 100 < k) (y : List SRange) (hl : y.length ≤ 43) : nspeculumbase_Ranges k y y = some true := by
  unfold nspeculumbase_Ranges
  rw [if_pos rfl, show nspeculumbase_Ranges_l0_0 k y y k 0 = _ from ranges_l k y hl y.length k 0 (by omega) (by omega)]; rfl
theorem wearBy_p (k : Nat) (hk : 100 < k) (hk2 : k ≤ 100000000000000000000) (l : List SStroke) (hl15 : l.length ≤ 15) (hw : ∀ i, i < l.length → (l.getD i default).Wear.length ≤ 43) (p : SGrindPlan) (hp : p.Minutes.length ≤ 15) : ngrind_WearBy k l p = some (if strE l = 0 then (if planE l p = 0 then ((List.range (zones l)).map (rangeZ l p), 0) else ([], planE l p)) else ([], strE l)) := by
  unfold ngrind_WearBy ngrind_validStrokes ngrind_validPlan ngrind_firstOf_c0_Lgrind_validStrokes_1_grind_validPlan_1
  simp only [Option.bind_some]
  rw [strokes1 k hk hk2 l hl15 hw, Option.bind_some]
  by_cases hl : strE l = 0
  · rw [if_pos hl, if_pos hl, plan_p k hk l p hp, Option.bind_some]
    by_cases h : planE l p = 0
    · obtain ⟨h0, h12, hg⟩ := strE_zero hl
      have hz2 : zones l ≤ 40 := (hg 0 h0).1.z2
      have hby := by_p k hk l hl p (planE_zero h) l (p.Minutes, p.Den, l) (zones l) k 0 (by omega) (by omega)
      rw [if_pos h, if_pos h, Option.bind_some, if_pos rfl]
      unfold ngrind_zonesOf
      rw [if_pos (by omega), Option.bind_some, show ((0 : Int)).toNat = 0 from rfl]
      show (if 0 ≤ (zones l : Int) ∧ (zones l : Int) ≤ 1000000000 then _ else _) = _
      rw [if_pos (by omega)]
      show ((ngrind_WearBy_l0_0 k l p l (p.Minutes, p.Den, l) (zones l : Int) k (List.replicate ((zones l : Int)).toNat (⟨0, 0⟩ : SRange)) 0).bind fun r => some (r, (0 : Int))) = _
      rw [Int.toNat_natCast, show ngrind_WearBy_l0_0 k l p l (p.Minutes, p.Den, l) (zones l : Int) k (List.replicate (zones l) (⟨0, 0⟩ : SRange)) 0 = _ from hby]; rfl
    · rw [if_neg h, if_neg h, Option.bind_some, if_neg h]
  · rw [if_neg hl, if_neg hl, Option.bind_some, if_neg hl]
theorem law_plans (k : Nat) (hk : k = 100000000000000000000) (l : List SStroke) (d : SGrindDemand) (p : SGrindPlan) : nspeculumlaw04_GrindPlanChecks k l d p = some true := by
  unfold nspeculumlaw04_GrindPlanChecks
  obtain ⟨b, hb, hb2⟩ := light_any k (by omega) l
  obtain ⟨c, hc, hc2⟩ := slim_any k d
  rw [show nawake k = some true from rfl, Option.bind_some, if_pos rfl, hb, Option.bind_some]
  cases b with
  | false => rfl
  | true =>
    obtain ⟨hl15, hw⟩ := hb2 rfl
    rw [if_pos rfl, hc, Option.bind_some]
    cases c with
    | false => rfl
    | true =>
      obtain ⟨s1, s2⟩ := hc2 rfl
      rw [if_pos rfl]
      by_cases cm : 15 < (p.Minutes.length : Int)
      · rw [if_pos cm]
      · have hp : p.Minutes.length ≤ 15 := by omega
        have e1 := checkPlan_p k (by omega) (by omega) l hl15 hw d p hp
        have e2 := wearBy_p k (by omega) (by omega) l hl15 hw p hp
        have e3 := checkStrokes_r k (by omega) l hl15 hw
        have e4 := planErr_r k (by omega) l p hp
        have e5 := checkDemand_r k (by omega) l hl15 hw d
        rw [if_neg cm, copy_any k (by omega) l hl15 hw, Option.bind_some, demand_copy k d s1 s2, Option.bind_some, plan_copy k p hp, Option.bind_some, e1, Option.bind_some, e2, Option.bind_some, e3, Option.bind_some, e4, e5]
        unfold strR
        cases h0 : decide (strE l = 0) with
        | false =>
          have hl := of_decide_eq_false h0
          simp [hl]
        | true =>
          have hl := of_decide_eq_true h0
          by_cases h : planE l p = 0
          · obtain ⟨h0, h12, hg⟩ := strE_zero hl
            have hz2 : zones l ≤ 40 := (hg 0 h0).1.z2
            have hby := by_r k (by omega) l hl p (planE_zero h) (zones l) k 0 (by omega) (by omega)
            have ew : nspeculumref04_WearBy k l p = some ((List.range (zones l)).map (rangeZ l p)) := by
              unfold nspeculumref04_WearBy
              rw [show nspeculumref04_WearBy_l0_0 k l p k [] 0 = _ from hby]; rfl
            have er := ranges_same k (by omega) ((List.range (zones l)).map (rangeZ l p)) (by simp; omega)
            by_cases hd : demE l d = 0
            · have ec := checkPlan_r k (by omega) l hl d hd p hp
              simp [hl, h, hd, ew, er, ec]
            · simp [hl, h, hd, ew, er]
          · by_cases hd : demE l d = 0
            · have ec := checkPlan_r k (by omega) l hl d hd p hp
              simp [hl, h, hd, ec]
            · simp [hl, h, hd]
theorem vc_plans (l : List SStroke) (d : SGrindDemand) (p : SGrindPlan) : VC Go.Proofs.Try.prog 5 [VV.tr (l.flatMap c_SStroke) l.length, VV.ag (c_SGrindDemand d), VV.ag (c_SGrindPlan p)] (vb true) := nspeculumlaw04_GrindPlanChecks_ok _ _ _ _ _ (law_plans 100000000000000000000 rfl l d p)
end Go.Proofs.Ytbaegoglpijnnab.Vg
