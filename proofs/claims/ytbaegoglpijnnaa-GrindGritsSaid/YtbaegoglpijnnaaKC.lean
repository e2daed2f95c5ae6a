/- GrindGrits, plain. -/
import Derived.Test.YtbaegoglpijnnaaK2
import Derived.Test.YtbaegoglpijnnaaKB
set_option linter.unusedVariables false
set_option linter.unusedSimpArgs false
namespace Go.Proofs.Ytbaegoglpijnnaa.Vg
open Go Go.Proofs.Ytbaegoglpijnnaa.Ev Go.Proofs.Ytbaegoglpijnnaa.Vv
theorem div_one {n b : Int} (hb : 1 ≤ b) : ∃ q r, n = b * q + r ∧ 0 ≤ r ∧ r < b ∧ n / b = q ∧ n % b = r := ⟨n / b, n % b, (Int.mul_ediv_add_emod n b).symm, Int.emod_nonneg _ (by omega), Int.emod_lt_of_pos _ (by omega), rfl, rfl⟩
theorem ceil_eq {n b : Int} (hb : 1 ≤ b) : (n + b - 1) / b = if n % b = 0 then n / b else n / b + 1 := by
  obtain ⟨q, r, h1, h2, h3, h4, h5⟩ := div_one (n := n) hb
  rw [h4, h5]
  by_cases h : r = 0
  · rw [if_pos h]
    rw [show n + b - 1 = (b - 1) + b * q by omega, Int.add_mul_ediv_left _ _ (by omega), Int.ediv_eq_zero_of_lt (by omega) (by omega)]; omega
  · rw [if_neg h]
    rw [show n + b - 1 = (r - 1) + b * (q + 1) by rw [Int.mul_add]; omega, Int.add_mul_ediv_left _ _ (by omega), Int.ediv_eq_zero_of_lt (by omega) (by omega)]; omega
theorem div_bd {n b : Int} (hb : 1 ≤ b) (hn : 0 ≤ n) : 0 ≤ n / b ∧ n / b ≤ n := ⟨Int.ediv_nonneg hn (by omega), Int.ediv_le_self _ hn⟩
theorem up_p (k : Nat) {n b : Int} (hn : 0 ≤ n ∧ n ≤ 1000000) (hb : 1 ≤ b ∧ b ≤ 100000) : ngrind_up k n b = some ((n + b - 1) / b) := by
  unfold ngrind_up
  have h := div_bd (n := n + b - 1) hb.1 (by omega)
  rw [if_pos (by omega), w64_id (n := n + b) (by omega) (by omega), w64_id (n := n + b - 1) (by omega) (by omega), Int.tdiv_eq_ediv_of_nonneg (by omega), w64_id (by omega) (by omega)]
theorem ceil_r (k : Nat) {n b : Int} (hn : 0 ≤ n ∧ n ≤ 1000000) (hb : 1 ≤ b ∧ b ≤ 100000) : nspeculumbase_Ceil k n b = some ((n + b - 1) / b) := by
  unfold nspeculumbase_Ceil nspeculumbase_Floor
  have h := div_bd (n := n) hb.1 hn.1
  have h2 := Int.emod_nonneg n (show b ≠ 0 by omega)
  have h3 := Int.emod_lt_of_pos n (show 0 < b by omega)
  rw [w64_id (n := 0 - n) (by omega) (by omega), show (0 : Int) - n = -n by omega, Int.neg_tmod, Int.neg_tdiv, Int.tdiv_eq_ediv_of_nonneg hn.1, Int.tmod_eq_emod_of_nonneg hn.1, if_pos (by omega), ceil_eq hb.1]
  by_cases c : n % b = 0
  · rw [if_neg (by omega), if_pos c, w64_id (by omega) (by omega), Option.bind_some, w64_id (by omega) (by omega)]; congr 1; omega
  · rw [if_pos (by omega), if_neg c, w64_id (n := -(n / b)) (by omega) (by omega), w64_id (n := -(n / b) - 1) (by omega) (by omega), Option.bind_some, w64_id (by omega) (by omega)]; congr 1; omega
theorem gritB_t {g : SGrit} (h : gritB g = true) : (0 ≤ g.Damage ∧ g.Damage ≤ 1000000) ∧ (1 ≤ g.Rate ∧ g.Rate ≤ 100000) := by
  unfold gritB at h
  rw [Bool.and_eq_true] at h
  exact ⟨inR_t.1 h.1, inR_t.1 h.2⟩
def stepE (l : List SGrit) (grit depth : Int) : Int := if gritE l = 0 then (match inR 0 ((l.length : Int) - 1) grit with | false => 6 | true => match inR 0 1000000 depth with | false => 2 | true => 0) else gritE l
theorem law_grits (k : Nat) (hk : k = 100000000000000000000) (l : List SGrit) (hl : l.length ≤ 9223372036854775807) (grit depth : Int) : nspeculumlaw04_GrindGrits k l grit depth = some true := by
  unfold nspeculumlaw04_GrindGrits
  obtain ⟨b, hb, hb2⟩ := gritty_any k l hl (by omega)
  rw [show nawake k = some true from rfl, Option.bind_some, if_pos rfl, hb, Option.bind_some]
  cases b with
  | false => rfl
  | true =>
    have h15 := hb2 rfl
    have e1 := checkGrits_p k (by omega) (by omega) l (by omega) (by omega)
    have e2 := checkGrits_r k (by omega) l (by omega) (by omega)
    have ew : w64 ((l.length : Int) - 1) = (l.length : Int) - 1 := w64_id (by omega) (by omega)
    have st : ngrind_StepMinutes k l grit depth = some (if stepE l grit depth = 0 then ((depth + (l.getD grit.toNat default).Rate - 1) / (l.getD grit.toNat default).Rate, 0) else (0, stepE l grit depth)) := by
      unfold ngrind_StepMinutes ngrind_validGrits ngrind_validGrits_1 ngrind_need ngrind_within stepE
      simp only [Option.bind_some]
      rw [ew, isw, e1, Option.bind_some, Option.bind_some]
      simp only [Option.bind_some]
      by_cases c0 : gritE l = 0
      · rw [if_pos c0, if_pos c0, need1, Option.bind_some]
        cases c1 : inR 0 ((l.length : Int) - 1) grit with
        | false => rfl
        | true =>
          dsimp only
          rw [if_pos rfl, within1 k _ _ _ (by simp) (by simp; omega), Option.bind_some]
          simp only [List.all_cons, List.all_nil, Bool.and_true]
          cases c2 : inR 0 1000000 depth with
          | false => rfl
          | true =>
            have g1 := inR_t.1 c1
            have g2 := inR_t.1 c2
            have hg := gritB_t ((gritE_zero c0).2 grit.toNat (by omega))
            dsimp only
            rw [if_pos rfl, if_pos (by omega), up_p k g2 hg.2, Option.bind_some, if_pos rfl]
      · rw [if_neg c0, if_neg c0, if_neg c0]
    rw [if_pos rfl, grits_copy k l h15, Option.bind_some, st, Option.bind_some, e2, Option.bind_some, e1, Option.bind_some, if_pos rfl, ew, wib, Option.bind_some]
    unfold nspeculumref04_IsDepth
    rw [wib, Option.bind_some, Option.bind_some]
    unfold stepE
    by_cases c0 : gritE l = 0
    · rw [if_pos c0, if_pos c0]
      cases c1 : inR 0 ((l.length : Int) - 1) grit with
      | false => rfl
      | true =>
        cases c2 : inR 0 1000000 depth with
        | false => rfl
        | true =>
          have g1 := inR_t.1 c1
          have g2 := inR_t.1 c2
          have hg := gritB_t ((gritE_zero c0).2 grit.toNat (by omega))
          dsimp only
          rw [if_pos rfl, if_pos rfl, if_pos rfl, if_pos rfl, if_pos (by omega), ceil_r k g2 hg.2, Option.bind_some, decide_eq_true rfl]
    · rw [if_neg c0, if_neg c0, if_neg c0, if_pos rfl]; rfl
theorem vc_grits (l : List SGrit) (grit depth : Int) (hl : l.length ≤ 9223372036854775807) : VC Go.Proofs.Try.prog 3 [VV.tr (l.flatMap c_SGrit) l.length, vi grit, vi depth] (vb true) := nspeculumlaw04_GrindGrits_ok _ _ _ _ _ (law_grits 100000000000000000000 rfl l hl grit depth)
end Go.Proofs.Ytbaegoglpijnnaa.Vg
