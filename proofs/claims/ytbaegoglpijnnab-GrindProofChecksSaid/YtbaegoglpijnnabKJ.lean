import Derived.Test.YtbaegoglpijnnabP2
import Derived.Test.YtbaegoglpijnnabKI
set_option linter.unusedVariables false
set_option linter.unusedSimpArgs false
namespace Go.Proofs.Ytbaegoglpijnnab.Vg
open Go Go.Proofs.Ytbaegoglpijnnab.Ev Go.Proofs.Ytbaegoglpijnnab.Vv
def rfR (l : List SStroke) (d : SGrindDemand) (w : SGrindProof) : Int × Int := match decide (w.Den = 1) with
 | false => (0, 3)
 | true => match pullB l w 0 l.length 0 with
   | false => (0, 22)
   | true => match decide (bndF l d w <= 0) with
     | true => (0, 22)
     | false => (bndF l d w, 0)
theorem checkRef_r (k : Nat) (hk : 100 < k) (l : List SStroke) (hl : strE l = 0) (d : SGrindDemand) (hd : demE l d = 0) (w : SGrindProof) : nspeculumref04_CheckRefusal k l d w = some (if wgE l w = 0 then rfR l d w else (0, wgE l w)) := by
 obtain ⟨d1, _, _⟩ := demE_zero hd
 unfold nspeculumref04_CheckRefusal
 rw [d1, wg_r k hk l hl w, Option.bind_some]
 by_cases h : wgE l w = 0
 ·have hw := wgE_zero h
  obtain ⟨r, r1, r2⟩ := pull_r k hk l hl w hw
  have r3 := r2 0
  rw [if_pos h, if_pos h, r1, Option.bind_some, (bound_both k hk l hl d hd w hw).2, Option.bind_some]
  unfold rfR
  by_cases hD : w.Den = 1
  ·rw [if_pos hD, decide_eq_true hD]
   cases hp : pullB l w 0 l.length 0 with
   | true =>
     rw [if_neg (by have := r3.2 hp; omega)]
     by_cases hb : bndF l d w <= 0
     ·rw [if_pos hb, decide_eq_true hb]
     ·rw [if_neg hb, decide_eq_false hb]
   | false => rw [if_pos (by rw [hp] at r3; simp at r3; omega)]
  ·rw [if_neg hD, decide_eq_false hD]
 ·rw [if_neg h, if_neg h]
theorem checkRef_p (k : Nat) (hk : 100 < k) (hk2 : k <= 100000000000000000000) (l : List SStroke) (hl15 : l.length <= 15) (hw : ∀ i, i < l.length -> (l.getD i default).Wear.length <= 43) (d : SGrindDemand) (w : SGrindProof) (h1 : w.Low.length <= 43) (h2 : w.High.length <= 43) : ngrind_CheckRefusal k l d w = some (if strE l = 0 then (if demE l d = 0 then (if wgE l w = 0 then rfR l d w else (0, wgE l w)) else (0, demE l d)) else (0, strE l)) := by
 unfold ngrind_CheckRefusal ngrind_validStrokes ngrind_validDemand ngrind_validWeights ngrind_pullsAtMost ngrind_need ngrind_each_c1_grind_pullsAtMost_1 ngrind_firstOf_c0_Lgrind_validStrokes_1_grind_validDemand_1_grind_validWeights_1_grind_need_1_grind_each_1_grind_pullsAtMost_1
 simp only [Option.bind_some]
 rw [strokes1 k hk hk2 l hl15 hw, Option.bind_some]
 by_cases hl : strE l = 0
 ·rw [if_pos hl, if_pos hl, dem_p k hk l hl, Option.bind_some]
  by_cases hd : demE l d = 0
  ·rw [if_pos hd, if_pos hd, wg_p k hk l hl w h1 h2, Option.bind_some]
   by_cases h : wgE l w = 0
   ·have gw := wgE_zero h
    rw [if_pos h, if_pos h, need1, Option.bind_some, pulls_p k hk l hl w gw, Option.bind_some, (bound_both k hk l hl d hd w gw).1]
    unfold rfR
    cases decide (w.Den = 1) with
    | false => rfl
    | true =>
      dsimp only
      rw [if_pos rfl]
      cases pullB l w 0 l.length 0 with
      | false => rfl
      | true =>
        dsimp only
        rw [if_pos rfl, Option.bind_some, if_pos rfl, Option.bind_some]
        by_cases hb : bndF l d w <= 0
        ·rw [if_pos hb, decide_eq_true hb]
        ·rw [if_neg hb, decide_eq_false hb]
   ·rw [if_neg h, if_neg h, Option.bind_some, if_neg h]
  ·rw [if_neg hd, if_neg hd, Option.bind_some, if_neg hd]
 ·rw [if_neg hl, if_neg hl, Option.bind_some, if_neg hl]
theorem law_proofs (k : Nat) (hk : k = 100000000000000000000) (l : List SStroke) (d : SGrindDemand) (w : SGrindProof) : nspeculumlaw04_GrindProofChecks k l d w = some true := by
 unfold nspeculumlaw04_GrindProofChecks
 obtain ⟨b, hb, hb2⟩ := light_any k (by omega) l
 obtain ⟨c, hc, hc2⟩ := slim_any k d
 obtain ⟨e, he, he2⟩ := brief_any k ⟨⟨[], 0⟩, w⟩
 rw [show nawake k = some true from rfl, Option.bind_some, if_pos rfl, hb, Option.bind_some]
 cases b with
 | false => rfl
 | true =>
   obtain ⟨hl15, hw⟩ := hb2 rfl
   rw [if_pos rfl, hc, Option.bind_some]
   cases c with
   | false => rfl
   | true =>
     obtain ⟨s1, s2⟩ := hc2 rfl
     rw [if_pos rfl, he, Option.bind_some]
     cases e with
     | false => rfl
     | true =>
       obtain ⟨_, w1, w2⟩ := he2 rfl
       have e1 := checkProof_p k (by omega) (by omega) l hl15 hw d w w1 w2
       have e2 := checkRef_p k (by omega) (by omega) l hl15 hw d w w1 w2
       have e5 := checkDemand_r k (by omega) l hl15 hw d
       rw [if_pos rfl, copy_any k (by omega) l hl15 hw, Option.bind_some, demand_copy k d s1 s2, Option.bind_some, weights_copy k w w1 w2, Option.bind_some, e1, Option.bind_some, e2, Option.bind_some, e5, Option.bind_some]
       by_cases hl : strE l = 0
       ·by_cases hd : demE l d = 0
        ·have e6 := checkProof_r k (by omega) l hl d hd w
         have e7 := checkRef_r k (by omega) l hl d hd w
         simp [hl, hd, e6, e7]
        ·simp [hl, hd]
       ·simp [hl]
theorem vc_proofs (l : List SStroke) (d : SGrindDemand) (w : SGrindProof) : VC Go.Proofs.Try.prog 6 [VV.tr (l.flatMap c_SStroke) l.length, VV.ag (c_SGrindDemand d), VV.ag (c_SGrindProof w)] (vb true) := nspeculumlaw04_GrindProofChecks_ok _ _ _ _ _ (law_proofs 100000000000000000000 rfl l d w)
end Go.Proofs.Ytbaegoglpijnnab.Vg
