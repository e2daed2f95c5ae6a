import Derived.Test.YtbaegoglpijnnabP3
import Derived.Test.YtbaegoglpijnnabKI
set_option linter.unusedVariables false
set_option linter.unusedSimpArgs false
namespace Go.Proofs.Ytbaegoglpijnnab.Vg
open Go Go.Proofs.Ytbaegoglpijnnab.Ev Go.Proofs.Ytbaegoglpijnnab.Vv
theorem floor_any (k : Nat) {a b : Int} (ha : -1000000000000000 <= a /\ a <= 1000000000000000) (hb : 1 <= b /\ b <= 10000000) : nspeculumbase_Floor k a b = some (a / b) /\ -1000000000000001 <= a / b /\ a / b <= 1000000000000000 := by
 unfold nspeculumbase_Floor
 rw [if_pos (show b ≠ 0 by omega)]
 rcases Int.lt_or_le a 0 with h | h
 ·obtain ⟨c, rfl⟩ : ∃ c, a = -c := ⟨-a, by omega⟩
  have hc1 : 0 <= c / b := Int.ediv_nonneg (by omega) (by omega)
  have hc2 : c / b <= c := Int.ediv_le_self _ (by omega)
  have hm1 := Int.emod_nonneg c (show b ≠ 0 by omega)
  have hm2 := Int.emod_lt_of_pos c (show 0 < b by omega)
  have hm3 := Int.mul_ediv_add_emod c b
  rw [Int.neg_tmod, Int.neg_tdiv, Int.tdiv_eq_ediv_of_nonneg (show 0 <= c by omega), Int.tmod_eq_emod_of_nonneg (show 0 <= c by omega)]
  by_cases h0 : c % b = 0
  ·have e : -c / b = -(c / b) := ((Int.ediv_emod_unique (show 0 < b by omega)).2 ⟨show 0 + b * -(c / b) = -c by rw [Int.mul_neg]; omega, by omega, by omega⟩).1
   rw [if_neg (by omega), e, w64_id (by omega) (by omega)]
   exact ⟨rfl, by omega, by omega⟩
  ·have e : -c / b = -(c / b) - 1 := ((Int.ediv_emod_unique (show 0 < b by omega)).2 ⟨show (b - c % b) + b * (-(c / b) - 1) = -c by rw [Int.mul_sub, Int.mul_neg]; omega, by omega, by omega⟩).1
   rw [if_pos (by omega), e, w64_id (n := -(c / b)) (by omega) (by omega), w64_id (by omega) (by omega)]
   exact ⟨rfl, by omega, by omega⟩
 ·have hc1 : 0 <= a / b := Int.ediv_nonneg (by omega) (by omega)
  have hc2 : a / b <= a := Int.ediv_le_self _ (by omega)
  have h2 := Int.emod_nonneg a (show b ≠ 0 by omega)
  rw [Int.tmod_eq_emod_of_nonneg h, if_neg (by omega), Int.tdiv_eq_ediv_of_nonneg h, w64_id (by omega) (by omega)]
  exact ⟨rfl, by omega, by omega⟩
def sgnC (a b : Int) : Int := if a < b then -1 else if b < a then 1 else 0
theorem cmp_l (k : Nat) : ∀ (fuel : Nat) (x0 x1 x2 x3 : Int), (1 <= x1 /\ x1 <= 10000000) -> (1 <= x3 /\ x3 <= 10000000) -> (-1000000000000000 <= x0 /\ x0 <= 1000000000000000) -> (-1000000000000000 <= x2 /\ x2 <= 1000000000000000) -> (x1 + x3).toNat < fuel ->
 nspeculumref04_compare_l0_0 k fuel x0 x1 x2 x3 = some (sgnC (x0 * x3) (x2 * x1)) := by
 intro fuel
 induction fuel with
 | zero => intro x0 x1 x2 x3 _ _ _ _ h; omega
 | succ g ih =>
   intro x0 x1 x2 x3 h1 h3 h0 h2 hf
   obtain ⟨f1, b1, b2⟩ := floor_any k h0 h1
   obtain ⟨f2, b3, b4⟩ := floor_any k h2 h3
   have d1 := Int.mul_ediv_add_emod x0 x1
   have d2 := Int.mul_ediv_add_emod x2 x3
   have m1 := Int.emod_nonneg x0 (show x1 ≠ 0 by omega)
   have m2 := Int.emod_nonneg x2 (show x3 ≠ 0 by omega)
   have m3 := Int.emod_lt_of_pos x0 (show 0 < x1 by omega)
   have m4 := Int.emod_lt_of_pos x2 (show 0 < x3 by omega)
   rw [nspeculumref04_compare_l0_0.eq_2, f1, f2, Option.bind_some, Option.bind_some]
   generalize x0 / x1 = p at *
   generalize x2 / x3 = q at *
   generalize x0 % x1 = n at *
   generalize x2 % x3 = m at *
   have ea : x0 * x3 = x1 * p * x3 + n * x3 := by rw [<- d1, Int.add_mul]
   have eb : x2 * x1 = x3 * q * x1 + m * x1 := by rw [<- d2, Int.add_mul]
   have c1 : x1 * p * x3 = x1 * x3 * p := by rw [Int.mul_assoc, Int.mul_comm p, <- Int.mul_assoc]
   have c2 : x3 * q * x1 = x1 * x3 * q := by rw [Int.mul_assoc, Int.mul_comm q, <- Int.mul_assoc, Int.mul_comm x3 x1]
   have hD : 0 < x1 * x3 := Int.mul_pos (by omega) (by omega)
   have n1 : 0 <= n * x3 := Int.mul_nonneg m1 (by omega)
   have n2 : 0 <= m * x1 := Int.mul_nonneg m2 (by omega)
   have n3 : n * x3 < x1 * x3 := Int.mul_lt_mul_of_pos_right m3 (by omega)
   have n4 : m * x1 < x1 * x3 := by rw [Int.mul_comm x1 x3]; exact Int.mul_lt_mul_of_pos_right m4 (by omega)
   by_cases hpq : p = q
   ·rw [if_pos hpq]
    subst hpq
    have w1 : w64 (x0 - w64 (p * x1)) = n := by
     rw [Int.mul_comm p x1, w64_id (n := x1 * p) (by omega) (by omega), w64_id (by omega) (by omega)]; omega
    have w2 : w64 (x2 - w64 (p * x3)) = m := by
     rw [Int.mul_comm p x3, w64_id (n := x3 * p) (by omega) (by omega), w64_id (by omega) (by omega)]; omega
    rw [w1, w2]
    by_cases hn : n = 0
    ·rw [if_pos hn]
     by_cases hm : m = 0
     ·rw [if_pos hm]; unfold sgnC; subst hn; subst hm; simp only [Int.zero_mul] at *; rw [if_neg (by omega), if_neg (by omega)]
     ·rw [if_neg hm]; unfold sgnC
      have : 0 < m * x1 := Int.mul_pos (by omega) (by omega)
      subst hn; simp only [Int.zero_mul] at *; rw [if_pos (by omega)]
    ·rw [if_neg hn]
     have p1 : 0 < n * x3 := Int.mul_pos (by omega) (by omega)
     by_cases hm : m = 0
     ·rw [if_pos hm]; unfold sgnC
      subst hm; simp only [Int.zero_mul] at *; rw [if_neg (by omega), if_pos (by omega)]
     ·rw [if_neg hm, ih x3 m x1 n (by omega) (by omega) (by omega) (by omega) (by omega)]
      unfold sgnC
      rw [Int.mul_comm x3 n, Int.mul_comm x1 m, ea, eb, c1, c2]
      congr 1
      by_cases t1 : n * x3 < m * x1
      ·rw [if_pos t1, if_pos (by omega)]
      ·by_cases t2 : m * x1 < n * x3
       ·rw [if_neg t1, if_pos t2, if_neg (by omega), if_pos (by omega)]
       ·rw [if_neg t1, if_neg t2, if_neg (by omega), if_neg (by omega)]
   ·rw [if_neg hpq]
    unfold sgnC
    rw [ea, eb, c1, c2]
    by_cases hl : p < q
    ·have := Int.mul_le_mul_of_nonneg_left (show p + 1 <= q by omega) (show 0 <= x1 * x3 by omega)
     rw [Int.mul_add, Int.mul_one] at this
     rw [if_pos hl, if_pos (by omega)]
    ·have := Int.mul_le_mul_of_nonneg_left (show q + 1 <= p by omega) (show 0 <= x1 * x3 by omega)
     rw [Int.mul_add, Int.mul_one] at this
     rw [if_neg hl, if_neg (by omega), if_pos (by omega)]
theorem cmp_r (k : Nat) (hk : 100000000 < k) {x0 x1 x2 x3 : Int} (h1 : 1 <= x1 /\ x1 <= 10000000) (h3 : 1 <= x3 /\ x3 <= 10000000) (h0 : -1000000000000000 <= x0 /\ x0 <= 1000000000000000) (h2 : -1000000000000000 <= x2 /\ x2 <= 1000000000000000) : nspeculumref04_compare k x0 x1 x2 x3 = some (sgnC (x0 * x3) (x2 * x1)) := by
 unfold nspeculumref04_compare
 rw [cmp_l k k x0 x1 x2 x3 h1 h3 h0 h2 (by omega)]; rfl
theorem cmp_p (k : Nat) (a b : Int) : ncmp_Compare_int_ k a b = some (sgnC a b) := by
 unfold ncmp_Compare_int_ ncmp_isNaN_int_ sgnC
 simp only [decide_true, Bool.not_true, Option.bind_some]
 rw [if_neg (by simp), if_neg (by simp)]
 by_cases h : a < b
 ·rw [if_pos h, if_pos h]
 ·rw [if_neg h, if_neg h]
  by_cases h : b < a
  ·rw [if_pos h, if_pos h]
  ·rw [if_neg h, if_neg h]
def wearT (l : List SStroke) (p : SGrindPlan) (z i : Nat) : Int := p.Minutes.getD i 0 * (l.getD i default).Wear.getD z 0
def minT (p : SGrindPlan) (i : Nat) : Int := p.Minutes.getD i 0
theorem wearT_bd {l : List SStroke} (hl : strE l = 0) {p : SGrindPlan} (hp : GoodP l p) {z i : Nat} (hz : z < zones l) (hi : i < l.length) : -(1000000000 * 100) <= wearT l p z i /\ wearT l p z i <= 1000000000 * 100 := by
 have h1 := str_bd hl hi hz
 have h2 := hp.mins i (by rw [hp.len]; exact hi)
 exact mul_bd h2.1 h2.2 (by omega) (by omega) (by omega)
theorem ws_sum {l : List SStroke} (hl : strE l = 0) {p : SGrindPlan} (hp : GoodP l p) {z : Nat} (hz : z < zones l) : ∀ n i : Nat, l.length = i + n -> wsL l p.Minutes z n i (sumF (wearT l p z) i) = sumF (wearT l p z) l.length := by
 obtain ⟨_, h12, _⟩ := strE_zero hl
 intro n
 induction n with
 | zero => intro i h; simp only [wsL]; rw [show i = l.length by omega]
 | succ n ih =>
   intro i h
   have h1 := wearT_bd hl hp hz (show i < l.length by omega)
   have h2 := sumF_bd (f := wearT l p z) (B := 1000000000 * 100) i (fun j hj => wearT_bd hl hp hz (by omega))
   simp only [wsL]
   show wsL l p.Minutes z n (i + 1) (w64 (sumF (wearT l p z) i + w64 (wearT l p z i))) = _
   rw [w64_id (n := wearT l p z i) (by omega) (by omega), w64_id (by omega) (by omega)]
   exact ih (i + 1) (by omega)
theorem wearZ_sum {l : List SStroke} (hl : strE l = 0) {p : SGrindPlan} (hp : GoodP l p) {z : Nat} (hz : z < zones l) : wearZ l p z = sumF (wearT l p z) l.length := ws_sum hl hp hz l.length 0 (by omega)
theorem min_bd {l : List SStroke} (hl : strE l = 0) {p : SGrindPlan} (hp : GoodP l p) {n : Nat} (hn : n <= l.length) : -12000000000 <= sumF (minT p) n /\ sumF (minT p) n <= 12000000000 := by
 obtain ⟨_, h12, _⟩ := strE_zero hl
 have h := sumF_bd (f := minT p) (B := 1000000000) n (fun j hj => by have := hp.mins j (by rw [hp.len]; omega); unfold minT; omega)
 omega
theorem min_nn {l : List SStroke} {p : SGrindPlan} (hp : GoodP l p) {n : Nat} (hn : n <= l.length) : 0 <= sumF (minT p) n := by
 have h := sumF_le (f := fun _ => 0) (g := minT p) n (fun j hj => (hp.mins j (by rw [hp.len]; omega)).1)
 have h2 : ∀ n : Nat, sumF (fun _ => (0 : Int)) n = 0 := by
  intro n
  induction n with
  | zero => rfl
  | succ n ih => simp only [sumF]; rw [ih]; rfl
 rw [h2] at h; exact h
theorem time_sum {l : List SStroke} (hl : strE l = 0) {p : SGrindPlan} (hp : GoodP l p) : ∀ n i : Nat, l.length = i + n -> timeL p.Minutes n i (sumF (minT p) i) = sumF (minT p) l.length := by
 intro n
 induction n with
 | zero => intro i h; simp only [timeL]; rw [show i = l.length by omega]
 | succ n ih =>
   intro i h
   have h1 := min_bd hl hp (n := i) (by omega)
   have h2 := min_bd hl hp (n := i + 1) (by omega)
   simp only [timeL]
   show timeL p.Minutes n (i + 1) (w64 (sumF (minT p) (i + 1))) = _
   rw [w64_id (by omega) (by omega)]
   exact ih (i + 1) (by omega)
theorem planL_ok {l : List SStroke} {d : SGrindDemand} {p : SGrindPlan} : ∀ n i : Nat, planL l d p n i = .inr () -> ∀ z, i <= z -> z < i + n -> planZ l d p z = true
 | 0, i, _, z, h1, h2 => by omega
 | n + 1, i, h, z, h1, h2 => by
   simp only [planL] at h
   cases hz : planZ l d p i with
   | false => rw [hz] at h; cases h
   | true =>
     rw [hz] at h
     rcases Nat.eq_or_lt_of_le h1 with rfl | h3
     ·exact hz
     ·exact planL_ok n (i + 1) h z (by omega) (by omega)
theorem duality {l : List SStroke} (hl : strE l = 0) {d : SGrindDemand} (hd : demE l d = 0) {p : SGrindPlan} (hp : GoodP l p) (hpl : planL l d p (zones l) 0 = .inr ()) {w : SGrindProof} (hw : GoodW l w) (hpu : pullB l w w.Den l.length 0 = true) : p.Den * bndF l d w <= w.Den * sumF (minT p) l.length := by
 obtain ⟨d1, d2, d3⟩ := demE_zero hd
 have e1 : sumF (fun i => minT p i * pullF l w i) l.length <= sumF (fun i => w.Den * minT p i) l.length := sumF_le _ (fun i hi => by
  have h1 := (pullB_iff l w w.Den l.length 0).1 hpu i (by omega) (by omega)
  have h2 := (hp.mins i (by rw [hp.len]; exact hi)).1
  show minT p i * pullF l w i <= w.Den * minT p i
  rw [Int.mul_comm w.Den]
  exact Int.mul_le_mul_of_nonneg_left h1 h2)
 rw [sumF_mul] at e1
 have e2 : sumF (fun i => minT p i * pullF l w i) l.length = sumF (fun z => (w.Low.getD z 0 - w.High.getD z 0) * sumF (wearT l p z) l.length) (zones l) := by
  have t : (fun i => minT p i * pullF l w i) = fun i => sumF (fun z => minT p i * pullT l w i z) (zones l) := by
   funext i; exact (sumF_mul _ _ _).symm
  rw [t, sumF_swap (fun i z => minT p i * pullT l w i z)]
  congr 1
  funext z
  rw [<- sumF_mul]
  congr 1
  funext i
  show p.Minutes.getD i 0 * ((l.getD i default).Wear.getD z 0 * (w.Low.getD z 0 - w.High.getD z 0)) = (w.Low.getD z 0 - w.High.getD z 0) * (p.Minutes.getD i 0 * (l.getD i default).Wear.getD z 0)
  rw [<- Int.mul_assoc, Int.mul_comm]
 have e3 : sumF (fun z => p.Den * bndT d w z) (zones l) <= sumF (fun z => (w.Low.getD z 0 - w.High.getD z 0) * sumF (wearT l p z) l.length) (zones l) := sumF_le _ (fun z hz => by
  have h1 := planL_ok (zones l) 0 hpl z (by omega) (by omega)
  unfold planZ at h1
  have h2 := inR_t.1 h1
  have h3 := d3 z hz
  have hden := hp.den
  have q1 : 0 <= d.Low.getD z 0 * p.Den /\ d.Low.getD z 0 * p.Den <= 10000 * 10000000 := ⟨Int.mul_nonneg (by omega) (by omega), Int.mul_le_mul (by omega) (by omega) (by omega) (by omega)⟩
  have q2 : 0 <= d.High.getD z 0 * p.Den /\ d.High.getD z 0 * p.Den <= 10000 * 10000000 := ⟨Int.mul_nonneg (by omega) (by omega), Int.mul_le_mul (by omega) (by omega) (by omega) (by omega)⟩
  rw [w64_id (by omega) (by omega), w64_id (by omega) (by omega), wearZ_sum hl hp hz] at h2
  show p.Den * (w.Low.getD z 0 * d.Low.getD z 0 - w.High.getD z 0 * d.High.getD z 0) <= (w.Low.getD z 0 - w.High.getD z 0) * sumF (wearT l p z) l.length
  have r1 := Int.mul_le_mul_of_nonneg_left h2.1 (hw.los z hz).1
  have r2 := Int.mul_le_mul_of_nonneg_left h2.2 (hw.his z hz).1
  rw [Int.sub_mul, Int.mul_sub, Int.mul_comm p.Den, Int.mul_comm p.Den, Int.mul_assoc, Int.mul_assoc]
  omega)
 rw [sumF_mul] at e3
 unfold bndF
 omega
theorem signs {T D B P : Int} (hT : 0 <= T /\ T <= 12000000000) (hD : 1 <= D /\ D <= 10000000) (hP : 1 <= P /\ P <= 10000000) (h : P * B <= D * T) : sgnC (w64 (T * D)) (w64 (maxI B (-1) * P)) = sgnC (T * D) (B * P) /\ 0 <= sgnC (T * D) (B * P) := by
 have p1 : 0 <= T * D /\ T * D <= 12000000000 * 10000000 := ⟨Int.mul_nonneg (by omega) (by omega), Int.mul_le_mul (by omega) (by omega) (by omega) (by omega)⟩
 rw [Int.mul_comm P, Int.mul_comm D] at h
 constructor
 ·rw [w64_id (n := T * D) (by omega) (by omega)]
  unfold maxI
  by_cases c : -1 > B
  ·rw [if_pos c, w64_id (by omega) (by omega)]
   have : B * P <= -1 * P := Int.mul_le_mul_of_nonneg_right (by omega) (by omega)
   unfold sgnC
   rw [if_neg (by omega), if_pos (by omega), if_neg (by omega), if_pos (by omega)]
  ·have : -1 * P <= B * P := Int.mul_le_mul_of_nonneg_right (by omega) (by omega)
   rw [if_neg c, w64_id (by omega) (by omega)]
 ·unfold sgnC
  rw [if_neg (by omega)]
  split <;> omega
theorem law_compares (k : Nat) (hk : k = 100000000000000000000) (l : List SStroke) (d : SGrindDemand) (x : SGrindAnswer) : nspeculumlaw04_GrindCompares k l d x = some true := by
 unfold nspeculumlaw04_GrindCompares
 obtain ⟨b, hb, hb2⟩ := light_any k (by omega) l
 obtain ⟨c, hc, hc2⟩ := slim_any k d
 obtain ⟨e, he, he2⟩ := brief_any k x
 rw [show nawake k = some true from rfl, Option.bind_some, if_pos rfl, hb, Option.bind_some]
 cases b with
 | false => rfl
 | true =>
   obtain ⟨hl15, hw⟩ := hb2 rfl
   rw [if_pos rfl, hc, Option.bind_some]
   cases c with
   | false => rfl
   | true =>
     obtain ⟨s1, s2⟩ := hc2 rfl
     rw [if_pos rfl, he, Option.bind_some]
     cases e with
     | false => rfl
     | true =>
       obtain ⟨hp, w1, w2⟩ := he2 rfl
       have e1 := checkPlan_p k (by omega) (by omega) l hl15 hw d x.Plan hp
       have e2 := checkProof_p k (by omega) (by omega) l hl15 hw d x.Weights w1 w2
       have e5 := checkDemand_r k (by omega) l hl15 hw d
       have ec : ngrind_Compare k l d x = if strE l = 0 then (if demE l d = 0 then nspeculumref04_Compare k l d x else some (0, demE l d)) else some (0, strE l) := by
        unfold ngrind_Compare
        rw [e1, Option.bind_some, e2, Option.bind_some]
        by_cases hl : strE l = 0
        ·rw [if_pos hl, if_pos hl, if_pos hl]
         by_cases hd : demE l d = 0
         ·rw [if_pos hd, if_pos hd, if_pos hd]
          have r1 := checkPlan_r k (by omega) l hl d hd x.Plan hp
          have r2 := checkProof_r k (by omega) l hl d hd x.Weights
          unfold nspeculumref04_Compare
          rw [r1, Option.bind_some, r2, Option.bind_some]
          by_cases hpe : planE l x.Plan = 0
          ·rw [if_pos hpe]
           have gp := planE_zero hpe
           unfold planR
           cases hpl : planL l d x.Plan (zones l) 0 with
           | inl z => rfl
           | inr u =>
             dsimp only
             rw [if_pos rfl, if_pos rfl]
             by_cases hwe : wgE l x.Weights = 0
             ·rw [if_pos hwe]
              have gw := wgE_zero hwe
              unfold prR
              cases hpu : pullB l x.Weights x.Weights.Den l.length 0 with
              | false => rfl
              | true =>
                dsimp only
                have hdu := duality hl hd gp hpl gw hpu
                have ht := time_sum hl gp l.length 0 (by omega)
                have ht2 : timeL x.Plan.Minutes x.Plan.Minutes.length 0 0 = sumF (minT x.Plan) l.length := by rw [gp.len]; exact ht
                have hb1 := min_bd hl gp (n := l.length) (by omega)
                have hb2 := min_nn gp (n := l.length) (by omega)
                have hb3 := bndS_bd hl hd gw (n := zones l) (by omega)
                have hb4 : bndF l d x.Weights = sumF (bndT d x.Weights) (zones l) := rfl
                have hs := signs (T := sumF (minT x.Plan) l.length) (D := x.Weights.Den) (B := bndF l d x.Weights) (P := x.Plan.Den) ⟨hb2, hb1.2⟩ gw.den gp.den hdu
                rw [if_pos rfl, if_pos rfl, ht2, cmp_p, hs.1, cmp_r k (by omega) gp.den gw.den (by omega) (by omega)]
             ·rw [if_neg hwe]
              dsimp only
              rw [if_neg hwe, if_neg hwe]
          ·rw [if_neg hpe]
           dsimp only
           rw [if_neg hpe, if_neg hpe]
         ·rw [if_neg hd, if_neg hd, if_neg hd]
        ·rw [if_neg hl, if_neg hl, if_neg hl]
       have er : strE l = 0 -> demE l d = 0 -> ∃ r, nspeculumref04_Compare k l d x = some r /\ 0 <= r.1 := by
        intro hl hd
        have r1 := checkPlan_r k (by omega) l hl d hd x.Plan hp
        have r2 := checkProof_r k (by omega) l hl d hd x.Weights
        unfold nspeculumref04_Compare
        rw [r1, Option.bind_some, r2, Option.bind_some]
        by_cases hpe : planE l x.Plan = 0
        ·rw [if_pos hpe]
         have gp := planE_zero hpe
         unfold planR
         cases hpl : planL l d x.Plan (zones l) 0 with
         | inl z => exact ⟨_, rfl, by simp⟩
         | inr u =>
           dsimp only
           rw [if_pos rfl]
           by_cases hwe : wgE l x.Weights = 0
           ·rw [if_pos hwe]
            have gw := wgE_zero hwe
            unfold prR
            cases hpu : pullB l x.Weights x.Weights.Den l.length 0 with
            | false => exact ⟨_, rfl, by simp⟩
            | true =>
              dsimp only
              have hdu := duality hl hd gp hpl gw hpu
              have ht := time_sum hl gp l.length 0 (by omega)
              have ht2 : timeL x.Plan.Minutes x.Plan.Minutes.length 0 0 = sumF (minT x.Plan) l.length := by rw [gp.len]; exact ht
              have hb1 := min_bd hl gp (n := l.length) (by omega)
              have hb2 := min_nn gp (n := l.length) (by omega)
              have hb3 := bndS_bd hl hd gw (n := zones l) (by omega)
              have hb4 : bndF l d x.Weights = sumF (bndT d x.Weights) (zones l) := rfl
              have hs := signs (T := sumF (minT x.Plan) l.length) (D := x.Weights.Den) (B := bndF l d x.Weights) (P := x.Plan.Den) ⟨hb2, hb1.2⟩ gw.den gp.den hdu
              rw [if_pos rfl, ht2, cmp_r k (by omega) gp.den gw.den (by omega) (by omega)]
              exact ⟨_, rfl, hs.2⟩
           ·rw [if_neg hwe]
            dsimp only
            rw [if_neg hwe]
            exact ⟨_, rfl, by simp⟩
        ·rw [if_neg hpe]
         dsimp only
         rw [if_neg hpe]
         exact ⟨_, rfl, by simp⟩
       rw [if_pos rfl, copy_any k (by omega) l hl15 hw, Option.bind_some, demand_copy k d s1 s2, Option.bind_some, plan_copy k x.Plan hp, Option.bind_some, weights_copy k x.Weights w1 w2, Option.bind_some, show (⟨x.Plan, x.Weights⟩ : SGrindAnswer) = x from rfl, ec, e5]
       by_cases hl : strE l = 0
       ·by_cases hd : demE l d = 0
        ·obtain ⟨r, r1, r2⟩ := er hl hd
         simp [hl, hd, r1, r2]
        ·simp [hl, hd]
       ·simp [hl]
theorem vc_compares (l : List SStroke) (d : SGrindDemand) (x : SGrindAnswer) : VC Go.Proofs.Try.prog 7 [VV.tr (l.flatMap c_SStroke) l.length, VV.ag (c_SGrindDemand d), VV.ag (c_SGrindAnswer x)] (vb true) := nspeculumlaw04_GrindCompares_ok _ _ _ _ _ (law_compares 100000000000000000000 rfl l d x)
end Go.Proofs.Ytbaegoglpijnnab.Vg
