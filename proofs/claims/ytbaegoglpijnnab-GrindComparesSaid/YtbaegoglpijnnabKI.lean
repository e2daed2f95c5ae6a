import Derived.Test.YtbaegoglpijnnabD2
import Derived.Test.YtbaegoglpijnnabKG
set_option linter.unusedVariables false
set_option linter.unusedSimpArgs false
namespace Go.Proofs.Ytbaegoglpijnnab.Vg
open Go Go.Proofs.Ytbaegoglpijnnab.Ev Go.Proofs.Ytbaegoglpijnnab.Vv
theorem getD_mem2 {l : List Int} {i : Nat} (h : i < l.length) : l.getD i 0 ∈ l := by
 rw [List.getD_eq_getElem?_getD, List.getElem?_eq_getElem h]; exact List.getElem_mem h
def sumF (f : Nat -> Int) : Nat -> Int
 | 0 => 0
 | n + 1 => sumF f n + f n
theorem sumF_bd {f : Nat -> Int} {B : Int} : ∀ n : Nat, (∀ i, i < n -> -B <= f i /\ f i <= B) -> -((n : Int) * B) <= sumF f n /\ sumF f n <= (n : Int) * B
 | 0, _ => by simp [sumF]
 | n + 1, h => by
   have ih := sumF_bd n (fun i hi => h i (by omega))
   have hn := h n (by omega)
   have e : ((n + 1 : Nat) : Int) * B = (n : Int) * B + B := by rw [Int.natCast_add, Int.add_mul]; simp
   simp only [sumF]; omega
theorem sumF_le {f g : Nat -> Int} : ∀ n : Nat, (∀ i, i < n -> f i <= g i) -> sumF f n <= sumF g n
 | 0, _ => by simp [sumF]
 | n + 1, h => by
   have := sumF_le n (fun i hi => h i (by omega))
   have := h n (by omega)
   simp only [sumF]; omega
theorem sumF_mul (f : Nat -> Int) (c : Int) : ∀ n : Nat, sumF (fun i => c * f i) n = c * sumF f n
 | 0 => by simp [sumF]
 | n + 1 => by simp only [sumF]; rw [sumF_mul f c n, Int.mul_add]
theorem sumF_add (f g : Nat -> Int) : ∀ n : Nat, sumF (fun i => f i + g i) n = sumF f n + sumF g n
 | 0 => by simp [sumF]
 | n + 1 => by simp only [sumF]; rw [sumF_add f g n]; omega
theorem sumF_swap (g : Nat -> Nat -> Int) (m : Nat) : ∀ n : Nat, sumF (fun i => sumF (g i) m) n = sumF (fun z => sumF (fun i => g i z) n) m
 | 0 => by
   simp only [sumF]
   induction m with
   | zero => rfl
   | succ m ih => simp only [sumF]; rw [<- ih]; rfl
 | n + 1 => by simp only [sumF]; rw [sumF_swap g m n, <- sumF_add]
theorem mul_bd {a b A B : Int} (h1 : 0 <= a) (h2 : a <= A) (h3 : -B <= b) (h4 : b <= B) (hB : 0 <= B) : -(A * B) <= a * b /\ a * b <= A * B := by
 have p1 := Int.mul_le_mul_of_nonneg_left h4 h1
 have p2 := Int.mul_le_mul_of_nonneg_left h3 h1
 have p3 := Int.mul_le_mul_of_nonneg_right h2 hB
 rw [Int.mul_neg] at p2
 omega
def wgE (l : List SStroke) (w : SGrindProof) : Int := match decide (w.Low.length = zones l) && decide (w.High.length = zones l) with
 | false => 10
 | true => match inR 1 10000000 w.Den with
   | false => 2
   | true => match w.Low.all (inR 0 1000000000) with
     | false => 2
     | true => match w.High.all (inR 0 1000000000) with
       | false => 2
       | true => 0
theorem firstNWWW (k : Nat) (hk : 100 < k) (b : Bool) (w : SGrindProof) (h1 : w.Low.length <= 43) (h2 : w.High.length <= 43) : ngrind_firstOf_c0_Lgrind_need_1_grind_within_1_grind_within_1_grind_within_1 k ((b, 10), ([w.Den], 1, 10000000), (w.Low, 0, 1000000000), (w.High, 0, 1000000000)) = some (match b with | false => 10 | true => match inR 1 10000000 w.Den with | false => 2 | true => match w.Low.all (inR 0 1000000000) with | false => 2 | true => match w.High.all (inR 0 1000000000) with | false => 2 | true => 0) := by
 unfold ngrind_firstOf_c0_Lgrind_need_1_grind_within_1_grind_within_1_grind_within_1
 simp only [need1, Option.bind_some, within1 k [w.Den] 1 10000000 (by simp) (by simp; omega), within1 k w.Low 0 1000000000 (by omega) (by omega), within1 k w.High 0 1000000000 (by omega) (by omega), List.all_cons, List.all_nil, Bool.and_true]
 cases b with
 | false => rfl
 | true =>
   cases inR 1 10000000 w.Den with
   | false => rfl
   | true =>
     cases w.Low.all (inR 0 1000000000) with
     | false => rfl
     | true => cases w.High.all (inR 0 1000000000) <;> rfl
theorem wg_p (k : Nat) (hk : 100 < k) (l : List SStroke) (hl : strE l = 0) (w : SGrindProof) (h1 : w.Low.length <= 43) (h2 : w.High.length <= 43) : ngrind_validWeights_1 k w.Low w.High w.Den l = some (wgE l w) := by
 obtain ⟨h0, _, _⟩ := strE_zero hl
 unfold ngrind_validWeights_1 ngrind_zonesOf ngrind_need ngrind_within wgE
 rw [if_pos (by omega), Option.bind_some, show ((0 : Int)).toNat = 0 from rfl]
 simp only [Option.bind_some, firstNWWW k hk _ w h1 h2]
 show (if (w.Low.length : Int) = (zones l : Int) then _ else _) = _
 by_cases c : w.Low.length = zones l
 ·rw [if_pos (by omega), decide_eq_true c, Bool.true_and, show decide ((w.High.length : Int) = (((l.getD 0 default).Wear).length : Int)) = decide (w.High.length = zones l) by congr 1; unfold zones; simp only [eq_iff_iff]; omega]
 ·rw [if_neg (by omega), decide_eq_false c, Bool.false_and]
theorem wg_l (k : Nat) (w : SGrindProof) (z : Nat) (hz : z <= 43) (h1 : z = w.Low.length) (h2 : z = w.High.length) : ∀ (n fuel i : Nat), z = i + n -> n < fuel -> nspeculumref04_WeightsErr_l0_0 k w (z : Int) fuel (i : Int) = some (sumB ((w.Low.drop i).all (inR 0 1000000000) && (w.High.drop i).all (inR 0 1000000000))) := by
 intro n
 induction n with
 | zero =>
   intro fuel i h hf
   obtain ⟨g, rfl⟩ : ∃ g, fuel = g + 1 := ⟨fuel - 1, by omega⟩
   rw [nspeculumref04_WeightsErr_l0_0.eq_2, if_neg (by omega), List.drop_eq_nil_of_le (by omega), List.drop_eq_nil_of_le (by omega)]; rfl
 | succ n ih =>
   intro fuel i h hf
   obtain ⟨g, rfl⟩ : ∃ g, fuel = g + 1 := ⟨fuel - 1, by omega⟩
   rw [nspeculumref04_WeightsErr_l0_0.eq_2, if_pos (by omega), if_pos (by omega), Int.toNat_natCast, wib, Option.bind_some, if_pos (show 0 <= (i : Int) /\ (i : Int) < (w.High.length : Int) by omega), wib, Option.bind_some, big_succ (by omega), ih g (i + 1) (by omega) (by omega), drop_get (y := w.Low) (i := i) (by omega) 0, drop_get (y := w.High) (i := i) (by omega) 0, List.all_cons, List.all_cons]
   cases inR 0 1000000000 (w.Low.getD i 0) with
   | false => rw [if_neg (by simp), Bool.false_and, Bool.false_and]; rfl
   | true =>
     rw [if_pos rfl, Bool.true_and]
     cases inR 0 1000000000 (w.High.getD i 0) with
     | true => rw [if_pos rfl, Bool.true_and]
     | false => rw [if_neg (by simp), Bool.false_and, Bool.and_false]; rfl
theorem wg_r (k : Nat) (hk : 100 < k) (l : List SStroke) (hl : strE l = 0) (w : SGrindProof) : nspeculumref04_WeightsErr k w (zones l : Int) = some (wgE l w) := by
 obtain ⟨h0, _, hg⟩ := strE_zero hl
 have hz2 : zones l <= 40 := (hg 0 h0).1.z2
 unfold nspeculumref04_WeightsErr wgE
 by_cases c1 : w.Low.length = zones l
 ·by_cases c2 : w.High.length = zones l
  ·have hm := wg_l k w (zones l) (by omega) c1.symm c2.symm (zones l) k 0 (by omega) (by omega)
   rw [List.drop_zero, List.drop_zero] at hm
   rw [if_pos (by omega), if_pos (by omega), decide_eq_true c1, decide_eq_true c2, wib, Option.bind_some]
   cases inR 1 10000000 w.Den with
   | false => rfl
   | true =>
     dsimp only [Bool.and_self]
     rw [if_pos rfl, show nspeculumref04_WeightsErr_l0_0 k w (zones l : Int) k 0 = _ from hm, Option.bind_some]
     cases w.Low.all (inR 0 1000000000) with
     | false => rfl
     | true => cases w.High.all (inR 0 1000000000) <;> rfl
  ·rw [if_pos (by omega), if_neg (by omega), decide_eq_false c2, Bool.and_false]
 ·rw [if_neg (by omega), decide_eq_false c1, Bool.false_and]
structure GoodW (l : List SStroke) (w : SGrindProof) : Prop where
 lo : w.Low.length = zones l
 hi : w.High.length = zones l
 den : 1 <= w.Den /\ w.Den <= 10000000
 los : ∀ i, i < zones l -> 0 <= w.Low.getD i 0 /\ w.Low.getD i 0 <= 1000000000
 his : ∀ i, i < zones l -> 0 <= w.High.getD i 0 /\ w.High.getD i 0 <= 1000000000
theorem wgE_zero {l : List SStroke} {w : SGrindProof} (h : wgE l w = 0) : GoodW l w := by
 unfold wgE at h
 cases h1 : (decide (w.Low.length = zones l) && decide (w.High.length = zones l)) with
 | false => rw [h1] at h; simp at h
 | true =>
   rw [h1] at h
   rw [Bool.and_eq_true] at h1
   have c1 := of_decide_eq_true h1.1
   have c2 := of_decide_eq_true h1.2
   cases h2 : inR 1 10000000 w.Den with
   | false => rw [h2] at h; simp at h
   | true =>
     rw [h2] at h
     cases h3 : w.Low.all (inR 0 1000000000) with
     | false => rw [h3] at h; simp at h
     | true =>
       rw [h3] at h
       cases h4 : w.High.all (inR 0 1000000000) with
       | false => rw [h4] at h; simp at h
       | true => exact ⟨c1, c2, inR_t.1 h2, fun i hi => inR_t.1 (List.all_eq_true.1 h3 _ (getD_mem2 (by omega))), fun i hi => inR_t.1 (List.all_eq_true.1 h4 _ (getD_mem2 (by omega)))⟩
def pullT (l : List SStroke) (w : SGrindProof) (i z : Nat) : Int := (l.getD i default).Wear.getD z 0 * (w.Low.getD z 0 - w.High.getD z 0)
def pullF (l : List SStroke) (w : SGrindProof) (i : Nat) : Int := sumF (pullT l w i) (zones l)
theorem str_bd {l : List SStroke} (hl : strE l = 0) {i z : Nat} (hi : i < l.length) (hz : z < zones l) : 0 <= (l.getD i default).Wear.getD z 0 /\ (l.getD i default).Wear.getD z 0 <= 100 := by
 obtain ⟨_, h12, hg⟩ := strE_zero hl
 have hgi := (hg i hi).1
 have hlen := hgi.len
 unfold zones at hz
 exact hgi.wear _ (getD_mem2 (by omega))
theorem pullT_bd {l : List SStroke} (hl : strE l = 0) {w : SGrindProof} (hw : GoodW l w) {i z : Nat} (hi : i < l.length) (hz : z < zones l) : -(100 * 1000000000) <= pullT l w i z /\ pullT l w i z <= 100 * 1000000000 := by
 have h1 := str_bd hl hi hz
 have h2 := hw.los z hz
 have h3 := hw.his z hz
 exact mul_bd h1.1 h1.2 (by omega) (by omega) (by omega)
theorem pullS_bd {l : List SStroke} (hl : strE l = 0) {w : SGrindProof} (hw : GoodW l w) {i : Nat} (hi : i < l.length) {n : Nat} (hn : n <= zones l) : -10000000000000 <= sumF (pullT l w i) n /\ sumF (pullT l w i) n <= 10000000000000 := by
 obtain ⟨h0, h12, hg⟩ := strE_zero hl
 have hz2 : zones l <= 40 := (hg 0 h0).1.z2
 have h := sumF_bd (f := pullT l w i) (B := 100 * 1000000000) n (fun z hz => pullT_bd hl hw hi (show z < zones l by omega))
 omega
theorem pull_step {l : List SStroke} (hl : strE l = 0) {w : SGrindProof} (hw : GoodW l w) {i z : Nat} (hi : i < l.length) (hz : z < zones l) : w64 (sumF (pullT l w i) z + w64 ((l.getD i default).Wear.getD z 0 * w64 (w.Low.getD z 0 - w.High.getD z 0))) = sumF (pullT l w i) (z + 1) := by
 have h1 := pullT_bd hl hw hi hz
 have h2 := hw.los z hz
 have h3 := hw.his z hz
 have h4 := pullS_bd hl hw hi (n := z) (by omega)
 rw [w64_id (n := w.Low.getD z 0 - w.High.getD z 0) (by omega) (by omega)]
 show w64 (sumF (pullT l w i) z + w64 (pullT l w i z)) = _
 rw [w64_id (n := pullT l w i z) (by omega) (by omega), w64_id (by omega) (by omega)]; rfl
theorem pull_p (k : Nat) (l : List SStroke) (hl : strE l = 0) (w : SGrindProof) (hw : GoodW l w) (most : Int) (i : Nat) (hi : i < l.length) : ∀ (n fuel z : Nat), zones l = z + n -> n < fuel ->
 ngrind_pullsAtMost_1_l0_0 k (i : Int) l w.Low w.High w.Den most fuel (z : Int) (sumF (pullT l w i) z) = some (pullF l w i) := by
 obtain ⟨_, h12, hg⟩ := strE_zero hl
 have hlen := (hg i hi).1.len
 have hlo := hw.lo
 have hhi := hw.hi
 have hz2 := (hg i hi).1.z2
 intro n
 induction n with
 | zero =>
   intro fuel z h hf
   obtain ⟨g, rfl⟩ : ∃ g, fuel = g + 1 := ⟨fuel - 1, by omega⟩
   have ez : z = zones l := by omega
   subst ez
   rw [ngrind_pullsAtMost_1_l0_0.eq_2, Int.toNat_natCast, if_neg (by unfold zones; omega)]; rfl
 | succ n ih =>
   intro fuel z h hf
   obtain ⟨g, rfl⟩ : ∃ g, fuel = g + 1 := ⟨fuel - 1, by omega⟩
   have hzl : z < (l.getD i default).Wear.length := by unfold zones at h; omega
   rw [ngrind_pullsAtMost_1_l0_0.eq_2]
   simp only [Int.toNat_natCast]
   rw [if_pos (by omega), if_pos (by omega), if_pos (by omega), if_pos (by omega), big_succ (by omega), pull_step hl hw hi (by omega)]
   exact ih g (z + 1) (by omega) (by omega)
theorem pull_r1 (k : Nat) (l : List SStroke) (hl : strE l = 0) (w : SGrindProof) (hw : GoodW l w) (most : Int) (i : Nat) (hi : i < l.length) : ∀ (n fuel z : Nat), zones l = z + n -> n < fuel ->
 nspeculumref04_pull_l1_0 k l w most (i : Int) fuel (sumF (pullT l w i) z) (z : Int) = some (pullF l w i) := by
 obtain ⟨_, h12, hg⟩ := strE_zero hl
 have hlen := (hg i hi).1.len
 have hlo := hw.lo
 have hhi := hw.hi
 have hz2 := (hg i hi).1.z2
 intro n
 induction n with
 | zero =>
   intro fuel z h hf
   obtain ⟨g, rfl⟩ : ∃ g, fuel = g + 1 := ⟨fuel - 1, by omega⟩
   have ez : z = zones l := by omega
   subst ez
   rw [nspeculumref04_pull_l1_0.eq_2, if_neg (by omega)]; rfl
 | succ n ih =>
   intro fuel z h hf
   obtain ⟨g, rfl⟩ : ∃ g, fuel = g + 1 := ⟨fuel - 1, by omega⟩
   have hzl : z < (l.getD i default).Wear.length := by unfold zones at h; omega
   rw [nspeculumref04_pull_l1_0.eq_2]
   simp only [Int.toNat_natCast]
   rw [if_pos (by omega), if_pos (by omega), if_pos (by omega), if_pos (by omega), if_pos (by omega), big_succ (by omega), pull_step hl hw hi (by omega)]
   exact ih g (z + 1) (by omega) (by omega)
def pullB (l : List SStroke) (w : SGrindProof) (most : Int) : Nat -> Nat -> Bool
 | 0, _ => true
 | n + 1, i => decide (pullF l w i <= most) && pullB l w most n (i + 1)
theorem pullB_iff (l : List SStroke) (w : SGrindProof) (most : Int) : ∀ n i : Nat, pullB l w most n i = true ↔ ∀ j, i <= j -> j < i + n -> pullF l w j <= most
 | 0, i => ⟨fun _ j h1 h2 => by omega, fun _ => rfl⟩
 | n + 1, i => by
   simp only [pullB]
   rw [Bool.and_eq_true, pullB_iff l w most n (i + 1), decide_eq_true_eq]
   constructor
   ·rintro ⟨h1, h2⟩ j h3 h4
    rcases Nat.eq_or_lt_of_le h3 with rfl | h5
    ·exact h1
    ·exact h2 j (by omega) (by omega)
   ·intro h
    exact ⟨h i (by omega) (by omega), fun j h1 h2 => h j (by omega) (by omega)⟩
theorem each_p (k : Nat) (hk : 100 < k) (l : List SStroke) (hl : strE l = 0) (w : SGrindProof) (hw : GoodW l w) (most : Int) : ∀ (n fuel i : Nat), l.length = i + n -> n < fuel ->
 ngrind_each_1_k_grind_pullsAtMost_1_l0_0 k (l.length : Int) (l, w.Low, w.High, w.Den, most) fuel (i : Int) = some (match pullB l w most n i with | true => .inr () | false => .inl 22) := by
 obtain ⟨h0, h12, hg⟩ := strE_zero hl
 have hz2 : zones l <= 40 := (hg 0 h0).1.z2
 intro n
 induction n with
 | zero =>
   intro fuel i h hf
   obtain ⟨g, rfl⟩ : ∃ g, fuel = g + 1 := ⟨fuel - 1, by omega⟩
   rw [ngrind_each_1_k_grind_pullsAtMost_1_l0_0.eq_2, if_neg (by omega)]; rfl
 | succ n ih =>
   intro fuel i h hf
   obtain ⟨g, rfl⟩ : ∃ g, fuel = g + 1 := ⟨fuel - 1, by omega⟩
   have hp := pull_p k l hl w hw most i (by omega) (zones l) k 0 (by omega) (by omega)
   rw [ngrind_each_1_k_grind_pullsAtMost_1_l0_0.eq_2, if_pos (by omega)]
   unfold ngrind_pullsAtMost_1
   dsimp only
   rw [if_pos (by omega), show ngrind_pullsAtMost_1_l0_0 k (i : Int) l w.Low w.High w.Den most k 0 0 = _ from hp, Option.bind_some, big_succ (by omega), ih g (i + 1) (by omega) (by omega)]
   simp only [pullB]
   by_cases c : pullF l w i <= most
   ·rw [if_neg (by omega), decide_eq_true c, Bool.true_and, Option.bind_some, if_pos rfl]
   ·rw [if_pos (by omega), decide_eq_false c, Bool.false_and, Option.bind_some, if_neg (by omega)]
theorem pulls_p (k : Nat) (hk : 100 < k) (l : List SStroke) (hl : strE l = 0) (w : SGrindProof) (hw : GoodW l w) (most : Int) : ngrind_each_1_k_grind_pullsAtMost_1 k (l.length : Int) (l, w.Low, w.High, w.Den, most) = some (match pullB l w most l.length 0 with | true => 0 | false => 22) := by
 obtain ⟨h0, h12, hg⟩ := strE_zero hl
 have h := each_p k hk l hl w hw most l.length k 0 (by omega) (by omega)
 unfold ngrind_each_1_k_grind_pullsAtMost_1
 rw [show ngrind_each_1_k_grind_pullsAtMost_1_l0_0 k (l.length : Int) (l, w.Low, w.High, w.Den, most) k 0 = _ from h, Option.bind_some]
 cases pullB l w most l.length 0 <;> rfl
theorem pull_r0 (k : Nat) (hk : 100 < k) (l : List SStroke) (hl : strE l = 0) (w : SGrindProof) (hw : GoodW l w) : ∀ (n fuel i : Nat) (m : Int), 1 <= i -> l.length = i + n -> n < fuel ->
 ∃ r, nspeculumref04_pull_l0_0 k l w fuel m (i : Int) = some r /\ ∀ D, r <= D ↔ (m <= D /\ pullB l w D n i = true) := by
 obtain ⟨h0, h12, hg⟩ := strE_zero hl
 have hz2 : zones l <= 40 := (hg 0 h0).1.z2
 intro n
 induction n with
 | zero =>
   intro fuel i m _ h hf
   obtain ⟨g, rfl⟩ : ∃ g, fuel = g + 1 := ⟨fuel - 1, by omega⟩
   exact ⟨m, by rw [nspeculumref04_pull_l0_0.eq_2, if_neg (by omega)], fun D => by simp [pullB]⟩
 | succ n ih =>
   intro fuel i m h1 h hf
   obtain ⟨g, rfl⟩ : ∃ g, fuel = g + 1 := ⟨fuel - 1, by omega⟩
   have hp := pull_r1 k l hl w hw m i (by omega) (zones l) k 0 (by omega) (by omega)
   rw [nspeculumref04_pull_l0_0.eq_2, if_pos (by omega), show nspeculumref04_pull_l1_0 k l w m (i : Int) k 0 0 = _ from hp, Option.bind_some, if_neg (by omega), big_succ (by omega)]
   by_cases c : m < pullF l w i
   ·obtain ⟨r, r1, r2⟩ := ih g (i + 1) (pullF l w i) (by omega) (by omega) (by omega)
    refine ⟨r, by rw [if_pos c, r1], fun D => ?_⟩
    rw [r2]; simp only [pullB]
    rw [Bool.and_eq_true, decide_eq_true_eq]
    constructor
    ·rintro ⟨a, b⟩; exact ⟨by omega, a, b⟩
    ·rintro ⟨_, a, b⟩; exact ⟨a, b⟩
   ·obtain ⟨r, r1, r2⟩ := ih g (i + 1) m (by omega) (by omega) (by omega)
    refine ⟨r, by rw [if_neg c, r1], fun D => ?_⟩
    rw [r2]; simp only [pullB]
    rw [Bool.and_eq_true, decide_eq_true_eq]
    constructor
    ·rintro ⟨a, b⟩; exact ⟨a, by omega, b⟩
    ·rintro ⟨a, _, b⟩; exact ⟨a, b⟩
theorem pull_r (k : Nat) (hk : 100 < k) (l : List SStroke) (hl : strE l = 0) (w : SGrindProof) (hw : GoodW l w) : ∃ r, nspeculumref04_pull k l w = some r /\ ∀ D, r <= D ↔ pullB l w D l.length 0 = true := by
 obtain ⟨h0, h12, hg⟩ := strE_zero hl
 have hz2 : zones l <= 40 := (hg 0 h0).1.z2
 obtain ⟨k', rfl⟩ : ∃ g, k = g + 1 := ⟨k - 1, by omega⟩
 obtain ⟨n, hn⟩ : ∃ n, l.length = n + 1 := ⟨l.length - 1, by omega⟩
 have hp := pull_r1 (k' + 1) l hl w hw 0 0 (by omega) (zones l) (k' + 1) 0 (by omega) (by omega)
 obtain ⟨r, r1, r2⟩ := pull_r0 (k' + 1) hk l hl w hw n k' 1 (pullF l w 0) (by omega) (by omega) (by omega)
 unfold nspeculumref04_pull
 refine ⟨r, ?_, fun D => ?_⟩
 ·rw [nspeculumref04_pull_l0_0.eq_2, if_pos (by omega), show nspeculumref04_pull_l1_0 (k' + 1) l w 0 0 (k' + 1) 0 0 = _ from hp, Option.bind_some, if_pos rfl, show w64 ((0 : Int) + 1) = ((1 : Nat) : Int) from rfl, r1]; rfl
 ·rw [r2, hn]; simp only [pullB]
  rw [Bool.and_eq_true, decide_eq_true_eq]
def bndT (d : SGrindDemand) (w : SGrindProof) (z : Nat) : Int := w.Low.getD z 0 * d.Low.getD z 0 - w.High.getD z 0 * d.High.getD z 0
def bndF (l : List SStroke) (d : SGrindDemand) (w : SGrindProof) : Int := sumF (bndT d w) (zones l)
theorem bnd_bd {l : List SStroke} (hl : strE l = 0) {d : SGrindDemand} (hd : demE l d = 0) {w : SGrindProof} (hw : GoodW l w) {z : Nat} (hz : z < zones l) : (0 <= w.Low.getD z 0 * d.Low.getD z 0 /\ w.Low.getD z 0 * d.Low.getD z 0 <= 1000000000 * 10000) /\ (0 <= w.High.getD z 0 * d.High.getD z 0 /\ w.High.getD z 0 * d.High.getD z 0 <= 1000000000 * 10000) := by
 obtain ⟨d1, d2, d3⟩ := demE_zero hd
 have h1 := d3 z hz
 have h2 := hw.los z hz
 have h3 := hw.his z hz
 exact ⟨⟨Int.mul_nonneg (by omega) (by omega), Int.mul_le_mul (by omega) (by omega) (by omega) (by omega)⟩, ⟨Int.mul_nonneg (by omega) (by omega), Int.mul_le_mul (by omega) (by omega) (by omega) (by omega)⟩⟩
theorem bndS_bd {l : List SStroke} (hl : strE l = 0) {d : SGrindDemand} (hd : demE l d = 0) {w : SGrindProof} (hw : GoodW l w) {n : Nat} (hn : n <= zones l) : -400000000000000 <= sumF (bndT d w) n /\ sumF (bndT d w) n <= 400000000000000 := by
 obtain ⟨h0, h12, hg⟩ := strE_zero hl
 have hz2 : zones l <= 40 := (hg 0 h0).1.z2
 have h := sumF_bd (f := bndT d w) (B := 10000000000000) n (fun z hz => by have := bnd_bd hl hd hw (show z < zones l by omega); unfold bndT; omega)
 omega
theorem bnd_both (k : Nat) (l : List SStroke) (hl : strE l = 0) (d : SGrindDemand) (hd : demE l d = 0) (w : SGrindProof) (hw : GoodW l w) : ∀ (n fuel z : Nat), zones l = z + n -> n < fuel ->
 ngrind_boundTimesDen_l0_0 k d w fuel (z : Int) (sumF (bndT d w) z) = some (bndF l d w) /\ nspeculumref04_Bound_l0_0 k d w fuel (sumF (bndT d w) z) (z : Int) = some (bndF l d w) := by
 obtain ⟨h0, h12, hg⟩ := strE_zero hl
 have hz2 : zones l <= 40 := (hg 0 h0).1.z2
 obtain ⟨d1, d2, d3⟩ := demE_zero hd
 have hlo := hw.lo
 have hhi := hw.hi
 intro n
 induction n with
 | zero =>
   intro fuel z h hf
   obtain ⟨g, rfl⟩ : ∃ g, fuel = g + 1 := ⟨fuel - 1, by omega⟩
   have ez : z = zones l := by omega
   subst ez
   exact ⟨by rw [ngrind_boundTimesDen_l0_0.eq_2, if_neg (by omega)]; rfl, by rw [nspeculumref04_Bound_l0_0.eq_2, if_neg (by omega)]; rfl⟩
 | succ n ih =>
   intro fuel z h hf
   obtain ⟨g, rfl⟩ : ∃ g, fuel = g + 1 := ⟨fuel - 1, by omega⟩
   obtain ⟨i1, i2⟩ := ih g (z + 1) (by omega) (by omega)
   obtain ⟨b1, b2⟩ := bnd_bd hl hd hw (show z < zones l by omega)
   have b3 := bndS_bd hl hd hw (n := z) (by omega)
   have e : sumF (bndT d w) (z + 1) = sumF (bndT d w) z + (w.Low.getD z 0 * d.Low.getD z 0 - w.High.getD z 0 * d.High.getD z 0) := rfl
   rw [e] at i1 i2
   constructor
   ·rw [ngrind_boundTimesDen_l0_0.eq_2, if_pos (by omega), if_pos (by omega), if_pos (by omega), if_pos (by omega), if_pos (by omega), Int.toNat_natCast, big_succ (by omega)]
    generalize w.Low.getD z 0 * d.Low.getD z 0 = a at *
    generalize w.High.getD z 0 * d.High.getD z 0 = b at *
    rw [w64_id (n := a) (by omega) (by omega), w64_id (n := b) (by omega) (by omega), w64_id (n := a - b) (by omega) (by omega), w64_id (n := sumF (bndT d w) z + (a - b)) (by omega) (by omega)]
    exact i1
   ·rw [nspeculumref04_Bound_l0_0.eq_2, if_pos (by omega), if_pos (by omega), if_pos (by omega), if_pos (by omega), if_pos (by omega), Int.toNat_natCast, big_succ (by omega)]
    generalize w.Low.getD z 0 * d.Low.getD z 0 = a at *
    generalize w.High.getD z 0 * d.High.getD z 0 = b at *
    rw [w64_id (n := a) (by omega) (by omega), w64_id (n := b) (by omega) (by omega), w64_id (n := sumF (bndT d w) z + a) (by omega) (by omega), w64_id (n := sumF (bndT d w) z + a - b) (by omega) (by omega), show sumF (bndT d w) z + a - b = sumF (bndT d w) z + (a - b) by omega]
    exact i2
theorem bound_both (k : Nat) (hk : 100 < k) (l : List SStroke) (hl : strE l = 0) (d : SGrindDemand) (hd : demE l d = 0) (w : SGrindProof) (hw : GoodW l w) : ngrind_boundTimesDen k d w = some (bndF l d w) /\ nspeculumref04_Bound k d w = some (bndF l d w) := by
 obtain ⟨h0, h12, hg⟩ := strE_zero hl
 have hz2 : zones l <= 40 := (hg 0 h0).1.z2
 obtain ⟨h1, h2⟩ := bnd_both k l hl d hd w hw (zones l) k 0 (by omega) (by omega)
 unfold ngrind_boundTimesDen nspeculumref04_Bound
 exact ⟨by rw [show ngrind_boundTimesDen_l0_0 k d w k 0 0 = _ from h1]; rfl, by rw [show nspeculumref04_Bound_l0_0 k d w k 0 0 = _ from h2]; rfl⟩
def prR (l : List SStroke) (d : SGrindDemand) (w : SGrindProof) : Int × Int := match pullB l w w.Den l.length 0 with
 | true => (bndF l d w, 0)
 | false => (0, 22)
theorem checkProof_r (k : Nat) (hk : 100 < k) (l : List SStroke) (hl : strE l = 0) (d : SGrindDemand) (hd : demE l d = 0) (w : SGrindProof) : nspeculumref04_CheckProof k l d w = some (if wgE l w = 0 then prR l d w else (0, wgE l w)) := by
 obtain ⟨d1, _, _⟩ := demE_zero hd
 unfold nspeculumref04_CheckProof
 rw [d1, wg_r k hk l hl w, Option.bind_some]
 by_cases h : wgE l w = 0
 ·have hw := wgE_zero h
  obtain ⟨r, r1, r2⟩ := pull_r k hk l hl w hw
  have r3 := r2 w.Den
  rw [if_pos h, if_pos h, r1, Option.bind_some, (bound_both k hk l hl d hd w hw).2]
  unfold prR
  cases hp : pullB l w w.Den l.length 0 with
  | true => rw [if_neg (by have := r3.2 hp; omega)]; rfl
  | false => rw [if_pos (by rw [hp] at r3; simp at r3; omega)]
 ·rw [if_neg h, if_neg h]
theorem checkProof_p (k : Nat) (hk : 100 < k) (hk2 : k <= 100000000000000000000) (l : List SStroke) (hl15 : l.length <= 15) (hw : ∀ i, i < l.length -> (l.getD i default).Wear.length <= 43) (d : SGrindDemand) (w : SGrindProof) (h1 : w.Low.length <= 43) (h2 : w.High.length <= 43) : ngrind_CheckProof k l d w = some (if strE l = 0 then (if demE l d = 0 then (if wgE l w = 0 then prR l d w else (0, wgE l w)) else (0, demE l d)) else (0, strE l)) := by
 unfold ngrind_CheckProof ngrind_validStrokes ngrind_validDemand ngrind_validWeights ngrind_pullsAtMost ngrind_each_c1_grind_pullsAtMost_1 ngrind_firstOf_c0_Lgrind_validStrokes_1_grind_validDemand_1_grind_validWeights_1_grind_each_1_grind_pullsAtMost_1
 simp only [Option.bind_some]
 rw [strokes1 k hk hk2 l hl15 hw, Option.bind_some]
 by_cases hl : strE l = 0
 ·rw [if_pos hl, if_pos hl, dem_p k hk l hl, Option.bind_some]
  by_cases hd : demE l d = 0
  ·rw [if_pos hd, if_pos hd, wg_p k hk l hl w h1 h2, Option.bind_some]
   by_cases h : wgE l w = 0
   ·have gw := wgE_zero h
    rw [if_pos h, if_pos h, pulls_p k hk l hl w gw, Option.bind_some, (bound_both k hk l hl d hd w gw).1]
    unfold prR
    cases pullB l w w.Den l.length 0 <;> rfl
   ·rw [if_neg h, if_neg h, Option.bind_some, if_neg h]
  ·rw [if_neg hd, if_neg hd, Option.bind_some, if_neg hd]
 ·rw [if_neg hl, if_neg hl, Option.bind_some, if_neg hl]
theorem weights_copy (k : Nat) (w : SGrindProof) (h1 : w.Low.length <= 43) (h2 : w.High.length <= 43) : nspeculumlaw04_weights k w = some w := by
 unfold nspeculumlaw04_weights
 rw [ints_copy k _ (by omega), Option.bind_some, ints_copy k _ (by omega), Option.bind_some]
theorem brief_any (k : Nat) (x : SGrindAnswer) : ∃ b, nspeculumlaw04_brief k x = some b /\ (b = true -> x.Plan.Minutes.length <= 15 /\ x.Weights.Low.length <= 43 /\ x.Weights.High.length <= 43) := by
 unfold nspeculumlaw04_brief
 by_cases c : (x.Plan.Minutes.length : Int) <= 15
 ·rw [if_pos c]
  by_cases c2 : (x.Weights.Low.length : Int) <= 43
  ·rw [if_pos c2]; exact ⟨_, rfl, fun h => by have := of_decide_eq_true h; omega⟩
  ·rw [if_neg c2]; exact ⟨_, rfl, fun h => by cases h⟩
 ·rw [if_neg c]; exact ⟨_, rfl, fun h => by cases h⟩
end Go.Proofs.Ytbaegoglpijnnab.Vg
