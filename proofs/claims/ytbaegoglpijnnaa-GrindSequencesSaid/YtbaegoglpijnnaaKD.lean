/- GrindSequences, plain. -/
import Derived.Test.YtbaegoglpijnnaaK3
import Derived.Test.YtbaegoglpijnnaaKB
set_option linter.unusedVariables false
set_option linter.unusedSimpArgs false
namespace Go.Proofs.Ytbaegoglpijnnaa.Vg
open Go Go.Proofs.Ytbaegoglpijnnaa.Ev Go.Proofs.Ytbaegoglpijnnaa.Vv
theorem div_one {n b : Int} (hb : 1 ≤ b) : ∃ q r, n = b * q + r ∧ 0 ≤ r ∧ r < b ∧ n / b = q ∧ n % b = r := ⟨n / b, n % b, (Int.mul_ediv_add_emod n b).symm, Int.emod_nonneg _ (by omega), Int.emod_lt_of_pos _ (by omega), rfl, rfl⟩
theorem ceil_eq {n b : Int} (hb : 1 ≤ b) : (n + b - 1) / b = if n % b = 0 then n / b else n / b + 1 := by
  obtain ⟨q, r, h1, h2, h3, h4, h5⟩ := div_one (n := n) hb
  rw [h4, h5]
  by_cases h : r = 0
  · rw [if_pos h]
    rw [show n + b - 1 = (b - 1) + b * q by omega, Int.add_mul_ediv_left _ _ (by omega), Int.ediv_eq_zero_of_lt (by omega) (by omega)]; omega
  · rw [if_neg h]
    rw [show n + b - 1 = (r - 1) + b * (q + 1) by rw [Int.mul_add]; omega, Int.add_mul_ediv_left _ _ (by omega), Int.ediv_eq_zero_of_lt (by omega) (by omega)]; omega
theorem div_bd {n b : Int} (hb : 1 ≤ b) (hn : 0 ≤ n) : 0 ≤ n / b ∧ n / b ≤ n := ⟨Int.ediv_nonneg hn (by omega), Int.ediv_le_self _ hn⟩
theorem up_p (k : Nat) {n b : Int} (hn : 0 ≤ n ∧ n ≤ 1000000) (hb : 1 ≤ b ∧ b ≤ 100000) : ngrind_up k n b = some ((n + b - 1) / b) := by
  unfold ngrind_up
  have h := div_bd (n := n + b - 1) hb.1 (by omega)
  rw [if_pos (by omega), w64_id (n := n + b) (by omega) (by omega), w64_id (n := n + b - 1) (by omega) (by omega), Int.tdiv_eq_ediv_of_nonneg (by omega), w64_id (by omega) (by omega)]
theorem ceil_r (k : Nat) {n b : Int} (hn : 0 ≤ n ∧ n ≤ 1000000) (hb : 1 ≤ b ∧ b ≤ 100000) : nspeculumbase_Ceil k n b = some ((n + b - 1) / b) := by
  unfold nspeculumbase_Ceil nspeculumbase_Floor
  have h := div_bd (n := n) hb.1 hn.1
  have h2 := Int.emod_nonneg n (show b ≠ 0 by omega)
  have h3 := Int.emod_lt_of_pos n (show 0 < b by omega)
  rw [w64_id (n := 0 - n) (by omega) (by omega), show (0 : Int) - n = -n by omega, Int.neg_tmod, Int.neg_tdiv, Int.tdiv_eq_ediv_of_nonneg hn.1, Int.tmod_eq_emod_of_nonneg hn.1, if_pos (by omega), ceil_eq hb.1]
  by_cases c : n % b = 0
  · rw [if_neg (by omega), if_pos c, w64_id (by omega) (by omega), Option.bind_some, w64_id (by omega) (by omega)]; congr 1; omega
  · rw [if_pos (by omega), if_neg c, w64_id (n := -(n / b)) (by omega) (by omega), w64_id (n := -(n / b) - 1) (by omega) (by omega), Option.bind_some, w64_id (by omega) (by omega)]; congr 1; omega
theorem gritB_t {g : SGrit} (h : gritB g = true) : (0 ≤ g.Damage ∧ g.Damage ≤ 1000000) ∧ (1 ≤ g.Rate ∧ g.Rate ≤ 100000) := by
  unfold gritB at h
  rw [Bool.and_eq_true] at h
  exact ⟨inR_t.1 h.1, inR_t.1 h.2⟩
/-- the steps from i on: minutes and depth, or the error. -/
def seqS (l : List SGrit) : List Int → Int → Int → Sum Int (Int × Int)
  | [], m, d => .inr (m, d)
  | x :: xs, m, d => match inR 0 ((l.length : Int) - 1) x with
    | false => .inl 6
    | true => match decide (d ≤ (l.getD x.toNat default).Damage) with
      | true => .inl 9
      | false => seqS l xs (w64 (m + (d + (l.getD x.toNat default).Rate - 1) / (l.getD x.toNat default).Rate)) (l.getD x.toNat default).Damage
theorem seq_l (k : Nat) (l : List SGrit) (h0 : gritE l = 0) (xs : List Int) (hx : xs.length ≤ 15) (a : A38) : ∀ (d fuel i : Nat) (m dep : Int), xs.length = i + d → d < fuel → 0 ≤ dep ∧ dep ≤ 1000000 →
    ngrind_CheckSequence_l0_0 k l xs a fuel dep (i : Int) m = some (seqS l (xs.drop i) m dep) ∧ nspeculumref04_CheckSequence_l0_0 k l xs a fuel (i : Int) m dep = some (seqS l (xs.drop i) m dep) := by
  obtain ⟨hl, hg⟩ := gritE_zero h0
  intro d
  induction d with
  | zero =>
    intro fuel i m dep h hf hd
    obtain ⟨g, rfl⟩ : ∃ g, fuel = g + 1 := ⟨fuel - 1, by omega⟩
    rw [List.drop_eq_nil_of_le (by omega)]
    exact ⟨by rw [ngrind_CheckSequence_l0_0.eq_2, if_neg (by omega)]; rfl, by rw [nspeculumref04_CheckSequence_l0_0.eq_2, if_neg (by omega)]; rfl⟩
  | succ d ih =>
    intro fuel i m dep h hf hd
    obtain ⟨g, rfl⟩ : ∃ g, fuel = g + 1 := ⟨fuel - 1, by omega⟩
    have ew : w64 ((l.length : Int) - 1) = (l.length : Int) - 1 := w64_id (by omega) (by omega)
    rw [drop_get (y := xs) (i := i) (by omega) 0]
    simp only [seqS]
    cases c1 : inR 0 ((l.length : Int) - 1) (xs.getD i 0) with
    | false =>
      constructor
      · rw [ngrind_CheckSequence_l0_0.eq_2, if_pos (by omega), if_pos (by omega), Int.toNat_natCast, ew, isw, Option.bind_some, c1]; rfl
      · rw [nspeculumref04_CheckSequence_l0_0.eq_2, if_pos (by omega), if_pos (by omega), Int.toNat_natCast, ew, wib, Option.bind_some, c1]; rfl
    | true =>
      have g1 := inR_t.1 c1
      have hb := gritB_t (hg (xs.getD i 0).toNat (by omega))
      have up := up_p k hd hb.2
      have ce := ceil_r k hd hb.2
      obtain ⟨i1, i2⟩ := ih g (i + 1) (w64 (m + (dep + (l.getD (xs.getD i 0).toNat default).Rate - 1) / (l.getD (xs.getD i 0).toNat default).Rate)) (l.getD (xs.getD i 0).toNat default).Damage (by omega) (by omega) hb.1
      by_cases c2 : dep ≤ (l.getD (xs.getD i 0).toNat default).Damage
      · rw [decide_eq_true c2]
        constructor
        · rw [ngrind_CheckSequence_l0_0.eq_2, if_pos (by omega), if_pos (by omega), Int.toNat_natCast, ew, isw, Option.bind_some, c1, if_pos rfl, if_pos (by omega), if_pos c2]
        · rw [nspeculumref04_CheckSequence_l0_0.eq_2, if_pos (by omega), if_pos (by omega), Int.toNat_natCast, ew, wib, Option.bind_some, c1, if_pos rfl, if_pos (by omega), if_pos c2]
      · rw [decide_eq_false c2]
        constructor
        · rw [ngrind_CheckSequence_l0_0.eq_2, if_pos (by omega), if_pos (by omega), Int.toNat_natCast, ew, isw, Option.bind_some, c1, if_pos rfl, if_pos (by omega), if_neg c2, up, Option.bind_some, w64_succ (by omega)]
          exact i1
        · rw [nspeculumref04_CheckSequence_l0_0.eq_2, if_pos (by omega), if_pos (by omega), Int.toNat_natCast, ew, wib, Option.bind_some, c1, if_pos rfl, if_pos (by omega), if_neg c2, ce, Option.bind_some, w64_succ (by omega)]
          exact i2
def seqE (l : List SGrit) (xs : List Int) (a : A38) : Int × Int := match inR 0 1000000 a.e0 && inR 0 1000000 a.e1 with
  | false => (0, 2)
  | true => match decide (xs.length ≤ 12) with
    | false => (0, 8)
    | true => match seqS l xs 0 a.e0 with
      | .inl e => (0, e)
      | .inr (m, d) => if a.e1 < d then (0, 14) else (m, 0)
theorem law_seq (k : Nat) (hk : k = 100000000000000000000) (l : List SGrit) (hl : l.length ≤ 9223372036854775807) (xs : List Int) (a : A38) : nspeculumlaw04_GrindSequences k l xs a = some true := by
  unfold nspeculumlaw04_GrindSequences
  obtain ⟨b, hb, hb2⟩ := gritty_any k l hl (by omega)
  rw [show nawake k = some true from rfl, Option.bind_some, if_pos rfl, hb, Option.bind_some]
  cases b with
  | false => rfl
  | true =>
    have h15 := hb2 rfl
    have e1 := checkGrits_p k (by omega) (by omega) l (by omega) (by omega)
    have e2 := checkGrits_r k (by omega) l (by omega) (by omega)
    rw [if_pos rfl]
    by_cases c : (15 : Int) < (xs.length : Int)
    · rw [if_pos c]
    · have hc : nspeculumbase_CopyInts k xs = some xs := by unfold nspeculumbase_CopyInts; rw [if_pos (by simp; omega)]; rfl
      have hd : decide ((xs.length : Int) ≤ 12) = decide (xs.length ≤ 12) := by congr 1; simp only [eq_iff_iff]; omega
      have pr : ngrind_CheckSequence k l xs a = some (if gritE l = 0 then seqE l xs a else (0, gritE l)) := by
        unfold ngrind_CheckSequence ngrind_validGrits ngrind_validGrits_1 ngrind_need ngrind_within seqE
        simp only [Option.bind_some]
        rw [e1, Option.bind_some, Option.bind_some]
        by_cases c0 : gritE l = 0
        · rw [if_pos c0, if_pos c0, within1 k _ _ _ (by simp) (by simp; omega), Option.bind_some, hd]
          simp only [List.all_cons, List.all_nil, Bool.and_true]
          cases c1 : (inR 0 1000000 a.e0 && inR 0 1000000 a.e1) with
          | false => rfl
          | true =>
            rw [Bool.and_eq_true] at c1
            dsimp only
            rw [if_pos rfl, need1, Option.bind_some]
            cases decide (xs.length ≤ 12) with
            | false => rfl
            | true =>
              dsimp only
              obtain ⟨p1, _⟩ := seq_l k l c0 xs (by omega) a xs.length k 0 0 a.e0 (by omega) (by omega) (inR_t.1 c1.1)
              rw [List.drop_zero] at p1
              rw [if_pos rfl, show ngrind_CheckSequence_l0_0 k l xs a k a.e0 0 0 = _ from p1, Option.bind_some]
              cases seqS l xs 0 a.e0 with
              | inl e => rfl
              | inr x =>
                dsimp only
                by_cases c3 : a.e1 < x.2
                · rw [if_pos c3, if_pos c3]
                · rw [if_neg c3, if_neg c3]
        · rw [if_neg c0, if_neg c0]
      rw [if_neg c, grits_copy k l h15, Option.bind_some, hc, Option.bind_some, pr, Option.bind_some, e2, Option.bind_some]
      by_cases c0 : gritE l = 0
      · have rr : nspeculumref04_CheckSequence k l xs a = some (seqE l xs a) := by
          unfold nspeculumref04_CheckSequence nspeculumref04_IsDepth seqE
          rw [wib, Option.bind_some, Option.bind_some, wib, Option.bind_some, Option.bind_some]
          cases c1 : inR 0 1000000 a.e0 with
          | false => rfl
          | true =>
            cases c2 : inR 0 1000000 a.e1 with
            | false => rfl
            | true =>
              show _ = some (match decide (xs.length ≤ 12) with | false => (0, 8) | true => match seqS l xs 0 a.e0 with | .inl e => (0, e) | .inr (m, d) => if a.e1 < d then (0, 14) else (m, 0))
              by_cases c3 : xs.length ≤ 12
              · obtain ⟨_, p2⟩ := seq_l k l c0 xs (by omega) a xs.length k 0 0 a.e0 (by omega) (by omega) (inR_t.1 c1)
                rw [List.drop_zero] at p2
                rw [if_pos rfl, if_pos rfl, decide_eq_true c3, if_neg (by omega), show nspeculumref04_CheckSequence_l0_0 k l xs a k 0 0 a.e0 = _ from p2, Option.bind_some]
                cases seqS l xs 0 a.e0 with
                | inl e => rfl
                | inr x =>
                  dsimp only
                  by_cases c4 : a.e1 < x.2
                  · rw [if_pos c4, if_pos c4]
                  · rw [if_neg c4, if_neg c4]
              · rw [if_pos rfl, if_pos rfl, decide_eq_false c3, if_pos (by omega)]
        rw [if_pos c0, if_pos c0, rr, Option.bind_some, if_pos rfl, decide_eq_true rfl]
      · rw [if_neg c0, if_neg c0, if_pos rfl]; rfl
theorem vc_seq (l : List SGrit) (xs : List Int) (a : A38) (hl : l.length ≤ 9223372036854775807) : VC Go.Proofs.Try.prog 4 [VV.tr (l.flatMap c_SGrit) l.length, VV.tr (xs.map vi) xs.length, VV.ag (c_A38 a)] (vb true) := nspeculumlaw04_GrindSequences_ok _ _ _ _ _ (law_seq 100000000000000000000 rfl l hl xs a)
end Go.Proofs.Ytbaegoglpijnnaa.Vg
