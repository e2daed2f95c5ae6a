/- Law of refusals: a named pair is checked as the document asks, and a refused one has no surface. -/
import Derived.Test.YtlhkkbdfdkjlcaaK3
import Derived.Test.YtlhkkbdfdkjlcaaKs
set_option linter.unusedVariables false
set_option linter.unusedSimpArgs false
namespace Go.Proofs.Ytlhkkbdfdkjlcaa.Vg
open Go Go.Proofs.Ytlhkkbdfdkjlcaa.Ev Go.Proofs.Ytlhkkbdfdkjlcaa.Vv


theorem law_refusals (k : Nat) (a : List SRange) (t : SFigureTolerance) (q : A26) (hk : 100 ≤ k) (hk2 : k ≤ 1000000000) : nspeculumlaw06_FigureRefusals k a t q = some true := by
  unfold nspeculumlaw06_FigureRefusals
  rw [show nawake k = some true from rfl]
  have ht : (⟨t.Peak, t.Slope⟩ : SFigureTolerance) = t := rfl
  have hq : (⟨q.e0, q.e1⟩ : A26) = q := rfl
  simp only [Option.bind_some, if_true, ht, hq]
  by_cases h45 : 45 < (a.length : Int)
  · rw [if_pos h45]
  rw [if_neg h45, ranges_any k a (by omega)]
  simp only [Option.bind_some, judgeErr_any k a t (by omega) hk hk2, checkRefused_any k a t q (by omega) hk hk2, within_base]
  have hw : w64 ((a.length : Int) - 1) = (a.length : Int) - 1 := w64_id (by omega) (by omega)
  rw [hw]
  by_cases h0 : jE a t = 0
  · have hz := jE_zero h0
    have ha := eE_zero hz.1
    have hle := ha.le
    rw [if_pos h0]
    unfold crE
    rw [if_pos h0]
    by_cases h1 : 0 ≤ q.e0 ∧ q.e0 ≤ (a.length : Int) - 1
    · rw [decide_eq_true h1, show inI a q.e0 = true from decide_eq_true h1, if_pos rfl]
      by_cases h2 : 0 ≤ q.e1 ∧ q.e1 ≤ (a.length : Int) - 1
      · rw [decide_eq_true h2, show inI a q.e1 = true from decide_eq_true h2, if_pos rfl]
        simp only [Bool.and_true]
        by_cases he : q.e0 = q.e1
        · rw [if_pos he, if_pos he]; rfl
        · rw [if_neg he, if_neg he, if_pos (by omega), if_pos (by omega), bound_ref _ _ _ _ (by omega) (by omega), Option.bind_some]
          have g1 := ha.all q.e0 (by omega) (by omega)
          have g2 := ha.all q.e1 (by omega) (by omega)
          have e : w64 ((a.getD q.e0.toNat default).Lo - (a.getD q.e1.toNat default).Hi) = least a (q.e0, q.e1) := by
            unfold loA hiA at g1 g2
            rw [w64_id (by omega) (by omega)]; rfl
          rw [e]
          by_cases hb : least a (q.e0, q.e1) ≤ bd t q.e0 q.e1
          · rw [if_pos hb, show rf a t (q.e0, q.e1) = false from decide_eq_false (by simp only []; omega)]; rfl
          · have hr : rf a t (q.e0, q.e1) = true := decide_eq_true (by simp only []; omega)
            rw [if_neg hb, hr, h0]
            simp only [if_true]
            rw [Surface_fig k a t (by omega) hk hk2, if_pos h0]
            cases hn : refusedOf a t with
            | some p => rfl
            | none =>
              unfold refusedOf at hn
              rw [List.find?_eq_none] at hn
              exact absurd hr (hn (q.e0, q.e1) ((mem_pairs (by omega) _).2 (by simp only []; omega)))
      · rw [decide_eq_false h2, show inI a q.e1 = false from decide_eq_false h2]; rfl
    · rw [decide_eq_false h1, show inI a q.e0 = false from decide_eq_false h1]; rfl
  · rw [if_neg h0]
    unfold crE
    rw [if_neg h0, if_pos rfl]
theorem vc_refusals (a : List SRange) (t : SFigureTolerance) (q : A26) : VC Go.Proofs.Try.prog 6 [VV.tr (a.flatMap c_SRange) a.length, VV.ag [vi t.Peak, vi t.Slope], VV.ag [vi q.e0, vi q.e1]] (vb true) :=
  nspeculumlaw06_FigureRefusals_ok 1000 a t q true (law_refusals 1000 a t q (by decide) (by decide))
end Go.Proofs.Ytlhkkbdfdkjlcaa.Vg
