/- Walks: the law of fractions, whatever the fractions. -/
import Derived.Test.YtdlddfmodbcnmaaW33
import Derived.Test.YtdlddfmodbcnmaaAwH
set_option linter.unusedVariables false
set_option linter.unusedSimpArgs false
namespace Go.Proofs.Ytdlddfmodbcnmaa
open Go.RowKit

theorem numberFracs_any (a b c d : Int) (w : World) (ha : I64 a) (hb : I64 b) (hc : I64 c) (hd : I64 d) :
    Calls Try.prog 3 #[.agg #[.int .i64 a, .int .i64 b], .agg #[.int .i64 c, .int .i64 d]] w fun e w' => e = .returned (.bool true) ∧ Below w.heap.size w w' := by
  by_cases hE : ckFs [(a, b), (c, d)] = 0
  · obtain ⟨z1, z2⟩ := ckFs_two_zero hE
    dsimp only at z1 z2
    obtain ⟨_, _, hb1, _, _⟩ := ckF_zero z1
    have eA : addN a b c d = lowN (a * d + c * b) (b * d) := by unfold addN; rw [if_neg (by simpa using hE)]
    have eS : subN a b c d = lowN (a * d - c * b) (b * d) := by unfold subN; rw [if_neg (by simpa using hE)]
    have eM : mulN a b c d = lowN (a * c) (b * d) := by unfold mulN; rw [if_neg (by simpa using hE)]
    have eQ : quoN a b c d = quoR a b c d := by unfold quoN quoR; rw [if_neg (by simpa using hE)]
    have eC : cmpN a b c d = (cmpI (a * d) (c * b), 0) := by unfold cmpN; rw [if_neg (by simpa using hE)]
    have vA := addN_comm z1 z2
    have vM := mulN_comm z1 z2
    rcases hs : lowN (a * d + c * b) (b * d) with ⟨s1, s2, s3⟩
    rcases hdd : lowN (a * d - c * b) (b * d) with ⟨d1, d2, d3⟩
    rcases hp : lowN (a * c) (b * d) with ⟨p1, p2, p3⟩
    rcases hq : quoR a b c d with ⟨q1, q2, q3⟩
    rw [eA] at vA
    rw [eM] at vM
    by_cases h3 : q3 = 0
    · subst h3
      have hc0 : c ≠ 0 := by
        intro h
        unfold quoR at hq
        rw [if_pos h] at hq
        simp at hq
      have hl : lowN (a * d) (b * c) = (q1, q2, 0) := by
        unfold quoR at hq
        rw [if_neg hc0] at hq
        exact hq
      have VQ := quo_mul z1 z2 hc0 hl
      have hk : ckF q1 q2 = 0 := by
        rw [lowN_F] at hl
        by_cases hh : ckF (lowF (a * d) (b * c)).1 (lowF (a * d) (b * c)).2 = 0
        · rw [if_neg (by simp [hh])] at hl
          simp only [Prod.mk.injEq, and_true] at hl
          rw [hl.1, hl.2] at hh
          exact hh
        · rw [if_pos hh] at hl
          simp only [Prod.mk.injEq] at hl
          omega
      obtain ⟨k1, k2, k3, k4, _⟩ := ckF_zero hk
      exact fracs_good awake_holds a b c d s1 s2 s3 d1 d2 d3 p1 p2 p3 q1 q2 (cmpI (a * d) (c * b)) w ha hb hc hd ⟨eA.trans hs⟩ ⟨eS.trans hdd⟩ ⟨eM.trans hp⟩ ⟨eQ.trans hq⟩ ⟨eC⟩ ⟨hE⟩ ⟨z1⟩ ⟨z2⟩ ⟨hs⟩ ⟨hdd⟩ ⟨hp⟩ ⟨hq⟩ ⟨rfl⟩ ⟨vA.trans hs⟩ ⟨vM.trans hp⟩
        (by unfold I64; omega) (by unfold I64; omega) ⟨VQ⟩
    · exact fracs_none awake_holds a b c d s1 s2 s3 d1 d2 d3 p1 p2 p3 q1 q2 q3 (cmpI (a * d) (c * b)) w ha hb hc hd ⟨eA.trans hs⟩ ⟨eS.trans hdd⟩ ⟨eM.trans hp⟩ ⟨eQ.trans hq⟩ ⟨eC⟩ ⟨hE⟩ ⟨z1⟩ ⟨z2⟩ ⟨hs⟩ ⟨hdd⟩ ⟨hp⟩ ⟨hq⟩ ⟨rfl⟩ ⟨vA.trans hs⟩ ⟨vM.trans hp⟩
        (by simpa using h3)
  · exact fracs_bad awake_holds a b c d (ckFs [(a, b), (c, d)]) w ha hb hc hd ⟨by unfold addN; rw [if_pos hE]⟩ ⟨by unfold subN; rw [if_pos hE]⟩ ⟨by unfold mulN; rw [if_pos hE]⟩ ⟨by unfold quoN; rw [if_pos hE]⟩ ⟨by unfold cmpN; rw [if_pos hE]⟩ ⟨rfl⟩ (by simpa using hE)

end Go.Proofs.Ytdlddfmodbcnmaa
