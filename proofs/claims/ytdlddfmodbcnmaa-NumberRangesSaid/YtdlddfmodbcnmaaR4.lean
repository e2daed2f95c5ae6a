/- Walks: the law of ranges, whatever the ranges. -/
import Derived.Test.YtdlddfmodbcnmaaR3
import Derived.Test.YtdlddfmodbcnmaaAwH
set_option linter.unusedVariables false
set_option linter.unusedSimpArgs false
namespace Go.Proofs.Ytdlddfmodbcnmaa
open Go.RowKit

theorem numberRanges_any (a b c d : Int) (w : World) (ha : I64 a) (hb : I64 b) (hc : I64 c) (hd : I64 d) :
    Calls Try.prog 6 #[.agg #[.int .i64 a, .int .i64 b], .agg #[.int .i64 c, .int .i64 d]] w fun e w' => e = .returned (.bool true) ∧ Below w.heap.size w w' := by
  by_cases hE : ckRs [(a, b), (c, d)] = 0
  · obtain ⟨z1, z2⟩ := ckRs_two_zero hE
    have eP : plusN a b c d = nlR (a + c) (b + d) := by unfold plusN; rw [if_neg (by simpa using hE)]
    have eM : minusN a b c d = nlR (a - d) (b - c) := by unfold minusN; rw [if_neg (by simpa using hE)]
    have eX : meetN a b c d = meetR a b c d := by unfold meetN; rw [if_neg (by simpa using hE)]
    have eH : hullN a b c d = (min a c, max b d, 0) := by unfold hullN; rw [if_neg (by simpa using hE)]
    rcases hp : nlR (a + c) (b + d) with ⟨p1, p2, p3⟩
    rcases hm : nlR (a - d) (b - c) with ⟨m1, m2, m3⟩
    rcases hx : meetR a b c d with ⟨x1, x2, x3⟩
    exact ranges_good awake_holds a b c d p1 p2 p3 m1 m2 m3 x1 x2 x3 _ _ w ha hb hc hd ⟨eP.trans hp⟩ ⟨eM.trans hm⟩ ⟨eX.trans hx⟩ ⟨eH⟩ ⟨hE⟩ ⟨z1⟩ ⟨z2⟩ ⟨hp⟩ ⟨hm⟩ ⟨hx⟩ ⟨rfl⟩ ⟨rfl⟩
  · exact ranges_bad awake_holds a b c d (ckRs [(a, b), (c, d)]) w ha hb hc hd ⟨by unfold plusN; rw [if_pos hE]⟩ ⟨by unfold minusN; rw [if_pos hE]⟩ ⟨by unfold meetN; rw [if_pos hE]⟩ ⟨by unfold hullN; rw [if_pos hE]⟩ ⟨rfl⟩ (by simpa using hE)

end Go.Proofs.Ytdlddfmodbcnmaa
