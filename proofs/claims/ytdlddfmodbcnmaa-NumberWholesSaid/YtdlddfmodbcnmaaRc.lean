/- Walks: the law of multiples, whatever the numbers. -/
import Derived.Test.YtdlddfmodbcnmaaRb
import Derived.Test.YtdlddfmodbcnmaaAwH
set_option linter.unusedVariables false
set_option linter.unusedSimpArgs false
namespace Go.Proofs.Ytdlddfmodbcnmaa
open Go.RowKit

theorem ceil_floor {p b : Int} (hb : 1 ≤ b) : 0 ≤ -(-p / b) - p / b ∧ -(-p / b) - p / b ≤ 1 := by
  rw [ceil_of hb]; split <;> omega
theorem numberWholes_any (a b t : Int) (w : World) (ha : I64 a) (hb : I64 b) (ht : I64 t) :
    Calls Try.prog 4 #[.agg #[.int .i64 a, .int .i64 b], .int .i64 t] w fun e w' => e = .returned (.bool true) ∧ Below w.heap.size w w' := by
  have f1 : ckFs [(a, b)] = ckF a b := ckFs_one (a, b)
  by_cases z : ckF a b = 0
  · obtain ⟨a1, a2, b1, b2, _⟩ := ckF_zero z
    by_cases tt : 1 ≤ t ∧ t ≤ 1000000
    · obtain ⟨t1, t2⟩ := tt
      obtain ⟨v1, v2⟩ := ceil_floor (p := a * t) b1
      exact wholes_G awake_holds a b t (a * t / b) (-(-(a * t) / b)) w ha hb ht ⟨by unfold wholeN; rw [if_neg (by simpa using z), if_neg (by omega)]⟩ ⟨f1.trans z⟩ ⟨by unfold wtB; simp [t1, t2]⟩ a1 a2 b1 b2 t1 t2 ⟨rfl⟩ ⟨rfl⟩
        ⟨by unfold wtB; rw [decide_eq_true v1, decide_eq_true v2]; rfl⟩ v1 v2
    · refine wholes_T awake_holds a b t w ha hb ht ⟨by unfold wholeN; rw [if_neg (by simpa using z), if_pos (by omega)]⟩ ⟨f1.trans z⟩ ⟨?_⟩
      unfold wtB
      by_cases c : 1 ≤ t
      · have : ¬ t ≤ 1000000 := fun h => tt ⟨c, h⟩
        simp [this]
      · simp [c]
  · exact wholes_A awake_holds a b t (ckF a b) w ha hb ht ⟨by unfold wholeN; rw [if_pos z]⟩ ⟨f1⟩ (by simpa using z) (by simpa using z)

end Go.Proofs.Ytdlddfmodbcnmaa
