/- Walks: the law of roots, whatever the numbers. -/
import Derived.Test.YtdlddfmodbcnmaaR8
import Derived.Test.YtdlddfmodbcnmaaAwH
set_option linter.unusedVariables false
set_option linter.unusedSimpArgs false
namespace Go.Proofs.Ytdlddfmodbcnmaa
open Go.RowKit

theorem numberRoots_any (a b t x y : Int) (w : World) (ha : I64 a) (hb : I64 b) (ht : I64 t) (hx : I64 x) (hy : I64 y) :
    Calls Try.prog 5 #[.agg #[.int .i64 a, .int .i64 b], .int .i64 t, .agg #[.int .i64 x, .int .i64 y]] w fun e w' => e = .returned (.bool true) ∧ Below w.heap.size w w' := by
  have f1 : ckFs [(a, b)] = ckF a b := ckFs_one (a, b)
  by_cases z : ckF a b = 0
  · by_cases an : a < 0
    · have RS : sqrtN a b t = (0, 0, 2) := by unfold sqrtN; rw [if_neg (by simpa using z), if_pos (.inl an)]
      by_cases zr : ckRg x y = 0
      · obtain ⟨x1, x2, y1, y2, xy⟩ := ckRg_zero zr
        by_cases xn : x < 0
        · have RU : rootN x y = (0, 0, 2) := by unfold rootN; rw [if_neg (by simpa using zr), if_pos xn]
          exact roots_NN awake_holds a b t x y w ha hb ht hx hy ⟨RS⟩ ⟨RU⟩ ⟨f1.trans z⟩ ⟨zr⟩ an xn
        · have RU : rootN x y = (rt x, rtUp y, 0) := by unfold rootN; rw [if_neg (by simpa using zr), if_neg xn]
          obtain ⟨p1, p2, p3, p4, p5, p6, p7⟩ := rt_facts (n := x) (by omega) (by omega)
          obtain ⟨q1, q2, q3, q4, q5, q6, q7⟩ := rt_facts (n := y) (by omega) (by omega)
          have q8 : rtUp y * rtUp y ≤ 1000000001 * 1000000001 := sq_le q6 (by omega)
          exact roots_NG awake_holds a b t x y (rt x) (rtUp y) w ha hb ht hx hy ⟨RS⟩ ⟨RU⟩ ⟨f1.trans z⟩ ⟨zr⟩ an (by omega) (by omega) (by omega) (by omega) ⟨rfl⟩ ⟨rfl⟩ p1 p2 q6 (by omega) p3 p4 q5 (by omega)
      · have RU : rootN x y = (0, 0, ckRg x y) := by unfold rootN; rw [if_pos zr]
        exact roots_NA awake_holds a b t x y (ckRg x y) w ha hb ht hx hy ⟨RS⟩ ⟨RU⟩ ⟨f1.trans z⟩ ⟨rfl⟩ an (by simpa using zr) (by simpa using zr)
    · by_cases tt : 1 ≤ t ∧ t ≤ 10000
      · obtain ⟨t1, t2⟩ := tt
        have RS : sqrtN a b t = ((sqN (t * t * a) b).1, (sqN (t * t * a) b).2, 0) := by unfold sqrtN; rw [if_neg (by simpa using z), if_neg (by omega)]
        have HW : wtB t 1 10000 = true := by unfold wtB; simp [t1, t2]
        by_cases zr : ckRg x y = 0
        · obtain ⟨x1, x2, y1, y2, xy⟩ := ckRg_zero zr
          by_cases xn : x < 0
          · have RU : rootN x y = (0, 0, 2) := by unfold rootN; rw [if_neg (by simpa using zr), if_pos xn]
            exact roots_GN awake_holds a b t x y (sqN (t * t * a) b).1 (sqN (t * t * a) b).2 w ha hb ht hx hy ⟨RS⟩ ⟨RU⟩ ⟨f1.trans z⟩ ⟨zr⟩ (by omega) t1 t2 ⟨HW⟩ ⟨z⟩ ⟨rfl⟩ xn
          · have RU : rootN x y = (rt x, rtUp y, 0) := by unfold rootN; rw [if_neg (by simpa using zr), if_neg xn]
            obtain ⟨p1, p2, p3, p4, p5, p6, p7⟩ := rt_facts (n := x) (by omega) (by omega)
            obtain ⟨q1, q2, q3, q4, q5, q6, q7⟩ := rt_facts (n := y) (by omega) (by omega)
            have q8 : rtUp y * rtUp y ≤ 1000000001 * 1000000001 := sq_le q6 (by omega)
            exact roots_GG awake_holds a b t x y (sqN (t * t * a) b).1 (sqN (t * t * a) b).2 (rt x) (rtUp y) w ha hb ht hx hy ⟨RS⟩ ⟨RU⟩ ⟨f1.trans z⟩ ⟨zr⟩ (by omega) t1 t2 ⟨HW⟩ ⟨z⟩ ⟨rfl⟩ (by omega) (by omega) (by omega) (by omega) ⟨rfl⟩ ⟨rfl⟩ p1 p2 q6 (by omega) p3 p4 q5 (by omega)
        · have RU : rootN x y = (0, 0, ckRg x y) := by unfold rootN; rw [if_pos zr]
          exact roots_GA awake_holds a b t x y (sqN (t * t * a) b).1 (sqN (t * t * a) b).2 (ckRg x y) w ha hb ht hx hy ⟨RS⟩ ⟨RU⟩ ⟨f1.trans z⟩ ⟨rfl⟩ (by omega) t1 t2 ⟨HW⟩ ⟨z⟩ ⟨rfl⟩ (by simpa using zr) (by simpa using zr)
      · have RS : sqrtN a b t = (0, 0, 2) := by unfold sqrtN; rw [if_neg (by simpa using z), if_pos (by omega)]
        have HW : wtB t 1 10000 = false := by
          unfold wtB
          by_cases c : 1 ≤ t
          · have : ¬ t ≤ 10000 := fun h => tt ⟨c, h⟩
            simp [this]
          · simp [c]
        by_cases zr : ckRg x y = 0
        · obtain ⟨x1, x2, y1, y2, xy⟩ := ckRg_zero zr
          by_cases xn : x < 0
          · have RU : rootN x y = (0, 0, 2) := by unfold rootN; rw [if_neg (by simpa using zr), if_pos xn]
            exact roots_TN awake_holds a b t x y w ha hb ht hx hy ⟨RS⟩ ⟨RU⟩ ⟨f1.trans z⟩ ⟨zr⟩ (by omega) ⟨HW⟩ xn
          · have RU : rootN x y = (rt x, rtUp y, 0) := by unfold rootN; rw [if_neg (by simpa using zr), if_neg xn]
            obtain ⟨p1, p2, p3, p4, p5, p6, p7⟩ := rt_facts (n := x) (by omega) (by omega)
            obtain ⟨q1, q2, q3, q4, q5, q6, q7⟩ := rt_facts (n := y) (by omega) (by omega)
            have q8 : rtUp y * rtUp y ≤ 1000000001 * 1000000001 := sq_le q6 (by omega)
            exact roots_TG awake_holds a b t x y (rt x) (rtUp y) w ha hb ht hx hy ⟨RS⟩ ⟨RU⟩ ⟨f1.trans z⟩ ⟨zr⟩ (by omega) ⟨HW⟩ (by omega) (by omega) (by omega) (by omega) ⟨rfl⟩ ⟨rfl⟩ p1 p2 q6 (by omega) p3 p4 q5 (by omega)
        · have RU : rootN x y = (0, 0, ckRg x y) := by unfold rootN; rw [if_pos zr]
          exact roots_TA awake_holds a b t x y (ckRg x y) w ha hb ht hx hy ⟨RS⟩ ⟨RU⟩ ⟨f1.trans z⟩ ⟨rfl⟩ (by omega) ⟨HW⟩ (by simpa using zr) (by simpa using zr)
  · have RS : sqrtN a b t = (0, 0, ckF a b) := by unfold sqrtN; rw [if_pos z]
    by_cases zr : ckRg x y = 0
    · obtain ⟨x1, x2, y1, y2, xy⟩ := ckRg_zero zr
      by_cases xn : x < 0
      · have RU : rootN x y = (0, 0, 2) := by unfold rootN; rw [if_neg (by simpa using zr), if_pos xn]
        exact roots_AN awake_holds a b t x y (ckF a b) w ha hb ht hx hy ⟨RS⟩ ⟨RU⟩ ⟨f1⟩ ⟨zr⟩ (by simpa using z) (by simpa using z) xn
      · have RU : rootN x y = (rt x, rtUp y, 0) := by unfold rootN; rw [if_neg (by simpa using zr), if_neg xn]
        obtain ⟨p1, p2, p3, p4, p5, p6, p7⟩ := rt_facts (n := x) (by omega) (by omega)
        obtain ⟨q1, q2, q3, q4, q5, q6, q7⟩ := rt_facts (n := y) (by omega) (by omega)
        have q8 : rtUp y * rtUp y ≤ 1000000001 * 1000000001 := sq_le q6 (by omega)
        exact roots_AG awake_holds a b t x y (ckF a b) (rt x) (rtUp y) w ha hb ht hx hy ⟨RS⟩ ⟨RU⟩ ⟨f1⟩ ⟨zr⟩ (by simpa using z) (by simpa using z) (by omega) (by omega) (by omega) (by omega) ⟨rfl⟩ ⟨rfl⟩ p1 p2 q6 (by omega) p3 p4 q5 (by omega)
    · have RU : rootN x y = (0, 0, ckRg x y) := by unfold rootN; rw [if_pos zr]
      exact roots_AA awake_holds a b t x y (ckF a b) (ckRg x y) w ha hb ht hx hy ⟨RS⟩ ⟨RU⟩ ⟨f1⟩ ⟨rfl⟩ (by simpa using z) (by simpa using z) (by simpa using zr) (by simpa using zr)

end Go.Proofs.Ytdlddfmodbcnmaa
