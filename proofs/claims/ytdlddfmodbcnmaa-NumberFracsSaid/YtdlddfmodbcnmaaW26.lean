/- Walks: the first call of every law of the chapter. -/
import Derived.Test.YtdlddfmodbcnmaaW25
import Derived.Test.YtdlddfmodbcnmaaW06
set_option linter.unusedVariables false
set_option linter.unusedSimpArgs false
namespace Go.Proofs.Ytdlddfmodbcnmaa
open Go.RowKit

def pAw : Row := fun i => if i = 0 then -2 else if i = 2 then 1 else 0
theorem IS.aw (w : World) : IS (w.alloc (.cells #[.int .i64 (-2), .int .i64 0, .int .i64 1] 3)) (some ⟨w.heap.size, 0, none⟩) 3 pAw :=
  ⟨fun i hi => by unfold pAw I64; split <;> (try split) <;> omega, fun _ => ⟨w.heap.size, 0, rfl, by simp, fun j hj => by
    have : j = 0 ∨ j = 1 ∨ j = 2 := by omega
    rcases this with rfl | rfl | rfl <;> simp [go_sem, pAw]⟩⟩
theorem addAw : addN 1 2 1 3 = (5, 6, 0) := by decide +kernel
theorem sqrtAw : sqrtN 2 1 1000 = (1414, 1415, 0) := by decide +kernel
theorem rootsAw : rootsInN 3 pAw (-2) 1 2 1 = (2, 0) := by decide +kernel
theorem sinAw : sinN 108000 1000 = (499, 501, 0) := by decide +kernel

set_option maxRecDepth 100000 in
set_option maxHeartbeats 4000000 in
theorem awake_any (w : World) : Calls Try.prog 20 #[] w fun e w' => e = .returned (.bool true) ∧ Below w.heap.size w w' := by
  have i1 : I64 1 := by unfold I64; omega
  have i2 : I64 2 := by unfold I64; omega
  have i3 : I64 3 := by unfold I64; omega
  have i4 : I64 (-2) := by unfold I64; omega
  have i5 : I64 1000 := by unfold I64; omega
  have i6 : I64 108000 := by unfold I64; omega
  go_enter Try.func20, Try.ntmps20
  go_wp2_with (go_at_call 21; refine (add_any 1 2 1 3 _ i1 i2 i1 i3).mono ?_; rw [addAw]; rintro e w1 ⟨rfl, B1⟩)
  have KB1 : Below w.heap.size w (w1.alloc (.cells #[.int .i64 5, .int .i64 6] 23)) := B1.alloc B1.size _
  have z1 := B1.size
  have p0 : (w1.alloc (.cells #[.int .i64 5, .int .i64 6] 23)).cell? ⟨w1.heap.size, 0, none⟩ = some (.int .i64 5) := by simp [go_sem]
  have p1 : (w1.alloc (.cells #[.int .i64 5, .int .i64 6] 23)).cell? ⟨w1.heap.size, 1, none⟩ = some (.int .i64 6) := by simp [go_sem]
  go_wp2_with (go_at_call 37; refine (sqrt_any 2 1 1000 _ i2 i1 i5).mono ?_; rw [sqrtAw]; rintro e w2 ⟨rfl, B2⟩)
  have y1 := B2.size
  simp only [World.size_alloc] at y1
  have q0 := (B2.cell (p := ⟨w1.heap.size, 0, none⟩) (by simp)).trans p0
  have q1 := (B2.cell (p := ⟨w1.heap.size, 1, none⟩) (by simp)).trans p1
  have KB2 := KB1.trans (B2.mono KB1.size)
  clear p0 p1 B1 B2 KB1
  generalize hW3 : w2.alloc (.cells #[.int .i64 1414, .int .i64 1415] 38) = W3
  have hs3 : W3.heap.size = w2.heap.size + 1 := by rw [← hW3]; simp
  have a0 : W3.cell? ⟨w1.heap.size, 0, none⟩ = some (.int .i64 5) := by rw [← hW3, World.cell?_alloc_lt _ _ _ (by show w1.heap.size < _; omega)]; exact q0
  have a1 : W3.cell? ⟨w1.heap.size, 1, none⟩ = some (.int .i64 6) := by rw [← hW3, World.cell?_alloc_lt _ _ _ (by show w1.heap.size < _; omega)]; exact q1
  have a2 : W3.cell? ⟨w2.heap.size, 0, none⟩ = some (.int .i64 1414) := by rw [← hW3]; simp [go_sem]
  have a3 : W3.cell? ⟨w2.heap.size, 1, none⟩ = some (.int .i64 1415) := by rw [← hW3]; simp [go_sem]
  have KB3 : Below w.heap.size w W3 := by rw [← hW3]; exact KB2.alloc KB2.size _
  clear hW3 q0 q1 KB2
  go_wp2_with (go_at_call 75; refine (rootsIn_any (some ⟨w2.heap.size + 1, 0, none⟩) 3 3 pAw (-2) 1 2 1 _ (by have h := IS.aw W3; rw [hs3] at h; exact h) (by omega) i4 i1 i2 i1).mono ?_; rw [rootsAw]; rintro e w4 ⟨rfl, B4⟩)
  have hz4 := B4.size
  simp only [World.size_alloc] at hz4
  have KB4 := KB3.trans (((Below.refl w.heap.size W3).alloc KB3.size _).trans (B4.mono (by have := KB3.size; simp; omega)))
  have KW := ((Below.refl W3.heap.size W3).alloc (Nat.le_refl _) _).trans (B4.mono (by simp))
  have b0 := (KW.cell (p := ⟨w1.heap.size, 0, none⟩) (by show w1.heap.size < _; omega)).trans a0
  have b1 := (KW.cell (p := ⟨w1.heap.size, 1, none⟩) (by show w1.heap.size < _; omega)).trans a1
  have b2 := (KW.cell (p := ⟨w2.heap.size, 0, none⟩) (by show w2.heap.size < _; omega)).trans a2
  have b3 := (KW.cell (p := ⟨w2.heap.size, 1, none⟩) (by show w2.heap.size < _; omega)).trans a3
  clear a0 a1 a2 a3 KW KB3 B4
  go_wp2_with (go_at_call 56; refine (sine_any 108000 1000 _ i6 i5).mono ?_; rw [sinAw]; rintro e w5 ⟨rfl, B5⟩; have hz5 := B5.size; have c0 := (B5.cell (p := ⟨w1.heap.size, 0, none⟩) (by show w1.heap.size < _; omega)).trans b0; have c1 := (B5.cell (p := ⟨w1.heap.size, 1, none⟩) (by show w1.heap.size < _; omega)).trans b1; have c2 := (B5.cell (p := ⟨w2.heap.size, 0, none⟩) (by show w2.heap.size < _; omega)).trans b2; have c3 := (B5.cell (p := ⟨w2.heap.size, 1, none⟩) (by show w2.heap.size < _; omega)).trans b3; have KB5 := KB4.trans (B5.mono KB4.size); have hm1 : w1.heap.size < w5.heap.size := (by omega); have hm2 : w2.heap.size < w5.heap.size := (by omega))
  go_ret
  exact ⟨rfl, KB5.alloc KB5.size _⟩

end Go.Proofs.Ytdlddfmodbcnmaa
