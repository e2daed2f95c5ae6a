/- Walks: the roots between two fractions, by Sturm's chain. -/
import Derived.Test.YtdlddfmodbcnmaaW20
set_option linter.unusedVariables false
set_option linter.unusedSimpArgs false
namespace Go.Proofs.Ytdlddfmodbcnmaa
open Go.RowKit

def rootsL (l : List (Nat × Row)) (a b c d : Int) : Int := chgR a b l - chgR c d l
theorem chgR_bd (N D : Int) (l : List (Nat × Row)) : 0 ≤ chgR N D l ∧ chgR N D l ≤ l.length := ⟨(chgL_bd N D l).1, (chgL_bd N D l).2.1⟩

set_option maxRecDepth 100000 in
set_option maxHeartbeats 2000000 in
theorem rootsIn0_any (A : Option Addr) (l : List (Nat × Row)) (n cc : Nat) (L : Nat) (a b c d : Int) (w : World) (hA : ST w A l L) (hl : l.length = n) (hn : n ≤ 1000) (hL : L ≤ 999999800) (ha : I64 a) (hb : I64 b) (hc : I64 c) (hd : I64 d) :
    Calls Try.prog 111 #[.slice A n cc, .agg #[.int .i64 a, .int .i64 b], .agg #[.int .i64 c, .int .i64 d]] w fun e w' => e = .returned (.int .i64 (rootsL l a b c d)) ∧ Below w.heap.size w w' := by
  have HL := Lib.hid hl
  obtain ⟨k0, k1⟩ := chgR_bd a b l
  obtain ⟨k2, k3⟩ := chgR_bd c d l
  rw [hl] at k1 k3
  clear hl
  have hw : IntKind.i64.wrap (chgR a b l - chgR c d l) = rootsL l a b c d := IntWalk.i64_in _ (by omega)
  have tok1 : True := trivial
  go_enter Try.func111, Try.ntmps111
  go_wp2
  go_region_held3 (fun w' => w'.cell? ⟨w.heap.size, 0, none⟩ = some (.int .i64 a) ∧ w'.cell? ⟨w.heap.size, 1, none⟩ = some (.int .i64 b) ∧ w'.cell? ⟨w.heap.size + 1, 0, none⟩ = some (.int .i64 c) ∧ w'.cell? ⟨w.heap.size + 1, 1, none⟩ = some (.int .i64 d))
    (first | (simp [go_sem, World.cell?_alloc_past]; done) | (exact ⟨v0, v1, v2, v3⟩) | (exact ⟨u0, u1, u2, u3⟩) | (refine ⟨?_, ?_, ?_, ?_⟩ <;> simp [go_sem, *]; done))
    (first
      | (have _t := tok1; go_at_call 134; refine (changesBehind_any A l n cc L a b _ (by exact hA.below (Nat.le_refl _) (by repeat (first | exact Below.refl _ _ | refine Below.drew ?_ | refine Below.drewN' ?_ _ | refine Below.alloc ?_ (by first | exact Nat.le_refl _ | (simp; done) | (simp; omega)) _))) HL.out hn hL ha hb).mono ?_; clear tok1; rintro e w1 ⟨rfl, B1⟩; obtain ⟨hcK, hfK⟩ := bcell B1; have u0 : w1.cell? ⟨w.heap.size, 0, none⟩ = some (.int .i64 a) := (by rw [hcK _ _ (by simp <;> omega)]; simp [go_sem, World.cell?_alloc_past]); have u1 : w1.cell? ⟨w.heap.size, 1, none⟩ = some (.int .i64 b) := (by rw [hcK _ _ (by simp <;> omega)]; simp [go_sem, World.cell?_alloc_past]); have u2 : w1.cell? ⟨w.heap.size + 1, 0, none⟩ = some (.int .i64 c) := (by rw [hcK _ _ (by simp <;> omega)]; simp [go_sem, World.cell?_alloc_past]); have u3 : w1.cell? ⟨w.heap.size + 1, 1, none⟩ = some (.int .i64 d) := (by rw [hcK _ _ (by simp <;> omega)]; simp [go_sem, World.cell?_alloc_past]); have KB1 : Below w.heap.size w w1 := (((by repeat (first | exact Below.refl _ _ | refine Below.drew ?_ | refine Below.drewN' ?_ _ | refine Below.alloc ?_ (by first | exact Nat.le_refl _ | (simp; done) | (simp; omega)) _)) : Below w.heap.size w _).trans (B1.mono (by simp; omega))); have zz1 : w.heap.size + 2 ≤ w1.heap.size := (by have := B1.size; simp at this; omega))
      | (go_at_call 134; refine (changesBehind_any A l n cc L c d _ (by exact hA.below (Nat.le_refl _) KB1) HL.out hn hL hc hd).mono ?_; rintro e w2 ⟨rfl, B2⟩; have v0 := (B2.cell (p := ⟨w.heap.size, 0, none⟩) (by show w.heap.size < w1.heap.size; omega)).trans u0; have v1 := (B2.cell (p := ⟨w.heap.size, 1, none⟩) (by show w.heap.size < w1.heap.size; omega)).trans u1; have v2 := (B2.cell (p := ⟨w.heap.size + 1, 0, none⟩) (by show w.heap.size + 1 < w1.heap.size; omega)).trans u2; have v3 := (B2.cell (p := ⟨w.heap.size + 1, 1, none⟩) (by show w.heap.size + 1 < w1.heap.size; omega)).trans u3))
  go_wp2
  go_ret
  exact ⟨rfl, KB1.trans (B2.mono (by omega))⟩

end Go.Proofs.Ytdlddfmodbcnmaa
