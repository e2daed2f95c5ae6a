/- Walks: errors of polynomials with two fractions; the number of roots between them. -/
import Derived.Test.YtdlddfmodbcnmaaW21
import Derived.Test.YtdlddfmodbcnmaaW22
import Derived.Test.YtdlddfmodbcnmaaW23
set_option linter.unusedVariables false
set_option linter.unusedSimpArgs false
namespace Go.Proofs.Ytdlddfmodbcnmaa
open Go.RowKit

def ckR (n : Nat) (p : Row) (a b c d : Int) : Int := if ckP n p ≠ 0 then ckP n p else if (cmpN a b c d).2 = 0 ∧ 0 ≤ (cmpN a b c d).1 then 9 else (cmpN a b c d).2

set_option maxHeartbeats 1000000 in
theorem checkRoots_any (A : Option Addr) (n cc : Nat) (p : Row) (a b c d : Int) (w : World) (hA : IS w A n p) (hn : n ≤ 1000000) (ha : I64 a) (hb : I64 b) (hc : I64 c) (hd : I64 d) :
    Calls Try.prog 109 #[.slice A n cc, .agg #[.int .i64 a, .int .i64 b], .agg #[.int .i64 c, .int .i64 d]] w fun e w' => e = .returned (.int .i64 (ckR n p a b c d)) ∧ Below w.heap.size w w' := by
  by_cases hp : ckP n p = 0
  · have hp' : (ckP n p != 0) = false := by rw [hp]; rfl
    have HP := Lib.hid (show ckR n p a b c d = if (cmpN a b c d).2 = 0 ∧ 0 ≤ (cmpN a b c d).1 then 9 else (cmpN a b c d).2 by unfold ckR; rw [if_neg (by omega)])
    clear hp
    generalize hcm : cmpN a b c d = R at *
    obtain ⟨o, er⟩ := R
    have HCM := Lib.hid hcm
    dsimp only at HP
    clear hcm
    by_cases he : er = 0
    · subst he
      by_cases ho : 0 ≤ o
      · have HR := Lib.hid (show ckR n p a b c d = 9 by rw [HP.out, if_pos ⟨rfl, ho⟩])
        clear HP
        go_enter Try.func109, Try.ntmps109
        go_wp2_with (first
          | (go_at_call 67; refine (checkPoly_any A n cc p _ (by exact hA.below (Nat.le_refl _) (by repeat (first | exact Below.refl _ _ | refine Below.drew ?_ | refine Below.drewN' ?_ _ | refine Below.alloc ?_ (by first | exact Nat.le_refl _ | (simp; done) | (simp; omega)) _))) hn).mono ?_; rintro e w1 ⟨rfl, B1⟩; obtain ⟨hcK, hfK⟩ := bcell B1; have u0 : w1.cell? ⟨w.heap.size, 0, none⟩ = some (.int .i64 a) := (by rw [hcK _ _ (by simp <;> omega)]; simp [go_sem, World.cell?_alloc_past]); have u1 : w1.cell? ⟨w.heap.size, 1, none⟩ = some (.int .i64 b) := (by rw [hcK _ _ (by simp <;> omega)]; simp [go_sem, World.cell?_alloc_past]); have u2 : w1.cell? ⟨w.heap.size + 1, 0, none⟩ = some (.int .i64 c) := (by rw [hcK _ _ (by simp <;> omega)]; simp [go_sem, World.cell?_alloc_past]); have u3 : w1.cell? ⟨w.heap.size + 1, 1, none⟩ = some (.int .i64 d) := (by rw [hcK _ _ (by simp <;> omega)]; simp [go_sem, World.cell?_alloc_past]); have KB1 : Below w.heap.size w w1 := (((by repeat (first | exact Below.refl _ _ | refine Below.drew ?_ | refine Below.drewN' ?_ _ | refine Below.alloc ?_ (by first | exact Nat.le_refl _ | (simp; done) | (simp; omega)) _)) : Below w.heap.size w _).trans (B1.mono (by simp; omega))))
          | (go_at_call 25; refine (cmp_any a b c d _ ha hb hc hd).mono ?_; rw [HCM.out]; rintro e w2 ⟨rfl, B2⟩; have KB2 := KB1.trans (B2.mono KB1.size)))
        go_ret
        exact ⟨ret_int HR.out.symm, KB2⟩
      · have ho' : ¬ (0 : Int) ≤ o := ho
        have HR := Lib.hid (show ckR n p a b c d = 0 by rw [HP.out, if_neg (fun h => ho h.2)])
        clear HP
        go_enter Try.func109, Try.ntmps109
        go_wp2_with (first
          | (go_at_call 67; refine (checkPoly_any A n cc p _ (by exact hA.below (Nat.le_refl _) (by repeat (first | exact Below.refl _ _ | refine Below.drew ?_ | refine Below.drewN' ?_ _ | refine Below.alloc ?_ (by first | exact Nat.le_refl _ | (simp; done) | (simp; omega)) _))) hn).mono ?_; rintro e w1 ⟨rfl, B1⟩; obtain ⟨hcK, hfK⟩ := bcell B1; have u0 : w1.cell? ⟨w.heap.size, 0, none⟩ = some (.int .i64 a) := (by rw [hcK _ _ (by simp <;> omega)]; simp [go_sem, World.cell?_alloc_past]); have u1 : w1.cell? ⟨w.heap.size, 1, none⟩ = some (.int .i64 b) := (by rw [hcK _ _ (by simp <;> omega)]; simp [go_sem, World.cell?_alloc_past]); have u2 : w1.cell? ⟨w.heap.size + 1, 0, none⟩ = some (.int .i64 c) := (by rw [hcK _ _ (by simp <;> omega)]; simp [go_sem, World.cell?_alloc_past]); have u3 : w1.cell? ⟨w.heap.size + 1, 1, none⟩ = some (.int .i64 d) := (by rw [hcK _ _ (by simp <;> omega)]; simp [go_sem, World.cell?_alloc_past]); have KB1 : Below w.heap.size w w1 := (((by repeat (first | exact Below.refl _ _ | refine Below.drew ?_ | refine Below.drewN' ?_ _ | refine Below.alloc ?_ (by first | exact Nat.le_refl _ | (simp; done) | (simp; omega)) _)) : Below w.heap.size w _).trans (B1.mono (by simp; omega))))
          | (go_at_call 25; refine (cmp_any a b c d _ ha hb hc hd).mono ?_; rw [HCM.out]; rintro e w2 ⟨rfl, B2⟩; have KB2 := KB1.trans (B2.mono KB1.size)))
        go_ret
        exact ⟨ret_int HR.out.symm, KB2⟩
    · have he' : (er == 0) = false := by simpa using he
      have HR := Lib.hid (show ckR n p a b c d = er by rw [HP.out, if_neg (fun h => he h.1)])
      clear HP he
      go_enter Try.func109, Try.ntmps109
      go_wp2_with (first
        | (go_at_call 67; refine (checkPoly_any A n cc p _ (by exact hA.below (Nat.le_refl _) (by repeat (first | exact Below.refl _ _ | refine Below.drew ?_ | refine Below.drewN' ?_ _ | refine Below.alloc ?_ (by first | exact Nat.le_refl _ | (simp; done) | (simp; omega)) _))) hn).mono ?_; rintro e w1 ⟨rfl, B1⟩; obtain ⟨hcK, hfK⟩ := bcell B1; have u0 : w1.cell? ⟨w.heap.size, 0, none⟩ = some (.int .i64 a) := (by rw [hcK _ _ (by simp <;> omega)]; simp [go_sem, World.cell?_alloc_past]); have u1 : w1.cell? ⟨w.heap.size, 1, none⟩ = some (.int .i64 b) := (by rw [hcK _ _ (by simp <;> omega)]; simp [go_sem, World.cell?_alloc_past]); have u2 : w1.cell? ⟨w.heap.size + 1, 0, none⟩ = some (.int .i64 c) := (by rw [hcK _ _ (by simp <;> omega)]; simp [go_sem, World.cell?_alloc_past]); have u3 : w1.cell? ⟨w.heap.size + 1, 1, none⟩ = some (.int .i64 d) := (by rw [hcK _ _ (by simp <;> omega)]; simp [go_sem, World.cell?_alloc_past]); have KB1 : Below w.heap.size w w1 := (((by repeat (first | exact Below.refl _ _ | refine Below.drew ?_ | refine Below.drewN' ?_ _ | refine Below.alloc ?_ (by first | exact Nat.le_refl _ | (simp; done) | (simp; omega)) _)) : Below w.heap.size w _).trans (B1.mono (by simp; omega))))
        | (go_at_call 25; refine (cmp_any a b c d _ ha hb hc hd).mono ?_; rw [HCM.out]; rintro e w2 ⟨rfl, B2⟩; have KB2 := KB1.trans (B2.mono KB1.size)))
      go_ret
      exact ⟨ret_int HR.out.symm, KB2⟩
  · have hp' : (ckP n p != 0) = true := by simpa using hp
    have HR := Lib.hid (show ckR n p a b c d = ckP n p by unfold ckR; rw [if_pos hp])
    clear hp
    go_enter Try.func109, Try.ntmps109
    go_wp2_with (first
      | (go_at_call 67; refine (checkPoly_any A n cc p _ (by exact hA.below (Nat.le_refl _) (by repeat (first | exact Below.refl _ _ | refine Below.drew ?_ | refine Below.drewN' ?_ _ | refine Below.alloc ?_ (by first | exact Nat.le_refl _ | (simp; done) | (simp; omega)) _))) hn).mono ?_; rintro e w1 ⟨rfl, B1⟩; obtain ⟨hcK, hfK⟩ := bcell B1; have u0 : w1.cell? ⟨w.heap.size, 0, none⟩ = some (.int .i64 a) := (by rw [hcK _ _ (by simp <;> omega)]; simp [go_sem, World.cell?_alloc_past]); have u1 : w1.cell? ⟨w.heap.size, 1, none⟩ = some (.int .i64 b) := (by rw [hcK _ _ (by simp <;> omega)]; simp [go_sem, World.cell?_alloc_past]); have u2 : w1.cell? ⟨w.heap.size + 1, 0, none⟩ = some (.int .i64 c) := (by rw [hcK _ _ (by simp <;> omega)]; simp [go_sem, World.cell?_alloc_past]); have u3 : w1.cell? ⟨w.heap.size + 1, 1, none⟩ = some (.int .i64 d) := (by rw [hcK _ _ (by simp <;> omega)]; simp [go_sem, World.cell?_alloc_past]); have KB1 : Below w.heap.size w w1 := (((by repeat (first | exact Below.refl _ _ | refine Below.drew ?_ | refine Below.drewN' ?_ _ | refine Below.alloc ?_ (by first | exact Nat.le_refl _ | (simp; done) | (simp; omega)) _)) : Below w.heap.size w _).trans (B1.mono (by simp; omega)))))
    go_ret
    exact ⟨ret_int HR.out.symm, KB1⟩

end Go.Proofs.Ytdlddfmodbcnmaa
