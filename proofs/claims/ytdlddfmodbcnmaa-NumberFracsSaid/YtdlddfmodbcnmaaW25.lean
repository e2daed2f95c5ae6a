/- Walks: the number of roots between two fractions. -/
import Derived.Test.YtdlddfmodbcnmaaW24
set_option linter.unusedVariables false
set_option linter.unusedSimpArgs false
namespace Go.Proofs.Ytdlddfmodbcnmaa
open Go.RowKit

def rootsInN (n : Nat) (p : Row) (a b c d : Int) : Int × Int := if ckR n p a b c d ≠ 0 then (0, ckR n p a b c d) else (rootsL (sturmR n p) a b c d, 0)
theorem ckP_zero {n : Nat} {p : Row} (h : ckP n p = 0) : 1 ≤ n ∧ n ≤ 7 ∧ (∀ i, i < n → sz (p i) ≤ 1000000) ∧ p (n - 1) ≠ 0 := by
  unfold ckP at h
  split at h
  · omega
  · split at h
    · omega
    · split at h
      · omega
      · rename_i h1 h2 h3
        refine ⟨by omega, by omega, okP_all (by simpa using h2), h3⟩
theorem ckR_zero {n : Nat} {p : Row} {a b c d : Int} (h : ckR n p a b c d = 0) : ckP n p = 0 ∧ (cmpN a b c d).2 = 0 ∧ (cmpN a b c d).1 < 0 := by
  unfold ckR at h
  split at h
  · rename_i h1; exact absurd h h1
  · split at h
    · omega
    · rename_i h1 h2
      refine ⟨by omega, h, ?_⟩
      rcases Int.lt_or_le (cmpN a b c d).1 0 with h3 | h3
      · exact h3
      · exact absurd ⟨h, h3⟩ h2

set_option maxHeartbeats 1000000 in
theorem rootsIn_any (A : Option Addr) (n cc : Nat) (p : Row) (a b c d : Int) (w : World) (hA : IS w A n p) (hn : n ≤ 1000000) (ha : I64 a) (hb : I64 b) (hc : I64 c) (hd : I64 d) :
    Calls Try.prog 75 #[.slice A n cc, .agg #[.int .i64 a, .int .i64 b], .agg #[.int .i64 c, .int .i64 d]] w fun e w' => e = .returned (.tuple #[.int .i64 (rootsInN n p a b c d).1, .int .i64 (rootsInN n p a b c d).2]) ∧ Below w.heap.size w w' := by
  by_cases he : ckR n p a b c d = 0
  · have he' : (ckR n p a b c d != 0) = false := by rw [he]; rfl
    have HR := Lib.hid (show rootsInN n p a b c d = (rootsL (sturmR n p) a b c d, 0) by unfold rootsInN; rw [if_neg (by omega)])
    obtain ⟨hz, -, -⟩ := ckR_zero he
    obtain ⟨n1, n7, -, -⟩ := ckP_zero hz
    clear he hz
    have tok1 : True := trivial
    go_enter Try.func75, Try.ntmps75
    go_wp2_with (go_at_call 109; refine (checkRoots_any A n cc p a b c d _ (by exact hA.below (Nat.le_refl _) (by repeat (first | exact Below.refl _ _ | refine Below.drew ?_ | refine Below.drewN' ?_ _ | refine Below.alloc ?_ (by first | exact Nat.le_refl _ | (simp; done) | (simp; omega)) _))) hn ha hb hc hd).mono ?_; rintro e w1 ⟨rfl, B1⟩; obtain ⟨hcK, hfK⟩ := bcell B1; have u0 : w1.cell? ⟨w.heap.size, 0, none⟩ = some (.int .i64 a) := (by rw [hcK _ _ (by simp <;> omega)]; simp [go_sem, World.cell?_alloc_past]); have u1 : w1.cell? ⟨w.heap.size, 1, none⟩ = some (.int .i64 b) := (by rw [hcK _ _ (by simp <;> omega)]; simp [go_sem, World.cell?_alloc_past]); have u2 : w1.cell? ⟨w.heap.size + 1, 0, none⟩ = some (.int .i64 c) := (by rw [hcK _ _ (by simp <;> omega)]; simp [go_sem, World.cell?_alloc_past]); have u3 : w1.cell? ⟨w.heap.size + 1, 1, none⟩ = some (.int .i64 d) := (by rw [hcK _ _ (by simp <;> omega)]; simp [go_sem, World.cell?_alloc_past]); have KB1 : Below w.heap.size w w1 := (((by repeat (first | exact Below.refl _ _ | refine Below.drew ?_ | refine Below.drewN' ?_ _ | refine Below.alloc ?_ (by first | exact Nat.le_refl _ | (simp; done) | (simp; omega)) _)) : Below w.heap.size w _).trans (B1.mono (by simp; omega))); have zz1 : w.heap.size + 2 ≤ w1.heap.size := (by have := B1.size; simp at this; omega))
    clear hcK hfK
    go_region_held3 (fun w' => w'.cell? ⟨w.heap.size, 0, none⟩ = some (.int .i64 a) ∧ w'.cell? ⟨w.heap.size, 1, none⟩ = some (.int .i64 b) ∧ w'.cell? ⟨w.heap.size + 1, 0, none⟩ = some (.int .i64 c) ∧ w'.cell? ⟨w.heap.size + 1, 1, none⟩ = some (.int .i64 d))
      (first | (exact ⟨y0, y1, y2, y3⟩) | (exact ⟨v0, v1, v2, v3⟩) | (exact ⟨u0, u1, u2, u3⟩) | (refine ⟨?_, ?_, ?_, ?_⟩ <;> simp [go_sem, *]; done))
      (first
        | (go_at_call 110; refine (sturmOf_any A n cc p _ (by exact hA.below (Nat.le_refl _) (by first | exact KB1 | exact KB1.drew | exact KB1.drewN' _)) n1 n7).mono ?_; rintro e w2 ⟨g, cg, rfl, HST, hlen, B2⟩; have v0 := (B2.cell (p := ⟨w.heap.size, 0, none⟩) (by show w.heap.size < w1.heap.size; omega)).trans u0; have v1 := (B2.cell (p := ⟨w.heap.size, 1, none⟩) (by show w.heap.size < w1.heap.size; omega)).trans u1; have v2 := (B2.cell (p := ⟨w.heap.size + 1, 0, none⟩) (by show w.heap.size + 1 < w1.heap.size; omega)).trans u2; have v3 := (B2.cell (p := ⟨w.heap.size + 1, 1, none⟩) (by show w.heap.size + 1 < w1.heap.size; omega)).trans u3; have KB2 : Below w.heap.size w w2 := (by first | exact KB1.trans (B2.mono (by show w.heap.size ≤ w1.heap.size; omega)) | exact (Below.drew KB1).trans (B2.mono (by show w.heap.size ≤ w1.heap.size; omega))); have zz2 : w.heap.size + 2 ≤ w2.heap.size := (by have := B2.size; simp at this; omega))
        | (go_at_call 111; refine (rootsIn0_any (some ⟨g, 0, none⟩) (sturmR n p) _ cg 786431 a b c d _ (by exact HST) rfl (by omega) (by omega) ha hb hc hd).mono ?_; rintro e w3 ⟨rfl, B3⟩; have y0 := (B3.cell (p := ⟨w.heap.size, 0, none⟩) (by show w.heap.size < w2.heap.size; omega)).trans v0; have y1 := (B3.cell (p := ⟨w.heap.size, 1, none⟩) (by show w.heap.size < w2.heap.size; omega)).trans v1; have y2 := (B3.cell (p := ⟨w.heap.size + 1, 0, none⟩) (by show w.heap.size + 1 < w2.heap.size; omega)).trans v2; have y3 := (B3.cell (p := ⟨w.heap.size + 1, 1, none⟩) (by show w.heap.size + 1 < w2.heap.size; omega)).trans v3))
    go_wp2
    go_ret2
    exact ⟨by rw [HR.out]; rfl, KB2.trans (B3.mono KB2.size)⟩
  · have he' : (ckR n p a b c d != 0) = true := by simpa using he
    have HR := Lib.hid (show rootsInN n p a b c d = (0, ckR n p a b c d) by unfold rootsInN; rw [if_pos he])
    clear he
    go_enter Try.func75, Try.ntmps75
    go_wp2_with (go_at_call 109; refine (checkRoots_any A n cc p a b c d _ (by exact hA.below (Nat.le_refl _) (by repeat (first | exact Below.refl _ _ | refine Below.drew ?_ | refine Below.drewN' ?_ _ | refine Below.alloc ?_ (by first | exact Nat.le_refl _ | (simp; done) | (simp; omega)) _))) hn ha hb hc hd).mono ?_; rintro e w1 ⟨rfl, B1⟩; have KB1 : Below w.heap.size w w1 := (((by repeat (first | exact Below.refl _ _ | refine Below.drew ?_ | refine Below.drewN' ?_ _ | refine Below.alloc ?_ (by first | exact Nat.le_refl _ | (simp; done) | (simp; omega)) _)) : Below w.heap.size w _).trans (B1.mono (by simp; omega))))
    go_ret2
    exact ⟨by rw [HR.out]; rfl, KB1⟩

end Go.Proofs.Ytdlddfmodbcnmaa
