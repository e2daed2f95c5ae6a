/- Walks: the reference's SignAt and RootsIn. -/
import Derived.Test.YtfnmnnbmhfbkbaaVB
import Derived.Test.YtfnmnnbmhfbkbaaBg
import Derived.Deep.RegionHeld3
set_option linter.unusedVariables false
set_option linter.unusedSimpArgs false
namespace Go.Proofs.Ytfnmnnbmhfbkbaa
open Go.RowKit

theorem ckP_all {n : Nat} {p : Row} (h : ckP n p = 0) : 1 ≤ n ∧ n ≤ 7 ∧ p (n - 1) ≠ 0 ∧ ∀ i, i < n → sz (p i) ≤ 1000000 := by
  obtain ⟨a, b, c, d⟩ := ckP_zero h
  exact ⟨a, b, d, c⟩
theorem sturmR_tops {n : Nat} {p : Row} (hn : 1 ≤ n) (h : p (n - 1) ≠ 0) : ∀ x, x ∈ sturmR n p → TopP x := by
  obtain ⟨m, rfl⟩ : ∃ m, n = m + 1 := ⟨n - 1, by omega⟩
  exact sturmR_top h

set_option maxRecDepth 100000 in
set_option maxHeartbeats 4000000 in
theorem signAtR_any (A : Option Addr) (n c : Nat) (p : Row) (a b : Int) (w : World) (hA : IS w A n p) (h0 : ckP n p = 0) (hf : ckFs [(a, b)] = 0) :
    Calls Try.prog 73 #[.slice A n c, .agg #[.int .i64 a, .int .i64 b]] w fun e w' => e = .returned (.int .i64 (sgAt n p a b)) ∧ Below w.heap.size w w' := by
  rw [ckFs_one] at hf
  obtain ⟨a1, a2, b1, b2, _⟩ := ckF_zero hf
  obtain ⟨n1, n7, htop, hsz⟩ := ckP_all h0
  have HA := Bx.mk hA
  have HTP := Bx.mk htop
  have HSZ := Bx.mk hsz
  clear hA h0 hf htop hsz
  have A0 := Bx.mk (HA.out.below (Nat.le_refl _) (below_alloc1 w (.cells #[.int .i64 a, .int .i64 b] 23)))
  have F0 := Bx.mk (_root_.Go.Proofs.Ytfnmnnbmhfbkbaa.HF.new w 23 a b)
  obtain ⟨z0, p0, q0⟩ := F0.out
  have hpos : 0 < (sturmR n p).length := by simp [sturmR]
  have hposI : (0 : Int) < ((sturmR n p).length : Int) := by omega
  go_enter Try.func73, Try.ntmps73
  go_wp2
  go_region_law (first
      | (go_simp; go_at_call 108; (with_reducible refine (chainW_any A n c p _ (by first | exact A0.out | exact A0.out.below (Nat.le_refl _) (Below.refl _ _).drew) n1 n7 HTP.out HSZ.out).mono ?_); rintro e w1 ⟨g, cg, rfl, T1, len1, B1⟩; replace B1 : Below (w.alloc (.cells #[.int .i64 a, .int .i64 b] 23)).heap.size (w.alloc (.cells #[.int .i64 a, .int .i64 b] 23)) w1 := (by first | exact B1 | exact (Below.refl _ _).drew.trans B1 | exact (below_drewN (Below.refl _ _) _).trans B1); have F1 := Bx.mk (F0.out.below B1); have M1 := below_call (Below.refl w.heap.size w) B1; obtain ⟨z1, p1, q1⟩ := F1.out; obtain ⟨g', eg, hgl, hge⟩ := T1 (by simp [sturmR]); obtain ⟨Ai, ci, r0, P0, _⟩ := hge 0 (n, p) rfl; injection eg with eg; injection eg with eg; subst eg; have HP0 := Bx.mk P0; clear P0 T1 hge; dsimp only at r0)
      | (go_simp; go_at_call 107; (with_reducible refine (signW_any Ai n ci p 1835006 a b _ (by first | exact HP0.out | exact HP0.out.below (Nat.le_refl _) (Below.refl _ _).drew) (by omega) (by omega) (by omega) (by omega) (by omega) (by omega)).mono ?_); rintro e w2 ⟨rfl, B2⟩; replace B2 : Below w1.heap.size w1 w2 := (by first | exact B2 | exact (Below.refl _ _).drew.trans B2 | exact (below_drewN (Below.refl _ _) _).trans B2); have F2 := Bx.mk (F1.out.below B2); have M2 := below_call0 M1 B2; obtain ⟨z2, p2, q2⟩ := F2.out))
  all_goals
    go_wp2
    go_ret
    exact ⟨rfl, by first | exact M2 | exact M2.drew | exact below_drewN M2 _⟩

set_option maxRecDepth 100000 in
set_option maxHeartbeats 4000000 in
theorem rootsInR_any (A : Option Addr) (n cc : Nat) (p : Row) (a b c d : Int) (w : World) (hA : IS w A n p) (h0 : ckP n p = 0) (hf : ckFs [(a, b), (c, d)] = 0) :
    Calls Try.prog 77 #[.slice A n cc, .agg #[.int .i64 a, .int .i64 b], .agg #[.int .i64 c, .int .i64 d]] w fun e w' => e = .returned (.int .i64 (rootsL (sturmR n p) a b c d)) ∧ Below w.heap.size w w' := by
  obtain ⟨f1, f2⟩ := ckFs_two_zero hf
  obtain ⟨a1, a2, b1, b2, _⟩ := ckF_zero f1
  obtain ⟨c1, c2, d1, d2, _⟩ := ckF_zero f2
  obtain ⟨n1, n7, htop, hsz⟩ := ckP_all h0
  dsimp only at *
  have HA := Bx.mk hA
  have HTT := Bx.mk (sturmR_tops n1 htop)
  have HTP := Bx.mk htop
  have HSZ := Bx.mk hsz
  clear hA h0 hf htop hsz f1 f2
  obtain ⟨k0, k1⟩ := chgR_bd a b (sturmR n p)
  obtain ⟨k2, k3⟩ := chgR_bd c d (sturmR n p)
  go_enter Try.func77, Try.ntmps77
  go_wp2_with (go_at_call 108; (with_reducible refine (chainW_any A n cc p _ (HA.out.below (Nat.le_refl _) (by repeat (first | exact Below.refl _ _ | refine Below.drew ?_ | refine Below.drewN' ?_ _ | refine Below.alloc ?_ (by first | exact Nat.le_refl _ | (simp; done) | (simp; omega)) _))) n1 n7 HTP.out HSZ.out).mono ?_); rintro e w1 ⟨g, cg, rfl, T1, len1, B1⟩; obtain ⟨hcK, hfK⟩ := bcell B1; have u0 : w1.cell? ⟨w.heap.size, 0, none⟩ = some (.int .i64 a) := (by rw [hcK _ _ (by simp <;> omega)]; simp [go_sem, World.cell?_alloc_past]); have u1 : w1.cell? ⟨w.heap.size, 1, none⟩ = some (.int .i64 b) := (by rw [hcK _ _ (by simp <;> omega)]; simp [go_sem, World.cell?_alloc_past]); have u2 : w1.cell? ⟨w.heap.size + 1, 0, none⟩ = some (.int .i64 c) := (by rw [hcK _ _ (by simp <;> omega)]; simp [go_sem, World.cell?_alloc_past]); have u3 : w1.cell? ⟨w.heap.size + 1, 1, none⟩ = some (.int .i64 d) := (by rw [hcK _ _ (by simp <;> omega)]; simp [go_sem, World.cell?_alloc_past]); have KB1 : Below w.heap.size w w1 := (((by repeat (first | exact Below.refl _ _ | refine Below.drew ?_ | refine Below.drewN' ?_ _ | refine Below.alloc ?_ (by first | exact Nat.le_refl _ | (simp; done) | (simp; omega)) _)) : Below w.heap.size w _).trans (B1.mono (by simp; omega))); have zz1 : w.heap.size + 2 ≤ w1.heap.size := (by have := B1.size; simp at this; omega); have HT1 := Bx.mk T1; clear T1 hcK hfK)
  obtain ⟨N, hN⟩ : ∃ N, (sturmR n p).length = N := ⟨_, rfl⟩
  have HLN := Bx.mk hN
  rw [hN] at len1 k1 k3 ⊢
  clear hN
  have hw : IntKind.i64.wrap (chgR a b (sturmR n p) - chgR c d (sturmR n p)) = rootsL (sturmR n p) a b c d := IntWalk.i64_in _ (by omega)
  go_region_held3 (fun w' => w'.cell? ⟨w.heap.size, 0, none⟩ = some (.int .i64 a) ∧ w'.cell? ⟨w.heap.size, 1, none⟩ = some (.int .i64 b) ∧ w'.cell? ⟨w.heap.size + 1, 0, none⟩ = some (.int .i64 c) ∧ w'.cell? ⟨w.heap.size + 1, 1, none⟩ = some (.int .i64 d))
    (first | (exact ⟨u0, u1, u2, u3⟩) | (exact ⟨v0, v1, v2, v3⟩) | (exact ⟨y0, y1, y2, y3⟩))
    (first
      | (go_at_call 112; (with_reducible refine (changesW_any (some ⟨g, 0, none⟩) (sturmR n p) N cg 1835006 a b _ (by first | exact HT1.out | exact HT1.out.below (Nat.le_refl _) (Below.refl _ _).drew) HTT.out HLN.out (by omega) (by omega) (by omega) (by omega) (by omega) (by omega)).mono ?_); rintro e w2 ⟨rfl, B2⟩; replace B2 : Below w1.heap.size w1 w2 := (by first | exact B2 | exact (Below.refl _ _).drew.trans B2 | exact (below_drewN (Below.refl _ _) _).trans B2); have v0 := (B2.cell (p := ⟨w.heap.size, 0, none⟩) (by show w.heap.size < w1.heap.size; omega)).trans u0; have v1 := (B2.cell (p := ⟨w.heap.size, 1, none⟩) (by show w.heap.size < w1.heap.size; omega)).trans u1; have v2 := (B2.cell (p := ⟨w.heap.size + 1, 0, none⟩) (by show w.heap.size + 1 < w1.heap.size; omega)).trans u2; have v3 := (B2.cell (p := ⟨w.heap.size + 1, 1, none⟩) (by show w.heap.size + 1 < w1.heap.size; omega)).trans u3; have KB2 : Below w.heap.size w w2 := (KB1.trans (B2.mono KB1.size)); have zz2 : w.heap.size + 2 ≤ w2.heap.size := (by have := B2.size; omega); have HT2 := Bx.mk (HT1.out.below (Nat.le_refl _) B2))
      | (go_at_call 112; (with_reducible refine (changesW_any (some ⟨g, 0, none⟩) (sturmR n p) N cg 1835006 c d _ (by first | exact HT2.out | exact HT2.out.below (Nat.le_refl _) (Below.refl _ _).drew) HTT.out HLN.out (by omega) (by omega) (by omega) (by omega) (by omega) (by omega)).mono ?_); rintro e w3 ⟨rfl, B3⟩; replace B3 : Below w2.heap.size w2 w3 := (by first | exact B3 | exact (Below.refl _ _).drew.trans B3 | exact (below_drewN (Below.refl _ _) _).trans B3); have y0 := (B3.cell (p := ⟨w.heap.size, 0, none⟩) (by show w.heap.size < w2.heap.size; omega)).trans v0; have y1 := (B3.cell (p := ⟨w.heap.size, 1, none⟩) (by show w.heap.size < w2.heap.size; omega)).trans v1; have y2 := (B3.cell (p := ⟨w.heap.size + 1, 0, none⟩) (by show w.heap.size + 1 < w2.heap.size; omega)).trans v2; have y3 := (B3.cell (p := ⟨w.heap.size + 1, 1, none⟩) (by show w.heap.size + 1 < w2.heap.size; omega)).trans v3; have KB3 : Below w.heap.size w w3 := (KB2.trans (B3.mono KB2.size))))
  go_wp2
  go_ret
  exact ⟨rfl, by first | exact KB3 | exact KB3.drew | exact below_drewN KB3 _⟩

end Go.Proofs.Ytfnmnnbmhfbkbaa
