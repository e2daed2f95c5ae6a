/- Walks: the sign of a polynomial at a fraction. -/
import Derived.Test.YtfnmnnbmhfbkbaaP3
import Derived.Deep.RegionHeld3
set_option linter.unusedVariables false
set_option linter.unusedSimpArgs false
namespace Go.Proofs.Ytfnmnnbmhfbkbaa
open Go.RowKit

def sigN (n : Nat) (p : Row) (a b : Int) : Int × Int := if ckP n p ≠ 0 then (0, ckP n p) else if ckF a b ≠ 0 then (0, ckF a b) else (sgAt n p a b, 0)

set_option maxRecDepth 100000 in
set_option maxHeartbeats 4000000 in
theorem signAtP_any (A : Option Addr) (n c : Nat) (p : Row) (a b : Int) (w : World) (hA : IS w A n p) (hn : n ≤ 1000000) (ha : I64 a) (hb : I64 b) :
    Calls Try.prog 72 #[.slice A n c, .agg #[.int .i64 a, .int .i64 b]] w fun e w' => e = .returned (.tuple #[.int .i64 (sigN n p a b).1, .int .i64 (sigN n p a b).2]) ∧ Below w.heap.size w w' := by
  have HA := Bx.mk hA
  by_cases h0 : ckP n p = 0
  · obtain ⟨n1, n7, _⟩ := ckP_zeroB h0
    by_cases h1 : ckFs [(a, b)] = 0
    · have HN := Bx.mk (show sigN n p a b = (sgAt n p a b, 0) by rw [ckFs_one] at h1; unfold sigN; rw [if_neg (by simpa using h0), if_neg (by simpa using h1)])
      have HZ := Bx.mk h0
      have HFF := Bx.mk h1
      clear h0 h1 hA
      go_enter Try.func72, Try.ntmps72
      go_wp2_with (first
        | (go_at_call 67; refine (checkPoly_any A n c p _ (HA.out.below (Nat.le_refl _) (below_alloc1 _ _)) hn).mono ?_; rw [HZ.out]; rintro e w1 ⟨rfl, B1⟩; have A1 := Bx.mk ((HA.out.below (Nat.le_refl _) (below_alloc1 _ _)).below (Nat.le_refl _) B1); have F1 := Bx.mk ((_root_.Go.Proofs.Ytfnmnnbmhfbkbaa.HF.new w 23 a b).below B1); have M1 := below_call (Below.refl w.heap.size w) B1; obtain ⟨z1, p1, q1⟩ := F1.out)
        | (go_at_call 83; refine (checkFracs1 a b _ _ (by simp) ha hb (by simp [go_sem, World.cell?_alloc_past]) (by simp [go_sem, World.cell?_alloc_past])).mono ?_; rw [HFF.out]; rintro e w2 ⟨rfl, B2⟩; have A2 := Bx.mk ((A1.out.below (Nat.le_refl _) (below_alloc1 _ _)).below (Nat.le_refl _) B2); have F2 := Bx.mk ((F1.out.alloc _).below B2); have M2 := below_call M1 B2; obtain ⟨z2, p2, q2⟩ := F2.out))
      go_region_held3 (fun w' => w'.cell? ⟨w.heap.size, 0, none⟩ = some (.int .i64 a) ∧ w'.cell? ⟨w.heap.size, 1, none⟩ = some (.int .i64 b))
        (first | (exact ⟨p2, q2⟩) | (exact ⟨p3, q3⟩) | (exact ⟨p4, q4⟩))
        (first
          | (go_at_call 105; refine (longPoly_any A n c p _ (A2.out.below (Nat.le_refl _) (Below.refl _ _).drew) (by omega)).mono ?_; rintro e w3 ⟨g, rfl, P3, B3⟩; replace B3 : Below w2.heap.size w2 w3 := (by first | exact B3 | exact (Below.refl _ _).drew.trans B3); have Q3 := Bx.mk P3; clear P3; have F3 := Bx.mk (F2.out.below B3); have M3 := below_call0 M2 B3; obtain ⟨z3, p3, q3⟩ := F3.out)
          | (go_at_call 106; refine (signAt_any (some ⟨g, 0, none⟩) n n p 1 a b _ (fun _ => ⟨g, rfl, Q3.out⟩) (by omega) (by omega) ha hb).mono ?_; rintro e w4 ⟨rfl, B4⟩; replace B4 : Below w3.heap.size w3 w4 := (by first | exact B4 | exact (Below.refl _ _).drew.trans B4); have F4 := Bx.mk (F3.out.below B4); have M4 := below_call0 M3 B4; obtain ⟨z4, p4, q4⟩ := F4.out))
      go_wp2
      go_ret2
      exact ⟨by rw [HN.out]; rfl, by first | exact M4 | exact M4.drew | exact below_drewN M4 _⟩
    · have HN := Bx.mk (show sigN n p a b = (0, ckFs [(a, b)]) by rw [ckFs_one] at h1 ⊢; unfold sigN; rw [if_neg (by simpa using h0), if_pos h1])
      have HZ := Bx.mk h0
      have hE : (ckFs [(a, b)] != 0) = true := by simpa using h1
      clear h0 h1 hA
      go_enter Try.func72, Try.ntmps72
      go_wp2_with (first
        | (go_at_call 67; refine (checkPoly_any A n c p _ (HA.out.below (Nat.le_refl _) (below_alloc1 _ _)) hn).mono ?_; rw [HZ.out]; rintro e w1 ⟨rfl, B1⟩; have F1 := Bx.mk ((_root_.Go.Proofs.Ytfnmnnbmhfbkbaa.HF.new w 23 a b).below B1); have M1 := below_call (Below.refl w.heap.size w) B1; obtain ⟨z1, p1, q1⟩ := F1.out)
        | (go_at_call 83; refine (checkFracs1 a b _ _ (by simp) ha hb (by simp [go_sem, World.cell?_alloc_past]) (by simp [go_sem, World.cell?_alloc_past])).mono ?_; rintro e w2 ⟨rfl, B2⟩; have M2 := below_call M1 B2))
      go_ret2
      exact ⟨by rw [HN.out]; rfl, M2⟩
  · have HN := Bx.mk (show sigN n p a b = (0, ckP n p) by unfold sigN; rw [if_pos h0])
    have hE : (ckP n p != 0) = true := by simpa using h0
    clear h0 hA
    go_enter Try.func72, Try.ntmps72
    go_wp2_with (go_at_call 67; refine (checkPoly_any A n c p _ (HA.out.below (Nat.le_refl _) (below_alloc1 _ _)) hn).mono ?_; rintro e w1 ⟨rfl, B1⟩; have M1 := below_call (Below.refl w.heap.size w) B1)
    go_ret2
    exact ⟨by rw [HN.out]; rfl, M1⟩

end Go.Proofs.Ytfnmnnbmhfbkbaa
