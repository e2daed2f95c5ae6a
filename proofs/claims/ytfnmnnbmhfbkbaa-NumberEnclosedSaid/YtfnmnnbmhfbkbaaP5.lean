/- Walks: the law of polynomials. -/
import Derived.Test.YtfnmnnbmhfbkbaaP4
import Derived.Test.YtfnmnnbmhfbkbaaAw
set_option linter.unusedVariables false
set_option linter.unusedSimpArgs false
namespace Go.Proofs.Ytfnmnnbmhfbkbaa
open Go.RowKit

theorem eqR_self (p : Row) : ∀ n, eqR p p n = true
  | 0 => rfl
  | n + 1 => by unfold eqR; rw [eqR_self p n]; simp
theorem eqL_self (n : Nat) (p : Row) : eqL n p n p = true := by unfold eqL; rw [eqR_self]; simp

set_option maxRecDepth 100000 in
set_option maxHeartbeats 4000000 in
theorem polys_long (HAW : Awake) (A : Option Addr) (n c : Nat) (w : World) (hn : n ≤ 9223372036854775807) (h : 10 < n) :
    Calls Try.prog 11 #[.slice A n c] w fun e w' => e = .returned (.bool true) ∧ Below w.heap.size w w' := by
  have h' : (10 : Int) < n := by omega
  go_enter Try.func11, Try.ntmps11
  go_wp2_with (go_at_call 20; refine (HAW _).mono ?_; rintro e w0 ⟨rfl, B0⟩)
  go_ret
  exact ⟨rfl, B0⟩

set_option maxRecDepth 100000 in
set_option maxHeartbeats 4000000 in
theorem polys_bad (HAW : Awake) (A : Option Addr) (n c : Nat) (p : Row) (E : Int) (w : World) (hA : IS w A n p) (hs : SV A n c) (h : n ≤ 10) (HE : Bx (ckP n p = E)) (HD : Bx (derN n p = (0, E))) (h0 : (E != 0) = true) :
    Calls Try.prog 11 #[.slice A n c] w fun e w' => e = .returned (.bool true) ∧ Below w.heap.size w w' := by
  have h' : ¬ (10 : Int) < n := by omega
  have HA := Bx.mk hA
  have HS := Bx.mk hs
  clear hA hs
  go_enter Try.func11, Try.ntmps11
  go_wp2_with (go_at_call 20; refine (HAW _).mono ?_; rintro e w0 ⟨rfl, B0⟩; have A0 := Bx.mk (HA.out.below (Nat.le_refl _) B0))
  go_wp2_with (go_at_call 65; (with_reducible refine (copyInts_any A n c p _ A0.out HS.out (by omega)).mono ?_); rintro e w1 ⟨g1, c1, rfl, _, _, _, I1, B1⟩; have K1 := Bx.mk I1; clear I1; have M1 := below_call0 B0 B1; have A1 := Bx.mk (A0.out.below (Nat.le_refl _) B1))
  go_wp2_with (go_at_call 64; (with_reducible refine (pDerivative_any _ n c1 p _ K1.out (by omega)).mono ?_); rw [HD.out]; rintro e w2 ⟨D, d, rfl, _, B2⟩; have M2 := below_call0 M1 B2; have A2 := Bx.mk (A1.out.below (Nat.le_refl _) B2))
  go_wp2_with (go_at_call 66; (with_reducible refine (checkPolyR_any A n c p _ A2.out (by omega)).mono ?_); rw [HE.out]; rintro e w3 ⟨rfl, rfl⟩)
  go_wp2_with (go_at_call 65; (with_reducible refine (copyInts_any A n c p _ A2.out HS.out (by omega)).mono ?_); rintro e w4 ⟨g4, c4, rfl, _, _, _, I4, B4⟩; have K4 := Bx.mk I4; clear I4; have M4 := below_call0 M2 B4)
  go_wp2_with (go_at_call 67; (with_reducible refine (checkPoly_any _ n c4 p _ K4.out (by omega)).mono ?_); rw [HE.out]; rintro e w5 ⟨rfl, B5⟩; have M5 := below_call0 M4 B5)
  go_ret
  exact ⟨rfl, M5⟩

set_option maxRecDepth 100000 in
set_option maxHeartbeats 4000000 in
theorem polys_good (HAW : Awake) (A : Option Addr) (n c : Nat) (p : Row) (m : Nat) (E : Int) (w : World) (hA : IS w A n p) (hs : SV A n c) (h : n ≤ 10) (HE : Bx (ckP n p = 0)) (HD : Bx (derN n p = (m, E))) (HO : Bx (derO n p = (m, E))) (hm : m ≤ 10) :
    Calls Try.prog 11 #[.slice A n c] w fun e w' => e = .returned (.bool true) ∧ Below w.heap.size w w' := by
  have h' : ¬ (10 : Int) < n := by omega
  have HA := Bx.mk hA
  have HS := Bx.mk hs
  clear hA hs
  go_enter Try.func11, Try.ntmps11
  go_wp2_with (go_at_call 20; refine (HAW _).mono ?_; rintro e w0 ⟨rfl, B0⟩; have A0 := Bx.mk (HA.out.below (Nat.le_refl _) B0))
  go_wp2_with (go_at_call 65; (with_reducible refine (copyInts_any A n c p _ A0.out HS.out (by omega)).mono ?_); rintro e w1 ⟨g1, c1, rfl, _, _, _, I1, B1⟩; have K1 := Bx.mk I1; clear I1; have M1 := below_call0 B0 B1; have A1 := Bx.mk (A0.out.below (Nat.le_refl _) B1))
  go_wp2_with (go_at_call 64; (with_reducible refine (pDerivative_any _ n c1 p _ K1.out (by omega)).mono ?_); rw [HD.out]; rintro e w2 ⟨D, d, rfl, I2, B2⟩; have K2 := Bx.mk I2; clear I2; have M2 := below_call0 M1 B2; have A2 := Bx.mk (A1.out.below (Nat.le_refl _) B2))
  go_wp2_with (go_at_call 66; (with_reducible refine (checkPolyR_any A n c p _ A2.out (by omega)).mono ?_); rw [HE.out]; rintro e w3 ⟨rfl, rfl⟩)
  go_wp2_with (go_at_call 65; (with_reducible refine (copyInts_any A n c p _ A2.out HS.out (by omega)).mono ?_); rintro e w4 ⟨g4, c4, rfl, _, _, _, I4, B4⟩; have K4 := Bx.mk I4; clear I4; have M4 := below_call0 M2 B4; have A4 := Bx.mk (A2.out.below (Nat.le_refl _) B4); have D4 := Bx.mk (K2.out.below (Nat.le_refl _) B4))
  go_wp2_with (go_at_call 67; (with_reducible refine (checkPoly_any _ n c4 p _ K4.out (by omega)).mono ?_); rw [HE.out]; rintro e w5 ⟨rfl, B5⟩; have M5 := below_call0 M4 B5; have A5 := Bx.mk (A4.out.below (Nat.le_refl _) B5); have D5 := Bx.mk (D4.out.below (Nat.le_refl _) B5))
  go_wp2_with (go_at_call 68; (with_reducible refine (derivR_any A n c p _ A5.out HE.out).mono ?_); rw [HO.out]; rintro e w6 ⟨D', d', rfl, I6, B6⟩; have K6 := Bx.mk I6; clear I6; have M6 := below_call0 M5 B6; have D6 := Bx.mk (D5.out.below (Nat.le_refl _) B6))
  go_wp2_with (go_at_call 69; (with_reducible refine (ints_any D D' m d m d' (dvR p) (dvR p) _ D6.out K6.out (by omega) (by omega)).mono ?_); rw [eqL_self]; rintro e w7 ⟨rfl, k, rfl⟩)
  go_ret
  exact ⟨rfl, below_drewN M6 _⟩

theorem numberPolys_any (HAW : Awake) (A : Option Addr) (n c : Nat) (p : Row) (w : World) (hA : IS w A n p) (hs : SV A n c) (hn : n ≤ 9223372036854775807) :
    Calls Try.prog 11 #[.slice A n c] w fun e w' => e = .returned (.bool true) ∧ Below w.heap.size w w' := by
  rcases Nat.lt_or_ge 10 n with h | h
  · exact polys_long HAW A n c w hn h
  · by_cases z : ckP n p = 0
    · have HD : derN n p = derO n p := by unfold derN; rw [if_neg (by simpa using z)]
      have hm : (derO n p).1 ≤ 10 := by unfold derO; split <;> (try split) <;> (first | (simp; done) | (simp; omega))
      rcases ho : derO n p with ⟨m, E⟩
      rw [ho] at hm
      exact polys_good HAW A n c p m E w hA hs h ⟨z⟩ ⟨HD.trans ho⟩ ⟨ho⟩ hm
    · exact polys_bad HAW A n c p (ckP n p) w hA hs h ⟨rfl⟩ ⟨by unfold derN; rw [if_pos z]⟩ (by simpa using z)

end Go.Proofs.Ytfnmnnbmhfbkbaa
