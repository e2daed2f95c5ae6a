/- Bisection, plain; walks: the program's search for a root. -/
import Derived.Test.YtfnmnnbmhfbkbaaRa
import Derived.Test.YtfnmnnbmhfbkbaaBg
import Derived.Test.YtfnmnnbmhfbkbaaBf
import Derived.Deep.RegionHeld3
set_option linter.unusedVariables false
set_option linter.unusedSimpArgs false
namespace Go.Proofs.Ytfnmnnbmhfbkbaa
open Go.RowKit

/-- The least of a and b's whole numbers with fewer changes behind it than c0, by halves. -/
def bisU (l : List (Nat × Row)) (c0 t : Int) : Nat → Int → Int → Int
  | 0, _, b => b
  | k + 1, a, b => if 1 < b - a then (if chgR (a + (b - a) / 2) t l < c0 then bisU l c0 t k a (a + (b - a) / 2) else bisU l c0 t k (a + (b - a) / 2) b) else b
theorem bisU_end {l : List (Nat × Row)} {c0 t : Int} {a b : Int} (h : ¬ 1 < b - a) : ∀ k, bisU l c0 t k a b = b
  | 0 => rfl
  | k + 1 => by show (if 1 < b - a then _ else b) = b; rw [if_neg h]
theorem bisU_fuel {l : List (Nat × Row)} {c0 t : Int} : ∀ (k k' : Nat) (a b : Int), (b - a).toNat ≤ k → (b - a).toNat ≤ k' → bisU l c0 t k a b = bisU l c0 t k' a b
  | 0, k', a, b, h, _ => by rw [bisU_end (by omega), bisU_end (by omega)]
  | k + 1, 0, a, b, _, h => by rw [bisU_end (by omega), bisU_end (by omega)]
  | k + 1, k' + 1, a, b, h, h' => by
    by_cases c : 1 < b - a
    · show (if 1 < b - a then _ else _) = (if 1 < b - a then _ else _)
      rw [if_pos c, if_pos c]
      split
      · exact bisU_fuel k k' _ _ (by omega) (by omega)
      · exact bisU_fuel k k' _ _ (by omega) (by omega)
    · rw [bisU_end c, bisU_end c]
theorem bisU_lt {l : List (Nat × Row)} {c0 t a b : Int} (c : 1 < b - a) (h : chgR (a + (b - a) / 2) t l < c0) : bisU l c0 t (b - a).toNat a b = bisU l c0 t (a + (b - a) / 2 - a).toNat a (a + (b - a) / 2) := by
  obtain ⟨k, hk⟩ : ∃ k, (b - a).toNat = k + 1 := ⟨(b - a).toNat - 1, by omega⟩
  rw [hk]
  show (if 1 < b - a then _ else _) = _
  rw [if_pos c, if_pos h]
  exact bisU_fuel _ _ _ _ (by omega) (Nat.le_refl _)
theorem bisU_ge {l : List (Nat × Row)} {c0 t a b : Int} (c : 1 < b - a) (h : ¬ chgR (a + (b - a) / 2) t l < c0) : bisU l c0 t (b - a).toNat a b = bisU l c0 t (b - (a + (b - a) / 2)).toNat (a + (b - a) / 2) b := by
  obtain ⟨k, hk⟩ : ∃ k, (b - a).toNat = k + 1 := ⟨(b - a).toNat - 1, by omega⟩
  rw [hk]
  show (if 1 < b - a then _ else _) = _
  rw [if_pos c, if_neg h]
  exact bisU_fuel _ _ _ _ (by omega) (Nat.le_refl _)
theorem bisU_bd {l : List (Nat × Row)} {c0 t X : Int} : ∀ (k : Nat) (a b : Int), -X ≤ a → a ≤ X → -X ≤ b → b ≤ X → -X ≤ bisU l c0 t k a b ∧ bisU l c0 t k a b ≤ X
  | 0, a, b, h1, h2, h3, h4 => ⟨h3, h4⟩
  | k + 1, a, b, h1, h2, h3, h4 => by
    by_cases c : 1 < b - a
    · show -X ≤ (if 1 < b - a then _ else _) ∧ (if 1 < b - a then _ else _) ≤ X
      rw [if_pos c]
      split
      · exact bisU_bd k _ _ h1 h2 (by omega) (by omega)
      · exact bisU_bd k _ _ (by omega) (by omega) h3 h4
    · rw [bisU_end c]; exact ⟨h3, h4⟩

set_option maxRecDepth 100000 in
set_option maxHeartbeats 4000000 in
theorem rootUp_any (A : Option Addr) (l : List (Nat × Row)) (n cc : Nat) (L : Nat) (a b u v t : Int) (w : World) (hA : ST w A l L) (hl : l.length = n) (hn : n ≤ 1000) (hL : L ≤ 999999800) (ha : I64 a) (hb : I64 b) (u1 : -10000000000000000 ≤ u) (u2 : u ≤ 10000000000000000) (v1 : -10000000000000000 ≤ v) (v2 : v ≤ 10000000000000000) (ht : I64 t) :
    Calls Try.prog 113 #[.slice A n cc, .agg #[.int .i64 a, .int .i64 b], .agg #[.int .i64 u, .int .i64 v], .int .i64 t] w fun e w' => e = .returned (.int .i64 (bisU l (chgR a b l) t (v - u).toNat u v)) ∧ Below w.heap.size w w' := by
  have HL := Bx.mk hl
  obtain ⟨k0, k1⟩ := chgR_bd a b l
  rw [hl] at k1
  have HA := Bx.mk hA
  clear hl hA
  obtain ⟨c0, hc0⟩ : ∃ c0, chgR a b l = c0 := ⟨_, rfl⟩
  have HC0 := Bx.mk hc0
  rw [hc0] at k0 k1 ⊢
  clear hc0
  have B0 := Bx.mk (show Below w.heap.size w ((w.alloc (.cells #[.int .i64 a, .int .i64 b] 23)).alloc (.cells #[.int .i64 u, .int .i64 v] 38)) from ((Below.refl _ _).alloc (Nat.le_refl _) _).alloc (by simp) _)
  have A0 := Bx.mk (HA.out.below (Nat.le_refl _) B0.out)
  go_enter Try.func113, Try.ntmps113
  go_wp2_with (go_at_call 134; (with_reducible refine (changesBehind_any A l n cc L a b _ A0.out HL.out hn hL ha hb).mono ?_); rw [HC0.out]; rintro e w1 ⟨rfl, B1⟩; obtain ⟨hcK, hfK⟩ := bcell B1; have u0 : w1.cell? ⟨w.heap.size + 1, 0, none⟩ = some (.int .i64 u) := (by rw [hcK _ _ (by simp)]; simp [go_sem, World.cell?_alloc_past]); have u1' : w1.cell? ⟨w.heap.size + 1, 1, none⟩ = some (.int .i64 v) := (by rw [hcK _ _ (by simp)]; simp [go_sem, World.cell?_alloc_past]); have M1 := Bx.mk (B0.out.trans (B1.mono B0.out.size)); have A1 := Bx.mk (A0.out.below (Nat.le_refl _) B1); clear hcK hfK)
  go_quiet (fail)
  go_wp2
  have M2 := Bx.mk (below_drewN M1.out nq)
  have A2 := Bx.mk (show ST (w1.drewN nq) A l L from A1.out.below (Nat.le_refl _) (below_drewN (Below.refl _ _) _))
  clear M1 A1 u0 u1'
  generalize w1.drewN nq = w2 at *
  go_loopw [10, 11] (fun x y wr => ∃ p q : Int, x = .int .i64 p ∧ y = .int .i64 q ∧ -10000000000000000 ≤ p ∧ p ≤ 10000000000000000 ∧ -10000000000000000 ≤ q ∧ q ≤ 10000000000000000 ∧ Bx (bisU l c0 t (q - p).toNat p q = bisU l c0 t (v - u).toNat u v) ∧ Bx (Below w2.heap.size w2 wr)) (fun x y _ => (intOf y - intOf x).toNat)
  case atStart => exact ⟨u, v, rfl, rfl, u1, u2, v1, v2, ⟨rfl⟩, ⟨Below.refl _ _⟩⟩
  case round =>
    obtain ⟨p, q, rfl, rfl, p1, p2, q1, q2, HR, HB⟩ := hrel
    by_cases hc : 1 < q - p
    · have hm0 : 0 ≤ (q - p) / 2 := by omega
      have hm1 : p < p + (q - p) / 2 := by omega
      have hm2 : p + (q - p) / 2 < q := by omega
      have Ar := Bx.mk (A2.out.below (Nat.le_refl _) HB.out)
      have HBL := Bx.mk (bisU_lt (l := l) (c0 := c0) (t := t) hc)
      have HBG := Bx.mk (bisU_ge (l := l) (c0 := c0) (t := t) hc)
      obtain ⟨cm, hcm⟩ : ∃ cm, chgR (p + (q - p) / 2) t l = cm := ⟨_, rfl⟩
      have HCM := Bx.mk hcm
      clear hcm
      have hIm : I64 (p + (q - p) / 2) := ⟨by omega, by omega⟩
      by_cases hlt : cm < c0
      · have HN := Bx.mk ((HBL.out (by rw [HCM.out]; exact hlt)).symm.trans HR.out)
        go_wp2_with (go_at_call 134; (with_reducible refine (changesBehind_any A l n cc L (p + (q - p) / 2) t _ Ar.out HL.out hn hL hIm ht).mono ?_); rw [HCM.out]; rintro e w3 ⟨rfl, B3⟩; have HB3 := Bx.mk B3; clear B3)
        go_roundw
        case rel => exact ⟨p, p + (q - p) / 2, rfl, rfl, p1, p2, by omega, by omega, HN, ⟨HB.out.trans (HB3.out.mono HB.out.size)⟩⟩
        case measure => simp [intOf]; omega
      · have HN := Bx.mk ((HBG.out (by rw [HCM.out]; exact hlt)).symm.trans HR.out)
        go_wp2_with (go_at_call 134; (with_reducible refine (changesBehind_any A l n cc L (p + (q - p) / 2) t _ Ar.out HL.out hn hL hIm ht).mono ?_); rw [HCM.out]; rintro e w3 ⟨rfl, B3⟩; have HB3 := Bx.mk B3; clear B3)
        go_roundw
        case rel => exact ⟨p + (q - p) / 2, q, rfl, rfl, by omega, by omega, q1, q2, HN, ⟨HB.out.trans (HB3.out.mono HB.out.size)⟩⟩
        case measure => simp [intOf]; omega
    · have HN := Bx.mk (bisU_end (l := l) (c0 := c0) (t := t) hc (q - p).toNat)
      go_wp2
      go_ret
      exact ⟨ret_int (HN.out.symm.trans HR.out), M2.out.trans (HB.out.mono M2.out.size)⟩

end Go.Proofs.Ytfnmnnbmhfbkbaa
