/- Walks: the law of reduced readings. -/
import Derived.Test.YtokeimlnlmobpaaQe
import Derived.Test.YtokeimlnlmobpaaQw
import Derived.Deep.RegionHeld3
import Derived.Deep.DeepCutAuto
set_option linter.unusedVariables false
set_option linter.unusedSimpArgs false
namespace Go.Proofs.Ytokeimlnlmobpaa
open Go.RowKit

/-- Four ints lie in block b. -/
def R4 (w : World) (b : Nat) (x0 x1 x2 x3 : Int) : Prop := b < w.heap.size ∧ w.cell? ⟨b, 0, none⟩ = some (.int .i64 x0) ∧ w.cell? ⟨b, 1, none⟩ = some (.int .i64 x1) ∧ w.cell? ⟨b, 2, none⟩ = some (.int .i64 x2) ∧ w.cell? ⟨b, 3, none⟩ = some (.int .i64 x3)
theorem R4.below {w w' : World} {b : Nat} {x0 x1 x2 x3 : Int} (h : R4 w b x0 x1 x2 x3) (B : Below w.heap.size w w') : R4 w' b x0 x1 x2 x3 :=
  ⟨Nat.lt_of_lt_of_le h.1 B.size, (B.cell (p := ⟨b, 0, none⟩) h.1).trans h.2.1, (B.cell (p := ⟨b, 1, none⟩) h.1).trans h.2.2.1, (B.cell (p := ⟨b, 2, none⟩) h.1).trans h.2.2.2.1, (B.cell (p := ⟨b, 3, none⟩) h.1).trans h.2.2.2.2⟩
theorem R4.new (w : World) (t : TypeId) (x0 x1 x2 x3 : Int) : R4 (w.alloc (.cells #[.int .i64 x0, .int .i64 x1, .int .i64 x2, .int .i64 x3] t)) w.heap.size x0 x1 x2 x3 := by
  refine ⟨by simp, ?_, ?_, ?_, ?_⟩ <;> simp [go_sem]
theorem Z4.new (w : World) (t : TypeId) : Z4 (w.alloc (.cells #[.int .i64 0, .int .i64 0, .int .i64 0, .int .i64 0] t)) w.heap.size := by
  refine ⟨by simp, ⟨?_, ?_, ?_, ?_⟩, ?_, ?_, ?_, ?_⟩ <;> simp [go_sem, World.frozen?_alloc_past]
abbrev w4 (w : World) (b : Nat) (x0 x1 x2 x3 : Int) : World := (((w.setCell ⟨b, 0, none⟩ (.int .i64 x0)).setCell ⟨b, 1, none⟩ (.int .i64 x1)).setCell ⟨b, 2, none⟩ (.int .i64 x2)).setCell ⟨b, 3, none⟩ (.int .i64 x3)
theorem Z4.put {w : World} {b : Nat} (h : Z4 w b) (x0 x1 x2 x3 : Int) : R4 (w4 w b x0 x1 x2 x3) b x0 x1 x2 x3 := by
  obtain ⟨h0, ⟨h1, h2, h3, h4⟩, _⟩ := h
  obtain ⟨j0, j1, j2, j3⟩ := set4 (.int .i64 x0) (.int .i64 x1) (.int .i64 x2) (.int .i64 x3) h1 h2 h3 h4
  exact ⟨by simpa [w4, World.setCell] using h0, j0, j1, j2, j3⟩
theorem K3.set4 {w : World} {b g : Nat} {x y z : Int} (h : K3 w b x y z) (hg : g ≠ b) (x0 x1 x2 x3 : Int) : K3 (w4 w g x0 x1 x2 x3) b x y z := by
  obtain ⟨l, h0, h1, h2⟩ := h
  refine ⟨by simpa [w4, World.setCell] using l, ?_, ?_, ?_⟩ <;> (unfold w4; rw [World.cell?_setCell_other _ _ _ _ (by simp <;> omega), World.cell?_setCell_other _ _ _ _ (by simp <;> omega), World.cell?_setCell_other _ _ _ _ (by simp <;> omega), World.cell?_setCell_other _ _ _ _ (by simp <;> omega)]; assumption)
theorem below_w4 {w0 w : World} {g : Nat} (h : Below w0.heap.size w0 w) (hg : w0.heap.size ≤ g) (x0 x1 x2 x3 : Int) : Below w0.heap.size w0 (w4 w g x0 x1 x2 x3) :=
  (((h.setCell (p := ⟨g, 0, none⟩) hg _).setCell (p := ⟨g, 1, none⟩) hg _).setCell (p := ⟨g, 2, none⟩) hg _).setCell (p := ⟨g, 3, none⟩) hg _
theorem K3.cells {w : World} {b : Nat} {x y z : Int} (h : K3 w b x y z) : w.cell? ⟨b, 0, none⟩ = some (.int .i64 x) ∧ w.cell? ⟨b, 1, none⟩ = some (.int .i64 y) ∧ w.cell? ⟨b, 2, none⟩ = some (.int .i64 z) := h.2
theorem K3.drew {w : World} {b : Nat} {x y z : Int} (h : K3 w b x y z) : K3 w.drew b x y z := h
theorem K3.set4' {w : World} {b g : Nat} {x y z : Int} (h : K3 w b x y z) (hg : g ≠ b) (x0 x1 x2 x3 : Int) : K3 ((((w.setCell ⟨g, 0, none⟩ (.int .i64 x0)).setCell ⟨g, 1, none⟩ (.int .i64 x1)).setCell ⟨g, 2, none⟩ (.int .i64 x2)).setCell ⟨g, 3, none⟩ (.int .i64 x3)) b x y z := h.set4 hg x0 x1 x2 x3
theorem K3.new (w : World) (t : TypeId) (x y z : Int) : K3 (w.alloc (.cells #[.int .i64 x, .int .i64 y, .int .i64 z] t)) w.heap.size x y z := by
  refine ⟨by simp, ?_, ?_, ?_⟩ <;> simp [go_sem]

set_option maxRecDepth 100000 in
set_option maxHeartbeats 8000000 in
theorem reduces_gen (HAW : Awake) (A : Option Addr) (n c : Nat) (p : Row) (z lo hi f t L H E C : Int) (w : World) (HA : Bx (IS w A n p)) (HAS : Bx (SV A n c)) (hn : n ≤ 45) (hz : I64 z) (hlo : I64 lo) (hhi : I64 hi)
    (HP : Bx (∀ (A : Option Addr) (c : Nat) (w : World), IS w A n p → Calls Try.prog 22 #[.slice A n c, .agg #[.int .i64 z, .int .i64 lo, .int .i64 hi]] w fun e w' => e = .returned (.tuple #[.agg #[.int .i64 f, .int .i64 t, .int .i64 L, .int .i64 H], .int .i64 E]) ∧ Below w.heap.size w w'))
    (HR : Bx (∀ (A : Option Addr) (c : Nat) (w : World), IS w A n p → Calls Try.prog 24 #[.slice A n c, .agg #[.int .i64 z, .int .i64 lo, .int .i64 hi]] w fun e w' => e = .returned (.tuple #[.agg #[.int .i64 f, .int .i64 t, .int .i64 L, .int .i64 H], .int .i64 E]) ∧ Below w.heap.size w w'))
    (HC : Bx (ckZ n p = C)) :
    Calls Try.prog 3 #[.slice A n c, .agg #[.int .i64 z, .int .i64 lo, .int .i64 hi]] w fun e w' => e = .returned (.bool true) ∧ Below w.heap.size w w' := by
  have h' : ¬ (45 : Int) < n := by omega
  go_enter Try.func3, Try.ntmps3
  go_wp2_with (go_at_call 21; refine (HAW _).mono ?_; rintro e w0 ⟨rfl, B0⟩; have M0 := Bx.mk (below_from (below_alloc1 w (.cells #[.int .i64 z, .int .i64 lo, .int .i64 hi] 26)) B0); have A0 := Bx.mk (HA.out.below (Nat.le_refl _) (below_from (below_alloc1 w (.cells #[.int .i64 z, .int .i64 lo, .int .i64 hi] 26)) B0)); have P0 := Bx.mk ((K3.new w 26 z lo hi).below B0); obtain ⟨_, sa0, sb0, sc0⟩ := P0.out; clear B0)
  go_upto_region 5 with (fail)
  go_cut [5, 6] (fun s5 s6 wx => ∃ B : Nat, s5 = .pointer (some ⟨B, 0, none⟩) ∧ s6 = .int .i64 E ∧ w0.heap.size ≤ B ∧ Bx (R4 wx B f t L H) ∧ Bx (Below w0.heap.size w0 wx))
  case first =>
    have hz0 : w.heap.size < w0.heap.size := P0.out.1
    go_region_held3 (fun w' => w'.cell? ⟨w.heap.size, 0, none⟩ = some (.int .i64 z) ∧ w'.cell? ⟨w.heap.size, 1, none⟩ = some (.int .i64 lo) ∧ w'.cell? ⟨w.heap.size, 2, none⟩ = some (.int .i64 hi))
      (first | (with_reducible exact P2.out.cells) | (with_reducible exact P2.out.drew.cells) | (with_reducible exact (P2.out.alloc _).cells) | (with_reducible exact (P2.out.alloc _).drew.cells) | (with_reducible exact (P2.out.drew.alloc _).cells) | (with_reducible exact (P2.out.set4' (by omega) _ _ _ _).cells) | (with_reducible exact P1.out.cells) | (with_reducible exact P1.out.drew.cells) | (with_reducible exact (P1.out.alloc _).cells) | (with_reducible exact (P1.out.alloc _).drew.cells) | (with_reducible exact (P1.out.drew.alloc _).cells) | (with_reducible exact (P1.out.set4' (by omega) _ _ _ _).cells) | (with_reducible exact P0.out.cells) | (with_reducible exact P0.out.drew.cells) | (with_reducible exact (P0.out.alloc _).cells) | (with_reducible exact (P0.out.alloc _).drew.cells) | (with_reducible exact (P0.out.drew.alloc _).cells) | (with_reducible exact (P0.out.set4' (by omega) _ _ _ _).cells))
      (first
        | (go_at_call 23; refine (copyInts_any A n c p _ (by first | exact A0.out | exact A0.out.below (Nat.le_refl _) (Below.refl _ _).drew | exact A0.out.below (Nat.le_refl _) (below_alloc1 _ _) | exact A0.out.below (Nat.le_refl _) (below_alloc1 _ _).drew | exact A0.out.below (Nat.le_refl _) ((Below.refl _ _).drew.alloc (Nat.le_refl _) _) | exact A0.out.below (Nat.le_refl _) ((Below.refl _ _).drew.alloc (Nat.le_refl _) _).drew) HAS.out (by omega)).mono ?_; rintro e w1 ⟨gC, cC, rfl, _, _, _, I1, B1⟩; (try (have X1 := Bx.mk (show Z4 w1 w0.heap.size from (Z4.new w0 29).below (by first | exact B1 | exact (Below.refl _ _).drew.trans B1)))); have M1 : Below w0.heap.size w0 w1 := (by first | exact B1 | exact (Below.refl _ _).drew.trans B1 | exact below_from (below_alloc1 _ _) B1 | exact below_from (below_alloc1 _ _).drew B1 | exact below_from ((Below.refl _ _).drew.alloc (Nat.le_refl _) _) B1 | exact below_from ((Below.refl _ _).drew.alloc (Nat.le_refl _) _).drew B1); have P1 := Bx.mk (P0.out.below M1); have C1 := Bx.mk I1; clear I1; obtain ⟨_, sa1, sb1, sc1⟩ := P1.out; have S1 := M1.size)
        | (go_at_call 22; refine (HP.out _ cC _ (by first | exact C1.out | exact C1.out.below (Nat.le_refl _) (Below.refl _ _).drew | exact C1.out.below (Nat.le_refl _) (below_alloc1 _ _) | exact C1.out.below (Nat.le_refl _) (below_alloc1 _ _).drew | exact C1.out.below (Nat.le_refl _) ((Below.refl _ _).drew.alloc (Nat.le_refl _) _) | exact C1.out.below (Nat.le_refl _) ((Below.refl _ _).drew.alloc (Nat.le_refl _) _).drew)).mono ?_; rintro e w2 ⟨rfl, B2⟩; (try (have Y2 := Bx.mk (show Z4 w2 w1.heap.size from (Z4.new w1 29).below (by first | exact B2 | exact (Below.refl _ _).drew.trans B2)); obtain ⟨_, ⟨y0, y1, y2, y3⟩, yf0, yf1, yf2, yf3⟩ := Y2.out)); have K2 : Below w1.heap.size w1 w2 := (by first | exact B2 | exact (Below.refl _ _).drew.trans B2 | exact below_from (below_alloc1 _ _) B2 | exact below_from (below_alloc1 _ _).drew B2 | exact below_from ((Below.refl _ _).drew.alloc (Nat.le_refl _) _) B2 | exact below_from ((Below.refl _ _).drew.alloc (Nat.le_refl _) _).drew B2); have M2 : Below w0.heap.size w0 w2 := below_from M1 K2; have P2 := Bx.mk (P1.out.below K2); obtain ⟨_, sa2, sb2, sc2⟩ := P2.out; (try (have X2 := Bx.mk (show Z4 w2 w0.heap.size from X1.out.below K2); obtain ⟨_, ⟨x0', x1', x2', x3'⟩, xf0', xf1', xf2', xf3'⟩ := X2.out)); have S2 := M2.size))
    all_goals
      go_wp2_with fail
      go_meet
      first
        | exact ⟨_, rfl, rfl, M2.size, ⟨R4.new _ _ _ _ _ _⟩, ⟨M2.alloc M2.size _⟩⟩
        | exact ⟨_, rfl, rfl, S1, ⟨Y2.out.put _ _ _ _⟩, ⟨below_w4 M2 S1 _ _ _ _⟩⟩
        | exact ⟨_, rfl, rfl, Nat.le_refl _, ⟨X2.out.put _ _ _ _⟩, ⟨below_w4 M2 (Nat.le_refl _) _ _ _ _⟩⟩
  case rest =>
    obtain ⟨B, rfl, rfl, hB, FX, MX⟩ := hcut
    have PX := Bx.mk (P0.out.below MX.out)
    have AX := Bx.mk (A0.out.below (Nat.le_refl _) MX.out)
    have MW := Bx.mk (below_from M0.out MX.out)
    obtain ⟨_, sa3, sb3, sc3⟩ := PX.out
    obtain ⟨_, fx0, fx1, fx2, fx3⟩ := FX.out
    obtain ⟨wy, hwy⟩ : ∃ x : World, x = wc := ⟨_, rfl⟩
    subst hwy
    go_wp2_with (first
      | (go_at_call 24; (with_reducible refine (HR.out A c _ AX.out).mono ?_); rintro e w3 ⟨rfl, B3⟩; have F3 := Bx.mk (FX.out.below B3); have M3 := Bx.mk (below_from MW.out B3); have A3 := Bx.mk (AX.out.below (Nat.le_refl _) B3); clear B3)
      | (go_at_call 23; refine (copyInts_any A n c p _ (A3.out.below (Nat.le_refl _) (below_alloc1 w3 (.cells #[.int .i64 f, .int .i64 t, .int .i64 L, .int .i64 H] 29))) HAS.out (by omega)).mono ?_; rintro e w5 ⟨g5, c5, rfl, _, _, _, I5, B5⟩; have C5 := Bx.mk I5; clear I5; have A5 := Bx.mk ((A3.out.below (Nat.le_refl _) (below_alloc1 w3 (.cells #[.int .i64 f, .int .i64 t, .int .i64 L, .int .i64 H] 29))).below (Nat.le_refl _) B5); have M5 := Bx.mk (below_from (below_from M3.out (below_alloc1 w3 (.cells #[.int .i64 f, .int .i64 t, .int .i64 L, .int .i64 H] 29))) B5); have F5 := Bx.mk ((F3.out.below (below_alloc1 w3 (.cells #[.int .i64 f, .int .i64 t, .int .i64 L, .int .i64 H] 29))).below B5); have G5 := Bx.mk ((R4.new w3 29 f t L H).below B5); clear B5; obtain ⟨_, fa0, fa1, fa2, fa3⟩ := F5.out; obtain ⟨_, ga0, ga1, ga2, ga3⟩ := G5.out)
      | (go_at_call 25; refine (checkZonesP_any _ n c5 p _ C5.out (by omega)).mono ?_; rw [HC.out]; rintro e wx ⟨rfl, rfl⟩)
      | (go_at_call 26; refine (checkZonesR_any A n c p _ A5.out (by omega)).mono ?_; rw [HC.out]; rintro e wx ⟨rfl, j, rfl⟩))
    go_ret
    exact ⟨rfl, below_drewN M5.out _⟩

end Go.Proofs.Ytokeimlnlmobpaa
