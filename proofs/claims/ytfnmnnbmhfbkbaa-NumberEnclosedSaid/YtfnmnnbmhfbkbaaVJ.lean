/- Walks: the law of enclosed roots. -/
import Derived.Test.YtfnmnnbmhfbkbaaVI
import Derived.Test.YtfnmnnbmhfbkbaaVD
import Derived.Deep.RegionHeld3
import Derived.Deep.DeepCutAuto
set_option linter.unusedVariables false
set_option linter.unusedSimpArgs false
namespace Go.Proofs.Ytfnmnnbmhfbkbaa
open Go.RowKit

/-- A span in memory. -/
def SP (w wr : World) (a b c d t : Int) : Prop := w.heap.size < wr.heap.size ∧ wr.cell? ⟨w.heap.size, 0, none⟩ = some (.int .i64 a) ∧ wr.cell? ⟨w.heap.size, 1, none⟩ = some (.int .i64 b) ∧ wr.cell? ⟨w.heap.size, 2, none⟩ = some (.int .i64 c) ∧ wr.cell? ⟨w.heap.size, 3, none⟩ = some (.int .i64 d) ∧ wr.cell? ⟨w.heap.size, 4, none⟩ = some (.int .i64 t)
theorem SP.call {w wr w' : World} {a b c d t : Int} (h : SP w wr a b c d t) (k : Below wr.heap.size wr w') : SP w w' a b c d t := by
  obtain ⟨l, h0, h1, h2, h3, h4⟩ := h
  obtain ⟨hc, _⟩ := bcell k
  exact ⟨Nat.lt_of_lt_of_le l k.size, (hc _ _ l).trans h0, (hc _ _ l).trans h1, (hc _ _ l).trans h2, (hc _ _ l).trans h3, (hc _ _ l).trans h4⟩
theorem SP.alloc {w wr : World} {a b c d t : Int} (h : SP w wr a b c d t) (o : Obj) : SP w (wr.alloc o) a b c d t := h.call (below_alloc1 _ _)
theorem SP.set {w wr : World} {a b c d t : Int} (h : SP w wr a b c d t) {g : Nat} (hg : w.heap.size < g) (u v : Value) : SP w ((wr.setCell ⟨g, 0, none⟩ u).setCell ⟨g, 1, none⟩ v) a b c d t := by
  obtain ⟨l, h0, h1, h2, h3, h4⟩ := h
  refine ⟨by simpa [World.setCell] using l, ?_, ?_, ?_, ?_, ?_⟩ <;> (rw [World.cell?_setCell_other _ _ _ _ (by simp <;> omega), World.cell?_setCell_other _ _ _ _ (by simp <;> omega)]; assumption)
theorem SP.new (w : World) (a b c d t : Int) : SP w (w.alloc (.cells #[.int .i64 a, .int .i64 b, .int .i64 c, .int .i64 d, .int .i64 t] 83)) a b c d t := by
  refine ⟨by simp, ?_, ?_, ?_, ?_, ?_⟩ <;> simp [go_sem]
theorem below_from {w0 W w1 : World} (h : Below w0.heap.size w0 W) (k : Below W.heap.size W w1) : Below w0.heap.size w0 w1 := h.trans (k.mono h.size)

set_option maxRecDepth 100000 in
set_option maxHeartbeats 8000000 in
theorem enclosed_E (HAW : Awake) (A : Option Addr) (n cc : Nat) (p : Row) (a b c d t E : Int) (w : World) (HA : Bx (IS w A n p)) (HAS : Bx (SV A n cc)) (hnn : n ≤ 5 ∨ (7 < n ∧ n ≤ 10)) (ha : I64 a) (hb : I64 b) (hc : I64 c) (hd : I64 d) (ht : I64 t)
    (RR : Bx (rinN n p a b c d t = (0, 0, E))) (HE : Bx (ckR n p a b c d = E)) (h0 : (E == 0) = false) (h0b : (E != 0) = true) :
    Calls Try.prog 15 #[.slice A n cc, .agg #[.int .i64 a, .int .i64 b, .int .i64 c, .int .i64 d, .int .i64 t]] w fun e w' => e = .returned (.bool true) ∧ Below w.heap.size w w' := by
  have hl : lowB n = true := by unfold lowB; rcases hnn with h | h <;> simp <;> omega
  have HLW := Bx.mk hl
  clear hl
  go_enter Try.func15, Try.ntmps15
  go_wp2_with (first
    | (go_at_call 20; refine (HAW _).mono ?_; rintro e w0 ⟨rfl, B0⟩; have M0 := Bx.mk (below_from (below_alloc1 w (.cells #[.int .i64 a, .int .i64 b, .int .i64 c, .int .i64 d, .int .i64 t] 83)) B0); have A0 := Bx.mk (HA.out.below (Nat.le_refl _) (below_from (below_alloc1 w (.cells #[.int .i64 a, .int .i64 b, .int .i64 c, .int .i64 d, .int .i64 t] 83)) B0)); have P0 := Bx.mk ((SP.new w a b c d t).call B0); obtain ⟨_, sa0, sb0, sc0, sd0, st0⟩ := P0.out; clear B0)
    | (go_at_call 74; (with_reducible refine (low_any A n cc _ (by omega)).mono ?_); rw [HLW.out]; rintro e wl ⟨rfl, rfl⟩))
  go_upto_region 5 with (fail)
  go_cut [5, 6] (fun s5 s6 wx => ∃ B : Nat, s5 = .pointer (some ⟨B, 0, none⟩) ∧ s6 = .int .i64 E ∧ w0.heap.size ≤ B ∧ Bx (HF wx B 0 0) ∧ Bx (Below w0.heap.size w0 wx))
  case first =>
    have hz0 : w.heap.size < w0.heap.size := P0.out.1
    go_region_held3 (fun w' => w'.cell? ⟨w.heap.size, 0, none⟩ = some (.int .i64 a) ∧ w'.cell? ⟨w.heap.size, 1, none⟩ = some (.int .i64 b) ∧ w'.cell? ⟨w.heap.size, 2, none⟩ = some (.int .i64 c) ∧ w'.cell? ⟨w.heap.size, 3, none⟩ = some (.int .i64 d) ∧ w'.cell? ⟨w.heap.size, 4, none⟩ = some (.int .i64 t))
      (first | (exact P0.out.2) | (exact (P0.out.alloc _).2) | (exact P1.out.2) | (exact (P1.out.alloc _).2) | (exact P2.out.2) | (exact (P2.out.alloc _).2) | (exact (P2.out.set (by omega) _ _).2))
      (first
        | (go_at_call 65; refine (copyInts_any A n cc p _ (by first | exact A0.out | exact A0.out.below (Nat.le_refl _) (Below.refl _ _).drew | exact A0.out.below (Nat.le_refl _) (below_alloc1 _ _) | exact A0.out.below (Nat.le_refl _) (below_alloc1 _ _).drew | exact A0.out.below (Nat.le_refl _) ((Below.refl _ _).drew.alloc (Nat.le_refl _) _) | exact A0.out.below (Nat.le_refl _) ((Below.refl _ _).drew.alloc (Nat.le_refl _) _).drew) HAS.out (by omega)).mono ?_; rintro e w1 ⟨gC, cC, rfl, _, _, _, I1, B1⟩; (try (have X1 := Bx.mk (show HF w1 w0.heap.size 0 0 ∧ w1.frozen? ⟨w0.heap.size, 0, none⟩ = false ∧ w1.frozen? ⟨w0.heap.size, 1, none⟩ = false from by refine ⟨(HF.new w0 38 0 0).below (by first | exact B1 | exact (Below.refl _ _).drew.trans B1), ?_, ?_⟩ <;> (rw [(bcell B1).2 _ _ (by simp)]; simp [go_sem, World.frozen?_alloc_past])))); have M1 : Below w0.heap.size w0 w1 := (by first | exact B1 | exact (Below.refl _ _).drew.trans B1 | exact below_from (below_alloc1 _ _) B1 | exact below_from (below_alloc1 _ _).drew B1 | exact below_from ((Below.refl _ _).drew.alloc (Nat.le_refl _) _) B1 | exact below_from ((Below.refl _ _).drew.alloc (Nat.le_refl _) _).drew B1); have P1 := Bx.mk (P0.out.call M1); have C1 := Bx.mk I1; clear I1; obtain ⟨_, sa1, sb1, sc1, sd1, st1⟩ := P1.out; have S1 := M1.size)
        | (go_at_call 78; refine (rootInN_any _ n cC p a b c d t _ ⟨(by first | exact C1.out | exact C1.out.below (Nat.le_refl _) (Below.refl _ _).drew | exact C1.out.below (Nat.le_refl _) (below_alloc1 _ _) | exact C1.out.below (Nat.le_refl _) (below_alloc1 _ _).drew | exact C1.out.below (Nat.le_refl _) ((Below.refl _ _).drew.alloc (Nat.le_refl _) _) | exact C1.out.below (Nat.le_refl _) ((Below.refl _ _).drew.alloc (Nat.le_refl _) _).drew)⟩ (by omega) ha hb hc hd ht).mono ?_; rw [RR.out]; rintro e w2 ⟨rfl, B2⟩; (try (have Y2 := Bx.mk (show HF w2 w1.heap.size 0 0 ∧ w2.frozen? ⟨w1.heap.size, 0, none⟩ = false ∧ w2.frozen? ⟨w1.heap.size, 1, none⟩ = false from by refine ⟨(HF.new w1 38 0 0).below (by first | exact B2 | exact (Below.refl _ _).drew.trans B2), ?_, ?_⟩ <;> (rw [(bcell B2).2 _ _ (by simp)]; simp [go_sem, World.frozen?_alloc_past])); obtain ⟨⟨_, y0, y1⟩, yf0, yf1⟩ := Y2.out)); have K2 : Below w1.heap.size w1 w2 := (by first | exact B2 | exact (Below.refl _ _).drew.trans B2 | exact below_from (below_alloc1 _ _) B2 | exact below_from (below_alloc1 _ _).drew B2 | exact below_from ((Below.refl _ _).drew.alloc (Nat.le_refl _) _) B2 | exact below_from ((Below.refl _ _).drew.alloc (Nat.le_refl _) _).drew B2); have M2 : Below w0.heap.size w0 w2 := below_from M1 K2; have P2 := Bx.mk (P1.out.call K2); obtain ⟨_, sa2, sb2, sc2, sd2, st2⟩ := P2.out; (try (have X2 := Bx.mk (show HF w2 w0.heap.size 0 0 ∧ w2.frozen? ⟨w0.heap.size, 0, none⟩ = false ∧ w2.frozen? ⟨w0.heap.size, 1, none⟩ = false from ⟨X1.out.1.below K2, ((bcell K2).2 _ _ X1.out.1.1).trans X1.out.2.1, ((bcell K2).2 _ _ X1.out.1.1).trans X1.out.2.2⟩); obtain ⟨⟨_, x0', x1'⟩, xf0', xf1'⟩ := X2.out)); have S2 := M2.size))
    all_goals
      go_wp2_with fail
      go_meet
      first
        | exact ⟨_, rfl, rfl, M2.size, ⟨HF.new _ _ _ _⟩, ⟨M2.alloc M2.size _⟩⟩
        | exact ⟨_, rfl, rfl, S1, ⟨HF.put Y2.out.1 _ _⟩, ⟨(M2.setCell S1 _).setCell S1 _⟩⟩
        | exact ⟨_, rfl, rfl, Nat.le_refl _, ⟨HF.put X2.out.1 _ _⟩, ⟨(M2.setCell (Nat.le_refl _) _).setCell (Nat.le_refl _) _⟩⟩
  case rest =>
    obtain ⟨B, rfl, rfl, hB, FX, MX⟩ := hcut
    have PX := Bx.mk (P0.out.call MX.out)
    have AX := Bx.mk (A0.out.below (Nat.le_refl _) MX.out)
    have MW := Bx.mk (below_from M0.out MX.out)
    obtain ⟨_, sa3, sb3, sc3, sd3, st3⟩ := PX.out
    obtain ⟨_, fx0, fx1⟩ := FX.out
    go_wp2_with (first
      | (go_at_call 76; (with_reducible refine (bounds_any A n cc p a b c d _ AX.out (by omega) ha hb hc hd).mono ?_); rw [HE.out]; rintro e w4 ⟨rfl, B4⟩; have P4 := Bx.mk (PX.out.call B4); have F4 := Bx.mk (FX.out.below B4); have M4 := Bx.mk (below_from MW.out B4); have A4 := Bx.mk (AX.out.below (Nat.le_refl _) B4); obtain ⟨_, sa4, sb4, sc4, sd4, st4⟩ := P4.out; obtain ⟨_, fy0, fy1⟩ := F4.out))
    go_ret
    exact ⟨rfl, M4.out⟩

set_option maxRecDepth 100000 in
set_option maxHeartbeats 8000000 in
theorem enclosed_T (HAW : Awake) (A : Option Addr) (n cc : Nat) (p : Row) (a b c d t : Int) (w : World) (HA : Bx (IS w A n p)) (HAS : Bx (SV A n cc)) (hnn : n ≤ 5 ∨ (7 < n ∧ n ≤ 10)) (ha : I64 a) (hb : I64 b) (hc : I64 c) (hd : I64 d) (ht : I64 t)
    (RR : Bx (rinN n p a b c d t = (0, 0, 2))) (HE : Bx (ckR n p a b c d = 0)) (HW : Bx (wtB t 1 1000000 = false)) :
    Calls Try.prog 15 #[.slice A n cc, .agg #[.int .i64 a, .int .i64 b, .int .i64 c, .int .i64 d, .int .i64 t]] w fun e w' => e = .returned (.bool true) ∧ Below w.heap.size w w' := by
  have hl : lowB n = true := by unfold lowB; rcases hnn with h | h <;> simp <;> omega
  have HLW := Bx.mk hl
  clear hl
  go_enter Try.func15, Try.ntmps15
  go_wp2_with (first
    | (go_at_call 20; refine (HAW _).mono ?_; rintro e w0 ⟨rfl, B0⟩; have M0 := Bx.mk (below_from (below_alloc1 w (.cells #[.int .i64 a, .int .i64 b, .int .i64 c, .int .i64 d, .int .i64 t] 83)) B0); have A0 := Bx.mk (HA.out.below (Nat.le_refl _) (below_from (below_alloc1 w (.cells #[.int .i64 a, .int .i64 b, .int .i64 c, .int .i64 d, .int .i64 t] 83)) B0)); have P0 := Bx.mk ((SP.new w a b c d t).call B0); obtain ⟨_, sa0, sb0, sc0, sd0, st0⟩ := P0.out; clear B0)
    | (go_at_call 74; (with_reducible refine (low_any A n cc _ (by omega)).mono ?_); rw [HLW.out]; rintro e wl ⟨rfl, rfl⟩))
  go_upto_region 5 with (fail)
  go_cut [5, 6] (fun s5 s6 wx => ∃ B : Nat, s5 = .pointer (some ⟨B, 0, none⟩) ∧ s6 = .int .i64 2 ∧ w0.heap.size ≤ B ∧ Bx (HF wx B 0 0) ∧ Bx (Below w0.heap.size w0 wx))
  case first =>
    have hz0 : w.heap.size < w0.heap.size := P0.out.1
    go_region_held3 (fun w' => w'.cell? ⟨w.heap.size, 0, none⟩ = some (.int .i64 a) ∧ w'.cell? ⟨w.heap.size, 1, none⟩ = some (.int .i64 b) ∧ w'.cell? ⟨w.heap.size, 2, none⟩ = some (.int .i64 c) ∧ w'.cell? ⟨w.heap.size, 3, none⟩ = some (.int .i64 d) ∧ w'.cell? ⟨w.heap.size, 4, none⟩ = some (.int .i64 t))
      (first | (exact P0.out.2) | (exact (P0.out.alloc _).2) | (exact P1.out.2) | (exact (P1.out.alloc _).2) | (exact P2.out.2) | (exact (P2.out.alloc _).2) | (exact (P2.out.set (by omega) _ _).2))
      (first
        | (go_at_call 65; refine (copyInts_any A n cc p _ (by first | exact A0.out | exact A0.out.below (Nat.le_refl _) (Below.refl _ _).drew | exact A0.out.below (Nat.le_refl _) (below_alloc1 _ _) | exact A0.out.below (Nat.le_refl _) (below_alloc1 _ _).drew | exact A0.out.below (Nat.le_refl _) ((Below.refl _ _).drew.alloc (Nat.le_refl _) _) | exact A0.out.below (Nat.le_refl _) ((Below.refl _ _).drew.alloc (Nat.le_refl _) _).drew) HAS.out (by omega)).mono ?_; rintro e w1 ⟨gC, cC, rfl, _, _, _, I1, B1⟩; (try (have X1 := Bx.mk (show HF w1 w0.heap.size 0 0 ∧ w1.frozen? ⟨w0.heap.size, 0, none⟩ = false ∧ w1.frozen? ⟨w0.heap.size, 1, none⟩ = false from by refine ⟨(HF.new w0 38 0 0).below (by first | exact B1 | exact (Below.refl _ _).drew.trans B1), ?_, ?_⟩ <;> (rw [(bcell B1).2 _ _ (by simp)]; simp [go_sem, World.frozen?_alloc_past])))); have M1 : Below w0.heap.size w0 w1 := (by first | exact B1 | exact (Below.refl _ _).drew.trans B1 | exact below_from (below_alloc1 _ _) B1 | exact below_from (below_alloc1 _ _).drew B1 | exact below_from ((Below.refl _ _).drew.alloc (Nat.le_refl _) _) B1 | exact below_from ((Below.refl _ _).drew.alloc (Nat.le_refl _) _).drew B1); have P1 := Bx.mk (P0.out.call M1); have C1 := Bx.mk I1; clear I1; obtain ⟨_, sa1, sb1, sc1, sd1, st1⟩ := P1.out; have S1 := M1.size)
        | (go_at_call 78; refine (rootInN_any _ n cC p a b c d t _ ⟨(by first | exact C1.out | exact C1.out.below (Nat.le_refl _) (Below.refl _ _).drew | exact C1.out.below (Nat.le_refl _) (below_alloc1 _ _) | exact C1.out.below (Nat.le_refl _) (below_alloc1 _ _).drew | exact C1.out.below (Nat.le_refl _) ((Below.refl _ _).drew.alloc (Nat.le_refl _) _) | exact C1.out.below (Nat.le_refl _) ((Below.refl _ _).drew.alloc (Nat.le_refl _) _).drew)⟩ (by omega) ha hb hc hd ht).mono ?_; rw [RR.out]; rintro e w2 ⟨rfl, B2⟩; (try (have Y2 := Bx.mk (show HF w2 w1.heap.size 0 0 ∧ w2.frozen? ⟨w1.heap.size, 0, none⟩ = false ∧ w2.frozen? ⟨w1.heap.size, 1, none⟩ = false from by refine ⟨(HF.new w1 38 0 0).below (by first | exact B2 | exact (Below.refl _ _).drew.trans B2), ?_, ?_⟩ <;> (rw [(bcell B2).2 _ _ (by simp)]; simp [go_sem, World.frozen?_alloc_past])); obtain ⟨⟨_, y0, y1⟩, yf0, yf1⟩ := Y2.out)); have K2 : Below w1.heap.size w1 w2 := (by first | exact B2 | exact (Below.refl _ _).drew.trans B2 | exact below_from (below_alloc1 _ _) B2 | exact below_from (below_alloc1 _ _).drew B2 | exact below_from ((Below.refl _ _).drew.alloc (Nat.le_refl _) _) B2 | exact below_from ((Below.refl _ _).drew.alloc (Nat.le_refl _) _).drew B2); have M2 : Below w0.heap.size w0 w2 := below_from M1 K2; have P2 := Bx.mk (P1.out.call K2); obtain ⟨_, sa2, sb2, sc2, sd2, st2⟩ := P2.out; (try (have X2 := Bx.mk (show HF w2 w0.heap.size 0 0 ∧ w2.frozen? ⟨w0.heap.size, 0, none⟩ = false ∧ w2.frozen? ⟨w0.heap.size, 1, none⟩ = false from ⟨X1.out.1.below K2, ((bcell K2).2 _ _ X1.out.1.1).trans X1.out.2.1, ((bcell K2).2 _ _ X1.out.1.1).trans X1.out.2.2⟩); obtain ⟨⟨_, x0', x1'⟩, xf0', xf1'⟩ := X2.out)); have S2 := M2.size))
    all_goals
      go_wp2_with fail
      go_meet
      first
        | exact ⟨_, rfl, rfl, M2.size, ⟨HF.new _ _ _ _⟩, ⟨M2.alloc M2.size _⟩⟩
        | exact ⟨_, rfl, rfl, S1, ⟨HF.put Y2.out.1 _ _⟩, ⟨(M2.setCell S1 _).setCell S1 _⟩⟩
        | exact ⟨_, rfl, rfl, Nat.le_refl _, ⟨HF.put X2.out.1 _ _⟩, ⟨(M2.setCell (Nat.le_refl _) _).setCell (Nat.le_refl _) _⟩⟩
  case rest =>
    obtain ⟨B, rfl, rfl, hB, FX, MX⟩ := hcut
    have PX := Bx.mk (P0.out.call MX.out)
    have AX := Bx.mk (A0.out.below (Nat.le_refl _) MX.out)
    have MW := Bx.mk (below_from M0.out MX.out)
    obtain ⟨_, sa3, sb3, sc3, sd3, st3⟩ := PX.out
    obtain ⟨_, fx0, fx1⟩ := FX.out
    go_wp2_with (first
      | (go_at_call 76; (with_reducible refine (bounds_any A n cc p a b c d _ AX.out (by omega) ha hb hc hd).mono ?_); rw [HE.out]; rintro e w4 ⟨rfl, B4⟩; have P4 := Bx.mk (PX.out.call B4); have F4 := Bx.mk (FX.out.below B4); have M4 := Bx.mk (below_from MW.out B4); have A4 := Bx.mk (AX.out.below (Nat.le_refl _) B4); obtain ⟨_, sa4, sb4, sc4, sd4, st4⟩ := P4.out; obtain ⟨_, fy0, fy1⟩ := F4.out)
      | (go_at_call 35; (with_reducible refine (within_any t 1 1000000 _).mono ?_); rw [HW.out]; rintro e wx ⟨rfl, rfl⟩))
    go_ret
    exact ⟨rfl, M4.out⟩

set_option maxRecDepth 100000 in
set_option maxHeartbeats 8000000 in
theorem enclosed_G (HAW : Awake) (A : Option Addr) (n cc : Nat) (p : Row) (a b c d t x1 x2 x3 : Int) (w : World) (HA : Bx (IS w A n p)) (HAS : Bx (SV A n cc)) (hnn : n ≤ 5 ∨ (7 < n ∧ n ≤ 10)) (ha : I64 a) (hb : I64 b) (hc : I64 c) (hd : I64 d) (ht : I64 t)
    (RR : Bx (rinN n p a b c d t = (x1, x2, x3))) (HE : Bx (ckR n p a b c d = 0)) (HW : Bx (wtB t 1 1000000 = true)) (HZ : Bx (ckP n p = 0)) (HY : Bx (ckFs [(a, b), (c, d)] = 0)) (RW : Bx (rinR n p a b c d t = (x1, x2, x3))) (t1 : 1 ≤ t) (t2 : t ≤ 1000000) :
    Calls Try.prog 15 #[.slice A n cc, .agg #[.int .i64 a, .int .i64 b, .int .i64 c, .int .i64 d, .int .i64 t]] w fun e w' => e = .returned (.bool true) ∧ Below w.heap.size w w' := by
  have hl : lowB n = true := by unfold lowB; rcases hnn with h | h <;> simp <;> omega
  have HLW := Bx.mk hl
  clear hl
  go_enter Try.func15, Try.ntmps15
  go_wp2_with (first
    | (go_at_call 20; refine (HAW _).mono ?_; rintro e w0 ⟨rfl, B0⟩; have M0 := Bx.mk (below_from (below_alloc1 w (.cells #[.int .i64 a, .int .i64 b, .int .i64 c, .int .i64 d, .int .i64 t] 83)) B0); have A0 := Bx.mk (HA.out.below (Nat.le_refl _) (below_from (below_alloc1 w (.cells #[.int .i64 a, .int .i64 b, .int .i64 c, .int .i64 d, .int .i64 t] 83)) B0)); have P0 := Bx.mk ((SP.new w a b c d t).call B0); obtain ⟨_, sa0, sb0, sc0, sd0, st0⟩ := P0.out; clear B0)
    | (go_at_call 74; (with_reducible refine (low_any A n cc _ (by omega)).mono ?_); rw [HLW.out]; rintro e wl ⟨rfl, rfl⟩))
  go_upto_region 5 with (fail)
  go_cut [5, 6] (fun s5 s6 wx => ∃ B : Nat, s5 = .pointer (some ⟨B, 0, none⟩) ∧ s6 = .int .i64 x3 ∧ w0.heap.size ≤ B ∧ Bx (HF wx B x1 x2) ∧ Bx (Below w0.heap.size w0 wx))
  case first =>
    have hz0 : w.heap.size < w0.heap.size := P0.out.1
    go_region_held3 (fun w' => w'.cell? ⟨w.heap.size, 0, none⟩ = some (.int .i64 a) ∧ w'.cell? ⟨w.heap.size, 1, none⟩ = some (.int .i64 b) ∧ w'.cell? ⟨w.heap.size, 2, none⟩ = some (.int .i64 c) ∧ w'.cell? ⟨w.heap.size, 3, none⟩ = some (.int .i64 d) ∧ w'.cell? ⟨w.heap.size, 4, none⟩ = some (.int .i64 t))
      (first | (exact P0.out.2) | (exact (P0.out.alloc _).2) | (exact P1.out.2) | (exact (P1.out.alloc _).2) | (exact P2.out.2) | (exact (P2.out.alloc _).2) | (exact (P2.out.set (by omega) _ _).2))
      (first
        | (go_at_call 65; refine (copyInts_any A n cc p _ (by first | exact A0.out | exact A0.out.below (Nat.le_refl _) (Below.refl _ _).drew | exact A0.out.below (Nat.le_refl _) (below_alloc1 _ _) | exact A0.out.below (Nat.le_refl _) (below_alloc1 _ _).drew | exact A0.out.below (Nat.le_refl _) ((Below.refl _ _).drew.alloc (Nat.le_refl _) _) | exact A0.out.below (Nat.le_refl _) ((Below.refl _ _).drew.alloc (Nat.le_refl _) _).drew) HAS.out (by omega)).mono ?_; rintro e w1 ⟨gC, cC, rfl, _, _, _, I1, B1⟩; (try (have X1 := Bx.mk (show HF w1 w0.heap.size 0 0 ∧ w1.frozen? ⟨w0.heap.size, 0, none⟩ = false ∧ w1.frozen? ⟨w0.heap.size, 1, none⟩ = false from by refine ⟨(HF.new w0 38 0 0).below (by first | exact B1 | exact (Below.refl _ _).drew.trans B1), ?_, ?_⟩ <;> (rw [(bcell B1).2 _ _ (by simp)]; simp [go_sem, World.frozen?_alloc_past])))); have M1 : Below w0.heap.size w0 w1 := (by first | exact B1 | exact (Below.refl _ _).drew.trans B1 | exact below_from (below_alloc1 _ _) B1 | exact below_from (below_alloc1 _ _).drew B1 | exact below_from ((Below.refl _ _).drew.alloc (Nat.le_refl _) _) B1 | exact below_from ((Below.refl _ _).drew.alloc (Nat.le_refl _) _).drew B1); have P1 := Bx.mk (P0.out.call M1); have C1 := Bx.mk I1; clear I1; obtain ⟨_, sa1, sb1, sc1, sd1, st1⟩ := P1.out; have S1 := M1.size)
        | (go_at_call 78; refine (rootInN_any _ n cC p a b c d t _ ⟨(by first | exact C1.out | exact C1.out.below (Nat.le_refl _) (Below.refl _ _).drew | exact C1.out.below (Nat.le_refl _) (below_alloc1 _ _) | exact C1.out.below (Nat.le_refl _) (below_alloc1 _ _).drew | exact C1.out.below (Nat.le_refl _) ((Below.refl _ _).drew.alloc (Nat.le_refl _) _) | exact C1.out.below (Nat.le_refl _) ((Below.refl _ _).drew.alloc (Nat.le_refl _) _).drew)⟩ (by omega) ha hb hc hd ht).mono ?_; rw [RR.out]; rintro e w2 ⟨rfl, B2⟩; (try (have Y2 := Bx.mk (show HF w2 w1.heap.size 0 0 ∧ w2.frozen? ⟨w1.heap.size, 0, none⟩ = false ∧ w2.frozen? ⟨w1.heap.size, 1, none⟩ = false from by refine ⟨(HF.new w1 38 0 0).below (by first | exact B2 | exact (Below.refl _ _).drew.trans B2), ?_, ?_⟩ <;> (rw [(bcell B2).2 _ _ (by simp)]; simp [go_sem, World.frozen?_alloc_past])); obtain ⟨⟨_, y0, y1⟩, yf0, yf1⟩ := Y2.out)); have K2 : Below w1.heap.size w1 w2 := (by first | exact B2 | exact (Below.refl _ _).drew.trans B2 | exact below_from (below_alloc1 _ _) B2 | exact below_from (below_alloc1 _ _).drew B2 | exact below_from ((Below.refl _ _).drew.alloc (Nat.le_refl _) _) B2 | exact below_from ((Below.refl _ _).drew.alloc (Nat.le_refl _) _).drew B2); have M2 : Below w0.heap.size w0 w2 := below_from M1 K2; have P2 := Bx.mk (P1.out.call K2); obtain ⟨_, sa2, sb2, sc2, sd2, st2⟩ := P2.out; (try (have X2 := Bx.mk (show HF w2 w0.heap.size 0 0 ∧ w2.frozen? ⟨w0.heap.size, 0, none⟩ = false ∧ w2.frozen? ⟨w0.heap.size, 1, none⟩ = false from ⟨X1.out.1.below K2, ((bcell K2).2 _ _ X1.out.1.1).trans X1.out.2.1, ((bcell K2).2 _ _ X1.out.1.1).trans X1.out.2.2⟩); obtain ⟨⟨_, x0', x1'⟩, xf0', xf1'⟩ := X2.out)); have S2 := M2.size))
    all_goals
      go_wp2_with fail
      go_meet
      first
        | exact ⟨_, rfl, rfl, M2.size, ⟨HF.new _ _ _ _⟩, ⟨M2.alloc M2.size _⟩⟩
        | exact ⟨_, rfl, rfl, S1, ⟨HF.put Y2.out.1 _ _⟩, ⟨(M2.setCell S1 _).setCell S1 _⟩⟩
        | exact ⟨_, rfl, rfl, Nat.le_refl _, ⟨HF.put X2.out.1 _ _⟩, ⟨(M2.setCell (Nat.le_refl _) _).setCell (Nat.le_refl _) _⟩⟩
  case rest =>
    obtain ⟨B, rfl, rfl, hB, FX, MX⟩ := hcut
    have PX := Bx.mk (P0.out.call MX.out)
    have AX := Bx.mk (A0.out.below (Nat.le_refl _) MX.out)
    have MW := Bx.mk (below_from M0.out MX.out)
    obtain ⟨_, sa3, sb3, sc3, sd3, st3⟩ := PX.out
    obtain ⟨_, fx0, fx1⟩ := FX.out
    go_wp2_with (first
      | (go_at_call 76; (with_reducible refine (bounds_any A n cc p a b c d _ AX.out (by omega) ha hb hc hd).mono ?_); rw [HE.out]; rintro e w4 ⟨rfl, B4⟩; have P4 := Bx.mk (PX.out.call B4); have F4 := Bx.mk (FX.out.below B4); have M4 := Bx.mk (below_from MW.out B4); have A4 := Bx.mk (AX.out.below (Nat.le_refl _) B4); obtain ⟨_, sa4, sb4, sc4, sd4, st4⟩ := P4.out; obtain ⟨_, fy0, fy1⟩ := F4.out)
      | (go_at_call 35; (with_reducible refine (within_any t 1 1000000 _).mono ?_); rw [HW.out]; rintro e wx ⟨rfl, rfl⟩)
      | (go_at_call 79; (with_reducible refine (rootInR_any A n cc p a b c d t _ A4 HZ.out HY.out (by omega) (by omega)).mono ?_); rw [RW.out]; rintro e w5 ⟨rfl, B5⟩; have F5 := Bx.mk ((F4.out.below B5).alloc (.cells #[.int .i64 x1, .int .i64 x2] 38)); have M5 := Bx.mk (below_from M4.out B5); obtain ⟨_, fz0, fz1⟩ := F5.out; have G5 := Bx.mk (HF.new w5 38 x1 x2); obtain ⟨_, gz0, gz1⟩ := G5.out))
    go_ret
    exact ⟨rfl, M5.out.alloc M5.out.size _⟩

set_option maxRecDepth 100000 in
set_option maxHeartbeats 4000000 in
theorem enclosed_no (HAW : Awake) (A : Option Addr) (n cc : Nat) (p : Row) (a b c d t : Int) (w : World) (HA : Bx (IS w A n p)) (hn : n ≤ 9223372036854775807) (hnn : ¬ (n ≤ 5 ∨ (7 < n ∧ n ≤ 10))) :
    Calls Try.prog 15 #[.slice A n cc, .agg #[.int .i64 a, .int .i64 b, .int .i64 c, .int .i64 d, .int .i64 t]] w fun e w' => e = .returned (.bool true) ∧ Below w.heap.size w w' := by
  have hl : lowB n = false := by unfold lowB; simp; omega
  have HLW := Bx.mk hl
  clear hl
  go_enter Try.func15, Try.ntmps15
  go_wp2_with (first
    | (go_at_call 20; refine (HAW _).mono ?_; rintro e w0 ⟨rfl, B0⟩; have M0 := Bx.mk (below_from (below_alloc1 w (.cells #[.int .i64 a, .int .i64 b, .int .i64 c, .int .i64 d, .int .i64 t] 83)) B0); have A0 := Bx.mk (HA.out.below (Nat.le_refl _) (below_from (below_alloc1 w (.cells #[.int .i64 a, .int .i64 b, .int .i64 c, .int .i64 d, .int .i64 t] 83)) B0)); have P0 := Bx.mk ((SP.new w a b c d t).call B0); obtain ⟨_, sa0, sb0, sc0, sd0, st0⟩ := P0.out; clear B0)
    | (go_at_call 74; (with_reducible refine (low_any A n cc _ (by omega)).mono ?_); rw [HLW.out]; rintro e wl ⟨rfl, rfl⟩))
  go_ret
  exact ⟨rfl, M0.out⟩

theorem numberEnclosed_any (HAW : Awake) (A : Option Addr) (n cc : Nat) (p : Row) (a b c d t : Int) (w : World) (hA : IS w A n p) (sA : SV A n cc) (ln : n ≤ 9223372036854775807) (ha : I64 a) (hb : I64 b) (hc : I64 c) (hd : I64 d) (ht : I64 t) :
    Calls Try.prog 15 #[.slice A n cc, .agg #[.int .i64 a, .int .i64 b, .int .i64 c, .int .i64 d, .int .i64 t]] w fun e w' => e = .returned (.bool true) ∧ Below w.heap.size w w' := by
  by_cases h : n ≤ 5 ∨ (7 < n ∧ n ≤ 10)
  · by_cases z : ckR n p a b c d = 0
    · obtain ⟨z1, z2⟩ := ckR_fs z
      by_cases y : t < 1 ∨ 1000000 < t
      · have e : rinN n p a b c d t = (0, 0, 2) := by unfold rinN; rw [if_neg (by simpa using z), if_pos y]
        exact enclosed_T HAW A n cc p a b c d t w ⟨hA⟩ ⟨sA⟩ h ha hb hc hd ht ⟨e⟩ ⟨z⟩ ⟨wtB_no y⟩
      · have e : rinN n p a b c d t = rinR n p a b c d t := by unfold rinN; rw [if_neg (by simpa using z), if_neg y]
        exact enclosed_G HAW A n cc p a b c d t _ _ _ w ⟨hA⟩ ⟨sA⟩ h ha hb hc hd ht ⟨e⟩ ⟨z⟩ ⟨wtB_yes (by omega) (by omega)⟩ ⟨z1⟩ ⟨z2⟩ ⟨rfl⟩ (by omega) (by omega)
    · have e : rinN n p a b c d t = (0, 0, ckR n p a b c d) := by unfold rinN; rw [if_pos z]
      exact enclosed_E HAW A n cc p a b c d t _ w ⟨hA⟩ ⟨sA⟩ h ha hb hc hd ht ⟨e⟩ ⟨rfl⟩ (by simpa using z) (by simpa using z)
  · exact enclosed_no HAW A n cc p a b c d t w ⟨hA⟩ ln h

end Go.Proofs.Ytfnmnnbmhfbkbaa
