/- Walks: the opposite of the reference's lists of wide numbers. -/
import Derived.Test.YtfnmnnbmhfbkbaaV5
set_option linter.unusedVariables false
set_option linter.unusedSimpArgs false
namespace Go.Proofs.Ytfnmnnbmhfbkbaa
open Go.RowKit

theorem WG.neg {w : World} {s : Int} {sv : Value} {z : Int} {L : Nat} (h : WG w s sv z L) : WG w (-s) sv (-z) L := by
  obtain ⟨A, n, c, f, e, h1, h2, h3, h4, h5, h6, h7, h8, h9⟩ := h
  exact ⟨A, n, c, f, e, h1, h2, h3, h4, h5, by rw [h6, Int.neg_mul], by rw [h7]; omega, by omega, by omega⟩
theorem WG.bounds {w : World} {s : Int} {sv : Value} {z : Int} {L : Nat} (h : WG w s sv z L) : -1 ≤ s ∧ s ≤ 1 := by
  obtain ⟨A, n, c, f, e, h1, h2, h3, h4, h5, h6, h7, h8, h9⟩ := h
  exact ⟨h8, h9⟩

set_option maxRecDepth 100000 in
set_option maxHeartbeats 2000000 in
theorem oppositeW_any (A : Option Addr) (n c : Nat) (z : Row) (L : Nat) (w : World) (hA : WPA w A n z L) (hn : n ≤ 1000) :
    Calls Try.prog 129 #[.slice A n c] w fun e w' => ∃ A' c', e = .returned (.slice A' n c') ∧ WPA w' A' n (fun i => -z i) L ∧ Below w.heap.size w w' := by
  obtain ⟨i0, hi0, hz0, hz1, hz2⟩ := info_wide_parts
  go_enter Try.func129, Try.ntmps129
  go_wp2
  go_loopw [3, 4] (fun dv i wr => ∃ k : Nat, k ≤ n ∧ i = .int .i64 k ∧ Bx (WPO wr w.heap.size dv k (fun i => -z i) L) ∧ Bx (Below w.heap.size w wr)) (fun _ i _ => n - (intOf i).toNat)
  case atStart => exact ⟨0, by omega, rfl, ⟨WPO.nil _ _ _ _⟩, ⟨Below.refl _ _⟩⟩
  case round =>
    obtain ⟨k, hk, rfl, HO, hB⟩ := hrel
    obtain ⟨Ad, cd, rfl⟩ := HO.out.form
    by_cases hlt : k < n
    · have hlt' : (k : Int) < n := by omega
      obtain ⟨g, rfl, hg⟩ := (hA.below (Nat.le_refl _) hB.out) (by omega)
      obtain ⟨b1, s1, c1, c2, f1, f2, hL1⟩ := hg.2 k hlt
      have hgl := hg.1.lt
      have HG := Bx.mk (show g < w.heap.size from (by obtain ⟨g', e, h⟩ := hA (by omega); injection e with e; injection e with e; subst e; exact h.1.lt))
      obtain ⟨A1, n1, d1, rfl⟩ := hL1.form
      obtain ⟨hs1, hs2⟩ := hL1.bounds
      have HL1 := Bx.mk hL1
      obtain ⟨xs, ho, hx⟩ := HO.out.2
      have HX := Bx.mk hx
      have HOW := Bx.mk ho
      clear hx ho hg hL1
      have hneg : IntKind.i64.wrap (-b1) = -b1 := IntWalk.i64_in _ (by omega)
      have hne : some g ≠ (Value.slice Ad k cd).ownBlock := fun e => by have := (HOW.out.lt _ e.symm).1; have := HG.out; omega
      have y0 : (wr.alloc (.cells #[.int .i64 (-b1), .slice A1 n1 d1] 138)).cell? ⟨g, k * 2, none⟩ = some (.int .i64 b1) := by rw [World.cell?_alloc_lt _ _ _ (by show g < _; omega)]; exact c1
      have y1 : (wr.alloc (.cells #[.int .i64 (-b1), .slice A1 n1 d1] 138)).cell? ⟨g, k * 2 + 1, none⟩ = some (.slice A1 n1 d1) := by rw [World.cell?_alloc_lt _ _ _ (by show g < _; omega)]; exact c2
      have HBA := Bx.mk ((Below.refl wr.heap.size wr).alloc (Nat.le_refl _) (.cells #[.int .i64 (-b1), .slice A1 n1 d1] 138)).drew
      go_wp2
      go_region_held3 (fun w' => w'.cell? ⟨g, k * 2, none⟩ = some (.int .i64 b1) ∧ w'.cell? ⟨g, k * 2 + 1, none⟩ = some (.slice A1 n1 d1))
        (first | (exact ⟨c1, c2⟩) | (exact ⟨y0, y1⟩) | (exact ⟨x0, x1⟩) | (refine ⟨?_, ?_⟩ <;> simp [go_sem, *]; done))
        (first
          | ((refine step_append_lies _ (by rfl) _ _ _ (by rfl) w.heap.size 138 i0 _ 2 32 Try.underlying114 hi0 hz0 hz1 hz2 rfl (by omega) (.slice Ad k cd) k xs (by rfl) (owns_below HOW.out HBA.out) ⟨wr.heap.size, 0, none⟩ 1 1 [.int .i64 (-b1), .slice A1 n1 d1] (by rfl) (by rfl) (World.news_of_block (cs := #[.int .i64 (-b1), .slice A1 n1 d1]) (t := 138) (fr := (0, 0)) (heap_alloc_new wr _)) (by simp [Value.oneCell']) (by omega) (by simp only [maxLen]; omega) (by omega) (by have := hB.out.size; simp; omega) (wr.heap.size + 1) (by simp) ?_; intro gg cap w4 hown4 hgrow4 hat4 hlt4; have x0 : w4.cell? ⟨g, k * 2, none⟩ = some (.int .i64 b1) := (by rw [hgrow4.cell_far _ (by simp; omega) hne]; exact y0); have x1 : w4.cell? ⟨g, k * 2 + 1, none⟩ = some (.slice A1 n1 d1) := (by rw [hgrow4.cell_far _ (by simp; omega) hne]; exact y1))))
      have P4 := Bx.mk (WPO.more1 (HO.out.below HBA.out) ((HL1.out.below (Nat.le_refl _) HBA.out).neg) rfl xs (owns_below HOW.out HBA.out) (fun i hi => by
        obtain ⟨b, sv, k1, k2, k3⟩ := HX.out i hi
        exact ⟨b, sv, k1, k2, k3.below (Nat.le_refl _) HBA.out⟩) hown4 hgrow4)
      have hlt5 := HOW.out.lt
      have hB4 := Bx.mk (show Below w.heap.size w w4 from (hB.out.trans (HBA.out.mono hB.out.size)).grown hgrow4 (by have := hB.out.size; simp; omega) (fun j hj => (hlt5 j hj).1))
      clear hown4 hgrow4 hlt5 hat4
      go_wp2
      go_roundw
      case rel => exact ⟨k + 1, by omega, by go_num, P4, hB4⟩
      case measure => simp [intOf]; omega
    · obtain rfl : k = n := by omega
      go_wp2
      go_ret
      exact ⟨_, _, rfl, HO.out.pa, hB.out⟩

end Go.Proofs.Ytfnmnnbmhfbkbaa
