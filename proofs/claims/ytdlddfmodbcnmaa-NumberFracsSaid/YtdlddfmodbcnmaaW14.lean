/- Walks: polynomials. -/
import Derived.Test.YtdlddfmodbcnmaaPolyM
set_option linter.unusedVariables false
set_option linter.unusedSimpArgs false
namespace Go.Proofs.Ytdlddfmodbcnmaa
open Go.RowKit

set_option maxHeartbeats 2000000 in
theorem longPoly_any (A : Option Addr) (n c : Nat) (p : Row) (w : World) (hA : IS w A n p) (hn : n ≤ 1000) :
    Calls Try.prog 105 #[.slice A n c] w fun e w' => ∃ g, e = .returned (.slice (some ⟨g, 0, none⟩) n n) ∧ PR w' g n p 1 ∧ Below w.heap.size w w' := by
  have hmk := run_make_poly n (by omega)
  go_enter Try.func105, Try.ntmps105
  go_wp2
  have hrow := PR.made w n 1
  generalize hW : w.alloc (.cells (madeCells #[.bool false, .slice none 0 0] (n * 2)) 130) = W0 at *
  have hB0 : Below w.heap.size w W0 := by rw [← hW]; exact (Below.refl _ _).alloc (Nat.le_refl _) _
  clear hW
  go_loopw [11] (fun i wr => ∃ (k : Nat) (z : Row), k ≤ n ∧ i = .int .i64 k ∧ Hid (∀ i, i < k → z i = p i) ∧ Hid (PR wr w.heap.size n z 1) ∧ Below w.heap.size w wr) (fun i _ => n - (intOf i).toNat)
  case atStart => exact ⟨0, _, by omega, rfl, fun _ h => by omega, hrow, hB0⟩
  case round =>
    obtain ⟨k, z, hk, rfl, HZ, HR, hB⟩ := hrel
    clear hrow hB0 hmk
    by_cases hlt : k < n
    · have hlt' : (k : Int) < n := by omega
      obtain ⟨b1, off, rfl, hb1, hcl1⟩ := hA.2 (by omega)
      have hcx := (hB.cell (p := ⟨b1, off + k, none⟩) hb1).trans (hcl1 k hlt)
      have hx := hA.1 k hlt
      clear hcl1
      obtain ⟨b0, sv0, c0, c1, f0, f1, _⟩ := HR.out.2 k hlt
      have hg := HR.out.1
      go_wp2_with (go_at_call 121; refine (longOf_any _ _ hx).mono ?_; rintro e w1 ⟨b2, s2, rfl, hL, hB1⟩; have d0 := (hB1.cell (p := ⟨w.heap.size, k * 2, none⟩) hg).trans c0; have d1 := (hB1.cell (p := ⟨w.heap.size, k * 2 + 1, none⟩) hg).trans c1; have d2 := (hB1.frozen (p := ⟨w.heap.size, k * 2, none⟩) hg).trans f0; have d3 := (hB1.frozen (p := ⟨w.heap.size, k * 2 + 1, none⟩) hg).trans f1; obtain ⟨A2, n2, c2, f2, rfl, _⟩ := id hL)
      go_roundw
      case rel =>
        exact ⟨k + 1, _, by omega, by go_num, fun i hi => by
          by_cases e : i = k
          · subst e; exact upd_same _ _ _
          · rw [upd_other e]; exact HZ.out i (by omega), (HR.out.below (Nat.le_refl _) hB1).set hlt hL, ((hB.trans (hB1.mono hB.size)).setCell (Nat.le_refl _) _).setCell (Nat.le_refl _) _⟩
      case measure => simp [intOf]; omega
    · obtain rfl : k = n := by omega
      go_wp2
      go_ret
      exact ⟨_, rfl, HR.out.congr HZ.out, hB⟩

end Go.Proofs.Ytdlddfmodbcnmaa
