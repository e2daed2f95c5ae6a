/- Walks: differences of words. -/
import Derived.Test.YtdlddfmodbcnmaaW08
set_option linter.unusedVariables false
set_option linter.unusedSimpArgs false
namespace Go.Proofs.Ytdlddfmodbcnmaa
open Go.RowKit

set_option maxHeartbeats 2000000 in
theorem wordsMinus_any (A C : Option Addr) (n m c d : Nat) (f g : Nat → Int) (w : World) (hA : WS w A n f) (hC : WS w C m g) (hn : n ≤ 1000000000000) (hnm : m ≤ n) (hle : vf g m ≤ vf f n) :
    Calls Try.prog 142 #[.slice A n c, .slice C m d] w fun e w' => ∃ R r k h, e = .returned (.slice R r k) ∧ WS w' R r h ∧ r ≤ n ∧ (0 < r → h (r - 1) ≠ 0) ∧ vf h r = vf f n - vf g m ∧ r ≤ k ∧ k ≤ 9223372036854775807 ∧ Below w.heap.size w w' := by
  have hmk := run_make_row' (P := Try.prog) 128 95 (.int .u64 0) 8 Try.underlying128 info_u64 rfl .i64 .i64 n (by omega) (by omega)
  have HLE := Lib.hid hle
  clear hle
  go_enter Try.func142, Try.ntmps142
  go_wp2
  have hrow := World.rowIs_made w (.int .u64 0) n 95
  generalize hW : w.alloc (.cells (madeCells #[.int .u64 0] n) 95) = W0 at *
  have hB0 : Below w.heap.size w W0 := by rw [← hW]; exact (Below.refl _ _).alloc (Nat.le_refl _) _
  clear hW
  go_loopw [6, 15] (fun cr i wr => ∃ (k : Nat) (c0 : Int) (s : Nat → Int), k ≤ n ∧ i = .int .i64 k ∧ cr = .int .u64 c0 ∧ 0 ≤ c0 ∧ c0 ≤ 1 ∧ Hid (∀ j, U64 (s j)) ∧ Hid (vf s k = vf f k - vf (ext g m) k + c0 * BB ^ k) ∧
      Hid (wr.rowIs w.heap.size 95 n (fun j => .int .u64 (s j))) ∧ Below w.heap.size w wr) (fun _ i _ => n - (intOf i).toNat)
  case atStart => exact ⟨0, 0, fun _ => 0, by omega, rfl, rfl, by omega, by omega, fun _ => show U64 0 from ⟨by decide, by decide⟩, by simp [Hid, vf], hrow, hB0⟩
  case round =>
    obtain ⟨k, c0, s, hk, rfl, rfl, hc0, hc1, HS, HV, HR, hB⟩ := hrel
    clear hrow hB0 hmk
    by_cases hlt : k < n
    · have hlt' : (k : Int) < n := by omega
      obtain ⟨b1, rfl, hb1, hcl1⟩ := hA.2 (by omega)
      have hx : U64 (f k) := hA.1 k hlt
      have hcx := (hB.cell (p := ⟨b1, k, none⟩) hb1).trans (hcl1 k hlt)
      have hcell := HR.out.cell (i := k) (by omega)
      have hfr := HR.out.frozen k
      clear hcl1
      by_cases hkm : k < m
      · have hkm' : (k : Int) < m := by omega
        obtain ⟨b2, rfl, hb2, hcl2⟩ := hC.2 (by omega)
        have hy : U64 (g k) := hC.1 k hkm
        have hcy := (hB.cell (p := ⟨b2, k, none⟩) hb2).trans (hcl2 k hkm)
        have HST := Lib.hid (sub_step HV.out hx (ext_U64 hC.1 k) hc0 hc1)
        rw [ext_lt hkm] at HST
        have hbb := bor_bd (f k) (g k + c0)
        clear hcl2
        go_wp2_with (simp only [sub64b (f k) (g k) c0 hx hy hc0 hc1])
        go_roundw
        case rel => exact ⟨k + 1, _, _, by omega, by go_num, rfl, hbb.1, hbb.2, upd_U64 HS.out (U64_mod _), HST.out, (HR.out.set k _).congr (fun i _ => by unfold upd; split <;> rfl), hB.setCell (Nat.le_refl _) _⟩
        case measure => simp [intOf]; omega
      · have hkm' : ¬ (k : Int) < m := by omega
        have HST := Lib.hid (sub_step HV.out hx (ext_U64 hC.1 k) hc0 hc1)
        rw [ext_ge hkm, Int.sub_zero, Int.zero_add] at HST
        have hbb := bor_bd (f k) c0
        go_wp2_with (simp only [sub64b0 (f k) c0 hx hc0 hc1])
        go_roundw
        case rel => exact ⟨k + 1, _, _, by omega, by go_num, rfl, hbb.1, hbb.2, upd_U64 HS.out (U64_mod _), HST.out, (HR.out.set k _).congr (fun i _ => by unfold upd; split <;> rfl), hB.setCell (Nat.le_refl _) _⟩
        case measure => simp [intOf]; omega
    · obtain rfl : k = n := by omega
      have HX := Lib.hid (sub_end HV.out hnm HS.out HLE.out hc0 hc1)
      go_wp2_with fail
      refine (withoutZeros_any w.heap.size k k s _ (fun j hj => HR.out.cell hj) (by omega) (by omega)).mono ?_
      rintro e w1 ⟨r, hr, ht, hz, rfl, rfl⟩
      go_wp2
      go_ret
      exact ⟨_, r, _, s, rfl, ⟨fun i _ => HS.out i, fun _ => ⟨_, rfl, HR.out.lt, fun j hj => HR.out.cell (by omega)⟩⟩, hr, ht, (vf_trim k hr hz).symm.trans HX.out, hr, by omega, hB⟩

end Go.Proofs.Ytdlddfmodbcnmaa
