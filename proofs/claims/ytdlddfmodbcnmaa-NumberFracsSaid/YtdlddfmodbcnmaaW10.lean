/- Walks: products of words. -/
import Derived.Test.YtdlddfmodbcnmaaW09
set_option linter.unusedVariables false
set_option linter.unusedSimpArgs false
namespace Go.Proofs.Ytdlddfmodbcnmaa
open Go.RowKit

set_option maxHeartbeats 4000000 in
theorem wordsTimes_any (A C : Option Addr) (n m c d : Nat) (f g : Nat → Int) (w : World) (hA : WS w A n f) (hC : WS w C m g) (hn : n ≤ 1000000000000) (hm : m ≤ 1000000000000) :
    Calls Try.prog 139 #[.slice A n c, .slice C m d] w fun e w' => ∃ R r k h, e = .returned (.slice R r k) ∧ WS w' R r h ∧ r ≤ n + m ∧ (0 < r → h (r - 1) ≠ 0) ∧ vf h r = vf f n * vf g m ∧ r ≤ k ∧ k ≤ 9223372036854775807 ∧ Below w.heap.size w w' := by
  have hmk := run_make_row' (P := Try.prog) 128 95 (.int .u64 0) 8 Try.underlying128 info_u64 rfl .i64 .i64 (n + m) (by omega) (by omega)
  have ec : ((n + m : Nat) : Int) = (n : Int) + (m : Int) := by omega
  rw [ec] at hmk
  clear ec
  go_enter Try.func139, Try.ntmps139
  go_wp2
  have hrow := World.rowIs_made w (.int .u64 0) (n + m) 95
  generalize hW : w.alloc (.cells (madeCells #[.int .u64 0] (n + m)) 95) = W0 at *
  have hB0 : Below w.heap.size w W0 := by rw [← hW]; exact (Below.refl _ _).alloc (Nat.le_refl _) _
  clear hW
  go_loopw [23] (fun i wr => ∃ (k : Nat) (s : Nat → Int), k ≤ n ∧ i = .int .i64 k ∧ Hid (∀ j, U64 (s j)) ∧ Hid (vf s (k + m) = vf f k * vf g m) ∧
      Hid (wr.rowIs w.heap.size 95 (n + m) (fun j => .int .u64 (s j))) ∧ Below w.heap.size w wr) (fun i _ => n - (intOf i).toNat)
  case atStart => exact ⟨0, fun _ => 0, by omega, rfl, fun _ => show U64 0 from ⟨by decide, by decide⟩, by
    show vf _ _ = vf f 0 * vf g m
    rw [vf_trim (m := 0) _ (by omega) (fun _ _ _ => rfl)]; simp [vf], hrow, hB0⟩
  case round =>
    obtain ⟨k, s0, hk, rfl, HS0, HV0, HR0, hB⟩ := hrel
    clear hrow hB0 hmk
    by_cases hlt : k < n
    · have hlt' : (k : Int) < n := by omega
      obtain ⟨b1, rfl, hb1, hcl1⟩ := hA.2 (by omega)
      have hx : U64 (f k) := hA.1 k hlt
      have hcx := (hB.cell (p := ⟨b1, k, none⟩) hb1).trans (hcl1 k hlt)
      clear hcl1
      go_wp2_with fail
      obtain ⟨wo, hwo⟩ : ∃ wo : World, wo = wr := ⟨_, rfl⟩
      subst hwo
      go_loopw [8, 30] (fun cr i w2 => ∃ (j : Nat) (c0 : Int) (s : Nat → Int), j ≤ m ∧ i = .int .i64 j ∧ cr = .int .u64 c0 ∧ 0 ≤ c0 ∧ c0 ≤ 18446744073709551615 ∧ Hid (∀ j, U64 (s j)) ∧ Hid (∀ t, k + j ≤ t → s t = s0 t) ∧
          Hid (vf s (k + j) + c0 * BB ^ (k + j) = vf s0 (k + j) + f k * vf g j * BB ^ k) ∧ Hid (w2.rowIs w.heap.size 95 (n + m) (fun j => .int .u64 (s j))) ∧ Below w.heap.size w w2) (fun _ i _ => m - (intOf i).toNat)
      case atStart => exact ⟨0, 0, s0, by omega, rfl, rfl, by omega, by omega, HS0, fun _ _ => rfl, by simp [Hid, vf], HR0, hB⟩
      case round =>
        obtain ⟨j, c0, s, hj, rfl, rfl, hc0, hc1, HS, HT, HV, HR, hB2⟩ := hrel
        by_cases hjm : j < m
        · have hjm' : (j : Int) < m := by omega
          obtain ⟨b2, rfl, hb2, hcl2⟩ := hC.2 (by omega)
          have hy : U64 (g j) := hC.1 j hjm
          have hcy := (hB2.cell (p := ⟨b2, j, none⟩) hb2).trans (hcl2 j hjm)
          have hcell := HR.out.cell (i := k + j) (by omega)
          have hfr := HR.out.frozen (k + j)
          have hp : U64 (s (k + j)) := HS.out _
          have hst := HT.out (k + j) (Nat.le_refl _)
          clear hcl2
          have hlo := U64_mod (f k * g j)
          have hdm : f k * g j = f k * g j / 18446744073709551616 * 18446744073709551616 + f k * g j % 18446744073709551616 := by omega
          obtain ⟨w1, w2', w3, w4⟩ := mul_words (x := f k) (y := g j) (p := s (k + j)) (c := c0) hx hy hp ⟨hc0, hc1⟩ hdm hlo
          rw [hst] at w4
          have HST := Lib.hid (mul_step HV.out w4)
          clear w4 hdm
          rw [← hst] at HST
          clear hst
          generalize hHI : f k * g j / 18446744073709551616 = hi at *
          generalize hLO : f k * g j % 18446744073709551616 = lo at *
          have HHI := Lib.hid hHI
          have HLO := Lib.hid hLO
          clear hHI hLO
          generalize hP : s (k + j) = p at *
          have HP := Lib.hid hP
          clear hP
          have hl0 := hlo.1
          have hl1 := hlo.2
          have hp0 := hp.1
          have hp1 := hp.2
          go_wp2_with (first
            | (go_at_call 115; refine (mul64_any (f k) (g j) hx hy _).mono ?_; rintro e w' ⟨rfl, rfl⟩; rw [HHI.out, HLO.out])
            | simp only [add64_0 lo p hlo hp]
            | simp only [add64_0 ((lo + p) % 18446744073709551616) c0 (U64_mod _) ⟨hc0, hc1⟩])
          go_roundw
          case rel =>
            have hmm : ((lo + p) % 18446744073709551616 + c0) % 18446744073709551616 = (lo + p + c0) % 18446744073709551616 := by omega
            rw [hmm] at HST
            exact ⟨j + 1, _, _, by omega, by go_num, rfl, by omega, by omega, upd_U64 HS.out (U64_mod _), fun t ht => by rw [upd_other (by omega)]; exact HT.out t (by omega), HST.out,
              (HR.out.set (k + j) _).congr (fun i _ => by unfold upd; split <;> rfl), hB2.setCell (Nat.le_refl _) _⟩
          case measure => simp [intOf]; omega
        · obtain rfl : j = m := by omega
          have hcell := HR.out.cell (i := k + j) (by omega)
          have hfr := HR.out.frozen (k + j)
          have HX := Lib.hid (mul_end HV.out HV0.out)
          go_wp2_with fail
          go_roundw
          case rel => exact ⟨k + 1, _, by omega, by go_num, upd_U64 HS.out ⟨hc0, hc1⟩, HX.out, (HR.out.set (k + j) _).congr (fun i _ => by unfold upd; split <;> rfl), hB2.setCell (Nat.le_refl _) _⟩
          case measure => simp [intOf]; omega
    · obtain rfl : k = n := by omega
      go_wp2_with fail
      refine (withoutZeros_any w.heap.size (k + m) (k + m) s0 _ (fun j hj => HR0.out.cell hj) (by omega) (by omega)).mono ?_
      rintro e w1 ⟨r, hr, ht, hz, rfl, rfl⟩
      go_wp2
      go_ret
      exact ⟨_, r, _, s0, rfl, ⟨fun i _ => HS0.out i, fun _ => ⟨_, rfl, HR0.out.lt, fun j hj => HR0.out.cell (by omega)⟩⟩, hr, ht, (vf_trim (k + m) hr hz).symm.trans HV0.out, hr, by omega, hB⟩

end Go.Proofs.Ytdlddfmodbcnmaa
