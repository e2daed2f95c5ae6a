/- Walks: sums of words. -/
import Derived.Test.YtdlddfmodbcnmaaW07
import Derived.Deep.OwnRows
set_option linter.unusedVariables false
set_option linter.unusedSimpArgs false
namespace Go.Proofs.Ytdlddfmodbcnmaa
open Go.RowKit

theorem info_u64 : (Try.prog.info? 95).map (fun i => (i.zero, i.size, i.bytes)) = some (some (.int .u64 0), 1, 8) := by kernel_rfl

set_option maxHeartbeats 2000000 in
theorem wordsPlus_ge (A C : Option Addr) (n m c d : Nat) (f g : Nat → Int) (w : World) (hA : WS w A n f) (hC : WS w C m g) (hn : n ≤ 1000000000000) (hm : m ≤ 1000000000000) (hnm : m ≤ n) :
    Calls Try.prog 140 #[.slice A n c, .slice C m d] w fun e w' => ∃ R r k h, e = .returned (.slice R r k) ∧ WS w' R r h ∧ r ≤ n + 1 ∧ (0 < r → h (r - 1) ≠ 0) ∧ vf h r = vf f n + vf g m ∧ r ≤ k ∧ k ≤ 9223372036854775807 ∧ Below w.heap.size w w' := by
  have hmk := run_make_row' (P := Try.prog) 128 95 (.int .u64 0) 8 Try.underlying128 info_u64 rfl .i64 .i64 (n + 1) (by omega) (by omega)
  have ec : ((n + 1 : Nat) : Int) = (n : Int) + 1 := by omega
  rw [ec] at hmk
  clear ec
  have hdec : decide (n < m) = false := by simpa using hnm
  go_enter Try.func140, Try.ntmps140
  go_wp2
  have hrow := World.rowIs_made w (.int .u64 0) (n + 1) 95
  generalize hW : w.alloc (.cells (madeCells #[.int .u64 0] (n + 1)) 95) = W0 at *
  have hB0 : Below w.heap.size w W0 := by rw [← hW]; exact (Below.refl _ _).alloc (Nat.le_refl _) _
  clear hW
  go_loopw [6, 23] (fun cr i wr => ∃ (k : Nat) (c0 : Int) (s : Nat → Int), k ≤ n ∧ i = .int .i64 k ∧ cr = .int .u64 c0 ∧ 0 ≤ c0 ∧ c0 ≤ 1 ∧ Hid (∀ j, U64 (s j)) ∧ Hid (vf s k + c0 * BB ^ k = vf f k + vf (ext g m) k) ∧
      Hid (wr.rowIs w.heap.size 95 (n + 1) (fun j => .int .u64 (s j))) ∧ Below w.heap.size w wr) (fun _ i _ => n - (intOf i).toNat)
  case atStart => exact ⟨0, 0, fun _ => 0, by omega, rfl, rfl, by omega, by omega, fun _ => show U64 0 from ⟨by decide, by decide⟩, by simp [Hid, vf], hrow, hB0⟩
  case round =>
    obtain ⟨k, c0, s, hk, rfl, rfl, hc0, hc1, HS, HV, HR, hB⟩ := hrel
    clear hrow hB0 hmk
    by_cases hlt : k < n
    · have hlt' : (k : Int) < n := by omega
      obtain ⟨b1, rfl, hb1, hcl1⟩ := hA.2 (by omega)
      have hx : U64 (f k) := hA.1 k hlt
      have hcx := (hB.cell (p := ⟨b1, k, none⟩) hb1).trans (hcl1 k hlt)
      have hcell := HR.out.cell (i := k) (by omega)
      have hfr := HR.out.frozen k
      clear hcl1
      by_cases hkm : k < m
      · have hkm' : (k : Int) < m := by omega
        obtain ⟨b2, rfl, hb2, hcl2⟩ := hC.2 (by omega)
        have hy : U64 (g k) := hC.1 k hkm
        have hcy := (hB.cell (p := ⟨b2, k, none⟩) hb2).trans (hcl2 k hkm)
        have HST := Lib.hid (add_step HV.out)
        rw [ext_lt hkm] at HST
        clear hcl2
        go_wp2_with (simp only [add64 (f k) (g k) c0 hx hy hc0 hc1])
        go_roundw
        case rel =>
          obtain ⟨hx1, hx2⟩ := hx
          obtain ⟨hy1, hy2⟩ := hy
          exact ⟨k + 1, _, _, by omega, by go_num, rfl, by omega, by omega, upd_U64 HS.out (U64_mod _), HST.out, (HR.out.set k _).congr (fun i _ => by unfold upd; split <;> rfl), hB.setCell (Nat.le_refl _) _⟩
        case measure => simp [intOf]; omega
      · have hkm' : ¬ (k : Int) < m := by omega
        have HST := Lib.hid (add_step HV.out)
        rw [ext_ge hkm, Int.add_zero] at HST
        go_wp2_with (simp only [add64 (f k) 0 c0 hx ⟨by omega, by omega⟩ hc0 hc1])
        go_roundw
        case rel =>
          obtain ⟨hx1, hx2⟩ := hx
          exact ⟨k + 1, _, _, by omega, by go_num, rfl, by omega, by omega, upd_U64 HS.out (U64_mod _), HST.out, (HR.out.set k _).congr (fun i _ => by unfold upd; split <;> rfl), hB.setCell (Nat.le_refl _) _⟩
        case measure => simp [intOf]; omega
    · obtain rfl : k = n := by omega
      have hcell := HR.out.cell (i := k) (by omega)
      have hfr := HR.out.frozen k
      have HX := Lib.hid (show vf (upd s k c0) (k + 1) = vf f k + vf g m by
        show vf (upd s k c0) k + upd s k c0 k * BB ^ k = _
        rw [vf_upd, upd_same, HV.out, vf_ext hnm])
      go_wp2_with fail
      refine (withoutZeros_any w.heap.size (k + 1) (k + 1) (upd s k c0) _ (fun j hj => ?_) (by omega) (by omega)).mono ?_
      · rw [(HR.out.set k (.int .u64 c0)).cell hj]; unfold upd; split <;> rfl
      · rintro e w1 ⟨r, hr, ht, hz, rfl, rfl⟩
        go_wp2
        go_ret
        refine ⟨_, r, _, upd s k c0, rfl, ⟨fun i _ => upd_U64 HS.out ⟨by omega, by omega⟩ i, fun _ => ⟨_, rfl, ?_, fun j hj => ?_⟩⟩, by omega, ht, (vf_trim (k + 1) hr hz).symm.trans HX.out, by omega, by omega, hB.setCell (Nat.le_refl _) _⟩
        · have := HR.out.lt; simpa [World.setCell] using this
        · rw [(HR.out.set k (.int .u64 c0)).cell (by omega)]; unfold upd; split <;> rfl

set_option maxHeartbeats 2000000 in
theorem wordsPlus_lt (A C : Option Addr) (n m c d : Nat) (f g : Nat → Int) (w : World) (hA : WS w A n f) (hC : WS w C m g) (hn : n ≤ 1000000000000) (hm : m ≤ 1000000000000) (hnm : n < m) :
    Calls Try.prog 140 #[.slice A n c, .slice C m d] w fun e w' => ∃ R r k h, e = .returned (.slice R r k) ∧ WS w' R r h ∧ r ≤ m + 1 ∧ (0 < r → h (r - 1) ≠ 0) ∧ vf h r = vf f n + vf g m ∧ r ≤ k ∧ k ≤ 9223372036854775807 ∧ Below w.heap.size w w' := by
  have hmk := run_make_row' (P := Try.prog) 128 95 (.int .u64 0) 8 Try.underlying128 info_u64 rfl .i64 .i64 (m + 1) (by omega) (by omega)
  have ec : ((m + 1 : Nat) : Int) = (m : Int) + 1 := by omega
  rw [ec] at hmk
  clear ec
  have hdec : decide (n < m) = true := by simpa using hnm
  go_enter Try.func140, Try.ntmps140
  go_wp2
  have hrow := World.rowIs_made w (.int .u64 0) (m + 1) 95
  generalize hW : w.alloc (.cells (madeCells #[.int .u64 0] (m + 1)) 95) = W0 at *
  have hB0 : Below w.heap.size w W0 := by rw [← hW]; exact (Below.refl _ _).alloc (Nat.le_refl _) _
  clear hW
  go_loopw [6, 23] (fun cr i wr => ∃ (k : Nat) (c0 : Int) (s : Nat → Int), k ≤ m ∧ i = .int .i64 k ∧ cr = .int .u64 c0 ∧ 0 ≤ c0 ∧ c0 ≤ 1 ∧ Hid (∀ j, U64 (s j)) ∧ Hid (vf s k + c0 * BB ^ k = vf g k + vf (ext f n) k) ∧
      Hid (wr.rowIs w.heap.size 95 (m + 1) (fun j => .int .u64 (s j))) ∧ Below w.heap.size w wr) (fun _ i _ => m - (intOf i).toNat)
  case atStart => exact ⟨0, 0, fun _ => 0, by omega, rfl, rfl, by omega, by omega, fun _ => show U64 0 from ⟨by decide, by decide⟩, by simp [Hid, vf], hrow, hB0⟩
  case round =>
    obtain ⟨k, c0, s, hk, rfl, rfl, hc0, hc1, HS, HV, HR, hB⟩ := hrel
    clear hrow hB0 hmk
    by_cases hlt : k < m
    · have hlt' : (k : Int) < m := by omega
      obtain ⟨b1, rfl, hb1, hcl1⟩ := hC.2 (by omega)
      have hx : U64 (g k) := hC.1 k hlt
      have hcx := (hB.cell (p := ⟨b1, k, none⟩) hb1).trans (hcl1 k hlt)
      have hcell := HR.out.cell (i := k) (by omega)
      have hfr := HR.out.frozen k
      clear hcl1
      by_cases hkm : k < n
      · have hkm' : (k : Int) < n := by omega
        obtain ⟨b2, rfl, hb2, hcl2⟩ := hA.2 (by omega)
        have hy : U64 (f k) := hA.1 k hkm
        have hcy := (hB.cell (p := ⟨b2, k, none⟩) hb2).trans (hcl2 k hkm)
        have HST := Lib.hid (add_step HV.out)
        rw [ext_lt hkm] at HST
        clear hcl2
        go_wp2_with (simp only [add64 (g k) (f k) c0 hx hy hc0 hc1])
        go_roundw
        case rel =>
          obtain ⟨hx1, hx2⟩ := hx
          obtain ⟨hy1, hy2⟩ := hy
          exact ⟨k + 1, _, _, by omega, by go_num, rfl, by omega, by omega, upd_U64 HS.out (U64_mod _), HST.out, (HR.out.set k _).congr (fun i _ => by unfold upd; split <;> rfl), hB.setCell (Nat.le_refl _) _⟩
        case measure => simp [intOf]; omega
      · have hkm' : ¬ (k : Int) < n := by omega
        have HST := Lib.hid (add_step HV.out)
        rw [ext_ge hkm, Int.add_zero] at HST
        go_wp2_with (simp only [add64 (g k) 0 c0 hx ⟨by omega, by omega⟩ hc0 hc1])
        go_roundw
        case rel =>
          obtain ⟨hx1, hx2⟩ := hx
          exact ⟨k + 1, _, _, by omega, by go_num, rfl, by omega, by omega, upd_U64 HS.out (U64_mod _), HST.out, (HR.out.set k _).congr (fun i _ => by unfold upd; split <;> rfl), hB.setCell (Nat.le_refl _) _⟩
        case measure => simp [intOf]; omega
    · obtain rfl : k = m := by omega
      have hcell := HR.out.cell (i := k) (by omega)
      have hfr := HR.out.frozen k
      have HX := Lib.hid (show vf (upd s k c0) (k + 1) = vf f n + vf g k by
        show vf (upd s k c0) k + upd s k c0 k * BB ^ k = _
        rw [vf_upd, upd_same, HV.out, vf_ext (by omega)]; exact Int.add_comm _ _)
      go_wp2_with fail
      refine (withoutZeros_any w.heap.size (k + 1) (k + 1) (upd s k c0) _ (fun j hj => ?_) (by omega) (by omega)).mono ?_
      · rw [(HR.out.set k (.int .u64 c0)).cell hj]; unfold upd; split <;> rfl
      · rintro e w1 ⟨r, hr, ht, hz, rfl, rfl⟩
        go_wp2
        go_ret
        refine ⟨_, r, _, upd s k c0, rfl, ⟨fun i _ => upd_U64 HS.out ⟨by omega, by omega⟩ i, fun _ => ⟨_, rfl, ?_, fun j hj => ?_⟩⟩, by omega, ht, (vf_trim (k + 1) hr hz).symm.trans HX.out, by omega, by omega, hB.setCell (Nat.le_refl _) _⟩
        · have := HR.out.lt; simpa [World.setCell] using this
        · rw [(HR.out.set k (.int .u64 c0)).cell (by omega)]; unfold upd; split <;> rfl

theorem wordsPlus_any (A C : Option Addr) (n m c d : Nat) (f g : Nat → Int) (w : World) (hA : WS w A n f) (hC : WS w C m g) (hn : n ≤ 1000000000000) (hm : m ≤ 1000000000000) :
    Calls Try.prog 140 #[.slice A n c, .slice C m d] w fun e w' => ∃ R r k h, e = .returned (.slice R r k) ∧ WS w' R r h ∧ r ≤ max n m + 1 ∧ (0 < r → h (r - 1) ≠ 0) ∧ vf h r = vf f n + vf g m ∧ r ≤ k ∧ k ≤ 9223372036854775807 ∧ Below w.heap.size w w' := by
  rcases Nat.lt_or_ge n m with h | h
  · exact (wordsPlus_lt A C n m c d f g w hA hC hn hm h).mono fun e w' ⟨R, r, k, hh, a1, a2, a3, a4, a5, a6, a7, a8⟩ => ⟨R, r, k, hh, a1, a2, by omega, a4, a5, a6, a7, a8⟩
  · exact (wordsPlus_ge A C n m c d f g w hA hC hn hm h).mono fun e w' ⟨R, r, k, hh, a1, a2, a3, a4, a5, a6, a7, a8⟩ => ⟨R, r, k, hh, a1, a2, by omega, a4, a5, a6, a7, a8⟩

end Go.Proofs.Ytdlddfmodbcnmaa
