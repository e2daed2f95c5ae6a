/- Walks: the first error of some fractions, in the law's words. -/
import Derived.Test.YtdlddfmodbcnmaaW30
set_option linter.unusedVariables false
set_option linter.unusedSimpArgs false
namespace Go.Proofs.Ytdlddfmodbcnmaa
open Go.RowKit

set_option maxHeartbeats 1000000 in
theorem fracsL_any (b n : Nat) (fs : List (Int × Int)) (w : World) (hb : b < w.heap.size) (hn : fs.length = n) (hn' : n ≤ 1000)
    (hI : ∀ k, k < n → I64 (fs[k]?.getD (0, 0)).1 ∧ I64 (fs[k]?.getD (0, 0)).2)
    (hc : ∀ k, k < n → w.cell? ⟨b, k * 2, none⟩ = some (.int .i64 (fs[k]?.getD (0, 0)).1) ∧ w.cell? ⟨b, k * 2 + 1, none⟩ = some (.int .i64 (fs[k]?.getD (0, 0)).2)) :
    Calls Try.prog 28 #[.slice (some ⟨b, 0, none⟩) n n] w fun e w' => e = .returned (.int .i64 (ckFs fs)) ∧ Below w.heap.size w w' := by
  have HN := Lib.hid hn
  clear hn
  go_enter Try.func28, Try.ntmps28
  go_wp2
  go_loopw [2, 3] (fun r i wr => ∃ k : Nat, k ≤ n ∧ i = .int .i64 k ∧ r = .int .i64 0 ∧ Hid (ckFs (fs.take k) = 0) ∧ Below w.heap.size w wr) (fun _ i _ => n - (intOf i).toNat)
  case atStart => exact ⟨0, by omega, rfl, rfl, by simp [Hid, ckFs], Below.refl _ _⟩
  case round =>
    obtain ⟨k, hk, rfl, rfl, HK, hB⟩ := hrel
    by_cases hlt : k < n
    · obtain ⟨hI1, hI2⟩ := hI k hlt
      obtain ⟨hc1, hc2⟩ := hc k hlt
      have hc1' := (hB.cell (p := ⟨b, k * 2, none⟩) hb).trans hc1
      have hc2' := (hB.cell (p := ⟨b, k * 2 + 1, none⟩) hb).trans hc2
      clear hI hc hc1 hc2
      have hb2 := hB.size
      generalize hf : fs[k]?.getD (0, 0) = f at *
      obtain ⟨p, q⟩ := f
      dsimp only at *
      have HT := Lib.hid (take_snoc' fs k _ _ (by rw [HN.out]; exact hlt) hf)
      clear hf
      by_cases he : ckF p q = 0
      · have he' : (ckF p q != 0) = false := by rw [he]; rfl
        have HE := Lib.hid he
        clear he
        go_wp2_with (go_at_call 27; refine (checkFracR_any _ _ _ hI1 hI2).mono ?_; rintro e w1 ⟨rfl, hB1⟩)
        go_roundw
        case rel => exact ⟨k + 1, by omega, by go_num, rfl, by rw [HT.out]; exact (ckFs_snoc _ _ HK.out).trans HE.out, hB.trans (hB1.mono hB.size)⟩
        case measure => simp [intOf]; omega
      · have he' : (ckF p q != 0) = true := by simpa using he
        have HE := Lib.hid he
        clear he
        go_wp2_with (go_at_call 27; refine (checkFracR_any _ _ _ hI1 hI2).mono ?_; rintro e w1 ⟨rfl, hB1⟩)
        go_ret
        refine ⟨ret_int ?_, hB.trans (hB1.mono hB.size)⟩
        have h1 := ckFs_snoc (fs.take k) (p, q) HK.out
        rw [← HT.out] at h1
        have h2 := ckFs_app (fs.take (k + 1)) (fs.drop (k + 1)) (by rw [h1]; exact HE.out)
        rw [List.take_append_drop] at h2
        exact (h2.trans h1).symm
    · obtain rfl : k = n := by omega
      go_wp2
      go_ret
      exact ⟨ret_int (by have := HK.out; rw [List.take_of_length_le (by rw [HN.out]; omega)] at this; exact this.symm), hB⟩


end Go.Proofs.Ytdlddfmodbcnmaa
