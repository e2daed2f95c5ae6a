/- Walks: errors of fractions; lowest terms; sums. -/
import Derived.Test.YtdlddfmodbcnmaaRet
set_option linter.unusedVariables false
set_option linter.unusedSimpArgs false
namespace Go.Proofs.Ytdlddfmodbcnmaa
open Go.RowKit

theorem take_snoc' {α : Type} (l : List α) (k : Nat) (d x : α) (h : k < l.length) (hx : l[k]?.getD d = x) : l.take (k + 1) = l.take k ++ [x] := by
  rw [List.take_succ_eq_append_getElem h, ← hx]; simp [h]

set_option maxHeartbeats 1000000 in
theorem checkFracs_any (b n : Nat) (fs : List (Int × Int)) (w : World) (hb : b < w.heap.size) (hn : fs.length = n) (hn' : n ≤ 1000)
    (hI : ∀ k, k < n → I64 (fs[k]?.getD (0, 0)).1 ∧ I64 (fs[k]?.getD (0, 0)).2)
    (hc : ∀ k, k < n → w.cell? ⟨b, k * 2, none⟩ = some (.int .i64 (fs[k]?.getD (0, 0)).1) ∧ w.cell? ⟨b, k * 2 + 1, none⟩ = some (.int .i64 (fs[k]?.getD (0, 0)).2)) :
    Calls Try.prog 83 #[.slice (some ⟨b, 0, none⟩) n n] w fun e w' => e = .returned (.int .i64 (ckFs fs)) ∧ Below w.heap.size w w' := by
  have HN := Lib.hid hn
  clear hn
  go_enter Try.func83, Try.ntmps83
  go_wp2
  go_loopw [2, 8] (fun r i wr => ∃ k : Nat, k ≤ n ∧ i = .int .i64 k ∧ r = .int .i64 0 ∧ Hid (ckFs (fs.take k) = 0) ∧ Below w.heap.size w wr) (fun _ i _ => n - (intOf i).toNat)
  case atStart => exact ⟨0, by omega, rfl, rfl, by simp [Hid, ckFs], Below.refl _ _⟩
  case round =>
    obtain ⟨k, hk, rfl, rfl, HK, hB⟩ := hrel
    by_cases hlt : k < n
    · obtain ⟨hI1, hI2⟩ := hI k hlt
      obtain ⟨hc1, hc2⟩ := hc k hlt
      have hc1' := (hB.cell (p := ⟨b, k * 2, none⟩) hb).trans hc1
      have hc2' := (hB.cell (p := ⟨b, k * 2 + 1, none⟩) hb).trans hc2
      clear hI hc hc1 hc2
      have hb2 := hB.size
      generalize hf : fs[k]?.getD (0, 0) = f at *
      obtain ⟨p, q⟩ := f
      dsimp only at *
      have HT := Lib.hid (take_snoc' fs k _ _ (by rw [HN.out]; exact hlt) hf)
      clear hf
      by_cases he : ckF p q = 0
      · have he' : (ckF p q != 0) = false := by rw [he]; rfl
        have HE := Lib.hid he
        clear he
        go_wp2_with (go_at_call 26; refine (checkFrac_any _ _ _ hI1.1 hI1.2 hI2.1 hI2.2).mono ?_; rintro e w1 ⟨rfl, hB1⟩)
        go_roundw
        case rel => exact ⟨k + 1, by omega, by go_num, rfl, by rw [HT.out]; exact (ckFs_snoc _ _ HK.out).trans HE.out, (hB.alloc hB.size _).trans (hB1.mono (by simp; omega))⟩
        case measure => simp [intOf]; omega
      · have he' : (ckF p q != 0) = true := by simpa using he
        have HE := Lib.hid he
        clear he
        go_wp2_with (go_at_call 26; refine (checkFrac_any _ _ _ hI1.1 hI1.2 hI2.1 hI2.2).mono ?_; rintro e w1 ⟨rfl, hB1⟩)
        go_ret
        refine ⟨ret_int ?_, (hB.alloc hB.size _).trans (hB1.mono (by simp; omega))⟩
        have h1 := ckFs_snoc (fs.take k) (p, q) HK.out
        rw [← HT.out] at h1
        have h2 := ckFs_app (fs.take (k + 1)) (fs.drop (k + 1)) (by rw [h1]; exact HE.out)
        rw [List.take_append_drop] at h2
        exact (h2.trans h1).symm
    · obtain rfl : k = n := by omega
      go_wp2
      go_ret
      exact ⟨ret_int (by have := HK.out; rw [List.take_of_length_le (by rw [HN.out]; omega)] at this; exact this.symm), hB⟩

set_option maxHeartbeats 1000000 in
theorem lowest_pos (n d : Int) (w : World) (hn : -4000000000000000000 ≤ n) (hn' : n ≤ 4000000000000000000) (hd : 1 ≤ d) (hd' : d ≤ 4000000000000000000) :
    Calls Try.prog 84 #[.int .i64 n, .int .i64 d] w fun e w' => e = .returned (.tuple #[.agg #[.int .i64 (lowN n d).1, .int .i64 (lowN n d).2.1], .int .i64 (lowN n d).2.2]) ∧ Below w.heap.size w w' := by
  have s1 := sz_nonneg n
  have s2 := sz_le hn hn'
  have s3 := sz_nonneg d
  have s4 := sz_le (b := 4000000000000000000) (by omega) hd'
  have g1 := gcdI_pos (n := sz n) (d := sz d) (by unfold sz; omega)
  have g2 := gcdI_le (n := sz n) (d := sz d) (by unfold sz; omega)
  have g3 : sz (sz d) = sz d := by unfold sz; omega
  rw [g3] at g2
  clear g3
  have hdn : ¬ d < 0 := by omega
  have q1 := tdiv_bd hn hn' g1
  have q2 := tdiv_bd (n := d) (B := 4000000000000000000) (by omega) hd' g1
  have HG := Lib.hid (gcdI_sz n d)
  generalize hg : gcdI (sz n) (sz d) = g at *
  have HGG := Lib.hid hg
  clear hg
  go_enter Try.func84, Try.ntmps84
  go_wp2_with (first
    | (go_at_call 87; refine (size_any _ _ (by omega) (by omega)).mono ?_; rintro e w' ⟨rfl, rfl⟩)
    | (go_at_call 86; refine (divisor_any _ _ _ (by omega) (by omega) (by omega) (by omega)).mono ?_; rintro e w' ⟨rfl, kd, rfl⟩; rw [HGG.out]))
  by_cases he : ckF (n.tdiv g) (d.tdiv g) = 0
  · have he' : (ckF (n.tdiv g) (d.tdiv g) != 0) = false := by rw [he]; rfl
    have HE := Lib.hid he
    clear he
    go_region
    go_wp2_with (go_at_call 26; refine (checkFrac_any _ _ _ (by omega) (by omega) (by omega) (by omega)).mono ?_; rintro e w1 ⟨rfl, hB1⟩; obtain ⟨hc1, hf1⟩ := bcell hB1; have hz1 := hB1.size)
    obtain ⟨r0, r1⟩ := set2 (w := w1) (b := w.heap.size) (.int .i64 (n.tdiv g)) (.int .i64 (d.tdiv g)) (by rw [hc1 _ _ (by simp; omega)]; simp [go_sem, World.cell?_alloc_past]; rfl) (by rw [hc1 _ _ (by simp; omega)]; simp [go_sem, World.cell?_alloc_past]; rfl)
    refine bodyPost_ret (ret_frac rfl _ _ _ _ _ _ rfl rfl r0 r1) rfl ⟨?_, ?_⟩
    · rw [lowN_pos_ok HG.out (by omega) HE.out]; rfl
    · exact (((((Below.refl w.heap.size w).alloc (Nat.le_refl _) _).drewN' _).alloc (by simp) _).trans (hB1.mono (by simp; omega))).setCell (Nat.le_refl _) _ |>.setCell (Nat.le_refl _) _
  · have he' : (ckF (n.tdiv g) (d.tdiv g) != 0) = true := by simpa using he
    have HE := Lib.hid he
    clear he
    go_region
    go_wp2_with (go_at_call 26; refine (checkFrac_any _ _ _ (by omega) (by omega) (by omega) (by omega)).mono ?_; rintro e w1 ⟨rfl, hB1⟩; obtain ⟨hc1, hf1⟩ := bcell hB1; have hz1 := hB1.size)
    obtain ⟨r0, r1⟩ := set2 (w := w1) (b := w.heap.size) (.int .i64 0) (.int .i64 0) (by rw [hc1 _ _ (by simp; omega)]; simp [go_sem, World.cell?_alloc_past]; rfl) (by rw [hc1 _ _ (by simp; omega)]; simp [go_sem, World.cell?_alloc_past]; rfl)
    refine bodyPost_ret (ret_frac rfl _ _ _ _ _ _ rfl rfl r0 r1) rfl ⟨?_, ?_⟩
    · rw [lowN_pos_no HG.out (by omega) HE.out]; rfl
    · exact (((((Below.refl w.heap.size w).alloc (Nat.le_refl _) _).drewN' _).alloc (by simp) _).trans (hB1.mono (by simp; omega))).setCell (Nat.le_refl _) _ |>.setCell (Nat.le_refl _) _

set_option maxHeartbeats 1000000 in
theorem lowest_neg (n d : Int) (w : World) (hn : -4000000000000000000 ≤ n) (hn' : n ≤ 4000000000000000000) (hd : -4000000000000000000 ≤ d) (hd' : d ≤ -1) :
    Calls Try.prog 84 #[.int .i64 n, .int .i64 d] w fun e w' => e = .returned (.tuple #[.agg #[.int .i64 (lowN n d).1, .int .i64 (lowN n d).2.1], .int .i64 (lowN n d).2.2]) ∧ Below w.heap.size w w' := by
  have s1 := sz_nonneg (-n)
  have s2 := sz_le (n := -n) (b := 4000000000000000000) (by omega) (by omega)
  have s3 := sz_nonneg (-d)
  have s4 := sz_le (n := -d) (b := 4000000000000000000) (by omega) (by omega)
  have g1 := gcdI_pos (n := sz (-n)) (d := sz (-d)) (by unfold sz; omega)
  have g2 := gcdI_le (n := sz (-n)) (d := sz (-d)) (by unfold sz; omega)
  have g3 : sz (sz (-d)) = sz (-d) := by unfold sz; omega
  rw [g3] at g2
  clear g3
  have hdn : d < 0 := by omega
  have q1 := tdiv_bd (n := -n) (B := 4000000000000000000) (by omega) (by omega) g1
  have q2 := tdiv_bd (n := -d) (B := 4000000000000000000) (by omega) (by omega) g1
  have HG := Lib.hid ((gcdI_sz (-n) (-d)).trans ((gcdI_neg_left _ _).trans (gcdI_neg_right _ _)))
  generalize hg : gcdI (sz (-n)) (sz (-d)) = g at *
  have HGG := Lib.hid hg
  clear hg
  go_enter Try.func84, Try.ntmps84
  go_wp2_with (first
    | (go_at_call 87; refine (size_any _ _ (by omega) (by omega)).mono ?_; rintro e w' ⟨rfl, rfl⟩)
    | (go_at_call 86; refine (divisor_any _ _ _ (by omega) (by omega) (by omega) (by omega)).mono ?_; rintro e w' ⟨rfl, kd, rfl⟩; rw [HGG.out]))
  have HA := Lib.hid (fun (h : ckF ((-n).tdiv g) ((-d).tdiv g) = 0) => lowN_neg_ok HG.out hdn h)
  have HB := Lib.hid (fun (h : ¬ ckF ((-n).tdiv g) ((-d).tdiv g) = 0) => lowN_neg_no HG.out hdn h)
  generalize -n = n' at *
  generalize -d = d' at *
  by_cases he : ckF (n'.tdiv g) (d'.tdiv g) = 0
  · have he' : (ckF (n'.tdiv g) (d'.tdiv g) != 0) = false := by rw [he]; rfl
    have HE := Lib.hid he
    clear he
    go_region
    go_wp2_with (go_at_call 26; refine (checkFrac_any _ _ _ (by omega) (by omega) (by omega) (by omega)).mono ?_; rintro e w1 ⟨rfl, hB1⟩; obtain ⟨hc1, hf1⟩ := bcell hB1; have hz1 := hB1.size)
    obtain ⟨r0, r1⟩ := set2 (w := w1) (b := w.heap.size) (.int .i64 (n'.tdiv g)) (.int .i64 (d'.tdiv g)) (by rw [hc1 _ _ (by simp; omega)]; simp [go_sem, World.cell?_alloc_past]; rfl) (by rw [hc1 _ _ (by simp; omega)]; simp [go_sem, World.cell?_alloc_past]; rfl)
    refine bodyPost_ret (ret_frac rfl _ _ _ _ _ _ rfl rfl r0 r1) rfl ⟨?_, ?_⟩
    · rw [HA.out HE.out]; rfl
    · exact (((((Below.refl w.heap.size w).alloc (Nat.le_refl _) _).drewN' _).alloc (by simp) _).trans (hB1.mono (by simp; omega))).setCell (Nat.le_refl _) _ |>.setCell (Nat.le_refl _) _
  · have he' : (ckF (n'.tdiv g) (d'.tdiv g) != 0) = true := by simpa using he
    have HE := Lib.hid he
    clear he
    go_region
    go_wp2_with (go_at_call 26; refine (checkFrac_any _ _ _ (by omega) (by omega) (by omega) (by omega)).mono ?_; rintro e w1 ⟨rfl, hB1⟩; obtain ⟨hc1, hf1⟩ := bcell hB1; have hz1 := hB1.size)
    obtain ⟨r0, r1⟩ := set2 (w := w1) (b := w.heap.size) (.int .i64 0) (.int .i64 0) (by rw [hc1 _ _ (by simp; omega)]; simp [go_sem, World.cell?_alloc_past]; rfl) (by rw [hc1 _ _ (by simp; omega)]; simp [go_sem, World.cell?_alloc_past]; rfl)
    refine bodyPost_ret (ret_frac rfl _ _ _ _ _ _ rfl rfl r0 r1) rfl ⟨?_, ?_⟩
    · rw [HB.out HE.out]; rfl
    · exact (((((Below.refl w.heap.size w).alloc (Nat.le_refl _) _).drewN' _).alloc (by simp) _).trans (hB1.mono (by simp; omega))).setCell (Nat.le_refl _) _ |>.setCell (Nat.le_refl _) _

theorem lowest_any (n d : Int) (w : World) (hn : -4000000000000000000 ≤ n) (hn' : n ≤ 4000000000000000000) (hd : -4000000000000000000 ≤ d) (hd' : d ≤ 4000000000000000000) (h0 : d ≠ 0) :
    Calls Try.prog 84 #[.int .i64 n, .int .i64 d] w fun e w' => e = .returned (.tuple #[.agg #[.int .i64 (lowN n d).1, .int .i64 (lowN n d).2.1], .int .i64 (lowN n d).2.2]) ∧ Below w.heap.size w w' := by
  by_cases h : d < 0
  · exact lowest_neg n d w hn hn' hd (by omega)
  · exact lowest_pos n d w hn hn' (by omega) hd'

end Go.Proofs.Ytdlddfmodbcnmaa
