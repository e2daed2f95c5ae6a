/- Walks: derivatives of polynomials of whole numbers. -/
import Derived.Test.YtdlddfmodbcnmaaPolyO
set_option linter.unusedVariables false
set_option linter.unusedSimpArgs false
namespace Go.Proofs.Ytdlddfmodbcnmaa
open Go.RowKit

theorem dRow_eq (z : Row) (k : Nat) (hk : 0 < k) : dRow z (k - 1) = z k * (k : Int) := by
  obtain ⟨j, rfl⟩ : ∃ j, k = j + 1 := ⟨k - 1, by omega⟩
  show z (j + 1) * ((j : Int) + 1) = _
  rw [show ((j + 1 : Nat) : Int) = (j : Int) + 1 by omega]

set_option maxRecDepth 100000 in
set_option maxHeartbeats 2000000 in
theorem derivative_any (A : Option Addr) (n c : Nat) (z : Row) (L : Nat) (w : World) (hA : PA w A n z L) (hn : n ≤ 1000) (hL : L ≤ 100000000000) :
    Calls Try.prog 131 #[.slice A n c] w fun e w' => ∃ A' c', e = .returned (.slice A' (n - 1) c') ∧ PA w' A' (n - 1) (dRow z) (L + 1) ∧ Below w.heap.size w w' := by
  obtain ⟨i0, hi0, hz0, hz1, hz2⟩ := info_long_parts
  go_enter Try.func131, Try.ntmps131
  go_wp2
  go_loopw [3, 8] (fun dv i wr => ∃ k : Nat, k ≤ n ∧ i = .int .i64 k ∧ Hid (PO wr w.heap.size dv (k - 1) (dRow z) (L + 1)) ∧ Below w.heap.size w wr) (fun _ i _ => n - (intOf i).toNat)
  case atStart => exact ⟨0, by omega, rfl, PO.nil _ _ _ _, Below.refl _ _⟩
  case round =>
    obtain ⟨k, hk, rfl, HO, hB⟩ := hrel
    obtain ⟨Ad, cd, rfl⟩ := HO.out.form
    by_cases hlt : k < n
    · have hlt' : (k : Int) < n := by omega
      obtain ⟨g, rfl, hg, hp⟩ := (hA.below (Nat.le_refl _) hB) (by omega)
      obtain ⟨b1, s1, c1, c2, _, _, hL1⟩ := hp k hlt
      obtain ⟨A1, n1, d1, rfl⟩ := hL1.form
      clear hp
      rcases Nat.eq_zero_or_pos k with h0 | h0
      · subst h0
        go_wp2
        go_roundw
        case rel => exact ⟨1, by omega, rfl, HO.out.below ((Below.refl _ _).alloc (Nat.le_refl _) _), hB.alloc hB.size _⟩
        case measure => simp [intOf]; omega
      · have h0' : 0 < (k : Int) := by omega
        obtain ⟨xs, ho, hx⟩ := HO.out.2
        have HX := Lib.hid hx
        have HOW := Lib.hid ho
        have hne : some wr.heap.size ≠ (Value.slice Ad (k - 1) cd).ownBlock := fun e => by have := (ho.lt _ e.symm).2; omega
        clear hx ho
        go_wp2
        go_region_held3 (fun w' => w'.cell? ⟨wr.heap.size, 0, none⟩ = some (.bool b1) ∧ w'.cell? ⟨wr.heap.size, 1, none⟩ = some (.slice A1 n1 d1))
          (first | (simp [go_sem, World.cell?_alloc_past]; done) | (exact ⟨y0, y1⟩) | (exact ⟨x0, x1⟩) | (exact ⟨v0, v1⟩) | (exact ⟨u0, u1⟩) | (refine ⟨?_, ?_⟩ <;> simp [go_sem, *]; done))
          (first
            | (go_at_call 121; refine (longOf_any (k : Int) _ ⟨by omega, by omega⟩).mono ?_; rintro e w1 ⟨b2, s2, rfl, L2, B2⟩; obtain ⟨hcK, hfK⟩ := bcell B2; have u0 : w1.cell? ⟨wr.heap.size, 0, none⟩ = some (.bool b1) := (by rw [hcK _ _ (by simp <;> omega)]; simp [go_sem]); have u1 : w1.cell? ⟨wr.heap.size, 1, none⟩ = some (.slice A1 n1 d1) := (by rw [hcK _ _ (by simp <;> omega)]; simp [go_sem]); obtain ⟨A2, n2, d2, rfl⟩ := L2.form; have zz1 : wr.heap.size + 1 ≤ w1.heap.size := (by have := B2.size; simp at this; omega); have KB1 : Below wr.heap.size wr w1 := (((by repeat (first | exact Below.refl _ _ | refine Below.drew ?_ | refine Below.drewN' ?_ _ | refine Below.alloc ?_ (by first | exact Nat.le_refl _ | (simp; done) | (simp; omega)) _)) : Below wr.heap.size wr _).trans (B2.mono (by simp))))
            | (go_at_call 123; refine (times_any b1 b2 _ _ _ _ _ _ _ (by exact hL1.below (Nat.le_refl _) KB1) (by exact L2) (by omega) (by omega)).mono ?_; rintro e w2 ⟨b3, s3, rfl, L3, B3⟩; obtain ⟨hcL, hfL⟩ := bcell B3; have v0 := (hcL wr.heap.size 0 (by omega)).trans u0; have v1 := (hcL wr.heap.size 1 (by omega)).trans u1; obtain ⟨A3, n3, d3, rfl⟩ := L3.form; have KB2 : Below wr.heap.size wr w2 := (KB1.trans (B3.mono (by omega))); have zz2 := B3.size; have x0 : (w2.alloc (.cells #[.bool b3, .slice A3 n3 d3] 130)).cell? ⟨wr.heap.size, 0, none⟩ = some (.bool b1) := (by rw [World.cell?_alloc_lt _ _ _ (by show wr.heap.size < _; omega)]; exact v0); have x1 : (w2.alloc (.cells #[.bool b3, .slice A3 n3 d3] 130)).cell? ⟨wr.heap.size, 1, none⟩ = some (.slice A1 n1 d1) := (by rw [World.cell?_alloc_lt _ _ _ (by show wr.heap.size < _; omega)]; exact v1))
            | ((refine step_append_lies _ (by rfl) _ _ _ (by rfl) w.heap.size 130 i0 _ 2 32 Try.underlying111 hi0 hz0 hz1 hz2 rfl (by omega) (.slice Ad (k - 1) cd) (k - 1) xs (by rfl) (owns_below HOW.out (KB2.alloc (by omega) _)) ⟨w2.heap.size, 0, none⟩ 1 1 [.bool b3, .slice A3 n3 d3] (by rfl) (by rfl) (World.news_of_block (cs := #[.bool b3, .slice A3 n3 d3]) (t := 130) (fr := (0, 0)) (heap_alloc_new w2 _)) (by simp [Value.oneCell']) (by omega) (by simp only [maxLen]; omega) (by omega) (by have := hB.size; simp; omega) (w2.heap.size + 1) (by simp) ?_; intro gg cap w4 hown4 hgrow4 hat4 hlt4; have y0 : w4.cell? ⟨wr.heap.size, 0, none⟩ = some (.bool b1) := (by rw [hgrow4.cell_far _ (by simp; omega) hne]; exact x0); have y1 : w4.cell? ⟨wr.heap.size, 1, none⟩ = some (.slice A1 n1 d1) := (by rw [hgrow4.cell_far _ (by simp; omega) hne]; exact x1))))
        have KA : Below wr.heap.size wr (w2.alloc (.cells #[.bool b3, .slice A3 n3 d3] 130)) := KB2.alloc (by omega) _
        have P4 := PO.more1 (HO.out.below KA) (L3.below (Nat.le_refl _) ((Below.refl _ _).alloc (Nat.le_refl _) _)) (dRow_eq z k h0) xs (owns_below HOW.out KA) (fun i hi => by
          obtain ⟨b, sv, k1, k2, k3⟩ := HX.out i hi
          exact ⟨b, sv, k1, k2, k3.below (Nat.le_refl _) KA⟩) hown4 hgrow4
        have HP4 := Lib.hid P4
        have hlt5 := HOW.out.lt
        have hB4 : Below w.heap.size w w4 := (hB.trans (KA.mono hB.size)).grown hgrow4 (by have := hB.size; simp; omega) (fun j hj => (hlt5 j hj).1)
        clear P4 hown4 hgrow4 hlt5 hat4
        go_wp2
        go_roundw
        case rel => exact ⟨k + 1, by omega, by go_num, by rw [show k + 1 - 1 = k - 1 + 1 by omega]; exact HP4.out, hB4⟩
        case measure => simp [intOf]; omega
    · obtain rfl : k = n := by omega
      go_wp2
      go_ret
      exact ⟨_, _, rfl, HO.out.pa, hB⟩

end Go.Proofs.Ytdlddfmodbcnmaa
