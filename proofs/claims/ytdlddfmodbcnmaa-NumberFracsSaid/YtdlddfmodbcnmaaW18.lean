/- Walks: a copy of a polynomial. -/
import Derived.Test.YtdlddfmodbcnmaaPolyO
set_option linter.unusedVariables false
set_option linter.unusedSimpArgs false
namespace Go.Proofs.Ytdlddfmodbcnmaa
open Go.RowKit

set_option maxHeartbeats 1000000 in
theorem clone_any (A : Option Addr) (n c : Nat) (z : Row) (L : Nat) (w : World) (hA : PA w A n z L) (hn : 1 ≤ n) (hn' : n ≤ 1000) :
    Calls Try.prog 145 #[.slice A n c] w fun e w' => ∃ g c', e = .returned (.slice (some ⟨g, 0, none⟩) n c') ∧ w.heap.size ≤ g ∧ n ≤ c' ∧ c' ≤ 9223372036854775807 ∧ PR w' g n z L ∧ Below w.heap.size w w' := by
  obtain ⟨i0, hi0, hz0, hz1, hz2⟩ := info_long_parts
  obtain ⟨g, rfl, hg, hp⟩ := hA hn
  have hnil := fun wx : World => Lib.run_eql_slice_nil (P := Try.prog) wx 111 130 (some ⟨g, 0, none⟩) n c 0 0 Try.underlying111
  obtain ⟨news, hnews⟩ : ∃ news : List Value, news = (List.range (n * 2)).map (fun j => (w.cell? ⟨g, j, none⟩).getD undef) := ⟨_, rfl⟩
  have hlen : news.length = n * 2 := by rw [hnews]; simp
  have hat : ∀ j, j < n * 2 → ∃ u, w.cell? ⟨g, j, none⟩ = some u ∧ u.oneCell' = true ∧ news[j]? = some u := fun j hj => by
    obtain ⟨b, sv, h1, h2, _, _, h5⟩ := hp (j / 2) (by omega)
    rcases Nat.mod_two_eq_zero_or_one j with h | h
    · rw [show j / 2 * 2 = j by omega] at h1
      exact ⟨_, h1, rfl, by rw [hnews]; simp [hj, h1]⟩
    · rw [show j / 2 * 2 + 1 = j by omega] at h2
      obtain ⟨A1, n1, c1, rfl⟩ := h5.form
      exact ⟨_, h2, rfl, by rw [hnews]; simp [hj, h2]⟩
  have HL := Lib.hid hlen
  have HA := Lib.hid hat
  clear hnews hlen hat
  have hN1 : ∀ j u, news[j]? = some u → (w.alloc (.cells #[] 130)).cell? ((⟨g, 0, none⟩ : Addr).add j) = some u := by
    intro j u hu
    have hj : j < n * 2 := by
      rcases Nat.lt_or_ge j (n * 2) with h1 | h1
      · exact h1
      · rw [List.getElem?_eq_none (by rw [HL.out]; exact h1)] at hu; cases hu
    obtain ⟨u', h1, _, h3⟩ := HA.out j hj
    obtain rfl := Option.some.inj (hu.symm.trans h3)
    have hadd : (⟨g, 0, none⟩ : Addr).add j = ⟨g, j, none⟩ := by unfold Addr.add; split <;> simp_all
    rw [hadd, World.cell?_alloc_lt _ _ _ hg]; exact h1
  have hN2 : ∀ u ∈ news, u.oneCell' = true := by
    intro u hu
    obtain ⟨j, hj, rfl⟩ := List.getElem_of_mem hu
    obtain ⟨u', _, h2, h3⟩ := HA.out j (by rw [HL.out] at hj; exact hj)
    have h4 := Option.some.inj ((List.getElem?_eq_getElem hj).symm.trans h3)
    rw [h4]; exact h2
  have HN1 := Lib.hid hN1
  have HN2 := Lib.hid hN2
  clear hN1 hN2
  go_enter Try.func145, Try.ntmps145
  go_wp2_with (at_builtin; refine wpList_append_lies _ rfl _ _ _ rfl w.heap.size 130 i0 _ 2 32 Try.underlying111 hi0 hz0 hz1 hz2 rfl (by omega) (.slice (some ⟨w.heap.size, 0, none⟩) 0 0) 0 [] rfl ⟨rfl, .inr ⟨w.heap.size, 0, #[], rfl, Nat.le_refl _, heap_alloc_new w _, Nat.le_refl _, by simp [maxLen], rfl, rfl⟩⟩ ⟨g, 0, none⟩ n c news rfl HL.out HN1.out HN2.out (by omega) (by simp only [maxLen]; omega) (by omega) (by simp) (w.heap.size + 1) (by simp) ?_)
  intro gg cap w4 hown4 hgrow4 hat4 hlt4
  have HOW := Lib.hid hown4
  clear hown4
  have hBB : Below w.heap.size w w4 := ((Below.refl w.heap.size w).alloc (Nat.le_refl _) _).grown hgrow4 (by simp) (fun j hj => by simp [Value.ownBlock] at hj; omega)
  have hge : w.heap.size ≤ gg := by
    rcases hat4 with h | h
    · simp [Value.ownBlock] at h; omega
    · omega
  clear hgrow4 hat4
  go_wp2
  go_ret
  have hcap : n ≤ cap ∧ cap ≤ 9223372036854775807 := by
    rcases HOW.out.2 with ⟨h1, _⟩ | ⟨g', cap', cur', h1, _, _, h2, h3, _⟩
    · cases h1
    · injection h1 with _ _ h1
      subst h1
      exact ⟨h2, by simpa [maxLen] using h3⟩
  refine ⟨gg, cap, rfl, hge, hcap.1, hcap.2, ⟨hlt4, fun i hi => ?_⟩, hBB⟩
  obtain ⟨b, sv, k1, k2, k3, k4, k5⟩ := hp i hi
  obtain ⟨u0, a1, _, a3⟩ := HA.out (i * 2) (by omega)
  obtain ⟨u1, b1, _, b3⟩ := HA.out (i * 2 + 1) (by omega)
  obtain rfl := Option.some.inj (k1.symm.trans a1)
  obtain rfl := Option.some.inj (k2.symm.trans b1)
  exact ⟨b, sv, by rw [HOW.out.cellAt _ (by omega)]; exact a3, by rw [HOW.out.cellAt _ (by omega)]; exact b3, HOW.out.frozenAt _, HOW.out.frozenAt _, k5.below (Nat.le_refl _) hBB⟩

end Go.Proofs.Ytdlddfmodbcnmaa
