/- Walks: a copy of a list of ints. -/
import Derived.Test.YtfnmnnbmhfbkbaaBf
import Derived.Test.YtfnmnnbmhfbkbaaR5
set_option linter.unusedVariables false
set_option linter.unusedSimpArgs false
namespace Go.Proofs.Ytfnmnnbmhfbkbaa
open Go.RowKit

theorem info_intc : (Try.prog.info? 3).map (fun i => (i.zero, i.size, i.bytes)) = some (some (.int .i64 0), 1, 8) := by kernel_rfl
theorem info_intc_parts : ∃ i, Try.prog.info? 3 = some i ∧ i.zero = some (.int .i64 0) ∧ i.size = 1 ∧ i.bytes = 8 := by
  obtain ⟨i, hi, hzz⟩ := Option.map_eq_some_iff.1 info_intc
  simp only [Prod.mk.injEq] at hzz
  exact ⟨i, hi, hzz.1, hzz.2.1, hzz.2.2⟩

/-- A nil or empty list, or one at an address: what a list of ints may be. -/
def SV (A : Option Addr) (n c : Nat) : Prop := A = none → n = 0 ∧ c = 0

set_option maxHeartbeats 2000000 in
theorem copyInts_any (A : Option Addr) (n c : Nat) (p : Row) (w : World) (hA : IS w A n p) (hs : SV A n c) (hn : n ≤ 1000) :
    Calls Try.prog 65 #[.slice A n c] w fun e w' => ∃ g c', e = .returned (.slice (some ⟨g, 0, none⟩) n c') ∧ w.heap.size ≤ g ∧ n ≤ c' ∧ c' ≤ 9223372036854775807 ∧ IS w' (some ⟨g, 0, none⟩) n p ∧ Below w.heap.size w w' := by
  obtain ⟨i0, hi0, hz0, hz1, hz2⟩ := info_intc_parts
  by_cases h0 : n = 0
  · subst h0
    go_enter Try.func65, Try.ntmps65
    go_wp2_with (at_builtin; refine wpList_append_fits_any _ rfl _ _ _ rfl w.heap.size 3 i0 1 Try.underlying63 hi0 hz1 w.heap.size 0 0 [] rfl ⟨rfl, .inr ⟨w.heap.size, 0, #[], rfl, Nat.le_refl _, heap_alloc_new w _, Nat.le_refl _, by simp [maxLen], rfl, rfl⟩⟩ A 0 c [] rfl rfl (fun h => hs h) (fun _ _ _ _ h => by simp at h) (by simp) (by omega) ?_)
    intro w4 hown4 hgrow4
    have hBB : Below w.heap.size w w4 := ((Below.refl w.heap.size w).alloc (Nat.le_refl _) _).grown hgrow4 (by simp) (fun j hj => by simp at hj; omega)
    clear hown4 hgrow4
    go_wp2
    go_ret
    exact ⟨w.heap.size, 0, rfl, Nat.le_refl _, by omega, by omega, ⟨fun i hi => by omega, fun h => by omega⟩, hBB⟩
  · obtain ⟨b, off, rfl, hb, hc⟩ := hA.2 (by omega)
    have hI := hA.1
    obtain ⟨news, hnews⟩ : ∃ news : List Value, news = (List.range n).map (fun j => Value.int .i64 (p j)) := ⟨_, rfl⟩
    have HL := Bx.mk (show news.length = n * 1 by rw [hnews]; simp)
    have HG := Bx.mk (show ∀ j, j < n → news[j]? = some (.int .i64 (p j)) from fun j hj => by rw [hnews]; simp [hj])
    have HN1 := Bx.mk (show ∀ j u, news[j]? = some u → (w.alloc (.cells #[] 3)).cell? ((⟨b, off, none⟩ : Addr).add j) = some u from fun j u hu => by
      have hj : j < n := by
        rcases Nat.lt_or_ge j n with h1 | h1
        · exact h1
        · rw [List.getElem?_eq_none (by rw [HL.out]; omega)] at hu; cases hu
      obtain rfl := Option.some.inj (hu.symm.trans (HG.out j hj))
      have hadd : (⟨b, off, none⟩ : Addr).add j = ⟨b, off + j, none⟩ := by unfold Addr.add; split <;> simp_all
      rw [hadd, World.cell?_alloc_lt _ _ _ hb]; exact hc j hj)
    have HN2 := Bx.mk (show ∀ u ∈ news, u.oneCell' = true from fun u hu => by
      rw [hnews] at hu
      obtain ⟨j, _, rfl⟩ := List.mem_map.1 hu
      rfl)
    clear hnews
    go_enter Try.func65, Try.ntmps65
    go_wp2_with (at_builtin; refine wpList_append_lies _ rfl _ _ _ rfl w.heap.size 3 i0 _ 1 8 Try.underlying63 hi0 hz0 hz1 hz2 rfl (by omega) (.slice (some ⟨w.heap.size, 0, none⟩) 0 0) 0 [] rfl ⟨rfl, .inr ⟨w.heap.size, 0, #[], rfl, Nat.le_refl _, heap_alloc_new w _, Nat.le_refl _, by simp [maxLen], rfl, rfl⟩⟩ ⟨b, off, none⟩ n c news rfl HL.out HN1.out HN2.out (by omega) (by simp only [maxLen]; omega) (by omega) (by simp) (w.heap.size + 1) (by simp) ?_)
    intro gg cap w4 hown4 hgrow4 hat4 hlt4
    have HOW := Bx.mk hown4
    clear hown4
    have hBB : Below w.heap.size w w4 := ((Below.refl w.heap.size w).alloc (Nat.le_refl _) _).grown hgrow4 (by simp) (fun j hj => by simp [Value.ownBlock] at hj; omega)
    have hge : w.heap.size ≤ gg := by
      rcases hat4 with h | h
      · simp [Value.ownBlock] at h; omega
      · omega
    clear hgrow4 hat4
    go_wp2
    go_ret
    have hcap : n ≤ cap ∧ cap ≤ 9223372036854775807 := by
      rcases HOW.out.2 with ⟨h1, _⟩ | ⟨g', cap', cur', h1, _, _, h2, h3, _⟩
      · cases h1
      · injection h1 with _ _ h1
        subst h1
        exact ⟨h2, by simpa [maxLen] using h3⟩
    refine ⟨gg, cap, rfl, hge, hcap.1, hcap.2, ⟨hI, fun _ => ⟨gg, 0, rfl, hlt4, fun j hj => ?_⟩⟩, hBB⟩
    rw [Nat.zero_add, HOW.out.cellAt j (by omega)]
    exact HG.out j hj

end Go.Proofs.Ytfnmnnbmhfbkbaa
