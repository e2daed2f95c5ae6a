/- Walks: the reference's derivative. -/
import Derived.Test.YtfnmnnbmhfbkbaaP3
set_option linter.unusedVariables false
set_option linter.unusedSimpArgs false
namespace Go.Proofs.Ytfnmnnbmhfbkbaa
open Go.RowKit

set_option maxRecDepth 100000 in
set_option maxHeartbeats 4000000 in
theorem derivR_any (A : Option Addr) (n c : Nat) (p : Row) (w : World) (hA : IS w A n p) (h0 : ckP n p = 0) :
    Calls Try.prog 68 #[.slice A n c] w fun e w' => ∃ D d, e = .returned (.tuple #[.slice D (derO n p).1 d, .int .i64 (derO n p).2]) ∧ IS w' D (derO n p).1 (dvR p) ∧ Below w.heap.size w w' := by
  obtain ⟨i0, hi0, hz0, hz1, hz2⟩ := info_intc_parts
  obtain ⟨n1, n7, hp⟩ := ckP_zeroB h0
  have hbd := Bx.mk (fun (i : Nat) (hi : i + 1 < n) => dvR_bd h0 hi)
  clear h0 hp
  by_cases h1 : n = 1
  · subst h1
    have HO := Bx.mk (show derO 1 p = (0, 11) by unfold derO; rw [if_pos rfl])
    go_enter Try.func68, Try.ntmps68
    go_wp2
    go_ret2
    exact ⟨none, 0, by rw [HO.out]; rfl, by rw [HO.out]; exact ⟨fun i hi => by omega, fun h => by omega⟩, Below.refl _ _⟩
  · have h1' : ((n : Int) == 1) = false := by simp; omega
    obtain ⟨b, off, rfl, hb, hc⟩ := hA.2 (by omega)
    have HC := Bx.mk hc
    have HA := Bx.mk hA
    clear hc hA
    go_enter Try.func68, Try.ntmps68
    go_wp2
    go_loopw [4, 5] (fun o i wr => ∃ (k : Nat), k + 1 ≤ n ∧ i = .int .i64 ((k : Int) + 1) ∧ Bx (wr.ownsRow w.heap.size 3 1 o k ((List.range k).map fun j => Value.int .i64 (dvR p j))) ∧ Below w.heap.size w wr) (fun _ i _ => n - (intOf i).toNat)
    case atStart => exact ⟨0, by omega, rfl, ⟨rfl, .inl ⟨rfl, rfl⟩⟩, Below.refl _ _⟩
    case round =>
      obtain ⟨k, hk, rfl, HOW, hB⟩ := hrel
      by_cases hlt : k + 1 < n
      · have hlt' : (k : Int) + 1 < n := by omega
        have hcx := (hB.cell (p := ⟨b, off + (k + 1), none⟩) hb).trans (HC.out (k + 1) (by omega))
        obtain ⟨m1, m2⟩ := hbd.out k (by omega)
        have hix : ((k : Int) + 1).toNat = k + 1 := by omega
        have HC1 := Bx.mk (show ∀ j u, ([Value.int .i64 (((k : Int) + 1) * p (k + 1))] : List Value)[j]? = some u → (wr.alloc (.cells #[.int .i64 (((k : Int) + 1) * p (k + 1))] 3)).cell? ((⟨wr.heap.size, 0, none⟩ : Addr).add j) = some u from fun j u hu => by
          have hj : j = 0 := by
            rcases j with _ | j
            · rfl
            · simp at hu
          subst hj
          simp at hu
          subst hu
          have hadd : (⟨wr.heap.size, 0, none⟩ : Addr).add 0 = ⟨wr.heap.size, 0, none⟩ := by unfold Addr.add; split <;> simp_all
          rw [hadd]; simp [go_sem])
        go_wp2_with (at_builtin; refine wpList_append_own _ rfl _ _ _ rfl w.heap.size 3 i0 (.int .i64 0) 1 8 Try.underlying63 hi0 hz0 hz1 hz2 rfl (by decide) _ k _ rfl (HOW.out.alloc _) ⟨wr.heap.size, 0, none⟩ 1 1 [.int .i64 (((k : Int) + 1) * p (k + 1))] rfl rfl HC1.out (fun u hu => by simp at hu; subst hu; rfl) (by simp only [maxLen]; omega) (by omega) (by have := hB.size; simp; omega) ?_)
        intro v' w1 hown' hgrow _
        have HV := Bx.mk hown'
        have hB1 : Below w.heap.size w w1 := (hB.alloc hB.size _).grown hgrow (by have := hB.size; simp; omega) (fun j hj => by
          rcases HOW.out.2 with ⟨h1, _⟩ | ⟨g', cap', cur', h1, h2, _⟩
          · rw [h1] at hj; simp [Value.ownBlock] at hj
          · rw [h1] at hj; simp [Value.ownBlock] at hj; omega)
        clear hown' hgrow
        go_wp2
        go_roundw
        case rel => exact ⟨k + 1, by omega, by go_num, ⟨by rw [List.range_succ, List.map_append]; exact HV.out⟩, hB1⟩
        case measure => simp [intOf]; omega
      · obtain rfl : n = k + 1 := by omega
        obtain ⟨g, cap, hv, hcap⟩ : ∃ g cap, u4 = Value.slice (some ⟨g, 0, none⟩) k cap ∧ w.heap.size ≤ g := by
          rcases HOW.out.2 with ⟨_, h2⟩ | ⟨g', cap', cur', h1, h2, _⟩
          · omega
          · exact ⟨g', cap', h1, h2⟩
        subst hv
        have hlt : g < wr.heap.size := by
          rcases HOW.out.2 with ⟨h1, _⟩ | ⟨g', cap', cur', h1, _, h3, _⟩
          · cases h1
          · injection h1 with h1 _ _
            injection h1 with h1
            injection h1 with h1 _ _
            subst h1
            rcases Nat.lt_or_ge g wr.heap.size with h | h
            · exact h
            · rw [Array.getElem?_eq_none h] at h3; cases h3
        have HI := Bx.mk (show IS wr (some ⟨g, 0, none⟩) k (dvR p) from ⟨fun i hi => by
          obtain ⟨q1, q2⟩ := hbd.out i (by omega)
          unfold dvR I64; omega, fun _ => ⟨g, 0, rfl, hlt, fun j hj => by rw [Nat.zero_add, HOW.out.cellAt j (by omega)]; simp [hj]⟩⟩)
        by_cases hv : ckP k (dvR p) = 0
        · have HO := Bx.mk (show derO (k + 1) p = (k, 0) by unfold derO; rw [if_neg h1]; simp [hv])
          have HK := Bx.mk hv
          clear hv
          go_wp2_with (go_at_call 66; refine (checkPolyR_any _ k cap (dvR p) _ HI.out (by omega)).mono ?_; rw [HK.out]; rintro e w2 ⟨rfl, rfl⟩)
          go_ret2
          exact ⟨_, _, by rw [HO.out]; rfl, by rw [HO.out]; exact HI.out, hB⟩
        · have HO := Bx.mk (show derO (k + 1) p = (0, 8) by unfold derO; rw [if_neg h1]; simp [hv])
          have hv' : (ckP k (dvR p) != 0) = true := by simpa using hv
          clear hv
          go_wp2_with (go_at_call 66; refine (checkPolyR_any _ k cap (dvR p) _ HI.out (by omega)).mono ?_; rintro e w2 ⟨rfl, rfl⟩)
          go_ret2
          exact ⟨none, 0, by rw [HO.out]; rfl, by rw [HO.out]; exact ⟨fun i hi => by omega, fun h => by omega⟩, hB⟩

end Go.Proofs.Ytfnmnnbmhfbkbaa
