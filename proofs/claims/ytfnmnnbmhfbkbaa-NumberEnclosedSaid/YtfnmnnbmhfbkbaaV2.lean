/- Walks: the reference's numbers of any size: compared by their sizes. -/
import Derived.Test.YtfnmnnbmhfbkbaaV1
set_option linter.unusedVariables false
set_option linter.unusedSimpArgs false
namespace Go.Proofs.Ytfnmnnbmhfbkbaa
open Go.RowKit

/-- What a comparison gives: a number below 0 just if the first one is less. -/
def SizeR (x y : Int) (w : World) (e : Ending) (w' : World) : Prop := ∃ r : Int, e = .returned (.int .i64 r) ∧ (r < 0 ↔ x < y) ∧ ∃ k, w' = w.drewN k

set_option maxRecDepth 100000 in
set_option maxHeartbeats 2000000 in
theorem sizeW_any (A C : Option Addr) (n m c d : Nat) (f g : Nat → Int) (w : World) (hA : DS w A n f) (hC : DS w C m g) (hf : T4.Can f n) (hg : T4.Can g m) (hn : n ≤ 1000000000) (hm : m ≤ 1000000000) :
    Calls Try.prog 144 #[.slice A n c, .slice C m d] w (SizeR (T4.vf f n) (T4.vf g m) w) := by
  by_cases h : n = m
  · subst h
    have hb : ((n : Int) != n) = false := by simp
    go_enter Try.func144, Try.ntmps144
    go_wp2
    go_loopw [5] (fun i wr => ∃ k : Nat, k ≤ n ∧ i = .int .i64 ((k : Int) - 1) ∧ Bx (∀ j, k ≤ j → j < n → f j = g j) ∧ ∃ q, wr = w.drewN q) (fun i _ => (intOf i + 1).toNat)
    case atStart => exact ⟨n, by omega, rfl, ⟨fun j h1 h2 => by omega⟩, 0, rfl⟩
    case round =>
      obtain ⟨k, hk, rfl, HE, q, rfl⟩ := hrel
      by_cases hlt : 1 ≤ k
      · obtain ⟨t, rfl⟩ : ∃ t, k = t + 1 := ⟨k - 1, by omega⟩
        obtain ⟨b1, rfl, hb1, hc1⟩ := hA.2 (by omega)
        replace hb1 := hb1.lt
        obtain ⟨b2, rfl, hb2, hc2⟩ := hC.2 (by omega)
        replace hb2 := hb2.lt
        have u1 := hA.1 t (by omega)
        have u2 := hC.1 t (by omega)
        obtain ⟨u1, u1'⟩ := u1
        obtain ⟨u2, u2'⟩ := u2
        have x1 := hc1 t (by omega)
        have x2 := hc2 t (by omega)
        have e1 : ((t + 1 : Nat) : Int) - 1 = (t : Int) := by omega
        have e0 : (0 : Int) ≤ (t : Int) := by omega
        have e2 : (t : Int) < (n : Int) := by omega
        have e3 : ((t : Int)).toNat = t := by omega
        have HV := Bx.mk (fun (h : f t < g t) => T4.vf_differ t n (by omega) hA.1 hC.1 (fun i h1 h2 => HE.out i (by omega) h2) h)
        have HV2 := Bx.mk (fun (h : g t < f t) => T4.vf_differ t n (by omega) hC.1 hA.1 (fun i h1 h2 => (HE.out i (by omega) h2).symm) h)
        have HE2 := Bx.mk (fun (h : f t = g t) => show ∀ j, t ≤ j → j < n → f j = g j from fun j h1 h2 => by
          rcases Nat.eq_or_lt_of_le h1 with e | e
          · subst e; exact h
          · exact HE.out j (by omega) h2)
        clear hc1 hc2 HE
        rw [e1]
        generalize hX : f t = X at *
        generalize hY : g t = Y at *
        have HX := Bx.mk hX
        have HY := Bx.mk hY
        clear hX hY e1
        by_cases he : X = Y
        · have he' : (X != Y) = false := by simpa using he
          have HEQ := Bx.mk he
          clear he
          go_wp2
          go_quiet (fail)
          go_wp2
          go_roundw
          case rel => exact ⟨t, by omega, by go_num, ⟨HE2.out HEQ.out⟩, _, by first | rfl | (rw [World.drewN_drewN])⟩
          case measure => first | (simp [intOf]; done) | (simp [intOf]; omega)
        · have he' : (X != Y) = true := by simpa using he
          have HEQ := Bx.mk he
          clear he
          go_wp2
          go_quiet (fail)
          go_wp2
          go_quiet (fail)
          go_wp2
          go_ret
          refine ⟨_, rfl, ⟨fun h => HV.out (by omega), fun h => ?_⟩, _, by first | rfl | (rw [World.drewN_drewN, World.drewN_drewN])⟩
          rcases Int.lt_trichotomy X Y with h1 | h1 | h1
          · omega
          · exact absurd h1 HEQ.out
          · have := HV2.out h1; omega
      · have hk0 : k = 0 := by omega
        have HE2 := Bx.mk (show T4.vf f n = T4.vf g n from T4.vf_congr n fun i hi => HE.out i (by omega) hi)
        have hneg : (k : Int) - 1 < 0 := by omega
        clear hk0 HE
        go_wp2
        go_ret
        exact ⟨0, rfl, ⟨fun h => by omega, fun h => by rw [HE2.out] at h; omega⟩, _, rfl⟩
  · have hb : ((n : Int) != m) = true := by simp; omega
    have H1 := Bx.mk (fun (h : n < m) => T4.Can.lt hg hA.1 hC.1 h)
    have H2 := Bx.mk (fun (h : m < n) => T4.Can.lt hf hC.1 hA.1 h)
    go_enter Try.func144, Try.ntmps144
    go_wp2
    go_ret
    refine ⟨_, rfl, ⟨fun h => H1.out (by omega), fun h' => ?_⟩, 0, rfl⟩
    rcases Nat.lt_or_ge m n with h3 | h3
    · have := H2.out h3; omega
    · omega

end Go.Proofs.Ytfnmnnbmhfbkbaa
