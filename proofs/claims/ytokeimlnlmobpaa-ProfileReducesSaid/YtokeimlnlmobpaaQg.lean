/- Walks: the law of reduced readings, all cases. -/
import Derived.Test.YtokeimlnlmobpaaQf
set_option linter.unusedVariables false
set_option linter.unusedSimpArgs false
namespace Go.Proofs.Ytokeimlnlmobpaa
open Go.RowKit

set_option maxRecDepth 100000 in
set_option maxHeartbeats 4000000 in
theorem reduces_long (HAW : Awake) (A : Option Addr) (n c : Nat) (z lo hi : Int) (w : World) (hn : n ≤ 9223372036854775807) (h : 45 < n) :
    Calls Try.prog 3 #[.slice A n c, .agg #[.int .i64 z, .int .i64 lo, .int .i64 hi]] w fun e w' => e = .returned (.bool true) ∧ Below w.heap.size w w' := by
  have h' : (45 : Int) < n := by omega
  go_enter Try.func3, Try.ntmps3
  go_wp2_with (go_at_call 21; refine (HAW _).mono ?_; rintro e w0 ⟨rfl, B0⟩; have M0 := Bx.mk (below_from (below_alloc1 w (.cells #[.int .i64 z, .int .i64 lo, .int .i64 hi] 26)) B0); clear B0)
  go_ret
  exact ⟨rfl, M0.out⟩

theorem reduces_any (HAW : Awake) (A : Option Addr) (n c : Nat) (p : Row) (z lo hi : Int) (w : World) (hA : IS w A n p) (hs : SV A n c) (hn : n ≤ 9223372036854775807) (hz : I64 z) (hlo : I64 lo) (hhi : I64 hi) :
    Calls Try.prog 3 #[.slice A n c, .agg #[.int .i64 z, .int .i64 lo, .int .i64 hi]] w fun e w' => e = .returned (.bool true) ∧ Below w.heap.size w w' := by
  rcases Nat.lt_or_ge 45 n with h | h
  · exact reduces_long HAW A n c z lo hi w hn h
  · have hn' : n ≤ 1000000 := by omega
    have gen := fun f t L H E HP HR => reduces_gen HAW A n c p z lo hi f t L H E (ckZ n p) w ⟨hA⟩ ⟨hs⟩ h hz hlo hhi ⟨HP⟩ ⟨HR⟩ ⟨rfl⟩
    by_cases e0 : ckZ n p = 0
    case neg =>
      have h0 : (ckZ n p != 0) = true := by simpa using e0
      exact gen 0 0 0 0 (ckZ n p) (fun A c w hA => redP_zones A n c p z lo hi _ w hA hn' hz hlo hhi ⟨rfl⟩ h0) (fun A c w hA => redR_zones A n c p z lo hi _ w hA hn' hz hlo hhi ⟨rfl⟩ h0)
    case pos =>
    cases e1 : wtB z 0 ((n : Int) - 2) with
    | false => exact gen 0 0 0 0 6 (fun A c w hA => redP_missing A n c p z lo hi w hA hn' hz hlo hhi ⟨e0⟩ ⟨e1⟩) (fun A c w hA => redR_missing A n c p z lo hi w hA hn' hz hlo hhi ⟨e0⟩ ⟨e1⟩)
    | true =>
    cases e2 : wtB lo (-1000000) 1000000 with
    | false => exact gen 0 0 0 0 2 (fun A c w hA => redP_range A n c p z lo hi w hA hn' hz hlo hhi ⟨e0⟩ ⟨e1⟩ ⟨by rw [e2]; rfl⟩) (fun A c w hA => redR_range1 A n c p z lo hi w hA hn' hz hlo hhi ⟨e0⟩ ⟨e1⟩ ⟨e2⟩)
    | true =>
    cases e3 : wtB hi (-1000000) 1000000 with
    | false => exact gen 0 0 0 0 2 (fun A c w hA => redP_range A n c p z lo hi w hA hn' hz hlo hhi ⟨e0⟩ ⟨e1⟩ ⟨by rw [e2, e3]; rfl⟩) (fun A c w hA => redR_range2 A n c p z lo hi w hA hn' hz hlo hhi ⟨e0⟩ ⟨e1⟩ ⟨e2⟩ ⟨e3⟩)
    | true =>
    have e23 : (wtB lo (-1000000) 1000000 && wtB hi (-1000000) 1000000) = true := by rw [e2, e3]; rfl
    by_cases e4 : hi < lo
    · exact gen 0 0 0 0 9 (fun A c w hA => redP_order A n c p z lo hi w hA hn' hz hlo hhi ⟨e0⟩ ⟨e1⟩ ⟨e23⟩ e4) (fun A c w hA => redR_order A n c p z lo hi w hA hn' hz hlo hhi ⟨e0⟩ ⟨e1⟩ ⟨e2⟩ ⟨e3⟩ e4)
    · have hz2 : 0 ≤ z ∧ z ≤ (n : Int) - 2 := by
        unfold wtB at e1
        simpa using e1
      obtain ⟨k, rfl⟩ := Int.eq_ofNat_of_zero_le hz2.1
      have hk : k + 2 ≤ n := by omega
      have hzb : znB p n = 0 := by
        have h1 := e0
        unfold ckZ at h1
        split at h1
        · simp at h1
        · exact h1
      have b1 := znB_mem hzb (k + 1) (by omega)
      have b2 : 0 ≤ inR p k ∧ inR p k ≤ 1000000 := by
        unfold inR
        split
        · omega
        · have := znB_mem hzb (k - 1) (by omega); omega
      obtain ⟨D, hD⟩ : ∃ D, p (k + 1) - inR p k = D := ⟨_, rfl⟩
      have d1 : -1000000 ≤ D := by omega
      have d2 : D ≤ 1000000 := by omega
      obtain ⟨L, hL⟩ : ∃ L, lo * D / 2000 = L := ⟨_, rfl⟩
      obtain ⟨H, hH⟩ : ∃ H, -(-(hi * D) / 2000) = H := ⟨_, rfl⟩
      cases e5 : wtB L (-1000000) 1000000 with
      | false =>
        refine gen 0 0 0 0 8 (fun A c w hA => redP_large A n c p k lo hi D L H w hA hn' hlo hhi ⟨e0⟩ hk ⟨e23⟩ e4 ⟨hD⟩ d1 d2 ⟨hL⟩ ⟨hH⟩ ⟨by rw [e5]; rfl⟩) (fun A c w hA => ?_)
        rcases Nat.eq_zero_or_pos k with hk0 | hk0
        · exact redR_largeL0 A n c p k lo hi D L H w hA hn' hlo hhi ⟨e0⟩ hk hk0 ⟨e2⟩ ⟨e3⟩ e4 ⟨hD⟩ d1 d2 ⟨hL⟩ ⟨hH⟩ ⟨e5⟩
        · exact redR_largeL1 A n c p k lo hi D L H w hA hn' hlo hhi ⟨e0⟩ hk hk0 ⟨e2⟩ ⟨e3⟩ e4 ⟨hD⟩ d1 d2 ⟨hL⟩ ⟨hH⟩ ⟨e5⟩
      | true =>
      cases e6 : wtB H (-1000000) 1000000 with
      | false =>
        refine gen 0 0 0 0 8 (fun A c w hA => redP_large A n c p k lo hi D L H w hA hn' hlo hhi ⟨e0⟩ hk ⟨e23⟩ e4 ⟨hD⟩ d1 d2 ⟨hL⟩ ⟨hH⟩ ⟨by rw [e5, e6]; rfl⟩) (fun A c w hA => ?_)
        rcases Nat.eq_zero_or_pos k with hk0 | hk0
        · exact redR_largeH0 A n c p k lo hi D L H w hA hn' hlo hhi ⟨e0⟩ hk hk0 ⟨e2⟩ ⟨e3⟩ e4 ⟨hD⟩ d1 d2 ⟨hL⟩ ⟨hH⟩ ⟨e5⟩ ⟨e6⟩
        · exact redR_largeH1 A n c p k lo hi D L H w hA hn' hlo hhi ⟨e0⟩ hk hk0 ⟨e2⟩ ⟨e3⟩ e4 ⟨hD⟩ d1 d2 ⟨hL⟩ ⟨hH⟩ ⟨e5⟩ ⟨e6⟩
      | true =>
        refine gen k (k + 1) L H 0 (fun A c w hA => redP_main A n c p k lo hi D L H w hA hn' hlo hhi ⟨e0⟩ hk ⟨e23⟩ e4 ⟨hD⟩ d1 d2 ⟨hL⟩ ⟨hH⟩ ⟨by rw [e5, e6]; rfl⟩) (fun A c w hA => ?_)
        rcases Nat.eq_zero_or_pos k with hk0 | hk0
        · exact redR_main0 A n c p k lo hi D L H w hA hn' hlo hhi ⟨e0⟩ hk hk0 ⟨e2⟩ ⟨e3⟩ e4 ⟨hD⟩ d1 d2 ⟨hL⟩ ⟨hH⟩ ⟨e5⟩ ⟨e6⟩
        · exact redR_main1 A n c p k lo hi D L H w hA hn' hlo hhi ⟨e0⟩ hk hk0 ⟨e2⟩ ⟨e3⟩ e4 ⟨hD⟩ d1 d2 ⟨hL⟩ ⟨hH⟩ ⟨e5⟩ ⟨e6⟩

end Go.Proofs.Ytokeimlnlmobpaa
