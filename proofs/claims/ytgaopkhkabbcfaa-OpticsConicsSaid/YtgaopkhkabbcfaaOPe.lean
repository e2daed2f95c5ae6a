/- Chapter 2, plain: the edge, and the law of conics. -/
import Derived.Test.YtgaopkhkabbcfaaOPc
import Derived.Test.YtgaopkhkabbcfaaOC
set_option linter.unusedVariables false
set_option linter.unusedSimpArgs false
namespace Go.Proofs.Ytgaopkhkabbcfaa.Vg
open Go Go.Proofs.Ytgaopkhkabbcfaa.Ev Go.Proofs.Ytgaopkhkabbcfaa.Vv
theorem minI_cases (a b : Int) : (minI a b = a ∧ a ≤ b) ∨ (minI a b = b ∧ b ≤ a) := by unfold minI; split <;> omega
noncomputable def edgeV (c : SConic) : Int := if sC c ≤ 0 then 1000000 else minI (rtI (c.K.Den * (c.Radius * c.Radius) / sC c)) 1000000
theorem edge_iff {c : SConic} (h : RC c) {m : Int} (hm : 0 ≤ m ∧ m ≤ 1000000) : beyB c m = true ↔ edgeV c < m := by
  obtain ⟨h1, h2, h3, h4⟩ := h.sides hm
  unfold beyB edgeV
  rw [decide_eq_true_iff]
  by_cases hs : sC c ≤ 0
  · rw [if_pos hs]
    have := Int.mul_le_mul_of_nonneg_right hs h2.1
    rw [Int.zero_mul] at this
    constructor <;> intro <;> omega
  · rw [if_neg hs]
    have hv := div_le (n := c.K.Den * (c.Radius * c.Radius)) (d := sC c) h4.1 (by omega)
    obtain ⟨r1, r2, r3⟩ := rtI_is (n := c.K.Den * (c.Radius * c.Radius) / sC c) hv.1 (by omega)
    have e1 : c.K.Den * (c.Radius * c.Radius) < sC c * (m * m) ↔ c.K.Den * (c.Radius * c.Radius) / sC c < m * m := by
      rw [Int.ediv_lt_iff_lt_mul (show 0 < sC c by omega), Int.mul_comm (m * m)]
    rw [e1]
    have e2 : c.K.Den * (c.Radius * c.Radius) / sC c < m * m ↔ rtI (c.K.Den * (c.Radius * c.Radius) / sC c) < m := by
      constructor
      · intro h5
        rcases Int.lt_or_le (rtI (c.K.Den * (c.Radius * c.Radius) / sC c)) m with h6 | h6
        · exact h6
        · have := sq_le hm.1 h6; omega
      · intro h5
        have := sq_le (a := rtI (c.K.Den * (c.Radius * c.Radius) / sC c) + 1) (b := m) (by omega) (by omega)
        omega
    rw [e2]
    rcases minI_cases (rtI (c.K.Den * (c.Radius * c.Radius) / sC c)) 1000000 with ⟨e, _⟩ | ⟨e, _⟩ <;> rw [e] <;> omega
theorem edge_bd {c : SConic} (h : RC c) : 0 ≤ edgeV c ∧ edgeV c ≤ 1000000 := by
  obtain ⟨h1, h2, h3, h4⟩ := h.sides (r := 0) (by omega)
  unfold edgeV
  by_cases hs : sC c ≤ 0
  · rw [if_pos hs]; omega
  · rw [if_neg hs]
    have hv := div_le (n := c.K.Den * (c.Radius * c.Radius)) (d := sC c) h4.1 (by omega)
    have := rtI_le (n := c.K.Den * (c.Radius * c.Radius) / sC c) hv.1 (by omega)
    rcases minI_cases (rtI (c.K.Den * (c.Radius * c.Radius) / sC c)) 1000000 with ⟨e, _⟩ | ⟨e, _⟩ <;> rw [e] <;> omega
theorem w_side {c : SConic} (h : RC c) : w64 ((w64 (c.K.Den * c.Radius)) * c.Radius) = c.K.Den * (c.Radius * c.Radius) := by
  obtain ⟨h1, h2, h3, h4⟩ := h.sides (r := 0) (by omega)
  have hd := h.d; have hR := h.r
  have a1 := mul_bd (x := c.Radius) (A := 10000000) (y := c.K.Den) (B := 100) (by omega) hR.2 (by omega) hd.2 (by decide)
  rw [Int.mul_comm c.Radius] at a1
  rw [w64_id (n := c.K.Den * c.Radius) (by omega) (by omega), Int.mul_assoc, w64_id (by omega) (by omega)]
theorem edge_opt (k : Nat) (hk : 100000000000000000000 ≤ k) {c : SConic} (hc : IC c) : noptics_Edge k c = some (if conE c = 0 then (edgeV c, 0) else (0, conE c)) := by
  unfold noptics_Edge
  rw [conic_opt k hk hc, Option.bind_some]
  by_cases h : conE c = 0
  · have R := RC.of h
    obtain ⟨h1, h2, h3, h4⟩ := R.sides (r := 0) (by omega)
    rw [if_pos h, if_pos h]
    unfold noptics_shape
    rw [Option.bind_some]
    dsimp only
    rw [w_shape R, w_side R]
    unfold edgeV
    by_cases hs : sC c ≤ 0
    · rw [if_pos hs, if_pos hs]
    · have hv := div_le (n := c.K.Den * (c.Radius * c.Radius)) (d := sC c) h4.1 (by omega)
      rw [if_neg hs, if_neg hs, if_pos (by omega), tdiv_pos h4.1, w64_id (by omega) (by omega), rootDown_any k hk hv.1 (by omega), Option.bind_some]
  · rw [if_neg h, if_neg h]
theorem edge_l (k : Nat) {c : SConic} (h : RC c) : ∀ (n fuel : Nat) (x y : Int), 0 ≤ x → x ≤ edgeV c → edgeV c ≤ y → y ≤ 1000000 → y - x < (n : Int) → n ≤ fuel → nspeculumref02_Edge_l0_0 k c fuel x y = some (edgeV c) := by
  intro n
  induction n with
  | zero => intro fuel x y h1 h2 h3 h4 h; omega
  | succ n ih =>
    intro fuel x y h1 h2 h3 h4 hn hf
    obtain ⟨g, rfl⟩ : ∃ g, fuel = g + 1 := ⟨fuel - 1, by omega⟩
    rw [nspeculumref02_Edge_l0_0.eq_2]
    by_cases cc : x < y
    · have e : w64 ((w64 ((w64 (x + y)) + 1)).tdiv 2) = (x + y + 1) / 2 := by
        rw [w64_id (n := x + y) (by omega) (by omega), w64_id (n := x + y + 1) (by omega) (by omega), tdiv_pos (by omega), w64_id (by omega) (by omega)]
      rw [if_pos cc, e, beyond_ref k h (r := (x + y + 1) / 2) (by omega), Option.bind_some]
      have hi := edge_iff h (m := (x + y + 1) / 2) (by omega)
      by_cases d : beyB c ((x + y + 1) / 2) = true
      · have := hi.1 d
        rw [if_pos d, w64_id (by omega) (by omega)]
        exact ih g x _ h1 h2 (by omega) (by omega) (by omega) (by omega)
      · have : ¬ edgeV c < (x + y + 1) / 2 := fun hh => d (hi.2 hh)
        rw [if_neg d]
        exact ih g _ y (by omega) (by omega) h3 h4 (by omega) (by omega)
    · rw [if_neg cc]
      obtain rfl : x = edgeV c := by omega
      rfl
theorem edge_ref (k : Nat) (hk : 100000000000000000000 ≤ k) {c : SConic} (h : RC c) : nspeculumref02_Edge k c = some (edgeV c) := by
  have := edge_bd h
  unfold nspeculumref02_Edge
  rw [edge_l k h 1000002 k 0 1000000 (by decide) (by omega) (by omega) (by decide) (by decide) (by omega), Option.bind_some]
theorem law_conics (c : SConic) (hc : IC c) : nspeculumlaw02_OpticsConics big c = some true := by
  unfold nspeculumlaw02_OpticsConics
  rw [awake_big, Option.bind_some, if_pos rfl, edge_opt _ (by decide) hc, Option.bind_some, conic_ref _ (by decide) hc, Option.bind_some, conic_opt _ (by decide) hc, Option.bind_some, if_pos rfl]
  by_cases h : conE c = 0
  · rw [if_pos h, if_pos h, if_pos rfl, edge_ref _ (by decide) (RC.of h), Option.bind_some]
    simp
  · rw [if_neg h, if_neg h, if_pos rfl]
    rfl
theorem vc_conics (c : SConic) (hc : ((Vv.In64 c.Radius) ∧ ((Vv.In64 c.K.Num) ∧ (Vv.In64 c.K.Den)))) : VC Go.Proofs.Try.prog 3 [VV.ag (c_SConic c)] (vb true) := nspeculumlaw02_OpticsConics_ok _ _ _ (law_conics c ⟨hc.1, hc.2.1, hc.2.2⟩)
end Go.Proofs.Ytgaopkhkabbcfaa.Vg
