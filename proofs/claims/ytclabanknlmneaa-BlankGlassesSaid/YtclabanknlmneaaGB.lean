/- BlankGlasses, plain. -/
import Derived.Test.YtclabanknlmneaaGA
import Derived.Test.YtclabanknlmneaaG2
set_option linter.unusedVariables false
set_option linter.unusedSimpArgs false
namespace Go.Proofs.Ytclabanknlmneaa.Vg
open Go Go.Proofs.Ytclabanknlmneaa.Ev Go.Proofs.Ytclabanknlmneaa.Vv
section
variable {g : SGlass}
theorem sg_mul (n m : Int) (b : Bool) : sg (n * m) b = sg n b * m := by cases b <;> simp [sg, Int.neg_mul]
theorem capM_eq (c : SGlassCap) : capM c = sg (2 * capV c * c.At + sg (capD c) (!c.Up)) c.Cut := by
  unfold capM capS
  cases c.Cut <;> cases c.Up <;> simp only [sg, Bool.not_true, Bool.not_false, Int.mul_neg, Int.neg_mul] <;> omega
theorem momR_l0 (k : Nat) (h : GlO g) : ∀ (d fuel i : Nat), g.Parts.length = i + d → d < fuel → nspeculumref03_Moment_l0_0 k g fuel (tsum Vg.partM (g.Parts.take i)) (i : Int) = some (tsum Vg.partM g.Parts) := by
  have hn := h.np
  intro d
  induction d with
  | zero =>
    intro fuel i he hf
    obtain ⟨f, rfl⟩ : ∃ f, fuel = f + 1 := ⟨fuel - 1, by omega⟩
    rw [nspeculumref03_Moment_l0_0.eq_2, if_neg (by omega), List.take_of_length_le (by omega)]
  | succ d ih =>
    intro fuel i he hf
    obtain ⟨f, rfl⟩ : ∃ f, fuel = f + 1 := ⟨fuel - 1, by omega⟩
    have hb := h.mb (i + 1) 0
    simp only [List.take_zero, tsum] at hb
    have hm := mem_getD (l := g.Parts) (i := i) (by omega)
    have hp := h.pa _ hm
    have h1 := hp.f
    have h2 := hp.t
    have h3 := h.th
    have b5 := (hp.bd h.th.2).b5
    have hx := mul_bd b5 (show 0 ≤ (g.Parts.getD i default).From + (g.Parts.getD i default).To ∧ (g.Parts.getD i default).From + (g.Parts.getD i default).To ≤ 1000 by omega)
    rw [nspeculumref03_Moment_l0_0.eq_2, if_pos (by omega), if_pos (by omega), Int.toNat_natCast, part_r k hp h.th.2, Option.bind_some, w64_id (n := (g.Parts.getD i default).From + (g.Parts.getD i default).To) (by omega) (by omega), w64_id (n := partV (g.Parts.getD i default) * _) (by omega) (by omega), signed_r k (by omega), Option.bind_some, w64_succ (by omega), sg_mul, show sg (partV (g.Parts.getD i default)) (g.Parts.getD i default).Cut * ((g.Parts.getD i default).From + (g.Parts.getD i default).To) = Vg.partM (g.Parts.getD i default) from rfl, take_succ_sum Vg.partM (by omega), w64_id (by omega) (by omega)]
    exact ih f (i + 1) (by omega) (by omega)
theorem momR_l1 (k : Nat) (h : GlO g) : ∀ (d fuel i : Nat), g.Caps.length = i + d → d < fuel → nspeculumref03_Moment_l1_0 k g fuel (tsum Vg.partM g.Parts + tsum Vg.capM (g.Caps.take i)) (i : Int) = some (momV g) := by
  have hn := h.nc
  intro d
  induction d with
  | zero =>
    intro fuel i he hf
    obtain ⟨f, rfl⟩ : ∃ f, fuel = f + 1 := ⟨fuel - 1, by omega⟩
    rw [nspeculumref03_Moment_l1_0.eq_2, if_neg (by omega), List.take_of_length_le (by omega)]; rfl
  | succ d ih =>
    intro fuel i he hf
    obtain ⟨f, rfl⟩ : ∃ f, fuel = f + 1 := ⟨fuel - 1, by omega⟩
    have hb := h.mb g.Parts.length (i + 1)
    rw [List.take_of_length_le (Nat.le_refl g.Parts.length)] at hb
    have hm := mem_getD (l := g.Caps) (i := i) (by omega)
    have hc := h.ca _ hm
    obtain ⟨_, b2, _, _, b5⟩ := hc.bd
    have ha := hc.a
    have h3 := h.th
    have hx := mul_bd (show 0 ≤ 2 * capV (g.Caps.getD i default) ∧ 2 * capV (g.Caps.getD i default) ≤ 600000000000 by omega) (show 0 ≤ (g.Caps.getD i default).At ∧ (g.Caps.getD i default).At ≤ 500 by omega)
    have fin : ∀ z, z = sg (capD (g.Caps.getD i default)) (!(g.Caps.getD i default).Up) → -200000000000000 ≤ z ∧ z ≤ 200000000000000 →
        (nspeculumref03_signed k (w64 (w64 (w64 (2 * capV (g.Caps.getD i default)) * (g.Caps.getD i default).At) + z)) (g.Caps.getD i default).Cut).bind (fun r => nspeculumref03_Moment_l1_0 k g f (w64 (tsum Vg.partM g.Parts + tsum Vg.capM (g.Caps.take i) + r)) (w64 ((i : Int) + 1))) = some (momV g) := by
      intro z hz hzb
      rw [w64_id (n := 2 * capV (g.Caps.getD i default)) (by omega) (by omega), w64_id (n := 2 * capV (g.Caps.getD i default) * _) (by omega) (by omega), w64_id (n := _ + z) (by omega) (by omega), signed_r k (by omega), Option.bind_some, hz, ← capM_eq, w64_succ (by omega), Int.add_assoc, take_succ_sum Vg.capM (by omega), w64_id (by omega) (by omega)]
      exact ih f (i + 1) (by omega) (by omega)
    rw [nspeculumref03_Moment_l1_0.eq_2, if_pos (by omega), if_pos (by omega), Int.toNat_natCast]
    cases hu : (g.Caps.getD i default).Up with
    | true =>
      rw [if_pos rfl, cap_r k hc, Option.bind_some, capD_w hc]
      exact fin _ (by rw [hu]; rfl) (by omega)
    | false =>
      rw [if_neg (by decide), cap_r k hc, Option.bind_some, capD_w hc, w64_id (n := 0 - _) (by omega) (by omega)]
      exact fin _ (by rw [hu]; simp only [sg, Bool.not_false]; omega) (by omega)
theorem mom_r {k : Nat} (hk : 1000 < k) (h : GlO g) : nspeculumref03_Moment k g = some (momV g) := by
  have hn := h.np
  have hc := h.nc
  unfold nspeculumref03_Moment
  have e1 := momR_l0 k h g.Parts.length k 0 (by omega) (by omega)
  have e2 := momR_l1 k h g.Caps.length k 0 (by omega) (by omega)
  simp only [List.take_zero, tsum, Int.add_zero] at e1 e2
  rw [show nspeculumref03_Moment_l0_0 k g k 0 0 = _ from e1, Option.bind_some, show nspeculumref03_Moment_l1_0 k g k _ 0 = _ from e2]; rfl
theorem mass_r {k : Nat} (hk : 1000 < k) (h : Gl g) : nspeculumref03_Mass k g = some (massV g) := by
  have := h.o.dv
  unfold nspeculumref03_Mass
  rw [vol_r hk h.o, Option.bind_some, w64_id (by omega) (by omega), rounded_any k (by omega) (by omega)]; rfl
theorem centre_r {k : Nat} (hk : 1000 < k) (h : Gl g) : nspeculumref03_Centre k g = some (cenV g) := by
  have h1 := h.o.mom
  have h2 := h.o.vol
  have hv := h.v
  unfold nspeculumref03_Centre
  rw [mom_r hk h.o, Option.bind_some, vol_r hk h.o, Option.bind_some, w64_id (n := 1000 * momV g) (by omega) (by omega), w64_id (n := 2 * volV g) (by omega) (by omega), rounded_any k (by omega) (by omega)]; rfl
end
theorem bqg (x : Int) : (x == x) = true := by simp
theorem glasses (k : Nat) (hk : 1000 < k) (g : SGlass) : nspeculumlaw03_BlankGlasses k g = some true := by
  unfold nspeculumlaw03_BlankGlasses
  rw [show nawake k = some true from rfl, Option.bind_some, if_pos rfl, few_any, Option.bind_some]
  cases hF : fewB g with
  | false => rfl
  | true =>
  have hl := Lk.of hF hk
  rw [if_pos rfl, copied_any k g hl.l1 hl.l2, Option.bind_some]
  simp only [volume_b hl, mass_b hl, centre_b hl, hl.r, hl.b, Option.bind_some]
  rw [if_pos trivial]
  by_cases c : glE g = 0
  · have hg := Gl.of c
    simp only [c, if_true, vol_r hk hg.o, mass_r hk hg, centre_r hk hg, Option.bind_some, bqg, Bool.and_self]
  · simp only [if_neg c, if_true, bqg, Bool.and_self]
theorem vc_glasses (g : SGlass) : VC Try.prog 3 [VV.ag (c_SGlass g)] (vb true) :=
  nspeculumlaw03_BlankGlasses_ok 10000 g true (glasses 10000 (by decide) g)
end Go.Proofs.Ytclabanknlmneaa.Vg
