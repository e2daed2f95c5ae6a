/- Law of reflectances at a wavelength. -/
import Derived.Test.YtpnlkhmnhjcgkaaUa
set_option linter.unusedVariables false
set_option linter.unusedSimpArgs false
namespace Go.Proofs.Ytpnlkhmnhjcgkaa.Vg
open Go Go.Proofs.Ytpnlkhmnhjcgkaa.Ev Go.Proofs.Ytpnlkhmnhjcgkaa.Vv
def fewB (l : List SReflect) : Bool := decide ((l.length : Int) ≤ 8) || (decide (60 < (l.length : Int)) && decide ((l.length : Int) ≤ 63))
theorem few_any (k : Nat) (l : List SReflect) : nspeculumlaw08_few k l = some (fewB l) := by
  unfold nspeculumlaw08_few fewB
  by_cases h : (l.length : Int) ≤ 8
  · rw [if_pos h, decide_eq_true h]; rfl
  · rw [if_neg h, decide_eq_false h]
    by_cases h2 : 60 < (l.length : Int)
    · rw [if_pos h2, decide_eq_true h2]; rfl
    · rw [if_neg h2, decide_eq_false h2]; rfl
theorem few_le {l : List SReflect} (h : fewB l = true) : l.length ≤ 63 := by
  unfold fewB at h
  simp only [Bool.or_eq_true, Bool.and_eq_true, decide_eq_true_eq] at h
  omega
theorem table_any (k : Nat) {l : List SReflect} (h : l.length ≤ 1000000000) : nspeculumlaw08_table k l = some l := by
  unfold nspeculumlaw08_table
  rw [if_pos (by simpa using h), List.nil_append]
theorem law_reflects (k : Nat) (hk : 100 < k) (hk2 : k ≤ 1000000000) (l : List SReflect) (w : Int) : nspeculumlaw08_CoatReflects k l w = some true := by
  unfold nspeculumlaw08_CoatReflects
  rw [show nawake k = some true from rfl, Option.bind_some, if_pos rfl, few_any, Option.bind_some]
  cases hf : fewB l with
  | false => rfl
  | true =>
    have := few_le hf
    rw [if_pos rfl, table_any k (by omega), Option.bind_some, At_coat k hk hk2, Option.bind_some, at_ref k hk, Option.bind_some, curve_coat k hk hk2, Option.bind_some, curve_ref k hk, Option.bind_some, if_pos rfl, if_pos rfl]
    simp
theorem vc_reflects (l : List SReflect) (w : Int) : VC Go.Proofs.Try.prog 8 [VV.tr (l.flatMap c_SReflect) l.length, vi w] (vb true) :=
  nspeculumlaw08_CoatReflects_ok 1000 l w true (law_reflects 1000 (by decide) (by decide) l w)
end Go.Proofs.Ytpnlkhmnhjcgkaa.Vg
