import Derived.Test.YtjomicmhnbmhoaaBR
set_option linter.unusedVariables false
set_option linter.unusedSimpArgs false
namespace Go.Proofs.Ytjomicmhnbmhoaa.Vg
open Go Go.Proofs.Ytjomicmhnbmhoaa.Ev Go.Proofs.Ytjomicmhnbmhoaa.Vv
theorem Qzj : Qcj 100000000000000000000 = some true := by kernel_rfl
theorem Qzk (k : Nat) (x : Qjr) (hx : x.Targets.length <= 9223372036854775807) (hk : k = 100000000000000000000) : Qbo k x = some true := by
 unfold Qbo
 rw [show Qcj k = some true by rw [hk]; exact Qzj, Option.bind_some, if_pos rfl, short_any _ x (by omega) hx, Option.bind_some]
 cases h : Qsw x with
 | false => rfl
 | true =>
   obtain ⟨a, b, c⟩ := Quh h
   rw [if_pos rfl, Qw6 _ _ a b, Option.bind_some, Qsx _ _ (by omega), Option.bind_some]
   rcases Qxl k (by omega) (by omega) x.Mount (by omega) (by omega) x.Targets x.At with ⟨h1, h2⟩ | ⟨hT, h1, xs, h2, h3, h4⟩
   ·rw [h2, Option.bind_some, Qvr k (by omega) (by omega) x.Mount (by omega) (by omega), Option.bind_some, if_neg h1]
    simp [Ji]
   ·have hl := hT.len
    rw [h2, Option.bind_some, Qvr k (by omega) (by omega) x.Mount (by omega) (by omega), Option.bind_some, if_pos h1]
    dsimp only
    rw [Qw9 k (by omega) hT, Option.bind_some, Qzf k (by omega) hT _ (Qvs hT), Option.bind_some, h4, Qzl hT]
    dsimp only
    rw [if_pos rfl, if_pos rfl, if_pos rfl, if_pos rfl, if_pos rfl, Q2a k xs (by omega), Option.bind_some, Qse k (by omega) (by omega) x.Mount (by omega) (by omega) x.Targets x.At xs (by omega), Option.bind_some, if_pos h1, h4, Qud k (by omega) (by omega) x.Mount (by omega) (by omega) x.Targets x.At _ (Qvs hT), Option.bind_some, if_pos h1, Qzl hT]
    simp
theorem Q2c (x : Qjr) (hx : x.Targets.length <= 9223372036854775807) : VC Try.prog 3 [VV.ag (Qj6 x)] (vb true) := Qhw _ _ _ (Qzk _ x hx rfl)
end Go.Proofs.Ytjomicmhnbmhoaa.Vg
