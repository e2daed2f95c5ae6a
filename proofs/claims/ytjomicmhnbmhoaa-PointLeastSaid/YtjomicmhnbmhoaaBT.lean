import Derived.Test.YtjomicmhnbmhoaaBR
set_option linter.unusedVariables false
set_option linter.unusedSimpArgs false
namespace Go.Proofs.Ytjomicmhnbmhoaa.Vg
open Go Go.Proofs.Ytjomicmhnbmhoaa.Ev Go.Proofs.Ytjomicmhnbmhoaa.Vv
theorem Qy9 : Qci 100000000000000000000 = some true := by kernel_rfl
theorem Qza (k : Nat) (x : Qjq) (hx : x.Targets.length <= 9223372036854775807) (hk : k = 100000000000000000000) : Qbn k x = some true := by
 unfold Qbn
 rw [show Qci k = some true by rw [hk]; exact Qy9, Option.bind_some, if_pos rfl, short_any _ x (by omega) hx, Option.bind_some]
 cases h : Qsp x with
 | false => rfl
 | true =>
   obtain ⟨a, b, c⟩ := Qt8 h
   rw [if_pos rfl, Qwx _ _ a b, Option.bind_some, Qsq _ _ (by omega), Option.bind_some]
   rcases Qxc k (by omega) (by omega) x.Mount (by omega) (by omega) x.Targets x.At with ⟨h1, h2⟩ | ⟨hT, h1, xs, h2, h3, h4⟩
   ·rw [h2, Option.bind_some, Qvj k (by omega) (by omega) x.Mount (by omega) (by omega), Option.bind_some, if_neg h1]
    simp [Ji]
   ·have hl := hT.len
    rw [h2, Option.bind_some, Qvj k (by omega) (by omega) x.Mount (by omega) (by omega), Option.bind_some, if_pos h1]
    dsimp only
    rw [Qw0 k (by omega) hT, Option.bind_some, Qy5 k (by omega) hT _ (Qvk hT), Option.bind_some, h4, Qzb hT]
    dsimp only
    rw [if_pos rfl, if_pos rfl, if_pos rfl, if_pos rfl, if_pos rfl, Q1v k xs (by omega), Option.bind_some, Qr7 k (by omega) (by omega) x.Mount (by omega) (by omega) x.Targets x.At xs (by omega), Option.bind_some, if_pos h1, h4, Qt4 k (by omega) (by omega) x.Mount (by omega) (by omega) x.Targets x.At _ (Qvk hT), Option.bind_some, if_pos h1, Qzb hT]
    simp
theorem Q1x (x : Qjq) (hx : x.Targets.length <= 9223372036854775807) : VC Try.prog 3 [VV.ag (Qj5 x)] (vb true) := Qhv _ _ _ (Qza _ x hx rfl)
end Go.Proofs.Ytjomicmhnbmhoaa.Vg
