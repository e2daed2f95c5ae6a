import Derived.Test.YtjomicmhnbmhoaaBR
set_option linter.unusedVariables false
set_option linter.unusedSimpArgs false
namespace Go.Proofs.Ytjomicmhnbmhoaa.Vg
open Go Go.Proofs.Ytjomicmhnbmhoaa.Ev Go.Proofs.Ytjomicmhnbmhoaa.Vv
theorem Qy8 : Qci 100000000000000000000 = some true := by kernel_rfl
theorem Qy9 (k : Nat) (x : Qjp) (hx : x.Targets.length <= 9223372036854775807) (hk : k = 100000000000000000000) : Qbn k x = some true := by
 unfold Qbn
 rw [show Qci k = some true by rw [hk]; exact Qy8, Option.bind_some, if_pos rfl, short_any _ x (by omega) hx, Option.bind_some]
 cases h : Qso x with
 | false => rfl
 | true =>
   obtain ⟨a, b, c⟩ := Qt7 h
   rw [if_pos rfl, Qww _ _ a b, Option.bind_some, Qsp _ _ (by omega), Option.bind_some]
   rcases Qxb k (by omega) (by omega) x.Mount (by omega) (by omega) x.Targets x.At with ⟨h1, h2⟩ | ⟨hT, h1, xs, h2, h3, h4⟩
   ·rw [h2, Option.bind_some, Qvi k (by omega) (by omega) x.Mount (by omega) (by omega), Option.bind_some, if_neg h1]
    simp [Ji]
   ·have hl := hT.len
    rw [h2, Option.bind_some, Qvi k (by omega) (by omega) x.Mount (by omega) (by omega), Option.bind_some, if_pos h1]
    dsimp only
    rw [Qwz k (by omega) hT, Option.bind_some, Qy4 k (by omega) hT _ (Qvj hT), Option.bind_some, h4, Qza hT]
    dsimp only
    rw [if_pos rfl, if_pos rfl, if_pos rfl, if_pos rfl, if_pos rfl, Q1u k xs (by omega), Option.bind_some, Qr6 k (by omega) (by omega) x.Mount (by omega) (by omega) x.Targets x.At xs (by omega), Option.bind_some, if_pos h1, h4, Qt3 k (by omega) (by omega) x.Mount (by omega) (by omega) x.Targets x.At _ (Qvj hT), Option.bind_some, if_pos h1, Qza hT]
    simp
theorem Q1w (x : Qjp) (hx : x.Targets.length <= 9223372036854775807) : VC Try.prog 3 [VV.ag (Qj4 x)] (vb true) := Qhu _ _ _ (Qy9 _ x hx rfl)
end Go.Proofs.Ytjomicmhnbmhoaa.Vg
