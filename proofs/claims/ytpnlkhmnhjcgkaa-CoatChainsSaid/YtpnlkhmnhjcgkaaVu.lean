/- A calculus of calls over values that are trees: a part of an own slice, handed over. -/
import Derived.Test.YtpnlkhmnhjcgkaaVw
set_option linter.unusedVariables false
set_option linter.unusedSimpArgs false
namespace Go.Proofs.Ytpnlkhmnhjcgkaa.Vv
open Go Go.Proofs.Ytpnlkhmnhjcgkaa.Ev
theorem Wv.takeMap {A : Type} {g : A → VV} {cells : List VV} (xs : List A) (n : Nat) (hc : List.drop 0 (List.map unfr cells) = xs.map g) (hn : n ≤ xs.length) : Wv (.tr (List.drop 0 (List.map unfr cells)) n) (.tr ((xs.take n).map g) (xs.take n).length) := by
  rw [hc]
  refine Wv.part ?_ ?_
  · rw [List.length_map, List.length_take, Nat.min_eq_left hn, List.map_take]
  · rw [List.length_take, Nat.min_eq_left hn]
end Go.Proofs.Ytpnlkhmnhjcgkaa.Vv
