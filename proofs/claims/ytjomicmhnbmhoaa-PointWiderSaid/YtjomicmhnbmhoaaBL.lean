import Derived.Test.YtjomicmhnbmhoaaBC
namespace Go.Proofs.Ytjomicmhnbmhoaa.Vg
set_option maxRecDepth 100000
set_option maxHeartbeats 4000000
set_option linter.unusedVariables false
set_option linter.unusedSimpArgs false
open Go Go.Proofs.Ytjomicmhnbmhoaa.Ev Go.Proofs.Ytjomicmhnbmhoaa.Vv
open List (flatMap length_cons length_nil length_map length_append map_cons map_nil length_replicate)
def Qt8 (k : Nat) : Option Bool := some true
theorem Qa0 (k : Nat) (r : Bool) (h : Qt8 k = some r) : VC Try.prog 5 [] (vb r) := by
 injection h with h; subst h
 exact Qw4
end Go.Proofs.Ytjomicmhnbmhoaa.Vg
