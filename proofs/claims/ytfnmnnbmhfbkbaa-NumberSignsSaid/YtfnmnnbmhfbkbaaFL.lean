/- The first error of one fraction, in the law. -/
import Derived.Test.YtfnmnnbmhfbkbaaBg
set_option linter.unusedVariables false
set_option linter.unusedSimpArgs false
namespace Go.Proofs.Ytfnmnnbmhfbkbaa
open Go.RowKit

theorem fracsL1 (a b : Int) (g : Nat) (w : World) (hg : g < w.heap.size) (ha : I64 a) (hb : I64 b)
    (h0 : w.cell? ⟨g, 0, none⟩ = some (.int .i64 a)) (h1 : w.cell? ⟨g, 1, none⟩ = some (.int .i64 b)) :
    Calls Try.prog 28 #[.slice (some ⟨g, 0, none⟩) 1 1] w fun e w' => e = .returned (.int .i64 (ckFs [(a, b)])) ∧ Below w.heap.size w w' :=
  fracsL_any g 1 [(a, b)] w hg rfl (by omega)
    (fun k hk => by
      obtain rfl : k = 0 := by omega
      exact ⟨ha, hb⟩)
    (fun k hk => by
      obtain rfl : k = 0 := by omega
      exact ⟨h0, h1⟩)

end Go.Proofs.Ytfnmnnbmhfbkbaa
