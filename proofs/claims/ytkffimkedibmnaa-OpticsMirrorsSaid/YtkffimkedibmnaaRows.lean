/-
  No cell of these rows narrows 'for every input' (looked for: loops, veiled, ifaces, maps, wideKeys, modest, calm, conditions, laid).
  DERIVED. THE GIVEN ROWS OF THIS SEAT. 8 by the template 'for every input the law returns true; each argument reads behind the call as it read before'; 0 by the template 'total and deterministic' (their statements: YtkffimkedibmnaaTotals.lean).
  GIVEN WITH THE SEED: the statements are not yours to turn. If you find one false, say at which input.
  Laid BY PROGRAM, IN A SANDBOX (cutbox-rows.mjs): the forced cells as the released guide's own fill.sh prints them over the translation ff94784dab220e89… (all of the seat's roots in one cut). By AI agents, Wed Nov 11 2026. No macro, syntax, notation, axiom, sorry.
-/
import Derived.Test.YtkffimkedibmnaaChecked
import GoSem.Claim
import GoSem.ClaimJoined
import GoSem.ClaimMapViews
import Derived.JoinedTies
import Derived.KernelRfl
namespace Go.Proofs.Ytkffimkedibmnaa
/- THE CELL 'sum', in the pinned program and in every row, IS THE sha256 OF THE DUMP (.gsa) THAT YtkffimkedibmnaaProg.lean LOADS. Nothing in Lean hashes anything: it is a label: what it is worth is what the hold of that sum in a sandbox is worth. -/
noncomputable def Try.pinned : Pinned := { name := "ytkffimkedibmnaa", sum := "ff94784dab220e89a69802feb95b740ca60c99cbd20e96c7a77c00e85eaa0781", checked := Try.checked }
namespace Rows
def none {H : Type} : Left H := { results := [], args := [] }

/-- 'speculumlaw02.OpticsSystems': WHATEVER THE INPUT: true; the input reads as it did. -/
def opticsSystemsSpec : ChangeSpec := { name := "opticsSystems", fn := fun _ => fun
  | [d] => { results := [.lit (.bool true)], args := [d] }
  | _ => none }
def opticsSystemsRow : OpenClaim := { program := "ytkffimkedibmnaa", sum := "ff94784dab220e89a69802feb95b740ca60c99cbd20e96c7a77c00e85eaa0781", func := "speculum/speculumlaw02.OpticsSystems", spec := "opticsSystems", unfollowed := true, recurses := true, apart := false }
def OpticsSystemsSaid : Prop := opticsSystemsRow.holds Try.pinned (OpenSpec.ofChange opticsSystemsSpec)

/-- ITS FALSE NEIGHBOUR: 'it returns false'. Refute it at one input. -/
def opticsSystemsWrong : ChangeSpec := { name := "opticsSystems", fn := fun _ => fun
  | [d] => { results := [.lit (.bool false)], args := [d] }
  | _ => none }
def OpticsSystemsWrongFalsely : Prop := opticsSystemsRow.holds Try.pinned (OpenSpec.ofChange opticsSystemsWrong)

/-- 'speculumlaw02.OpticsJoins': WHATEVER THE INPUT: true; the input reads as it did. -/
def opticsJoinsSpec : ChangeSpec := { name := "opticsJoins", fn := fun _ => fun
  | [d1, d2] => { results := [.lit (.bool true)], args := [d1, d2] }
  | _ => none }
def opticsJoinsRow : OpenClaim := { program := "ytkffimkedibmnaa", sum := "ff94784dab220e89a69802feb95b740ca60c99cbd20e96c7a77c00e85eaa0781", func := "speculum/speculumlaw02.OpticsJoins", spec := "opticsJoins", unfollowed := true, recurses := true, apart := false }
def OpticsJoinsSaid : Prop := opticsJoinsRow.holds Try.pinned (OpenSpec.ofChange opticsJoinsSpec)

/-- ITS FALSE NEIGHBOUR: 'it returns false'. Refute it at one input. -/
def opticsJoinsWrong : ChangeSpec := { name := "opticsJoins", fn := fun _ => fun
  | [d1, d2] => { results := [.lit (.bool false)], args := [d1, d2] }
  | _ => none }
def OpticsJoinsWrongFalsely : Prop := opticsJoinsRow.holds Try.pinned (OpenSpec.ofChange opticsJoinsWrong)

/-- 'speculumlaw02.OpticsParts': WHATEVER THE INPUT: true; the input reads as it did. -/
def opticsPartsSpec : ChangeSpec := { name := "opticsParts", fn := fun _ => fun
  | [d1, d2] => { results := [.lit (.bool true)], args := [d1, d2] }
  | _ => none }
def opticsPartsRow : OpenClaim := { program := "ytkffimkedibmnaa", sum := "ff94784dab220e89a69802feb95b740ca60c99cbd20e96c7a77c00e85eaa0781", func := "speculum/speculumlaw02.OpticsParts", spec := "opticsParts", unfollowed := true, recurses := true, apart := false }
def OpticsPartsSaid : Prop := opticsPartsRow.holds Try.pinned (OpenSpec.ofChange opticsPartsSpec)

/-- ITS FALSE NEIGHBOUR: 'it returns false'. Refute it at one input. -/
def opticsPartsWrong : ChangeSpec := { name := "opticsParts", fn := fun _ => fun
  | [d1, d2] => { results := [.lit (.bool false)], args := [d1, d2] }
  | _ => none }
def OpticsPartsWrongFalsely : Prop := opticsPartsRow.holds Try.pinned (OpenSpec.ofChange opticsPartsWrong)

/-- 'speculumlaw02.OpticsHits': WHATEVER THE INPUT: true; the input reads as it did. -/
def opticsHitsSpec : ChangeSpec := { name := "opticsHits", fn := fun _ => fun
  | [d1, d2] => { results := [.lit (.bool true)], args := [d1, d2] }
  | _ => none }
def opticsHitsRow : OpenClaim := { program := "ytkffimkedibmnaa", sum := "ff94784dab220e89a69802feb95b740ca60c99cbd20e96c7a77c00e85eaa0781", func := "speculum/speculumlaw02.OpticsHits", spec := "opticsHits", unfollowed := true, recurses := true, apart := false }
def OpticsHitsSaid : Prop := opticsHitsRow.holds Try.pinned (OpenSpec.ofChange opticsHitsSpec)

/-- ITS FALSE NEIGHBOUR: 'it returns false'. Refute it at one input. -/
def opticsHitsWrong : ChangeSpec := { name := "opticsHits", fn := fun _ => fun
  | [d1, d2] => { results := [.lit (.bool false)], args := [d1, d2] }
  | _ => none }
def OpticsHitsWrongFalsely : Prop := opticsHitsRow.holds Try.pinned (OpenSpec.ofChange opticsHitsWrong)

/-- 'speculumlaw02.OpticsReflects': WHATEVER THE INPUT: true; the input reads as it did. -/
def opticsReflectsSpec : ChangeSpec := { name := "opticsReflects", fn := fun _ => fun
  | [d1, d2, d3] => { results := [.lit (.bool true)], args := [d1, d2, d3] }
  | _ => none }
def opticsReflectsRow : OpenClaim := { program := "ytkffimkedibmnaa", sum := "ff94784dab220e89a69802feb95b740ca60c99cbd20e96c7a77c00e85eaa0781", func := "speculum/speculumlaw02.OpticsReflects", spec := "opticsReflects", unfollowed := true, recurses := true, apart := false }
def OpticsReflectsSaid : Prop := opticsReflectsRow.holds Try.pinned (OpenSpec.ofChange opticsReflectsSpec)

/-- ITS FALSE NEIGHBOUR: 'it returns false'. Refute it at one input. -/
def opticsReflectsWrong : ChangeSpec := { name := "opticsReflects", fn := fun _ => fun
  | [d1, d2, d3] => { results := [.lit (.bool false)], args := [d1, d2, d3] }
  | _ => none }
def OpticsReflectsWrongFalsely : Prop := opticsReflectsRow.holds Try.pinned (OpenSpec.ofChange opticsReflectsWrong)

/-- 'speculumlaw02.OpticsMirrors': WHATEVER THE INPUT: true; the input reads as it did. -/
def opticsMirrorsSpec : ChangeSpec := { name := "opticsMirrors", fn := fun _ => fun
  | [d1, d2, d3] => { results := [.lit (.bool true)], args := [d1, d2, d3] }
  | _ => none }
def opticsMirrorsRow : OpenClaim := { program := "ytkffimkedibmnaa", sum := "ff94784dab220e89a69802feb95b740ca60c99cbd20e96c7a77c00e85eaa0781", func := "speculum/speculumlaw02.OpticsMirrors", spec := "opticsMirrors", unfollowed := true, recurses := true, apart := false }
def OpticsMirrorsSaid : Prop := opticsMirrorsRow.holds Try.pinned (OpenSpec.ofChange opticsMirrorsSpec)

/-- ITS FALSE NEIGHBOUR: 'it returns false'. Refute it at one input. -/
def opticsMirrorsWrong : ChangeSpec := { name := "opticsMirrors", fn := fun _ => fun
  | [d1, d2, d3] => { results := [.lit (.bool false)], args := [d1, d2, d3] }
  | _ => none }
def OpticsMirrorsWrongFalsely : Prop := opticsMirrorsRow.holds Try.pinned (OpenSpec.ofChange opticsMirrorsWrong)

/-- 'speculumlaw02.OpticsHeights': WHATEVER THE INPUT: true; the input reads as it did. -/
def opticsHeightsSpec : ChangeSpec := { name := "opticsHeights", fn := fun _ => fun
  | [d1, d2] => { results := [.lit (.bool true)], args := [d1, d2] }
  | _ => none }
def opticsHeightsRow : OpenClaim := { program := "ytkffimkedibmnaa", sum := "ff94784dab220e89a69802feb95b740ca60c99cbd20e96c7a77c00e85eaa0781", func := "speculum/speculumlaw02.OpticsHeights", spec := "opticsHeights", unfollowed := true, recurses := true, apart := false }
def OpticsHeightsSaid : Prop := opticsHeightsRow.holds Try.pinned (OpenSpec.ofChange opticsHeightsSpec)

/-- ITS FALSE NEIGHBOUR: 'it returns false'. Refute it at one input. -/
def opticsHeightsWrong : ChangeSpec := { name := "opticsHeights", fn := fun _ => fun
  | [d1, d2] => { results := [.lit (.bool false)], args := [d1, d2] }
  | _ => none }
def OpticsHeightsWrongFalsely : Prop := opticsHeightsRow.holds Try.pinned (OpenSpec.ofChange opticsHeightsWrong)

/-- 'speculumlaw02.OpticsBudgets': WHATEVER THE INPUT: true; the input reads as it did. -/
def opticsBudgetsSpec : ChangeSpec := { name := "opticsBudgets", fn := fun _ => fun
  | [d] => { results := [.lit (.bool true)], args := [d] }
  | _ => none }
def opticsBudgetsRow : OpenClaim := { program := "ytkffimkedibmnaa", sum := "ff94784dab220e89a69802feb95b740ca60c99cbd20e96c7a77c00e85eaa0781", func := "speculum/speculumlaw02.OpticsBudgets", spec := "opticsBudgets", unfollowed := true, recurses := true, apart := false }
def OpticsBudgetsSaid : Prop := opticsBudgetsRow.holds Try.pinned (OpenSpec.ofChange opticsBudgetsSpec)

/-- ITS FALSE NEIGHBOUR: 'it returns false'. Refute it at one input. -/
def opticsBudgetsWrong : ChangeSpec := { name := "opticsBudgets", fn := fun _ => fun
  | [d] => { results := [.lit (.bool false)], args := [d] }
  | _ => none }
def OpticsBudgetsWrongFalsely : Prop := opticsBudgetsRow.holds Try.pinned (OpenSpec.ofChange opticsBudgetsWrong)

/- THE SECOND FORM. 'bulk': how many values and letters a reading holds, each counted each time it is reached (what is shared counts as often as it is met; a slice's spare places count too). A statement '..UptoSaid' is the law's where the arguments, and the package variables that the reading takes, are together of bulk at most 1048576: NARROWER than '..Said'. Prove '..Said' where nothing that the law and all that it calls make is longer than what came in: it says more and counts as full. Else prove '..UptoSaid'. A law counts once. -/
mutual
def uptoBulk {H : Type} : DataW H → Nat
  | .lit (.string bytes) => bytes.length + 1
  | .lit _ => 1
  | .nil => 1
  | .ptr d => uptoBulk d + 1
  | .slice elems spare => uptoBulkAll elems + uptoBulkAll spare + 1
  | .agg parts => uptoBulkAll parts + 1
  | .iface _ d => uptoBulk d + 1
  | .map entries => uptoBulkEntries entries + 1
  | .held _ => 1
def uptoBulkAll {H : Type} : List (DataW H) → Nat
  | [] => 0
  | d :: r => uptoBulk d + uptoBulkAll r
def uptoBulkEntries {H : Type} : List (Lit × DataW H) → Nat
  | [] => 0
  | x :: r => uptoBulkEntry x + uptoBulkEntries r
def uptoBulkEntry {H : Type} : Lit × DataW H → Nat
  | (.string bytes, d) => bytes.length + uptoBulk d + 1
  | (_, d) => uptoBulk d + 1
 end
def uptoSmall : (H : Type) → List (DataW H) → Bool := fun _ ds => decide (uptoBulkAll ds ≤ 1048576)
def OpenSpec.upto (s : _root_.Go.ChangeSpec) : _root_.Go.OpenSpec := { _root_.Go.OpenSpec.ofChange s with cond := some uptoSmall }

/-- 'speculumlaw02.OpticsSystems', WHERE WHAT IT READS IS OF BULK AT MOST 1048576: true; the input reads as it did. -/
def opticsSystemsUptoRow : OpenClaim := { program := "ytkffimkedibmnaa", sum := "ff94784dab220e89a69802feb95b740ca60c99cbd20e96c7a77c00e85eaa0781", func := "speculum/speculumlaw02.OpticsSystems", spec := "opticsSystems", unfollowed := true, recurses := true, apart := false, narrowed := true }
def OpticsSystemsUptoSaid : Prop := opticsSystemsUptoRow.holds Try.pinned (OpenSpec.upto opticsSystemsSpec)

/-- 'speculumlaw02.OpticsJoins', WHERE WHAT IT READS IS OF BULK AT MOST 1048576: true; the input reads as it did. -/
def opticsJoinsUptoRow : OpenClaim := { program := "ytkffimkedibmnaa", sum := "ff94784dab220e89a69802feb95b740ca60c99cbd20e96c7a77c00e85eaa0781", func := "speculum/speculumlaw02.OpticsJoins", spec := "opticsJoins", unfollowed := true, recurses := true, apart := false, narrowed := true }
def OpticsJoinsUptoSaid : Prop := opticsJoinsUptoRow.holds Try.pinned (OpenSpec.upto opticsJoinsSpec)

/-- 'speculumlaw02.OpticsParts', WHERE WHAT IT READS IS OF BULK AT MOST 1048576: true; the input reads as it did. -/
def opticsPartsUptoRow : OpenClaim := { program := "ytkffimkedibmnaa", sum := "ff94784dab220e89a69802feb95b740ca60c99cbd20e96c7a77c00e85eaa0781", func := "speculum/speculumlaw02.OpticsParts", spec := "opticsParts", unfollowed := true, recurses := true, apart := false, narrowed := true }
def OpticsPartsUptoSaid : Prop := opticsPartsUptoRow.holds Try.pinned (OpenSpec.upto opticsPartsSpec)

/-- 'speculumlaw02.OpticsHits', WHERE WHAT IT READS IS OF BULK AT MOST 1048576: true; the input reads as it did. -/
def opticsHitsUptoRow : OpenClaim := { program := "ytkffimkedibmnaa", sum := "ff94784dab220e89a69802feb95b740ca60c99cbd20e96c7a77c00e85eaa0781", func := "speculum/speculumlaw02.OpticsHits", spec := "opticsHits", unfollowed := true, recurses := true, apart := false, narrowed := true }
def OpticsHitsUptoSaid : Prop := opticsHitsUptoRow.holds Try.pinned (OpenSpec.upto opticsHitsSpec)

/-- 'speculumlaw02.OpticsReflects', WHERE WHAT IT READS IS OF BULK AT MOST 1048576: true; the input reads as it did. -/
def opticsReflectsUptoRow : OpenClaim := { program := "ytkffimkedibmnaa", sum := "ff94784dab220e89a69802feb95b740ca60c99cbd20e96c7a77c00e85eaa0781", func := "speculum/speculumlaw02.OpticsReflects", spec := "opticsReflects", unfollowed := true, recurses := true, apart := false, narrowed := true }
def OpticsReflectsUptoSaid : Prop := opticsReflectsUptoRow.holds Try.pinned (OpenSpec.upto opticsReflectsSpec)

/-- 'speculumlaw02.OpticsMirrors', WHERE WHAT IT READS IS OF BULK AT MOST 1048576: true; the input reads as it did. -/
def opticsMirrorsUptoRow : OpenClaim := { program := "ytkffimkedibmnaa", sum := "ff94784dab220e89a69802feb95b740ca60c99cbd20e96c7a77c00e85eaa0781", func := "speculum/speculumlaw02.OpticsMirrors", spec := "opticsMirrors", unfollowed := true, recurses := true, apart := false, narrowed := true }
def OpticsMirrorsUptoSaid : Prop := opticsMirrorsUptoRow.holds Try.pinned (OpenSpec.upto opticsMirrorsSpec)

/-- 'speculumlaw02.OpticsHeights', WHERE WHAT IT READS IS OF BULK AT MOST 1048576: true; the input reads as it did. -/
def opticsHeightsUptoRow : OpenClaim := { program := "ytkffimkedibmnaa", sum := "ff94784dab220e89a69802feb95b740ca60c99cbd20e96c7a77c00e85eaa0781", func := "speculum/speculumlaw02.OpticsHeights", spec := "opticsHeights", unfollowed := true, recurses := true, apart := false, narrowed := true }
def OpticsHeightsUptoSaid : Prop := opticsHeightsUptoRow.holds Try.pinned (OpenSpec.upto opticsHeightsSpec)

/-- 'speculumlaw02.OpticsBudgets', WHERE WHAT IT READS IS OF BULK AT MOST 1048576: true; the input reads as it did. -/
def opticsBudgetsUptoRow : OpenClaim := { program := "ytkffimkedibmnaa", sum := "ff94784dab220e89a69802feb95b740ca60c99cbd20e96c7a77c00e85eaa0781", func := "speculum/speculumlaw02.OpticsBudgets", spec := "opticsBudgets", unfollowed := true, recurses := true, apart := false, narrowed := true }
def OpticsBudgetsUptoSaid : Prop := opticsBudgetsUptoRow.holds Try.pinned (OpenSpec.upto opticsBudgetsSpec)

end Rows
end Go.Proofs.Ytkffimkedibmnaa
