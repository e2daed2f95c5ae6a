/-
  No cell of these rows narrows 'for every input' (looked for: loops, veiled, ifaces, maps, wideKeys, modest, calm, conditions, laid).
  DERIVED. THE GIVEN ROWS OF THIS SEAT. 4 by the template 'for every input the law returns true; each argument reads behind the call as it read before'; 0 by the template 'total and deterministic' (their statements: YtmjepoalhmdfjaaTotals.lean).
  GIVEN WITH THE SEED: the statements are not yours to turn. If you find one false, say at which input.
  Laid BY PROGRAM, IN A SANDBOX (cutbox-rows.mjs): the forced cells as the released guide's own fill.sh prints them over the translation c87fe6082832aa53… (all of the seat's roots in one cut). By AI agents, Wed Nov 11 2026. No macro, syntax, notation, axiom, sorry.
-/
import Derived.Test.YtmjepoalhmdfjaaChecked
import GoSem.Claim
import GoSem.ClaimJoined
import GoSem.ClaimMapViews
import Derived.JoinedTies
import Derived.KernelRfl
namespace Go.Proofs.Ytmjepoalhmdfjaa
/- THE CELL 'sum', in the pinned program and in every row, IS THE sha256 OF THE DUMP (.gsa) THAT YtmjepoalhmdfjaaProg.lean LOADS. Nothing in Lean hashes anything: it is a label: what it is worth is what the hold of that sum in a sandbox is worth. -/
noncomputable def Try.pinned : Pinned := { name := "ytmjepoalhmdfjaa", sum := "c87fe6082832aa539e2c2bf5b382d000ab0061810698d4c5876c2cf9b6caa737", checked := Try.checked }
namespace Rows
def none {H : Type} : Left H := { results := [], args := [] }

/-- 'speculumlaw06.FigureLeast': WHATEVER THE INPUT: true; the input reads as it did. -/
def figureLeastSpec : ChangeSpec := { name := "figureLeast", fn := fun _ => fun
  | [d1, d2] => { results := [.lit (.bool true)], args := [d1, d2] }
  | _ => none }
def figureLeastRow : OpenClaim := { program := "ytmjepoalhmdfjaa", sum := "c87fe6082832aa539e2c2bf5b382d000ab0061810698d4c5876c2cf9b6caa737", func := "speculum/speculumlaw06.FigureLeast", spec := "figureLeast", unfollowed := true, recurses := true, apart := false }
def FigureLeastSaid : Prop := figureLeastRow.holds Try.pinned (OpenSpec.ofChange figureLeastSpec)

/-- ITS FALSE NEIGHBOUR: 'it returns false'. Refute it at one input. -/
def figureLeastWrong : ChangeSpec := { name := "figureLeast", fn := fun _ => fun
  | [d1, d2] => { results := [.lit (.bool false)], args := [d1, d2] }
  | _ => none }
def FigureLeastWrongFalsely : Prop := figureLeastRow.holds Try.pinned (OpenSpec.ofChange figureLeastWrong)

/-- 'speculumlaw06.FigureReferences': WHATEVER THE INPUT: true; the input reads as it did. -/
def figureReferencesSpec : ChangeSpec := { name := "figureReferences", fn := fun _ => fun
  | [d] => { results := [.lit (.bool true)], args := [d] }
  | _ => none }
def figureReferencesRow : OpenClaim := { program := "ytmjepoalhmdfjaa", sum := "c87fe6082832aa539e2c2bf5b382d000ab0061810698d4c5876c2cf9b6caa737", func := "speculum/speculumlaw06.FigureReferences", spec := "figureReferences", unfollowed := true, recurses := true, apart := false }
def FigureReferencesSaid : Prop := figureReferencesRow.holds Try.pinned (OpenSpec.ofChange figureReferencesSpec)

/-- ITS FALSE NEIGHBOUR: 'it returns false'. Refute it at one input. -/
def figureReferencesWrong : ChangeSpec := { name := "figureReferences", fn := fun _ => fun
  | [d] => { results := [.lit (.bool false)], args := [d] }
  | _ => none }
def FigureReferencesWrongFalsely : Prop := figureReferencesRow.holds Try.pinned (OpenSpec.ofChange figureReferencesWrong)

/-- 'speculumlaw06.FigureSquares': WHATEVER THE INPUT: true; the input reads as it did. -/
def figureSquaresSpec : ChangeSpec := { name := "figureSquares", fn := fun _ => fun
  | [d] => { results := [.lit (.bool true)], args := [d] }
  | _ => none }
def figureSquaresRow : OpenClaim := { program := "ytmjepoalhmdfjaa", sum := "c87fe6082832aa539e2c2bf5b382d000ab0061810698d4c5876c2cf9b6caa737", func := "speculum/speculumlaw06.FigureSquares", spec := "figureSquares", unfollowed := true, recurses := true, apart := false }
def FigureSquaresSaid : Prop := figureSquaresRow.holds Try.pinned (OpenSpec.ofChange figureSquaresSpec)

/-- ITS FALSE NEIGHBOUR: 'it returns false'. Refute it at one input. -/
def figureSquaresWrong : ChangeSpec := { name := "figureSquares", fn := fun _ => fun
  | [d] => { results := [.lit (.bool false)], args := [d] }
  | _ => none }
def FigureSquaresWrongFalsely : Prop := figureSquaresRow.holds Try.pinned (OpenSpec.ofChange figureSquaresWrong)

/-- 'speculumlaw06.FigureFewest': WHATEVER THE INPUT: true; the input reads as it did. -/
def figureFewestSpec : ChangeSpec := { name := "figureFewest", fn := fun _ => fun
  | [d1, d2, d3] => { results := [.lit (.bool true)], args := [d1, d2, d3] }
  | _ => none }
def figureFewestRow : OpenClaim := { program := "ytmjepoalhmdfjaa", sum := "c87fe6082832aa539e2c2bf5b382d000ab0061810698d4c5876c2cf9b6caa737", func := "speculum/speculumlaw06.FigureFewest", spec := "figureFewest", unfollowed := true, recurses := true, apart := false }
def FigureFewestSaid : Prop := figureFewestRow.holds Try.pinned (OpenSpec.ofChange figureFewestSpec)

/-- ITS FALSE NEIGHBOUR: 'it returns false'. Refute it at one input. -/
def figureFewestWrong : ChangeSpec := { name := "figureFewest", fn := fun _ => fun
  | [d1, d2, d3] => { results := [.lit (.bool false)], args := [d1, d2, d3] }
  | _ => none }
def FigureFewestWrongFalsely : Prop := figureFewestRow.holds Try.pinned (OpenSpec.ofChange figureFewestWrong)

/- THE SECOND FORM. 'bulk': how many values and letters a reading holds, each counted each time it is reached (what is shared counts as often as it is met; a slice's spare places count too). A statement '..UptoSaid' is the law's where the arguments, and the package variables that the reading takes, are together of bulk at most 1048576: NARROWER than '..Said'. Prove '..Said' where nothing that the law and all that it calls make is longer than what came in: it says more and counts as full. Else prove '..UptoSaid'. A law counts once. -/
mutual
def uptoBulk {H : Type} : DataW H → Nat
  | .lit (.string bytes) => bytes.length + 1
  | .lit _ => 1
  | .nil => 1
  | .ptr d => uptoBulk d + 1
  | .slice elems spare => uptoBulkAll elems + uptoBulkAll spare + 1
  | .agg parts => uptoBulkAll parts + 1
  | .iface _ d => uptoBulk d + 1
  | .map entries => uptoBulkEntries entries + 1
  | .held _ => 1
def uptoBulkAll {H : Type} : List (DataW H) → Nat
  | [] => 0
  | d :: r => uptoBulk d + uptoBulkAll r
def uptoBulkEntries {H : Type} : List (Lit × DataW H) → Nat
  | [] => 0
  | x :: r => uptoBulkEntry x + uptoBulkEntries r
def uptoBulkEntry {H : Type} : Lit × DataW H → Nat
  | (.string bytes, d) => bytes.length + uptoBulk d + 1
  | (_, d) => uptoBulk d + 1
 end
def uptoSmall : (H : Type) → List (DataW H) → Bool := fun _ ds => decide (uptoBulkAll ds ≤ 1048576)
def OpenSpec.upto (s : _root_.Go.ChangeSpec) : _root_.Go.OpenSpec := { _root_.Go.OpenSpec.ofChange s with cond := some uptoSmall }

/-- 'speculumlaw06.FigureLeast', WHERE WHAT IT READS IS OF BULK AT MOST 1048576: true; the input reads as it did. -/
def figureLeastUptoRow : OpenClaim := { program := "ytmjepoalhmdfjaa", sum := "c87fe6082832aa539e2c2bf5b382d000ab0061810698d4c5876c2cf9b6caa737", func := "speculum/speculumlaw06.FigureLeast", spec := "figureLeast", unfollowed := true, recurses := true, apart := false, narrowed := true }
def FigureLeastUptoSaid : Prop := figureLeastUptoRow.holds Try.pinned (OpenSpec.upto figureLeastSpec)

/-- 'speculumlaw06.FigureReferences', WHERE WHAT IT READS IS OF BULK AT MOST 1048576: true; the input reads as it did. -/
def figureReferencesUptoRow : OpenClaim := { program := "ytmjepoalhmdfjaa", sum := "c87fe6082832aa539e2c2bf5b382d000ab0061810698d4c5876c2cf9b6caa737", func := "speculum/speculumlaw06.FigureReferences", spec := "figureReferences", unfollowed := true, recurses := true, apart := false, narrowed := true }
def FigureReferencesUptoSaid : Prop := figureReferencesUptoRow.holds Try.pinned (OpenSpec.upto figureReferencesSpec)

/-- 'speculumlaw06.FigureSquares', WHERE WHAT IT READS IS OF BULK AT MOST 1048576: true; the input reads as it did. -/
def figureSquaresUptoRow : OpenClaim := { program := "ytmjepoalhmdfjaa", sum := "c87fe6082832aa539e2c2bf5b382d000ab0061810698d4c5876c2cf9b6caa737", func := "speculum/speculumlaw06.FigureSquares", spec := "figureSquares", unfollowed := true, recurses := true, apart := false, narrowed := true }
def FigureSquaresUptoSaid : Prop := figureSquaresUptoRow.holds Try.pinned (OpenSpec.upto figureSquaresSpec)

/-- 'speculumlaw06.FigureFewest', WHERE WHAT IT READS IS OF BULK AT MOST 1048576: true; the input reads as it did. -/
def figureFewestUptoRow : OpenClaim := { program := "ytmjepoalhmdfjaa", sum := "c87fe6082832aa539e2c2bf5b382d000ab0061810698d4c5876c2cf9b6caa737", func := "speculum/speculumlaw06.FigureFewest", spec := "figureFewest", unfollowed := true, recurses := true, apart := false, narrowed := true }
def FigureFewestUptoSaid : Prop := figureFewestUptoRow.holds Try.pinned (OpenSpec.upto figureFewestSpec)

end Rows
end Go.Proofs.Ytmjepoalhmdfjaa
