/-
  No cell of these rows narrows 'for every input' (looked for: loops, veiled, ifaces, maps, wideKeys, modest, calm, conditions, laid).
  DERIVED. THE GIVEN ROWS OF THIS SEAT. 2 by the template 'for every input the law returns true; each argument reads behind the call as it read before'; 0 by the template 'total and deterministic' (their statements: YtbgajdbpdhipiaaTotals.lean).
  GIVEN WITH THE SEED: the statements are not yours to turn. If you find one false, say at which input.
  Laid BY PROGRAM, IN A SANDBOX (cutbox-rows.mjs): the forced cells as the released guide's own fill.sh prints them over the translation 0a7e3b47b5dd5dc9… (all of the seat's roots in one cut). By AI agents, Wed Nov 11 2026. No macro, syntax, notation, axiom, sorry.
-/
import Derived.Test.YtbgajdbpdhipiaaChecked
import GoSem.Claim
import GoSem.ClaimJoined
import GoSem.ClaimMapViews
import Derived.JoinedTies
import Derived.KernelRfl
namespace Go.Proofs.Ytbgajdbpdhipiaa
/- THE CELL 'sum', in the pinned program and in every row, IS THE sha256 OF THE DUMP (.gsa) THAT YtbgajdbpdhipiaaProg.lean LOADS. Nothing in Lean hashes anything: it is a label: what it is worth is what the hold of that sum in a sandbox is worth. -/
noncomputable def Try.pinned : Pinned := { name := "ytbgajdbpdhipiaa", sum := "0a7e3b47b5dd5dc95431ec21594c9291f4ab3f3103e6fdeacc7b7465a73122bf", checked := Try.checked }
namespace Rows
def none {H : Type} : Left H := { results := [], args := [] }

/-- 'speculumtop.TopFewestUnwindings': WHATEVER THE INPUT: true; the input reads as it did. -/
def topFewestUnwindingsSpec : ChangeSpec := { name := "topFewestUnwindings", fn := fun _ => fun
  | [d1, d2] => { results := [.lit (.bool true)], args := [d1, d2] }
  | _ => none }
def topFewestUnwindingsRow : OpenClaim := { program := "ytbgajdbpdhipiaa", sum := "0a7e3b47b5dd5dc95431ec21594c9291f4ab3f3103e6fdeacc7b7465a73122bf", func := "speculum/speculumtop.TopFewestUnwindings", spec := "topFewestUnwindings", unfollowed := true, recurses := true, apart := false }
def TopFewestUnwindingsSaid : Prop := topFewestUnwindingsRow.holds Try.pinned (OpenSpec.ofChange topFewestUnwindingsSpec)

/-- ITS FALSE NEIGHBOUR: 'it returns false'. Refute it at one input. -/
def topFewestUnwindingsWrong : ChangeSpec := { name := "topFewestUnwindings", fn := fun _ => fun
  | [d1, d2] => { results := [.lit (.bool false)], args := [d1, d2] }
  | _ => none }
def TopFewestUnwindingsWrongFalsely : Prop := topFewestUnwindingsRow.holds Try.pinned (OpenSpec.ofChange topFewestUnwindingsWrong)

/-- 'speculumtop.TopReachable': WHATEVER THE INPUT: true; the input reads as it did. -/
def topReachableSpec : ChangeSpec := { name := "topReachable", fn := fun _ => fun
  | [d1, d2] => { results := [.lit (.bool true)], args := [d1, d2] }
  | _ => none }
def topReachableRow : OpenClaim := { program := "ytbgajdbpdhipiaa", sum := "0a7e3b47b5dd5dc95431ec21594c9291f4ab3f3103e6fdeacc7b7465a73122bf", func := "speculum/speculumtop.TopReachable", spec := "topReachable", unfollowed := true, recurses := true, apart := false }
def TopReachableSaid : Prop := topReachableRow.holds Try.pinned (OpenSpec.ofChange topReachableSpec)

/-- ITS FALSE NEIGHBOUR: 'it returns false'. Refute it at one input. -/
def topReachableWrong : ChangeSpec := { name := "topReachable", fn := fun _ => fun
  | [d1, d2] => { results := [.lit (.bool false)], args := [d1, d2] }
  | _ => none }
def TopReachableWrongFalsely : Prop := topReachableRow.holds Try.pinned (OpenSpec.ofChange topReachableWrong)

/- THE SECOND FORM. 'bulk': how many values and letters a reading holds, each counted each time it is reached (what is shared counts as often as it is met; a slice's spare places count too). A statement '..UptoSaid' is the law's where the arguments, and the package variables that the reading takes, are together of bulk at most 1048576: NARROWER than '..Said'. Prove '..Said' where nothing that the law and all that it calls make is longer than what came in: it says more and counts as full. Else prove '..UptoSaid'. A law counts once. -/
mutual
def uptoBulk {H : Type} : DataW H → Nat
  | .lit (.string bytes) => bytes.length + 1
  | .lit _ => 1
  | .nil => 1
  | .ptr d => uptoBulk d + 1
  | .slice elems spare => uptoBulkAll elems + uptoBulkAll spare + 1
  | .agg parts => uptoBulkAll parts + 1
  | .iface _ d => uptoBulk d + 1
  | .map entries => uptoBulkEntries entries + 1
  | .held _ => 1
def uptoBulkAll {H : Type} : List (DataW H) → Nat
  | [] => 0
  | d :: r => uptoBulk d + uptoBulkAll r
def uptoBulkEntries {H : Type} : List (Lit × DataW H) → Nat
  | [] => 0
  | x :: r => uptoBulkEntry x + uptoBulkEntries r
def uptoBulkEntry {H : Type} : Lit × DataW H → Nat
  | (.string bytes, d) => bytes.length + uptoBulk d + 1
  | (_, d) => uptoBulk d + 1
 end
def uptoSmall : (H : Type) → List (DataW H) → Bool := fun _ ds => decide (uptoBulkAll ds ≤ 1048576)
def OpenSpec.upto (s : _root_.Go.ChangeSpec) : _root_.Go.OpenSpec := { _root_.Go.OpenSpec.ofChange s with cond := some uptoSmall }

/-- 'speculumtop.TopFewestUnwindings', WHERE WHAT IT READS IS OF BULK AT MOST 1048576: true; the input reads as it did. -/
def topFewestUnwindingsUptoRow : OpenClaim := { program := "ytbgajdbpdhipiaa", sum := "0a7e3b47b5dd5dc95431ec21594c9291f4ab3f3103e6fdeacc7b7465a73122bf", func := "speculum/speculumtop.TopFewestUnwindings", spec := "topFewestUnwindings", unfollowed := true, recurses := true, apart := false, narrowed := true }
def TopFewestUnwindingsUptoSaid : Prop := topFewestUnwindingsUptoRow.holds Try.pinned (OpenSpec.upto topFewestUnwindingsSpec)

/-- 'speculumtop.TopReachable', WHERE WHAT IT READS IS OF BULK AT MOST 1048576: true; the input reads as it did. -/
def topReachableUptoRow : OpenClaim := { program := "ytbgajdbpdhipiaa", sum := "0a7e3b47b5dd5dc95431ec21594c9291f4ab3f3103e6fdeacc7b7465a73122bf", func := "speculum/speculumtop.TopReachable", spec := "topReachable", unfollowed := true, recurses := true, apart := false, narrowed := true }
def TopReachableUptoSaid : Prop := topReachableUptoRow.holds Try.pinned (OpenSpec.upto topReachableSpec)

end Rows
end Go.Proofs.Ytbgajdbpdhipiaa
