/-
  No cell of these rows narrows 'for every input' (looked for: loops, veiled, ifaces, maps, wideKeys, modest, calm, conditions, laid).
  DERIVED. THE GIVEN ROWS OF THIS SEAT. 3 by the template 'for every input the law returns true; each argument reads behind the call as it read before'; 0 by the template 'total and deterministic' (their statements: YtojmekclegbndaaTotals.lean).
  GIVEN WITH THE SEED: the statements are not yours to turn. If you find one false, say at which input.
  Laid BY PROGRAM, IN A SANDBOX (cutbox-rows.mjs): the forced cells as the released guide's own fill.sh prints them over the translation e1471459936679e8… (all of the seat's roots in one cut). By AI agents, Wed Nov 11 2026. No macro, syntax, notation, axiom, sorry.
-/
import Derived.Test.YtojmekclegbndaaChecked
import GoSem.Claim
import GoSem.ClaimJoined
import GoSem.ClaimMapViews
import Derived.JoinedTies
import Derived.KernelRfl
namespace Go.Proofs.Ytojmekclegbndaa
/- THE CELL 'sum', in the pinned program and in every row, IS THE sha256 OF THE DUMP (.gsa) THAT YtojmekclegbndaaProg.lean LOADS. Nothing in Lean hashes anything: it is a label: what it is worth is what the hold of that sum in a sandbox is worth. -/
noncomputable def Try.pinned : Pinned := { name := "ytojmekclegbndaa", sum := "e1471459936679e839b80bdd18934e73c2ffc79a0c55d3142ea7549c2558ce08", checked := Try.checked }
namespace Rows
def none {H : Type} : Left H := { results := [], args := [] }

/-- 'speculumtop.TopParabolaFocus': WHATEVER THE INPUT: true; the input reads as it did. -/
def topParabolaFocusSpec : ChangeSpec := { name := "topParabolaFocus", fn := fun _ => fun
  | [d1, d2] => { results := [.lit (.bool true)], args := [d1, d2] }
  | _ => none }
def topParabolaFocusRow : OpenClaim := { program := "ytojmekclegbndaa", sum := "e1471459936679e839b80bdd18934e73c2ffc79a0c55d3142ea7549c2558ce08", func := "speculum/speculumtop.TopParabolaFocus", spec := "topParabolaFocus", unfollowed := true, recurses := true, apart := false }
def TopParabolaFocusSaid : Prop := topParabolaFocusRow.holds Try.pinned (OpenSpec.ofChange topParabolaFocusSpec)

/-- ITS FALSE NEIGHBOUR: 'it returns false'. Refute it at one input. -/
def topParabolaFocusWrong : ChangeSpec := { name := "topParabolaFocus", fn := fun _ => fun
  | [d1, d2] => { results := [.lit (.bool false)], args := [d1, d2] }
  | _ => none }
def TopParabolaFocusWrongFalsely : Prop := topParabolaFocusRow.holds Try.pinned (OpenSpec.ofChange topParabolaFocusWrong)

/-- 'speculumtop.TopSphereMiddle': WHATEVER THE INPUT: true; the input reads as it did. -/
def topSphereMiddleSpec : ChangeSpec := { name := "topSphereMiddle", fn := fun _ => fun
  | [d1, d2] => { results := [.lit (.bool true)], args := [d1, d2] }
  | _ => none }
def topSphereMiddleRow : OpenClaim := { program := "ytojmekclegbndaa", sum := "e1471459936679e839b80bdd18934e73c2ffc79a0c55d3142ea7549c2558ce08", func := "speculum/speculumtop.TopSphereMiddle", spec := "topSphereMiddle", unfollowed := true, recurses := true, apart := false }
def TopSphereMiddleSaid : Prop := topSphereMiddleRow.holds Try.pinned (OpenSpec.ofChange topSphereMiddleSpec)

/-- ITS FALSE NEIGHBOUR: 'it returns false'. Refute it at one input. -/
def topSphereMiddleWrong : ChangeSpec := { name := "topSphereMiddle", fn := fun _ => fun
  | [d1, d2] => { results := [.lit (.bool false)], args := [d1, d2] }
  | _ => none }
def TopSphereMiddleWrongFalsely : Prop := topSphereMiddleRow.holds Try.pinned (OpenSpec.ofChange topSphereMiddleWrong)

/-- 'speculumtop.TopSagsMeet': WHATEVER THE INPUT: true; the input reads as it did. -/
def topSagsMeetSpec : ChangeSpec := { name := "topSagsMeet", fn := fun _ => fun
  | [d1, d2] => { results := [.lit (.bool true)], args := [d1, d2] }
  | _ => none }
def topSagsMeetRow : OpenClaim := { program := "ytojmekclegbndaa", sum := "e1471459936679e839b80bdd18934e73c2ffc79a0c55d3142ea7549c2558ce08", func := "speculum/speculumtop.TopSagsMeet", spec := "topSagsMeet", unfollowed := true, recurses := true, apart := false }
def TopSagsMeetSaid : Prop := topSagsMeetRow.holds Try.pinned (OpenSpec.ofChange topSagsMeetSpec)

/-- ITS FALSE NEIGHBOUR: 'it returns false'. Refute it at one input. -/
def topSagsMeetWrong : ChangeSpec := { name := "topSagsMeet", fn := fun _ => fun
  | [d1, d2] => { results := [.lit (.bool false)], args := [d1, d2] }
  | _ => none }
def TopSagsMeetWrongFalsely : Prop := topSagsMeetRow.holds Try.pinned (OpenSpec.ofChange topSagsMeetWrong)

/- THE SECOND FORM. 'bulk': how many values and letters a reading holds, each counted each time it is reached (what is shared counts as often as it is met; a slice's spare places count too). A statement '..UptoSaid' is the law's where the arguments, and the package variables that the reading takes, are together of bulk at most 1048576: NARROWER than '..Said'. Prove '..Said' where nothing that the law and all that it calls make is longer than what came in: it says more and counts as full. Else prove '..UptoSaid'. A law counts once. -/
mutual
def uptoBulk {H : Type} : DataW H → Nat
  | .lit (.string bytes) => bytes.length + 1
  | .lit _ => 1
  | .nil => 1
  | .ptr d => uptoBulk d + 1
  | .slice elems spare => uptoBulkAll elems + uptoBulkAll spare + 1
  | .agg parts => uptoBulkAll parts + 1
  | .iface _ d => uptoBulk d + 1
  | .map entries => uptoBulkEntries entries + 1
  | .held _ => 1
def uptoBulkAll {H : Type} : List (DataW H) → Nat
  | [] => 0
  | d :: r => uptoBulk d + uptoBulkAll r
def uptoBulkEntries {H : Type} : List (Lit × DataW H) → Nat
  | [] => 0
  | x :: r => uptoBulkEntry x + uptoBulkEntries r
def uptoBulkEntry {H : Type} : Lit × DataW H → Nat
  | (.string bytes, d) => bytes.length + uptoBulk d + 1
  | (_, d) => uptoBulk d + 1
 end
def uptoSmall : (H : Type) → List (DataW H) → Bool := fun _ ds => decide (uptoBulkAll ds ≤ 1048576)
def OpenSpec.upto (s : _root_.Go.ChangeSpec) : _root_.Go.OpenSpec := { _root_.Go.OpenSpec.ofChange s with cond := some uptoSmall }

/-- 'speculumtop.TopParabolaFocus', WHERE WHAT IT READS IS OF BULK AT MOST 1048576: true; the input reads as it did. -/
def topParabolaFocusUptoRow : OpenClaim := { program := "ytojmekclegbndaa", sum := "e1471459936679e839b80bdd18934e73c2ffc79a0c55d3142ea7549c2558ce08", func := "speculum/speculumtop.TopParabolaFocus", spec := "topParabolaFocus", unfollowed := true, recurses := true, apart := false, narrowed := true }
def TopParabolaFocusUptoSaid : Prop := topParabolaFocusUptoRow.holds Try.pinned (OpenSpec.upto topParabolaFocusSpec)

/-- 'speculumtop.TopSphereMiddle', WHERE WHAT IT READS IS OF BULK AT MOST 1048576: true; the input reads as it did. -/
def topSphereMiddleUptoRow : OpenClaim := { program := "ytojmekclegbndaa", sum := "e1471459936679e839b80bdd18934e73c2ffc79a0c55d3142ea7549c2558ce08", func := "speculum/speculumtop.TopSphereMiddle", spec := "topSphereMiddle", unfollowed := true, recurses := true, apart := false, narrowed := true }
def TopSphereMiddleUptoSaid : Prop := topSphereMiddleUptoRow.holds Try.pinned (OpenSpec.upto topSphereMiddleSpec)

/-- 'speculumtop.TopSagsMeet', WHERE WHAT IT READS IS OF BULK AT MOST 1048576: true; the input reads as it did. -/
def topSagsMeetUptoRow : OpenClaim := { program := "ytojmekclegbndaa", sum := "e1471459936679e839b80bdd18934e73c2ffc79a0c55d3142ea7549c2558ce08", func := "speculum/speculumtop.TopSagsMeet", spec := "topSagsMeet", unfollowed := true, recurses := true, apart := false, narrowed := true }
def TopSagsMeetUptoSaid : Prop := topSagsMeetUptoRow.holds Try.pinned (OpenSpec.upto topSagsMeetSpec)

end Rows
end Go.Proofs.Ytojmekclegbndaa
