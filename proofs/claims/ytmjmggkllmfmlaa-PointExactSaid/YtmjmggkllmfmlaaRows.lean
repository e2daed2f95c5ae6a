/-
  No cell of these rows narrows 'for every input' (looked for: loops, veiled, ifaces, maps, wideKeys, modest, calm, conditions, laid).
  DERIVED. THE GIVEN ROWS OF THIS SEAT. 9 by the template 'for every input the law returns true; each argument reads behind the call as it read before'; 0 by the template 'total and deterministic' (their statements: YtmjmggkllmfmlaaTotals.lean).
  GIVEN WITH THE SEED: the statements are not yours to turn. If you find one false, say at which input.
  Laid BY PROGRAM, IN A SANDBOX (cutbox-rows.mjs): the forced cells as the released guide's own fill.sh prints them over the translation 4d40723c022c31b8… (all of the seat's roots in one cut). By AI agents, Wed Nov 11 2026. No macro, syntax, notation, axiom, sorry.
-/
import Derived.Test.YtmjmggkllmfmlaaChecked
import GoSem.Claim
import GoSem.ClaimJoined
import GoSem.ClaimMapViews
import Derived.JoinedTies
import Derived.KernelRfl
namespace Go.Proofs.Ytmjmggkllmfmlaa
/- THE CELL 'sum', in the pinned program and in every row, IS THE sha256 OF THE DUMP (.gsa) THAT YtmjmggkllmfmlaaProg.lean LOADS. Nothing in Lean hashes anything: it is a label: what it is worth is what the hold of that sum in a sandbox is worth. -/
noncomputable def Try.pinned : Pinned := { name := "ytmjmggkllmfmlaa", sum := "4d40723c022c31b885ef7ee9e8f5fd962728f05ef4f5e420e93823aa020f4837", checked := Try.checked }
namespace Rows
def none {H : Type} : Left H := { results := [], args := [] }

/-- 'speculumlaw09.PointStars': WHATEVER THE INPUT: true; the input reads as it did. -/
def pointStarsSpec : ChangeSpec := { name := "pointStars", fn := fun _ => fun
  | [d] => { results := [.lit (.bool true)], args := [d] }
  | _ => none }
def pointStarsRow : OpenClaim := { program := "ytmjmggkllmfmlaa", sum := "4d40723c022c31b885ef7ee9e8f5fd962728f05ef4f5e420e93823aa020f4837", func := "speculum/speculumlaw09.PointStars", spec := "pointStars", unfollowed := true, recurses := true, apart := false }
def PointStarsSaid : Prop := pointStarsRow.holds Try.pinned (OpenSpec.ofChange pointStarsSpec)

/-- ITS FALSE NEIGHBOUR: 'it returns false'. Refute it at one input. -/
def pointStarsWrong : ChangeSpec := { name := "pointStars", fn := fun _ => fun
  | [d] => { results := [.lit (.bool false)], args := [d] }
  | _ => none }
def PointStarsWrongFalsely : Prop := pointStarsRow.holds Try.pinned (OpenSpec.ofChange pointStarsWrong)

/-- 'speculumlaw09.PointExact': WHATEVER THE INPUT: true; the input reads as it did. -/
def pointExactSpec : ChangeSpec := { name := "pointExact", fn := fun _ => fun
  | [d1, d2] => { results := [.lit (.bool true)], args := [d1, d2] }
  | _ => none }
def pointExactRow : OpenClaim := { program := "ytmjmggkllmfmlaa", sum := "4d40723c022c31b885ef7ee9e8f5fd962728f05ef4f5e420e93823aa020f4837", func := "speculum/speculumlaw09.PointExact", spec := "pointExact", unfollowed := true, recurses := true, apart := false }
def PointExactSaid : Prop := pointExactRow.holds Try.pinned (OpenSpec.ofChange pointExactSpec)

/-- ITS FALSE NEIGHBOUR: 'it returns false'. Refute it at one input. -/
def pointExactWrong : ChangeSpec := { name := "pointExact", fn := fun _ => fun
  | [d1, d2] => { results := [.lit (.bool false)], args := [d1, d2] }
  | _ => none }
def PointExactWrongFalsely : Prop := pointExactRow.holds Try.pinned (OpenSpec.ofChange pointExactWrong)

/-- 'speculumlaw09.PointCables': WHATEVER THE INPUT: true; the input reads as it did. -/
def pointCablesSpec : ChangeSpec := { name := "pointCables", fn := fun _ => fun
  | [d1, d2, d3] => { results := [.lit (.bool true)], args := [d1, d2, d3] }
  | _ => none }
def pointCablesRow : OpenClaim := { program := "ytmjmggkllmfmlaa", sum := "4d40723c022c31b885ef7ee9e8f5fd962728f05ef4f5e420e93823aa020f4837", func := "speculum/speculumlaw09.PointCables", spec := "pointCables", unfollowed := true, recurses := true, apart := false }
def PointCablesSaid : Prop := pointCablesRow.holds Try.pinned (OpenSpec.ofChange pointCablesSpec)

/-- ITS FALSE NEIGHBOUR: 'it returns false'. Refute it at one input. -/
def pointCablesWrong : ChangeSpec := { name := "pointCables", fn := fun _ => fun
  | [d1, d2, d3] => { results := [.lit (.bool false)], args := [d1, d2, d3] }
  | _ => none }
def PointCablesWrongFalsely : Prop := pointCablesRow.holds Try.pinned (OpenSpec.ofChange pointCablesWrong)

/-- 'speculumlaw09.PointLeast': WHATEVER THE INPUT: true; the input reads as it did. -/
def pointLeastSpec : ChangeSpec := { name := "pointLeast", fn := fun _ => fun
  | [d] => { results := [.lit (.bool true)], args := [d] }
  | _ => none }
def pointLeastRow : OpenClaim := { program := "ytmjmggkllmfmlaa", sum := "4d40723c022c31b885ef7ee9e8f5fd962728f05ef4f5e420e93823aa020f4837", func := "speculum/speculumlaw09.PointLeast", spec := "pointLeast", unfollowed := true, recurses := true, apart := false }
def PointLeastSaid : Prop := pointLeastRow.holds Try.pinned (OpenSpec.ofChange pointLeastSpec)

/-- ITS FALSE NEIGHBOUR: 'it returns false'. Refute it at one input. -/
def pointLeastWrong : ChangeSpec := { name := "pointLeast", fn := fun _ => fun
  | [d] => { results := [.lit (.bool false)], args := [d] }
  | _ => none }
def PointLeastWrongFalsely : Prop := pointLeastRow.holds Try.pinned (OpenSpec.ofChange pointLeastWrong)

/-- 'speculumlaw09.PointWider': WHATEVER THE INPUT: true; the input reads as it did. -/
def pointWiderSpec : ChangeSpec := { name := "pointWider", fn := fun _ => fun
  | [d1, d2] => { results := [.lit (.bool true)], args := [d1, d2] }
  | _ => none }
def pointWiderRow : OpenClaim := { program := "ytmjmggkllmfmlaa", sum := "4d40723c022c31b885ef7ee9e8f5fd962728f05ef4f5e420e93823aa020f4837", func := "speculum/speculumlaw09.PointWider", spec := "pointWider", unfollowed := true, recurses := true, apart := false }
def PointWiderSaid : Prop := pointWiderRow.holds Try.pinned (OpenSpec.ofChange pointWiderSpec)

/-- ITS FALSE NEIGHBOUR: 'it returns false'. Refute it at one input. -/
def pointWiderWrong : ChangeSpec := { name := "pointWider", fn := fun _ => fun
  | [d1, d2] => { results := [.lit (.bool false)], args := [d1, d2] }
  | _ => none }
def PointWiderWrongFalsely : Prop := pointWiderRow.holds Try.pinned (OpenSpec.ofChange pointWiderWrong)

/-- 'speculumlaw09.PointOrders': WHATEVER THE INPUT: true; the input reads as it did. -/
def pointOrdersSpec : ChangeSpec := { name := "pointOrders", fn := fun _ => fun
  | [d] => { results := [.lit (.bool true)], args := [d] }
  | _ => none }
def pointOrdersRow : OpenClaim := { program := "ytmjmggkllmfmlaa", sum := "4d40723c022c31b885ef7ee9e8f5fd962728f05ef4f5e420e93823aa020f4837", func := "speculum/speculumlaw09.PointOrders", spec := "pointOrders", unfollowed := true, recurses := true, apart := false }
def PointOrdersSaid : Prop := pointOrdersRow.holds Try.pinned (OpenSpec.ofChange pointOrdersSpec)

/-- ITS FALSE NEIGHBOUR: 'it returns false'. Refute it at one input. -/
def pointOrdersWrong : ChangeSpec := { name := "pointOrders", fn := fun _ => fun
  | [d] => { results := [.lit (.bool false)], args := [d] }
  | _ => none }
def PointOrdersWrongFalsely : Prop := pointOrdersRow.holds Try.pinned (OpenSpec.ofChange pointOrdersWrong)

/-- 'speculumtop.TopReachable': WHATEVER THE INPUT: true; the input reads as it did. -/
def topReachableSpec : ChangeSpec := { name := "topReachable", fn := fun _ => fun
  | [d1, d2] => { results := [.lit (.bool true)], args := [d1, d2] }
  | _ => none }
def topReachableRow : OpenClaim := { program := "ytmjmggkllmfmlaa", sum := "4d40723c022c31b885ef7ee9e8f5fd962728f05ef4f5e420e93823aa020f4837", func := "speculum/speculumtop.TopReachable", spec := "topReachable", unfollowed := true, recurses := true, apart := false }
def TopReachableSaid : Prop := topReachableRow.holds Try.pinned (OpenSpec.ofChange topReachableSpec)

/-- ITS FALSE NEIGHBOUR: 'it returns false'. Refute it at one input. -/
def topReachableWrong : ChangeSpec := { name := "topReachable", fn := fun _ => fun
  | [d1, d2] => { results := [.lit (.bool false)], args := [d1, d2] }
  | _ => none }
def TopReachableWrongFalsely : Prop := topReachableRow.holds Try.pinned (OpenSpec.ofChange topReachableWrong)

/-- 'speculumtop.TopFewestUnwindings': WHATEVER THE INPUT: true; the input reads as it did. -/
def topFewestUnwindingsSpec : ChangeSpec := { name := "topFewestUnwindings", fn := fun _ => fun
  | [d1, d2] => { results := [.lit (.bool true)], args := [d1, d2] }
  | _ => none }
def topFewestUnwindingsRow : OpenClaim := { program := "ytmjmggkllmfmlaa", sum := "4d40723c022c31b885ef7ee9e8f5fd962728f05ef4f5e420e93823aa020f4837", func := "speculum/speculumtop.TopFewestUnwindings", spec := "topFewestUnwindings", unfollowed := true, recurses := true, apart := false }
def TopFewestUnwindingsSaid : Prop := topFewestUnwindingsRow.holds Try.pinned (OpenSpec.ofChange topFewestUnwindingsSpec)

/-- ITS FALSE NEIGHBOUR: 'it returns false'. Refute it at one input. -/
def topFewestUnwindingsWrong : ChangeSpec := { name := "topFewestUnwindings", fn := fun _ => fun
  | [d1, d2] => { results := [.lit (.bool false)], args := [d1, d2] }
  | _ => none }
def TopFewestUnwindingsWrongFalsely : Prop := topFewestUnwindingsRow.holds Try.pinned (OpenSpec.ofChange topFewestUnwindingsWrong)

/-- 'speculumtop.TopModelLeast': WHATEVER THE INPUT: true; the input reads as it did. -/
def topModelLeastSpec : ChangeSpec := { name := "topModelLeast", fn := fun _ => fun
  | [d1, d2] => { results := [.lit (.bool true)], args := [d1, d2] }
  | _ => none }
def topModelLeastRow : OpenClaim := { program := "ytmjmggkllmfmlaa", sum := "4d40723c022c31b885ef7ee9e8f5fd962728f05ef4f5e420e93823aa020f4837", func := "speculum/speculumtop.TopModelLeast", spec := "topModelLeast", unfollowed := true, recurses := true, apart := false }
def TopModelLeastSaid : Prop := topModelLeastRow.holds Try.pinned (OpenSpec.ofChange topModelLeastSpec)

/-- ITS FALSE NEIGHBOUR: 'it returns false'. Refute it at one input. -/
def topModelLeastWrong : ChangeSpec := { name := "topModelLeast", fn := fun _ => fun
  | [d1, d2] => { results := [.lit (.bool false)], args := [d1, d2] }
  | _ => none }
def TopModelLeastWrongFalsely : Prop := topModelLeastRow.holds Try.pinned (OpenSpec.ofChange topModelLeastWrong)

/- THE SECOND FORM. 'bulk': how many values and letters a reading holds, each counted each time it is reached (what is shared counts as often as it is met; a slice's spare places count too). A statement '..UptoSaid' is the law's where the arguments, and the package variables that the reading takes, are together of bulk at most 1048576: NARROWER than '..Said'. Prove '..Said' where nothing that the law and all that it calls make is longer than what came in: it says more and counts as full. Else prove '..UptoSaid'. A law counts once. -/
mutual
def uptoBulk {H : Type} : DataW H → Nat
  | .lit (.string bytes) => bytes.length + 1
  | .lit _ => 1
  | .nil => 1
  | .ptr d => uptoBulk d + 1
  | .slice elems spare => uptoBulkAll elems + uptoBulkAll spare + 1
  | .agg parts => uptoBulkAll parts + 1
  | .iface _ d => uptoBulk d + 1
  | .map entries => uptoBulkEntries entries + 1
  | .held _ => 1
def uptoBulkAll {H : Type} : List (DataW H) → Nat
  | [] => 0
  | d :: r => uptoBulk d + uptoBulkAll r
def uptoBulkEntries {H : Type} : List (Lit × DataW H) → Nat
  | [] => 0
  | x :: r => uptoBulkEntry x + uptoBulkEntries r
def uptoBulkEntry {H : Type} : Lit × DataW H → Nat
  | (.string bytes, d) => bytes.length + uptoBulk d + 1
  | (_, d) => uptoBulk d + 1
 end
def uptoSmall : (H : Type) → List (DataW H) → Bool := fun _ ds => decide (uptoBulkAll ds ≤ 1048576)
def OpenSpec.upto (s : _root_.Go.ChangeSpec) : _root_.Go.OpenSpec := { _root_.Go.OpenSpec.ofChange s with cond := some uptoSmall }

/-- 'speculumlaw09.PointStars', WHERE WHAT IT READS IS OF BULK AT MOST 1048576: true; the input reads as it did. -/
def pointStarsUptoRow : OpenClaim := { program := "ytmjmggkllmfmlaa", sum := "4d40723c022c31b885ef7ee9e8f5fd962728f05ef4f5e420e93823aa020f4837", func := "speculum/speculumlaw09.PointStars", spec := "pointStars", unfollowed := true, recurses := true, apart := false, narrowed := true }
def PointStarsUptoSaid : Prop := pointStarsUptoRow.holds Try.pinned (OpenSpec.upto pointStarsSpec)

/-- 'speculumlaw09.PointExact', WHERE WHAT IT READS IS OF BULK AT MOST 1048576: true; the input reads as it did. -/
def pointExactUptoRow : OpenClaim := { program := "ytmjmggkllmfmlaa", sum := "4d40723c022c31b885ef7ee9e8f5fd962728f05ef4f5e420e93823aa020f4837", func := "speculum/speculumlaw09.PointExact", spec := "pointExact", unfollowed := true, recurses := true, apart := false, narrowed := true }
def PointExactUptoSaid : Prop := pointExactUptoRow.holds Try.pinned (OpenSpec.upto pointExactSpec)

/-- 'speculumlaw09.PointCables', WHERE WHAT IT READS IS OF BULK AT MOST 1048576: true; the input reads as it did. -/
def pointCablesUptoRow : OpenClaim := { program := "ytmjmggkllmfmlaa", sum := "4d40723c022c31b885ef7ee9e8f5fd962728f05ef4f5e420e93823aa020f4837", func := "speculum/speculumlaw09.PointCables", spec := "pointCables", unfollowed := true, recurses := true, apart := false, narrowed := true }
def PointCablesUptoSaid : Prop := pointCablesUptoRow.holds Try.pinned (OpenSpec.upto pointCablesSpec)

/-- 'speculumlaw09.PointLeast', WHERE WHAT IT READS IS OF BULK AT MOST 1048576: true; the input reads as it did. -/
def pointLeastUptoRow : OpenClaim := { program := "ytmjmggkllmfmlaa", sum := "4d40723c022c31b885ef7ee9e8f5fd962728f05ef4f5e420e93823aa020f4837", func := "speculum/speculumlaw09.PointLeast", spec := "pointLeast", unfollowed := true, recurses := true, apart := false, narrowed := true }
def PointLeastUptoSaid : Prop := pointLeastUptoRow.holds Try.pinned (OpenSpec.upto pointLeastSpec)

/-- 'speculumlaw09.PointWider', WHERE WHAT IT READS IS OF BULK AT MOST 1048576: true; the input reads as it did. -/
def pointWiderUptoRow : OpenClaim := { program := "ytmjmggkllmfmlaa", sum := "4d40723c022c31b885ef7ee9e8f5fd962728f05ef4f5e420e93823aa020f4837", func := "speculum/speculumlaw09.PointWider", spec := "pointWider", unfollowed := true, recurses := true, apart := false, narrowed := true }
def PointWiderUptoSaid : Prop := pointWiderUptoRow.holds Try.pinned (OpenSpec.upto pointWiderSpec)

/-- 'speculumlaw09.PointOrders', WHERE WHAT IT READS IS OF BULK AT MOST 1048576: true; the input reads as it did. -/
def pointOrdersUptoRow : OpenClaim := { program := "ytmjmggkllmfmlaa", sum := "4d40723c022c31b885ef7ee9e8f5fd962728f05ef4f5e420e93823aa020f4837", func := "speculum/speculumlaw09.PointOrders", spec := "pointOrders", unfollowed := true, recurses := true, apart := false, narrowed := true }
def PointOrdersUptoSaid : Prop := pointOrdersUptoRow.holds Try.pinned (OpenSpec.upto pointOrdersSpec)

/-- 'speculumtop.TopReachable', WHERE WHAT IT READS IS OF BULK AT MOST 1048576: true; the input reads as it did. -/
def topReachableUptoRow : OpenClaim := { program := "ytmjmggkllmfmlaa", sum := "4d40723c022c31b885ef7ee9e8f5fd962728f05ef4f5e420e93823aa020f4837", func := "speculum/speculumtop.TopReachable", spec := "topReachable", unfollowed := true, recurses := true, apart := false, narrowed := true }
def TopReachableUptoSaid : Prop := topReachableUptoRow.holds Try.pinned (OpenSpec.upto topReachableSpec)

/-- 'speculumtop.TopFewestUnwindings', WHERE WHAT IT READS IS OF BULK AT MOST 1048576: true; the input reads as it did. -/
def topFewestUnwindingsUptoRow : OpenClaim := { program := "ytmjmggkllmfmlaa", sum := "4d40723c022c31b885ef7ee9e8f5fd962728f05ef4f5e420e93823aa020f4837", func := "speculum/speculumtop.TopFewestUnwindings", spec := "topFewestUnwindings", unfollowed := true, recurses := true, apart := false, narrowed := true }
def TopFewestUnwindingsUptoSaid : Prop := topFewestUnwindingsUptoRow.holds Try.pinned (OpenSpec.upto topFewestUnwindingsSpec)

/-- 'speculumtop.TopModelLeast', WHERE WHAT IT READS IS OF BULK AT MOST 1048576: true; the input reads as it did. -/
def topModelLeastUptoRow : OpenClaim := { program := "ytmjmggkllmfmlaa", sum := "4d40723c022c31b885ef7ee9e8f5fd962728f05ef4f5e420e93823aa020f4837", func := "speculum/speculumtop.TopModelLeast", spec := "topModelLeast", unfollowed := true, recurses := true, apart := false, narrowed := true }
def TopModelLeastUptoSaid : Prop := topModelLeastUptoRow.holds Try.pinned (OpenSpec.upto topModelLeastSpec)

end Rows
end Go.Proofs.Ytmjmggkllmfmlaa
