/-
  No cell of these rows narrows 'for every input' (looked for: loops, veiled, ifaces, maps, wideKeys, modest, calm, conditions, laid).
  DERIVED. THE GIVEN ROWS OF THIS SEAT. 6 by the template 'for every input the law returns true; each argument reads behind the call as it read before'; 0 by the template 'total and deterministic' (their statements: YtgaopkhkabbcfaaTotals.lean).
  GIVEN WITH THE SEED: the statements are not yours to turn. If you find one false, say at which input.
  Laid BY PROGRAM, IN A SANDBOX (cutbox-rows.mjs): the forced cells as the released guide's own fill.sh prints them over the translation b75fb5e86b75a3f9… (all of the seat's roots in one cut). By AI agents, Wed Nov 11 2026. No macro, syntax, notation, axiom, sorry.
-/
import Derived.Test.YtgaopkhkabbcfaaChecked
import GoSem.Claim
import GoSem.ClaimJoined
import GoSem.ClaimMapViews
import Derived.JoinedTies
import Derived.KernelRfl
namespace Go.Proofs.Ytgaopkhkabbcfaa
/- THE CELL 'sum', in the pinned program and in every row, IS THE sha256 OF THE DUMP (.gsa) THAT YtgaopkhkabbcfaaProg.lean LOADS. Nothing in Lean hashes anything: it is a label: what it is worth is what the hold of that sum in a sandbox is worth. -/
noncomputable def Try.pinned : Pinned := { name := "ytgaopkhkabbcfaa", sum := "b75fb5e86b75a3f9996f21257dab392e9808df6410b3e97a8ffaa680e690d118", checked := Try.checked }
namespace Rows
def none {H : Type} : Left H := { results := [], args := [] }

/-- 'speculumlaw02.OpticsConics': WHATEVER THE INPUT: true; the input reads as it did. -/
def opticsConicsSpec : ChangeSpec := { name := "opticsConics", fn := fun _ => fun
  | [d] => { results := [.lit (.bool true)], args := [d] }
  | _ => none }
def opticsConicsRow : OpenClaim := { program := "ytgaopkhkabbcfaa", sum := "b75fb5e86b75a3f9996f21257dab392e9808df6410b3e97a8ffaa680e690d118", func := "speculum/speculumlaw02.OpticsConics", spec := "opticsConics", unfollowed := true, recurses := true, apart := false }
def OpticsConicsSaid : Prop := opticsConicsRow.holds Try.pinned (OpenSpec.ofChange opticsConicsSpec)

/-- ITS FALSE NEIGHBOUR: 'it returns false'. Refute it at one input. -/
def opticsConicsWrong : ChangeSpec := { name := "opticsConics", fn := fun _ => fun
  | [d] => { results := [.lit (.bool false)], args := [d] }
  | _ => none }
def OpticsConicsWrongFalsely : Prop := opticsConicsRow.holds Try.pinned (OpenSpec.ofChange opticsConicsWrong)

/-- 'speculumlaw02.OpticsSags': WHATEVER THE INPUT: true; the input reads as it did. -/
def opticsSagsSpec : ChangeSpec := { name := "opticsSags", fn := fun _ => fun
  | [d1, d2] => { results := [.lit (.bool true)], args := [d1, d2] }
  | _ => none }
def opticsSagsRow : OpenClaim := { program := "ytgaopkhkabbcfaa", sum := "b75fb5e86b75a3f9996f21257dab392e9808df6410b3e97a8ffaa680e690d118", func := "speculum/speculumlaw02.OpticsSags", spec := "opticsSags", unfollowed := true, recurses := true, apart := false }
def OpticsSagsSaid : Prop := opticsSagsRow.holds Try.pinned (OpenSpec.ofChange opticsSagsSpec)

/-- ITS FALSE NEIGHBOUR: 'it returns false'. Refute it at one input. -/
def opticsSagsWrong : ChangeSpec := { name := "opticsSags", fn := fun _ => fun
  | [d1, d2] => { results := [.lit (.bool false)], args := [d1, d2] }
  | _ => none }
def OpticsSagsWrongFalsely : Prop := opticsSagsRow.holds Try.pinned (OpenSpec.ofChange opticsSagsWrong)

/-- 'speculumlaw02.OpticsTables': WHATEVER THE INPUT: true; the input reads as it did. -/
def opticsTablesSpec : ChangeSpec := { name := "opticsTables", fn := fun _ => fun
  | [d1, d2, d3] => { results := [.lit (.bool true)], args := [d1, d2, d3] }
  | _ => none }
def opticsTablesRow : OpenClaim := { program := "ytgaopkhkabbcfaa", sum := "b75fb5e86b75a3f9996f21257dab392e9808df6410b3e97a8ffaa680e690d118", func := "speculum/speculumlaw02.OpticsTables", spec := "opticsTables", unfollowed := true, recurses := true, apart := false }
def OpticsTablesSaid : Prop := opticsTablesRow.holds Try.pinned (OpenSpec.ofChange opticsTablesSpec)

/-- ITS FALSE NEIGHBOUR: 'it returns false'. Refute it at one input. -/
def opticsTablesWrong : ChangeSpec := { name := "opticsTables", fn := fun _ => fun
  | [d1, d2, d3] => { results := [.lit (.bool false)], args := [d1, d2, d3] }
  | _ => none }
def OpticsTablesWrongFalsely : Prop := opticsTablesRow.holds Try.pinned (OpenSpec.ofChange opticsTablesWrong)

/-- 'speculumlaw02.OpticsTrue': WHATEVER THE INPUT: true; the input reads as it did. -/
def opticsTrueSpec : ChangeSpec := { name := "opticsTrue", fn := fun _ => fun
  | [d1, d2] => { results := [.lit (.bool true)], args := [d1, d2] }
  | _ => none }
def opticsTrueRow : OpenClaim := { program := "ytgaopkhkabbcfaa", sum := "b75fb5e86b75a3f9996f21257dab392e9808df6410b3e97a8ffaa680e690d118", func := "speculum/speculumlaw02.OpticsTrue", spec := "opticsTrue", unfollowed := true, recurses := true, apart := false }
def OpticsTrueSaid : Prop := opticsTrueRow.holds Try.pinned (OpenSpec.ofChange opticsTrueSpec)

/-- ITS FALSE NEIGHBOUR: 'it returns false'. Refute it at one input. -/
def opticsTrueWrong : ChangeSpec := { name := "opticsTrue", fn := fun _ => fun
  | [d1, d2] => { results := [.lit (.bool false)], args := [d1, d2] }
  | _ => none }
def OpticsTrueWrongFalsely : Prop := opticsTrueRow.holds Try.pinned (OpenSpec.ofChange opticsTrueWrong)

/-- 'speculumlaw02.OpticsGrow': WHATEVER THE INPUT: true; the input reads as it did. -/
def opticsGrowSpec : ChangeSpec := { name := "opticsGrow", fn := fun _ => fun
  | [d1, d2, d3] => { results := [.lit (.bool true)], args := [d1, d2, d3] }
  | _ => none }
def opticsGrowRow : OpenClaim := { program := "ytgaopkhkabbcfaa", sum := "b75fb5e86b75a3f9996f21257dab392e9808df6410b3e97a8ffaa680e690d118", func := "speculum/speculumlaw02.OpticsGrow", spec := "opticsGrow", unfollowed := true, recurses := true, apart := false }
def OpticsGrowSaid : Prop := opticsGrowRow.holds Try.pinned (OpenSpec.ofChange opticsGrowSpec)

/-- ITS FALSE NEIGHBOUR: 'it returns false'. Refute it at one input. -/
def opticsGrowWrong : ChangeSpec := { name := "opticsGrow", fn := fun _ => fun
  | [d1, d2, d3] => { results := [.lit (.bool false)], args := [d1, d2, d3] }
  | _ => none }
def OpticsGrowWrongFalsely : Prop := opticsGrowRow.holds Try.pinned (OpenSpec.ofChange opticsGrowWrong)

/-- 'speculumlaw02.OpticsFoci': WHATEVER THE INPUT: true; the input reads as it did. -/
def opticsFociSpec : ChangeSpec := { name := "opticsFoci", fn := fun _ => fun
  | [d1, d2] => { results := [.lit (.bool true)], args := [d1, d2] }
  | _ => none }
def opticsFociRow : OpenClaim := { program := "ytgaopkhkabbcfaa", sum := "b75fb5e86b75a3f9996f21257dab392e9808df6410b3e97a8ffaa680e690d118", func := "speculum/speculumlaw02.OpticsFoci", spec := "opticsFoci", unfollowed := true, recurses := true, apart := false }
def OpticsFociSaid : Prop := opticsFociRow.holds Try.pinned (OpenSpec.ofChange opticsFociSpec)

/-- ITS FALSE NEIGHBOUR: 'it returns false'. Refute it at one input. -/
def opticsFociWrong : ChangeSpec := { name := "opticsFoci", fn := fun _ => fun
  | [d1, d2] => { results := [.lit (.bool false)], args := [d1, d2] }
  | _ => none }
def OpticsFociWrongFalsely : Prop := opticsFociRow.holds Try.pinned (OpenSpec.ofChange opticsFociWrong)

/- THE SECOND FORM. 'bulk': how many values and letters a reading holds, each counted each time it is reached (what is shared counts as often as it is met; a slice's spare places count too). A statement '..UptoSaid' is the law's where the arguments, and the package variables that the reading takes, are together of bulk at most 1048576: NARROWER than '..Said'. Prove '..Said' where nothing that the law and all that it calls make is longer than what came in: it says more and counts as full. Else prove '..UptoSaid'. A law counts once. -/
mutual
def uptoBulk {H : Type} : DataW H → Nat
  | .lit (.string bytes) => bytes.length + 1
  | .lit _ => 1
  | .nil => 1
  | .ptr d => uptoBulk d + 1
  | .slice elems spare => uptoBulkAll elems + uptoBulkAll spare + 1
  | .agg parts => uptoBulkAll parts + 1
  | .iface _ d => uptoBulk d + 1
  | .map entries => uptoBulkEntries entries + 1
  | .held _ => 1
def uptoBulkAll {H : Type} : List (DataW H) → Nat
  | [] => 0
  | d :: r => uptoBulk d + uptoBulkAll r
def uptoBulkEntries {H : Type} : List (Lit × DataW H) → Nat
  | [] => 0
  | x :: r => uptoBulkEntry x + uptoBulkEntries r
def uptoBulkEntry {H : Type} : Lit × DataW H → Nat
  | (.string bytes, d) => bytes.length + uptoBulk d + 1
  | (_, d) => uptoBulk d + 1
 end
def uptoSmall : (H : Type) → List (DataW H) → Bool := fun _ ds => decide (uptoBulkAll ds ≤ 1048576)
def OpenSpec.upto (s : _root_.Go.ChangeSpec) : _root_.Go.OpenSpec := { _root_.Go.OpenSpec.ofChange s with cond := some uptoSmall }

/-- 'speculumlaw02.OpticsConics', WHERE WHAT IT READS IS OF BULK AT MOST 1048576: true; the input reads as it did. -/
def opticsConicsUptoRow : OpenClaim := { program := "ytgaopkhkabbcfaa", sum := "b75fb5e86b75a3f9996f21257dab392e9808df6410b3e97a8ffaa680e690d118", func := "speculum/speculumlaw02.OpticsConics", spec := "opticsConics", unfollowed := true, recurses := true, apart := false, narrowed := true }
def OpticsConicsUptoSaid : Prop := opticsConicsUptoRow.holds Try.pinned (OpenSpec.upto opticsConicsSpec)

/-- 'speculumlaw02.OpticsSags', WHERE WHAT IT READS IS OF BULK AT MOST 1048576: true; the input reads as it did. -/
def opticsSagsUptoRow : OpenClaim := { program := "ytgaopkhkabbcfaa", sum := "b75fb5e86b75a3f9996f21257dab392e9808df6410b3e97a8ffaa680e690d118", func := "speculum/speculumlaw02.OpticsSags", spec := "opticsSags", unfollowed := true, recurses := true, apart := false, narrowed := true }
def OpticsSagsUptoSaid : Prop := opticsSagsUptoRow.holds Try.pinned (OpenSpec.upto opticsSagsSpec)

/-- 'speculumlaw02.OpticsTables', WHERE WHAT IT READS IS OF BULK AT MOST 1048576: true; the input reads as it did. -/
def opticsTablesUptoRow : OpenClaim := { program := "ytgaopkhkabbcfaa", sum := "b75fb5e86b75a3f9996f21257dab392e9808df6410b3e97a8ffaa680e690d118", func := "speculum/speculumlaw02.OpticsTables", spec := "opticsTables", unfollowed := true, recurses := true, apart := false, narrowed := true }
def OpticsTablesUptoSaid : Prop := opticsTablesUptoRow.holds Try.pinned (OpenSpec.upto opticsTablesSpec)

/-- 'speculumlaw02.OpticsTrue', WHERE WHAT IT READS IS OF BULK AT MOST 1048576: true; the input reads as it did. -/
def opticsTrueUptoRow : OpenClaim := { program := "ytgaopkhkabbcfaa", sum := "b75fb5e86b75a3f9996f21257dab392e9808df6410b3e97a8ffaa680e690d118", func := "speculum/speculumlaw02.OpticsTrue", spec := "opticsTrue", unfollowed := true, recurses := true, apart := false, narrowed := true }
def OpticsTrueUptoSaid : Prop := opticsTrueUptoRow.holds Try.pinned (OpenSpec.upto opticsTrueSpec)

/-- 'speculumlaw02.OpticsGrow', WHERE WHAT IT READS IS OF BULK AT MOST 1048576: true; the input reads as it did. -/
def opticsGrowUptoRow : OpenClaim := { program := "ytgaopkhkabbcfaa", sum := "b75fb5e86b75a3f9996f21257dab392e9808df6410b3e97a8ffaa680e690d118", func := "speculum/speculumlaw02.OpticsGrow", spec := "opticsGrow", unfollowed := true, recurses := true, apart := false, narrowed := true }
def OpticsGrowUptoSaid : Prop := opticsGrowUptoRow.holds Try.pinned (OpenSpec.upto opticsGrowSpec)

/-- 'speculumlaw02.OpticsFoci', WHERE WHAT IT READS IS OF BULK AT MOST 1048576: true; the input reads as it did. -/
def opticsFociUptoRow : OpenClaim := { program := "ytgaopkhkabbcfaa", sum := "b75fb5e86b75a3f9996f21257dab392e9808df6410b3e97a8ffaa680e690d118", func := "speculum/speculumlaw02.OpticsFoci", spec := "opticsFoci", unfollowed := true, recurses := true, apart := false, narrowed := true }
def OpticsFociUptoSaid : Prop := opticsFociUptoRow.holds Try.pinned (OpenSpec.upto opticsFociSpec)

end Rows
end Go.Proofs.Ytgaopkhkabbcfaa
