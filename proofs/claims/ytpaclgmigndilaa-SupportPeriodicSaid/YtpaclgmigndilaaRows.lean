/-
  No cell of these rows narrows 'for every input' (looked for: loops, veiled, ifaces, maps, wideKeys, modest, calm, conditions, laid).
  DERIVED. THE GIVEN ROWS OF THIS SEAT. 8 by the template 'for every input the law returns true; each argument reads behind the call as it read before'; 0 by the template 'total and deterministic' (their statements: YtpaclgmigndilaaTotals.lean).
  GIVEN WITH THE SEED: the statements are not yours to turn. If you find one false, say at which input.
  Laid BY PROGRAM, IN A SANDBOX (cutbox-rows.mjs): the forced cells as the released guide's own fill.sh prints them over the translation 289968999386e961… (all of the seat's roots in one cut). By AI agents, Wed Nov 11 2026. No macro, syntax, notation, axiom, sorry.
-/
import Derived.Test.YtpaclgmigndilaaChecked
import GoSem.Claim
import GoSem.ClaimJoined
import GoSem.ClaimMapViews
import Derived.JoinedTies
import Derived.KernelRfl
namespace Go.Proofs.Ytpaclgmigndilaa
/- THE CELL 'sum', in the pinned program and in every row, IS THE sha256 OF THE DUMP (.gsa) THAT YtpaclgmigndilaaProg.lean LOADS. Nothing in Lean hashes anything: it is a label: what it is worth is what the hold of that sum in a sandbox is worth. -/
noncomputable def Try.pinned : Pinned := { name := "ytpaclgmigndilaa", sum := "289968999386e961d34a30a87764b36b64ff33e00188d2262c6d8a041195463c", checked := Try.checked }
namespace Rows
def none {H : Type} : Left H := { results := [], args := [] }

/-- 'speculumlaw07.SupportPeaks': WHATEVER THE INPUT: true; the input reads as it did. -/
def supportPeaksSpec : ChangeSpec := { name := "supportPeaks", fn := fun _ => fun
  | [d1, d2] => { results := [.lit (.bool true)], args := [d1, d2] }
  | _ => none }
def supportPeaksRow : OpenClaim := { program := "ytpaclgmigndilaa", sum := "289968999386e961d34a30a87764b36b64ff33e00188d2262c6d8a041195463c", func := "speculum/speculumlaw07.SupportPeaks", spec := "supportPeaks", unfollowed := true, recurses := true, apart := false }
def SupportPeaksSaid : Prop := supportPeaksRow.holds Try.pinned (OpenSpec.ofChange supportPeaksSpec)

/-- ITS FALSE NEIGHBOUR: 'it returns false'. Refute it at one input. -/
def supportPeaksWrong : ChangeSpec := { name := "supportPeaks", fn := fun _ => fun
  | [d1, d2] => { results := [.lit (.bool false)], args := [d1, d2] }
  | _ => none }
def SupportPeaksWrongFalsely : Prop := supportPeaksRow.holds Try.pinned (OpenSpec.ofChange supportPeaksWrong)

/-- 'speculumlaw07.SupportConvergents': WHATEVER THE INPUT: true; the input reads as it did. -/
def supportConvergentsSpec : ChangeSpec := { name := "supportConvergents", fn := fun _ => fun
  | [d] => { results := [.lit (.bool true)], args := [d] }
  | _ => none }
def supportConvergentsRow : OpenClaim := { program := "ytpaclgmigndilaa", sum := "289968999386e961d34a30a87764b36b64ff33e00188d2262c6d8a041195463c", func := "speculum/speculumlaw07.SupportConvergents", spec := "supportConvergents", unfollowed := true, recurses := true, apart := false }
def SupportConvergentsSaid : Prop := supportConvergentsRow.holds Try.pinned (OpenSpec.ofChange supportConvergentsSpec)

/-- ITS FALSE NEIGHBOUR: 'it returns false'. Refute it at one input. -/
def supportConvergentsWrong : ChangeSpec := { name := "supportConvergents", fn := fun _ => fun
  | [d] => { results := [.lit (.bool false)], args := [d] }
  | _ => none }
def SupportConvergentsWrongFalsely : Prop := supportConvergentsRow.holds Try.pinned (OpenSpec.ofChange supportConvergentsWrong)

/-- 'speculumlaw07.SupportBalance': WHATEVER THE INPUT: true; the input reads as it did. -/
def supportBalanceSpec : ChangeSpec := { name := "supportBalance", fn := fun _ => fun
  | [d1, d2, d3] => { results := [.lit (.bool true)], args := [d1, d2, d3] }
  | _ => none }
def supportBalanceRow : OpenClaim := { program := "ytpaclgmigndilaa", sum := "289968999386e961d34a30a87764b36b64ff33e00188d2262c6d8a041195463c", func := "speculum/speculumlaw07.SupportBalance", spec := "supportBalance", unfollowed := true, recurses := true, apart := false }
def SupportBalanceSaid : Prop := supportBalanceRow.holds Try.pinned (OpenSpec.ofChange supportBalanceSpec)

/-- ITS FALSE NEIGHBOUR: 'it returns false'. Refute it at one input. -/
def supportBalanceWrong : ChangeSpec := { name := "supportBalance", fn := fun _ => fun
  | [d1, d2, d3] => { results := [.lit (.bool false)], args := [d1, d2, d3] }
  | _ => none }
def SupportBalanceWrongFalsely : Prop := supportBalanceRow.holds Try.pinned (OpenSpec.ofChange supportBalanceWrong)

/-- 'speculumlaw07.SupportPivots': WHATEVER THE INPUT: true; the input reads as it did. -/
def supportPivotsSpec : ChangeSpec := { name := "supportPivots", fn := fun _ => fun
  | [d1, d2] => { results := [.lit (.bool true)], args := [d1, d2] }
  | _ => none }
def supportPivotsRow : OpenClaim := { program := "ytpaclgmigndilaa", sum := "289968999386e961d34a30a87764b36b64ff33e00188d2262c6d8a041195463c", func := "speculum/speculumlaw07.SupportPivots", spec := "supportPivots", unfollowed := true, recurses := true, apart := false }
def SupportPivotsSaid : Prop := supportPivotsRow.holds Try.pinned (OpenSpec.ofChange supportPivotsSpec)

/-- ITS FALSE NEIGHBOUR: 'it returns false'. Refute it at one input. -/
def supportPivotsWrong : ChangeSpec := { name := "supportPivots", fn := fun _ => fun
  | [d1, d2] => { results := [.lit (.bool false)], args := [d1, d2] }
  | _ => none }
def SupportPivotsWrongFalsely : Prop := supportPivotsRow.holds Try.pinned (OpenSpec.ofChange supportPivotsWrong)

/-- 'speculumlaw07.SupportTables': WHATEVER THE INPUT: true; the input reads as it did. -/
def supportTablesSpec : ChangeSpec := { name := "supportTables", fn := fun _ => fun
  | [d1, d2, d3] => { results := [.lit (.bool true)], args := [d1, d2, d3] }
  | _ => none }
def supportTablesRow : OpenClaim := { program := "ytpaclgmigndilaa", sum := "289968999386e961d34a30a87764b36b64ff33e00188d2262c6d8a041195463c", func := "speculum/speculumlaw07.SupportTables", spec := "supportTables", unfollowed := true, recurses := true, apart := false }
def SupportTablesSaid : Prop := supportTablesRow.holds Try.pinned (OpenSpec.ofChange supportTablesSpec)

/-- ITS FALSE NEIGHBOUR: 'it returns false'. Refute it at one input. -/
def supportTablesWrong : ChangeSpec := { name := "supportTables", fn := fun _ => fun
  | [d1, d2, d3] => { results := [.lit (.bool false)], args := [d1, d2, d3] }
  | _ => none }
def SupportTablesWrongFalsely : Prop := supportTablesRow.holds Try.pinned (OpenSpec.ofChange supportTablesWrong)

/-- 'speculumlaw07.SupportTrains': WHATEVER THE INPUT: true; the input reads as it did. -/
def supportTrainsSpec : ChangeSpec := { name := "supportTrains", fn := fun _ => fun
  | [d] => { results := [.lit (.bool true)], args := [d] }
  | _ => none }
def supportTrainsRow : OpenClaim := { program := "ytpaclgmigndilaa", sum := "289968999386e961d34a30a87764b36b64ff33e00188d2262c6d8a041195463c", func := "speculum/speculumlaw07.SupportTrains", spec := "supportTrains", unfollowed := true, recurses := true, apart := false }
def SupportTrainsSaid : Prop := supportTrainsRow.holds Try.pinned (OpenSpec.ofChange supportTrainsSpec)

/-- ITS FALSE NEIGHBOUR: 'it returns false'. Refute it at one input. -/
def supportTrainsWrong : ChangeSpec := { name := "supportTrains", fn := fun _ => fun
  | [d] => { results := [.lit (.bool false)], args := [d] }
  | _ => none }
def SupportTrainsWrongFalsely : Prop := supportTrainsRow.holds Try.pinned (OpenSpec.ofChange supportTrainsWrong)

/-- 'speculumlaw07.SupportDrives': WHATEVER THE INPUT: true; the input reads as it did. -/
def supportDrivesSpec : ChangeSpec := { name := "supportDrives", fn := fun _ => fun
  | [d1, d2, d3] => { results := [.lit (.bool true)], args := [d1, d2, d3] }
  | _ => none }
def supportDrivesRow : OpenClaim := { program := "ytpaclgmigndilaa", sum := "289968999386e961d34a30a87764b36b64ff33e00188d2262c6d8a041195463c", func := "speculum/speculumlaw07.SupportDrives", spec := "supportDrives", unfollowed := true, recurses := true, apart := false }
def SupportDrivesSaid : Prop := supportDrivesRow.holds Try.pinned (OpenSpec.ofChange supportDrivesSpec)

/-- ITS FALSE NEIGHBOUR: 'it returns false'. Refute it at one input. -/
def supportDrivesWrong : ChangeSpec := { name := "supportDrives", fn := fun _ => fun
  | [d1, d2, d3] => { results := [.lit (.bool false)], args := [d1, d2, d3] }
  | _ => none }
def SupportDrivesWrongFalsely : Prop := supportDrivesRow.holds Try.pinned (OpenSpec.ofChange supportDrivesWrong)

/-- 'speculumlaw07.SupportPeriodic': WHATEVER THE INPUT: true; the input reads as it did. -/
def supportPeriodicSpec : ChangeSpec := { name := "supportPeriodic", fn := fun _ => fun
  | [d1, d2] => { results := [.lit (.bool true)], args := [d1, d2] }
  | _ => none }
def supportPeriodicRow : OpenClaim := { program := "ytpaclgmigndilaa", sum := "289968999386e961d34a30a87764b36b64ff33e00188d2262c6d8a041195463c", func := "speculum/speculumlaw07.SupportPeriodic", spec := "supportPeriodic", unfollowed := true, recurses := true, apart := false }
def SupportPeriodicSaid : Prop := supportPeriodicRow.holds Try.pinned (OpenSpec.ofChange supportPeriodicSpec)

/-- ITS FALSE NEIGHBOUR: 'it returns false'. Refute it at one input. -/
def supportPeriodicWrong : ChangeSpec := { name := "supportPeriodic", fn := fun _ => fun
  | [d1, d2] => { results := [.lit (.bool false)], args := [d1, d2] }
  | _ => none }
def SupportPeriodicWrongFalsely : Prop := supportPeriodicRow.holds Try.pinned (OpenSpec.ofChange supportPeriodicWrong)

/- THE SECOND FORM. 'bulk': how many values and letters a reading holds, each counted each time it is reached (what is shared counts as often as it is met; a slice's spare places count too). A statement '..UptoSaid' is the law's where the arguments, and the package variables that the reading takes, are together of bulk at most 1048576: NARROWER than '..Said'. Prove '..Said' where nothing that the law and all that it calls make is longer than what came in: it says more and counts as full. Else prove '..UptoSaid'. A law counts once. -/
mutual
def uptoBulk {H : Type} : DataW H → Nat
  | .lit (.string bytes) => bytes.length + 1
  | .lit _ => 1
  | .nil => 1
  | .ptr d => uptoBulk d + 1
  | .slice elems spare => uptoBulkAll elems + uptoBulkAll spare + 1
  | .agg parts => uptoBulkAll parts + 1
  | .iface _ d => uptoBulk d + 1
  | .map entries => uptoBulkEntries entries + 1
  | .held _ => 1
def uptoBulkAll {H : Type} : List (DataW H) → Nat
  | [] => 0
  | d :: r => uptoBulk d + uptoBulkAll r
def uptoBulkEntries {H : Type} : List (Lit × DataW H) → Nat
  | [] => 0
  | x :: r => uptoBulkEntry x + uptoBulkEntries r
def uptoBulkEntry {H : Type} : Lit × DataW H → Nat
  | (.string bytes, d) => bytes.length + uptoBulk d + 1
  | (_, d) => uptoBulk d + 1
 end
def uptoSmall : (H : Type) → List (DataW H) → Bool := fun _ ds => decide (uptoBulkAll ds ≤ 1048576)
def OpenSpec.upto (s : _root_.Go.ChangeSpec) : _root_.Go.OpenSpec := { _root_.Go.OpenSpec.ofChange s with cond := some uptoSmall }

/-- 'speculumlaw07.SupportPeaks', WHERE WHAT IT READS IS OF BULK AT MOST 1048576: true; the input reads as it did. -/
def supportPeaksUptoRow : OpenClaim := { program := "ytpaclgmigndilaa", sum := "289968999386e961d34a30a87764b36b64ff33e00188d2262c6d8a041195463c", func := "speculum/speculumlaw07.SupportPeaks", spec := "supportPeaks", unfollowed := true, recurses := true, apart := false, narrowed := true }
def SupportPeaksUptoSaid : Prop := supportPeaksUptoRow.holds Try.pinned (OpenSpec.upto supportPeaksSpec)

/-- 'speculumlaw07.SupportConvergents', WHERE WHAT IT READS IS OF BULK AT MOST 1048576: true; the input reads as it did. -/
def supportConvergentsUptoRow : OpenClaim := { program := "ytpaclgmigndilaa", sum := "289968999386e961d34a30a87764b36b64ff33e00188d2262c6d8a041195463c", func := "speculum/speculumlaw07.SupportConvergents", spec := "supportConvergents", unfollowed := true, recurses := true, apart := false, narrowed := true }
def SupportConvergentsUptoSaid : Prop := supportConvergentsUptoRow.holds Try.pinned (OpenSpec.upto supportConvergentsSpec)

/-- 'speculumlaw07.SupportBalance', WHERE WHAT IT READS IS OF BULK AT MOST 1048576: true; the input reads as it did. -/
def supportBalanceUptoRow : OpenClaim := { program := "ytpaclgmigndilaa", sum := "289968999386e961d34a30a87764b36b64ff33e00188d2262c6d8a041195463c", func := "speculum/speculumlaw07.SupportBalance", spec := "supportBalance", unfollowed := true, recurses := true, apart := false, narrowed := true }
def SupportBalanceUptoSaid : Prop := supportBalanceUptoRow.holds Try.pinned (OpenSpec.upto supportBalanceSpec)

/-- 'speculumlaw07.SupportPivots', WHERE WHAT IT READS IS OF BULK AT MOST 1048576: true; the input reads as it did. -/
def supportPivotsUptoRow : OpenClaim := { program := "ytpaclgmigndilaa", sum := "289968999386e961d34a30a87764b36b64ff33e00188d2262c6d8a041195463c", func := "speculum/speculumlaw07.SupportPivots", spec := "supportPivots", unfollowed := true, recurses := true, apart := false, narrowed := true }
def SupportPivotsUptoSaid : Prop := supportPivotsUptoRow.holds Try.pinned (OpenSpec.upto supportPivotsSpec)

/-- 'speculumlaw07.SupportTables', WHERE WHAT IT READS IS OF BULK AT MOST 1048576: true; the input reads as it did. -/
def supportTablesUptoRow : OpenClaim := { program := "ytpaclgmigndilaa", sum := "289968999386e961d34a30a87764b36b64ff33e00188d2262c6d8a041195463c", func := "speculum/speculumlaw07.SupportTables", spec := "supportTables", unfollowed := true, recurses := true, apart := false, narrowed := true }
def SupportTablesUptoSaid : Prop := supportTablesUptoRow.holds Try.pinned (OpenSpec.upto supportTablesSpec)

/-- 'speculumlaw07.SupportTrains', WHERE WHAT IT READS IS OF BULK AT MOST 1048576: true; the input reads as it did. -/
def supportTrainsUptoRow : OpenClaim := { program := "ytpaclgmigndilaa", sum := "289968999386e961d34a30a87764b36b64ff33e00188d2262c6d8a041195463c", func := "speculum/speculumlaw07.SupportTrains", spec := "supportTrains", unfollowed := true, recurses := true, apart := false, narrowed := true }
def SupportTrainsUptoSaid : Prop := supportTrainsUptoRow.holds Try.pinned (OpenSpec.upto supportTrainsSpec)

/-- 'speculumlaw07.SupportDrives', WHERE WHAT IT READS IS OF BULK AT MOST 1048576: true; the input reads as it did. -/
def supportDrivesUptoRow : OpenClaim := { program := "ytpaclgmigndilaa", sum := "289968999386e961d34a30a87764b36b64ff33e00188d2262c6d8a041195463c", func := "speculum/speculumlaw07.SupportDrives", spec := "supportDrives", unfollowed := true, recurses := true, apart := false, narrowed := true }
def SupportDrivesUptoSaid : Prop := supportDrivesUptoRow.holds Try.pinned (OpenSpec.upto supportDrivesSpec)

/-- 'speculumlaw07.SupportPeriodic', WHERE WHAT IT READS IS OF BULK AT MOST 1048576: true; the input reads as it did. -/
def supportPeriodicUptoRow : OpenClaim := { program := "ytpaclgmigndilaa", sum := "289968999386e961d34a30a87764b36b64ff33e00188d2262c6d8a041195463c", func := "speculum/speculumlaw07.SupportPeriodic", spec := "supportPeriodic", unfollowed := true, recurses := true, apart := false, narrowed := true }
def SupportPeriodicUptoSaid : Prop := supportPeriodicUptoRow.holds Try.pinned (OpenSpec.upto supportPeriodicSpec)

end Rows
end Go.Proofs.Ytpaclgmigndilaa
