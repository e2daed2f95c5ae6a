/-
  No cell of these rows narrows 'for every input' (looked for: loops, veiled, ifaces, maps, wideKeys, modest, calm, conditions, laid).
  DERIVED. THE GIVEN ROWS OF THIS SEAT. 3 by the template 'for every input the law returns true; each argument reads behind the call as it read before'; 0 by the template 'total and deterministic' (their statements: YtjhclaollpkdgaaTotals.lean).
  GIVEN WITH THE SEED: the statements are not yours to turn. If you find one false, say at which input.
  Laid BY PROGRAM, IN A SANDBOX (cutbox-rows.mjs): the forced cells as the released guide's own fill.sh prints them over the translation caed768a718e7c5a… (all of the seat's roots in one cut). By AI agents, Wed Nov 11 2026. No macro, syntax, notation, axiom, sorry.
-/
import Derived.Test.YtjhclaollpkdgaaChecked
import GoSem.Claim
import GoSem.ClaimJoined
import GoSem.ClaimMapViews
import Derived.JoinedTies
import Derived.KernelRfl
namespace Go.Proofs.Ytjhclaollpkdgaa
/- THE CELL 'sum', in the pinned program and in every row, IS THE sha256 OF THE DUMP (.gsa) THAT YtjhclaollpkdgaaProg.lean LOADS. Nothing in Lean hashes anything: it is a label: what it is worth is what the hold of that sum in a sandbox is worth. -/
noncomputable def Try.pinned : Pinned := { name := "ytjhclaollpkdgaa", sum := "caed768a718e7c5ae1f8bd88dae3ff379e12963ff17d2bb4f915f5003fe865e1", checked := Try.checked }
namespace Rows
def none {H : Type} : Left H := { results := [], args := [] }

/-- 'speculumlaw04.GrindShortest': WHATEVER THE INPUT: true; the input reads as it did. -/
def grindShortestSpec : ChangeSpec := { name := "grindShortest", fn := fun _ => fun
  | [d1, d2] => { results := [.lit (.bool true)], args := [d1, d2] }
  | _ => none }
def grindShortestRow : OpenClaim := { program := "ytjhclaollpkdgaa", sum := "caed768a718e7c5ae1f8bd88dae3ff379e12963ff17d2bb4f915f5003fe865e1", func := "speculum/speculumlaw04.GrindShortest", spec := "grindShortest", unfollowed := true, recurses := true, apart := false }
def GrindShortestSaid : Prop := grindShortestRow.holds Try.pinned (OpenSpec.ofChange grindShortestSpec)

/-- ITS FALSE NEIGHBOUR: 'it returns false'. Refute it at one input. -/
def grindShortestWrong : ChangeSpec := { name := "grindShortest", fn := fun _ => fun
  | [d1, d2] => { results := [.lit (.bool false)], args := [d1, d2] }
  | _ => none }
def GrindShortestWrongFalsely : Prop := grindShortestRow.holds Try.pinned (OpenSpec.ofChange grindShortestWrong)

/-- 'speculumlaw04.GrindDeeper': WHATEVER THE INPUT: true; the input reads as it did. -/
def grindDeeperSpec : ChangeSpec := { name := "grindDeeper", fn := fun _ => fun
  | [d1, d2, d3] => { results := [.lit (.bool true)], args := [d1, d2, d3] }
  | _ => none }
def grindDeeperRow : OpenClaim := { program := "ytjhclaollpkdgaa", sum := "caed768a718e7c5ae1f8bd88dae3ff379e12963ff17d2bb4f915f5003fe865e1", func := "speculum/speculumlaw04.GrindDeeper", spec := "grindDeeper", unfollowed := true, recurses := true, apart := false }
def GrindDeeperSaid : Prop := grindDeeperRow.holds Try.pinned (OpenSpec.ofChange grindDeeperSpec)

/-- ITS FALSE NEIGHBOUR: 'it returns false'. Refute it at one input. -/
def grindDeeperWrong : ChangeSpec := { name := "grindDeeper", fn := fun _ => fun
  | [d1, d2, d3] => { results := [.lit (.bool false)], args := [d1, d2, d3] }
  | _ => none }
def GrindDeeperWrongFalsely : Prop := grindDeeperRow.holds Try.pinned (OpenSpec.ofChange grindDeeperWrong)

/-- 'speculumlaw04.GrindAdds': WHATEVER THE INPUT: true; the input reads as it did. -/
def grindAddsSpec : ChangeSpec := { name := "grindAdds", fn := fun _ => fun
  | [d1, d2] => { results := [.lit (.bool true)], args := [d1, d2] }
  | _ => none }
def grindAddsRow : OpenClaim := { program := "ytjhclaollpkdgaa", sum := "caed768a718e7c5ae1f8bd88dae3ff379e12963ff17d2bb4f915f5003fe865e1", func := "speculum/speculumlaw04.GrindAdds", spec := "grindAdds", unfollowed := true, recurses := true, apart := false }
def GrindAddsSaid : Prop := grindAddsRow.holds Try.pinned (OpenSpec.ofChange grindAddsSpec)

/-- ITS FALSE NEIGHBOUR: 'it returns false'. Refute it at one input. -/
def grindAddsWrong : ChangeSpec := { name := "grindAdds", fn := fun _ => fun
  | [d1, d2] => { results := [.lit (.bool false)], args := [d1, d2] }
  | _ => none }
def GrindAddsWrongFalsely : Prop := grindAddsRow.holds Try.pinned (OpenSpec.ofChange grindAddsWrong)

/- THE SECOND FORM. 'bulk': how many values and letters a reading holds, each counted each time it is reached (what is shared counts as often as it is met; a slice's spare places count too). A statement '..UptoSaid' is the law's where the arguments, and the package variables that the reading takes, are together of bulk at most 1048576: NARROWER than '..Said'. Prove '..Said' where nothing that the law and all that it calls make is longer than what came in: it says more and counts as full. Else prove '..UptoSaid'. A law counts once. -/
mutual
def uptoBulk {H : Type} : DataW H → Nat
  | .lit (.string bytes) => bytes.length + 1
  | .lit _ => 1
  | .nil => 1
  | .ptr d => uptoBulk d + 1
  | .slice elems spare => uptoBulkAll elems + uptoBulkAll spare + 1
  | .agg parts => uptoBulkAll parts + 1
  | .iface _ d => uptoBulk d + 1
  | .map entries => uptoBulkEntries entries + 1
  | .held _ => 1
def uptoBulkAll {H : Type} : List (DataW H) → Nat
  | [] => 0
  | d :: r => uptoBulk d + uptoBulkAll r
def uptoBulkEntries {H : Type} : List (Lit × DataW H) → Nat
  | [] => 0
  | x :: r => uptoBulkEntry x + uptoBulkEntries r
def uptoBulkEntry {H : Type} : Lit × DataW H → Nat
  | (.string bytes, d) => bytes.length + uptoBulk d + 1
  | (_, d) => uptoBulk d + 1
 end
def uptoSmall : (H : Type) → List (DataW H) → Bool := fun _ ds => decide (uptoBulkAll ds ≤ 1048576)
def OpenSpec.upto (s : _root_.Go.ChangeSpec) : _root_.Go.OpenSpec := { _root_.Go.OpenSpec.ofChange s with cond := some uptoSmall }

/-- 'speculumlaw04.GrindShortest', WHERE WHAT IT READS IS OF BULK AT MOST 1048576: true; the input reads as it did. -/
def grindShortestUptoRow : OpenClaim := { program := "ytjhclaollpkdgaa", sum := "caed768a718e7c5ae1f8bd88dae3ff379e12963ff17d2bb4f915f5003fe865e1", func := "speculum/speculumlaw04.GrindShortest", spec := "grindShortest", unfollowed := true, recurses := true, apart := false, narrowed := true }
def GrindShortestUptoSaid : Prop := grindShortestUptoRow.holds Try.pinned (OpenSpec.upto grindShortestSpec)

/-- 'speculumlaw04.GrindDeeper', WHERE WHAT IT READS IS OF BULK AT MOST 1048576: true; the input reads as it did. -/
def grindDeeperUptoRow : OpenClaim := { program := "ytjhclaollpkdgaa", sum := "caed768a718e7c5ae1f8bd88dae3ff379e12963ff17d2bb4f915f5003fe865e1", func := "speculum/speculumlaw04.GrindDeeper", spec := "grindDeeper", unfollowed := true, recurses := true, apart := false, narrowed := true }
def GrindDeeperUptoSaid : Prop := grindDeeperUptoRow.holds Try.pinned (OpenSpec.upto grindDeeperSpec)

/-- 'speculumlaw04.GrindAdds', WHERE WHAT IT READS IS OF BULK AT MOST 1048576: true; the input reads as it did. -/
def grindAddsUptoRow : OpenClaim := { program := "ytjhclaollpkdgaa", sum := "caed768a718e7c5ae1f8bd88dae3ff379e12963ff17d2bb4f915f5003fe865e1", func := "speculum/speculumlaw04.GrindAdds", spec := "grindAdds", unfollowed := true, recurses := true, apart := false, narrowed := true }
def GrindAddsUptoSaid : Prop := grindAddsUptoRow.holds Try.pinned (OpenSpec.upto grindAddsSpec)

end Rows
end Go.Proofs.Ytjhclaollpkdgaa
