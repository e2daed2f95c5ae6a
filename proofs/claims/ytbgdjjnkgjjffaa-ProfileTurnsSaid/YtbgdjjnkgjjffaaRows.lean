/-
  No cell of these rows narrows 'for every input' (looked for: loops, veiled, ifaces, maps, wideKeys, modest, calm, conditions, laid).
  DERIVED. THE GIVEN ROWS OF THIS SEAT. 3 by the template 'for every input the law returns true; each argument reads behind the call as it read before'; 0 by the template 'total and deterministic' (their statements: YtbgdjjnkgjjffaaTotals.lean).
  GIVEN WITH THE SEED: the statements are not yours to turn. If you find one false, say at which input.
  Laid BY PROGRAM, IN A SANDBOX (cutbox-rows.mjs): the forced cells as the released guide's own fill.sh prints them over the translation d29f5cb678b3ca43… (all of the seat's roots in one cut). By AI agents, Wed Nov 11 2026. No macro, syntax, notation, axiom, sorry.
-/
import Derived.Test.YtbgdjjnkgjjffaaChecked
import GoSem.Claim
import GoSem.ClaimJoined
import GoSem.ClaimMapViews
import Derived.JoinedTies
import Derived.KernelRfl
namespace Go.Proofs.Ytbgdjjnkgjjffaa
/- THE CELL 'sum', in the pinned program and in every row, IS THE sha256 OF THE DUMP (.gsa) THAT YtbgdjjnkgjjffaaProg.lean LOADS. Nothing in Lean hashes anything: it is a label: what it is worth is what the hold of that sum in a sandbox is worth. -/
noncomputable def Try.pinned : Pinned := { name := "ytbgdjjnkgjjffaa", sum := "d29f5cb678b3ca434c9fd2bfdd8bb69a0c3ab93c706dfe6eea7bad680017a9e4", checked := Try.checked }
namespace Rows
def none {H : Type} : Left H := { results := [], args := [] }

/-- 'speculumlaw05.ProfileTurns': WHATEVER THE INPUT: true; the input reads as it did. -/
def profileTurnsSpec : ChangeSpec := { name := "profileTurns", fn := fun _ => fun
  | [d] => { results := [.lit (.bool true)], args := [d] }
  | _ => none }
def profileTurnsRow : OpenClaim := { program := "ytbgdjjnkgjjffaa", sum := "d29f5cb678b3ca434c9fd2bfdd8bb69a0c3ab93c706dfe6eea7bad680017a9e4", func := "speculum/speculumlaw05.ProfileTurns", spec := "profileTurns", unfollowed := true, recurses := true, apart := false }
def ProfileTurnsSaid : Prop := profileTurnsRow.holds Try.pinned (OpenSpec.ofChange profileTurnsSpec)

/-- ITS FALSE NEIGHBOUR: 'it returns false'. Refute it at one input. -/
def profileTurnsWrong : ChangeSpec := { name := "profileTurns", fn := fun _ => fun
  | [d] => { results := [.lit (.bool false)], args := [d] }
  | _ => none }
def ProfileTurnsWrongFalsely : Prop := profileTurnsRow.holds Try.pinned (OpenSpec.ofChange profileTurnsWrong)

/-- 'speculumlaw05.ProfileZero': WHATEVER THE INPUT: true; the input reads as it did. -/
def profileZeroSpec : ChangeSpec := { name := "profileZero", fn := fun _ => fun
  | [d1, d2] => { results := [.lit (.bool true)], args := [d1, d2] }
  | _ => none }
def profileZeroRow : OpenClaim := { program := "ytbgdjjnkgjjffaa", sum := "d29f5cb678b3ca434c9fd2bfdd8bb69a0c3ab93c706dfe6eea7bad680017a9e4", func := "speculum/speculumlaw05.ProfileZero", spec := "profileZero", unfollowed := true, recurses := true, apart := false }
def ProfileZeroSaid : Prop := profileZeroRow.holds Try.pinned (OpenSpec.ofChange profileZeroSpec)

/-- ITS FALSE NEIGHBOUR: 'it returns false'. Refute it at one input. -/
def profileZeroWrong : ChangeSpec := { name := "profileZero", fn := fun _ => fun
  | [d1, d2] => { results := [.lit (.bool false)], args := [d1, d2] }
  | _ => none }
def ProfileZeroWrongFalsely : Prop := profileZeroRow.holds Try.pinned (OpenSpec.ofChange profileZeroWrong)

/-- 'speculumlaw05.ProfileFits': WHATEVER THE INPUT: true; the input reads as it did. -/
def profileFitsSpec : ChangeSpec := { name := "profileFits", fn := fun _ => fun
  | [d1, d2, d3] => { results := [.lit (.bool true)], args := [d1, d2, d3] }
  | _ => none }
def profileFitsRow : OpenClaim := { program := "ytbgdjjnkgjjffaa", sum := "d29f5cb678b3ca434c9fd2bfdd8bb69a0c3ab93c706dfe6eea7bad680017a9e4", func := "speculum/speculumlaw05.ProfileFits", spec := "profileFits", unfollowed := true, recurses := true, apart := false }
def ProfileFitsSaid : Prop := profileFitsRow.holds Try.pinned (OpenSpec.ofChange profileFitsSpec)

/-- ITS FALSE NEIGHBOUR: 'it returns false'. Refute it at one input. -/
def profileFitsWrong : ChangeSpec := { name := "profileFits", fn := fun _ => fun
  | [d1, d2, d3] => { results := [.lit (.bool false)], args := [d1, d2, d3] }
  | _ => none }
def ProfileFitsWrongFalsely : Prop := profileFitsRow.holds Try.pinned (OpenSpec.ofChange profileFitsWrong)

/- THE SECOND FORM. 'bulk': how many values and letters a reading holds, each counted each time it is reached (what is shared counts as often as it is met; a slice's spare places count too). A statement '..UptoSaid' is the law's where the arguments, and the package variables that the reading takes, are together of bulk at most 1048576: NARROWER than '..Said'. Prove '..Said' where nothing that the law and all that it calls make is longer than what came in: it says more and counts as full. Else prove '..UptoSaid'. A law counts once. -/
mutual
def uptoBulk {H : Type} : DataW H → Nat
  | .lit (.string bytes) => bytes.length + 1
  | .lit _ => 1
  | .nil => 1
  | .ptr d => uptoBulk d + 1
  | .slice elems spare => uptoBulkAll elems + uptoBulkAll spare + 1
  | .agg parts => uptoBulkAll parts + 1
  | .iface _ d => uptoBulk d + 1
  | .map entries => uptoBulkEntries entries + 1
  | .held _ => 1
def uptoBulkAll {H : Type} : List (DataW H) → Nat
  | [] => 0
  | d :: r => uptoBulk d + uptoBulkAll r
def uptoBulkEntries {H : Type} : List (Lit × DataW H) → Nat
  | [] => 0
  | x :: r => uptoBulkEntry x + uptoBulkEntries r
def uptoBulkEntry {H : Type} : Lit × DataW H → Nat
  | (.string bytes, d) => bytes.length + uptoBulk d + 1
  | (_, d) => uptoBulk d + 1
 end
def uptoSmall : (H : Type) → List (DataW H) → Bool := fun _ ds => decide (uptoBulkAll ds ≤ 1048576)
def OpenSpec.upto (s : _root_.Go.ChangeSpec) : _root_.Go.OpenSpec := { _root_.Go.OpenSpec.ofChange s with cond := some uptoSmall }

/-- 'speculumlaw05.ProfileTurns', WHERE WHAT IT READS IS OF BULK AT MOST 1048576: true; the input reads as it did. -/
def profileTurnsUptoRow : OpenClaim := { program := "ytbgdjjnkgjjffaa", sum := "d29f5cb678b3ca434c9fd2bfdd8bb69a0c3ab93c706dfe6eea7bad680017a9e4", func := "speculum/speculumlaw05.ProfileTurns", spec := "profileTurns", unfollowed := true, recurses := true, apart := false, narrowed := true }
def ProfileTurnsUptoSaid : Prop := profileTurnsUptoRow.holds Try.pinned (OpenSpec.upto profileTurnsSpec)

/-- 'speculumlaw05.ProfileZero', WHERE WHAT IT READS IS OF BULK AT MOST 1048576: true; the input reads as it did. -/
def profileZeroUptoRow : OpenClaim := { program := "ytbgdjjnkgjjffaa", sum := "d29f5cb678b3ca434c9fd2bfdd8bb69a0c3ab93c706dfe6eea7bad680017a9e4", func := "speculum/speculumlaw05.ProfileZero", spec := "profileZero", unfollowed := true, recurses := true, apart := false, narrowed := true }
def ProfileZeroUptoSaid : Prop := profileZeroUptoRow.holds Try.pinned (OpenSpec.upto profileZeroSpec)

/-- 'speculumlaw05.ProfileFits', WHERE WHAT IT READS IS OF BULK AT MOST 1048576: true; the input reads as it did. -/
def profileFitsUptoRow : OpenClaim := { program := "ytbgdjjnkgjjffaa", sum := "d29f5cb678b3ca434c9fd2bfdd8bb69a0c3ab93c706dfe6eea7bad680017a9e4", func := "speculum/speculumlaw05.ProfileFits", spec := "profileFits", unfollowed := true, recurses := true, apart := false, narrowed := true }
def ProfileFitsUptoSaid : Prop := profileFitsUptoRow.holds Try.pinned (OpenSpec.upto profileFitsSpec)

end Rows
end Go.Proofs.Ytbgdjjnkgjjffaa
