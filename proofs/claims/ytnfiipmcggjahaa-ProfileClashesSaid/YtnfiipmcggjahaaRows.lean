/-
  No cell of these rows narrows 'for every input' (looked for: loops, veiled, ifaces, maps, wideKeys, modest, calm, conditions, laid).
  DERIVED. THE GIVEN ROWS OF THIS SEAT. 9 by the template 'for every input the law returns true; each argument reads behind the call as it read before'; 0 by the template 'total and deterministic' (their statements: YtnfiipmcggjahaaTotals.lean).
  GIVEN WITH THE SEED: the statements are not yours to turn. If you find one false, say at which input.
  Laid BY PROGRAM, IN A SANDBOX (cutbox-rows.mjs): the forced cells as the released guide's own fill.sh prints them over the translation 141c693c52e22bab… (all of the seat's roots in one cut). By AI agents, Wed Nov 11 2026. No macro, syntax, notation, axiom, sorry.
-/
import Derived.Test.YtnfiipmcggjahaaChecked
import GoSem.Claim
import GoSem.ClaimJoined
import GoSem.ClaimMapViews
import Derived.JoinedTies
import Derived.KernelRfl
namespace Go.Proofs.Ytnfiipmcggjahaa
/- THE CELL 'sum', in the pinned program and in every row, IS THE sha256 OF THE DUMP (.gsa) THAT YtnfiipmcggjahaaProg.lean LOADS. Nothing in Lean hashes anything: it is a label: what it is worth is what the hold of that sum in a sandbox is worth. -/
noncomputable def Try.pinned : Pinned := { name := "ytnfiipmcggjahaa", sum := "141c693c52e22bab02710c07eab62a71148b82dde486702f22b98ce5bcb1d7b1", checked := Try.checked }
namespace Rows
def none {H : Type} : Left H := { results := [], args := [] }

/-- 'speculumlaw05.ProfileEnclosures': WHATEVER THE INPUT: true; the input reads as it did. -/
def profileEnclosuresSpec : ChangeSpec := { name := "profileEnclosures", fn := fun _ => fun
  | [d1, d2] => { results := [.lit (.bool true)], args := [d1, d2] }
  | _ => none }
def profileEnclosuresRow : OpenClaim := { program := "ytnfiipmcggjahaa", sum := "141c693c52e22bab02710c07eab62a71148b82dde486702f22b98ce5bcb1d7b1", func := "speculum/speculumlaw05.ProfileEnclosures", spec := "profileEnclosures", unfollowed := true, recurses := true, apart := false }
def ProfileEnclosuresSaid : Prop := profileEnclosuresRow.holds Try.pinned (OpenSpec.ofChange profileEnclosuresSpec)

/-- ITS FALSE NEIGHBOUR: 'it returns false'. Refute it at one input. -/
def profileEnclosuresWrong : ChangeSpec := { name := "profileEnclosures", fn := fun _ => fun
  | [d1, d2] => { results := [.lit (.bool false)], args := [d1, d2] }
  | _ => none }
def ProfileEnclosuresWrongFalsely : Prop := profileEnclosuresRow.holds Try.pinned (OpenSpec.ofChange profileEnclosuresWrong)

/-- 'speculumlaw05.ProfileClashes': WHATEVER THE INPUT: true; the input reads as it did. -/
def profileClashesSpec : ChangeSpec := { name := "profileClashes", fn := fun _ => fun
  | [d1, d2, d3] => { results := [.lit (.bool true)], args := [d1, d2, d3] }
  | _ => none }
def profileClashesRow : OpenClaim := { program := "ytnfiipmcggjahaa", sum := "141c693c52e22bab02710c07eab62a71148b82dde486702f22b98ce5bcb1d7b1", func := "speculum/speculumlaw05.ProfileClashes", spec := "profileClashes", unfollowed := true, recurses := true, apart := false }
def ProfileClashesSaid : Prop := profileClashesRow.holds Try.pinned (OpenSpec.ofChange profileClashesSpec)

/-- ITS FALSE NEIGHBOUR: 'it returns false'. Refute it at one input. -/
def profileClashesWrong : ChangeSpec := { name := "profileClashes", fn := fun _ => fun
  | [d1, d2, d3] => { results := [.lit (.bool false)], args := [d1, d2, d3] }
  | _ => none }
def ProfileClashesWrongFalsely : Prop := profileClashesRow.holds Try.pinned (OpenSpec.ofChange profileClashesWrong)

/-- 'speculumlaw05.ProfilePairs': WHATEVER THE INPUT: true; the input reads as it did. -/
def profilePairsSpec : ChangeSpec := { name := "profilePairs", fn := fun _ => fun
  | [d1, d2, d3] => { results := [.lit (.bool true)], args := [d1, d2, d3] }
  | _ => none }
def profilePairsRow : OpenClaim := { program := "ytnfiipmcggjahaa", sum := "141c693c52e22bab02710c07eab62a71148b82dde486702f22b98ce5bcb1d7b1", func := "speculum/speculumlaw05.ProfilePairs", spec := "profilePairs", unfollowed := true, recurses := true, apart := false }
def ProfilePairsSaid : Prop := profilePairsRow.holds Try.pinned (OpenSpec.ofChange profilePairsSpec)

/-- ITS FALSE NEIGHBOUR: 'it returns false'. Refute it at one input. -/
def profilePairsWrong : ChangeSpec := { name := "profilePairs", fn := fun _ => fun
  | [d1, d2, d3] => { results := [.lit (.bool false)], args := [d1, d2, d3] }
  | _ => none }
def ProfilePairsWrongFalsely : Prop := profilePairsRow.holds Try.pinned (OpenSpec.ofChange profilePairsWrong)

/-- 'speculumlaw05.ProfileReaches': WHATEVER THE INPUT: true; the input reads as it did. -/
def profileReachesSpec : ChangeSpec := { name := "profileReaches", fn := fun _ => fun
  | [d1, d2, d3] => { results := [.lit (.bool true)], args := [d1, d2, d3] }
  | _ => none }
def profileReachesRow : OpenClaim := { program := "ytnfiipmcggjahaa", sum := "141c693c52e22bab02710c07eab62a71148b82dde486702f22b98ce5bcb1d7b1", func := "speculum/speculumlaw05.ProfileReaches", spec := "profileReaches", unfollowed := true, recurses := true, apart := false }
def ProfileReachesSaid : Prop := profileReachesRow.holds Try.pinned (OpenSpec.ofChange profileReachesSpec)

/-- ITS FALSE NEIGHBOUR: 'it returns false'. Refute it at one input. -/
def profileReachesWrong : ChangeSpec := { name := "profileReaches", fn := fun _ => fun
  | [d1, d2, d3] => { results := [.lit (.bool false)], args := [d1, d2, d3] }
  | _ => none }
def ProfileReachesWrongFalsely : Prop := profileReachesRow.holds Try.pinned (OpenSpec.ofChange profileReachesWrong)

/-- 'speculumlaw05.ProfileHeights': WHATEVER THE INPUT: true; the input reads as it did. -/
def profileHeightsSpec : ChangeSpec := { name := "profileHeights", fn := fun _ => fun
  | [d1, d2, d3] => { results := [.lit (.bool true)], args := [d1, d2, d3] }
  | _ => none }
def profileHeightsRow : OpenClaim := { program := "ytnfiipmcggjahaa", sum := "141c693c52e22bab02710c07eab62a71148b82dde486702f22b98ce5bcb1d7b1", func := "speculum/speculumlaw05.ProfileHeights", spec := "profileHeights", unfollowed := true, recurses := true, apart := false }
def ProfileHeightsSaid : Prop := profileHeightsRow.holds Try.pinned (OpenSpec.ofChange profileHeightsSpec)

/-- ITS FALSE NEIGHBOUR: 'it returns false'. Refute it at one input. -/
def profileHeightsWrong : ChangeSpec := { name := "profileHeights", fn := fun _ => fun
  | [d1, d2, d3] => { results := [.lit (.bool false)], args := [d1, d2, d3] }
  | _ => none }
def ProfileHeightsWrongFalsely : Prop := profileHeightsRow.holds Try.pinned (OpenSpec.ofChange profileHeightsWrong)

/-- 'speculumlaw05.ProfileNeedless': WHATEVER THE INPUT: true; the input reads as it did. -/
def profileNeedlessSpec : ChangeSpec := { name := "profileNeedless", fn := fun _ => fun
  | [d1, d2] => { results := [.lit (.bool true)], args := [d1, d2] }
  | _ => none }
def profileNeedlessRow : OpenClaim := { program := "ytnfiipmcggjahaa", sum := "141c693c52e22bab02710c07eab62a71148b82dde486702f22b98ce5bcb1d7b1", func := "speculum/speculumlaw05.ProfileNeedless", spec := "profileNeedless", unfollowed := true, recurses := true, apart := false }
def ProfileNeedlessSaid : Prop := profileNeedlessRow.holds Try.pinned (OpenSpec.ofChange profileNeedlessSpec)

/-- ITS FALSE NEIGHBOUR: 'it returns false'. Refute it at one input. -/
def profileNeedlessWrong : ChangeSpec := { name := "profileNeedless", fn := fun _ => fun
  | [d1, d2] => { results := [.lit (.bool false)], args := [d1, d2] }
  | _ => none }
def ProfileNeedlessWrongFalsely : Prop := profileNeedlessRow.holds Try.pinned (OpenSpec.ofChange profileNeedlessWrong)

/-- 'speculumlaw05.ProfileGains': WHATEVER THE INPUT: true; the input reads as it did. -/
def profileGainsSpec : ChangeSpec := { name := "profileGains", fn := fun _ => fun
  | [d1, d2, d3] => { results := [.lit (.bool true)], args := [d1, d2, d3] }
  | _ => none }
def profileGainsRow : OpenClaim := { program := "ytnfiipmcggjahaa", sum := "141c693c52e22bab02710c07eab62a71148b82dde486702f22b98ce5bcb1d7b1", func := "speculum/speculumlaw05.ProfileGains", spec := "profileGains", unfollowed := true, recurses := true, apart := false }
def ProfileGainsSaid : Prop := profileGainsRow.holds Try.pinned (OpenSpec.ofChange profileGainsSpec)

/-- ITS FALSE NEIGHBOUR: 'it returns false'. Refute it at one input. -/
def profileGainsWrong : ChangeSpec := { name := "profileGains", fn := fun _ => fun
  | [d1, d2, d3] => { results := [.lit (.bool false)], args := [d1, d2, d3] }
  | _ => none }
def ProfileGainsWrongFalsely : Prop := profileGainsRow.holds Try.pinned (OpenSpec.ofChange profileGainsWrong)

/-- 'speculumlaw05.ProfileBoth': WHATEVER THE INPUT: true; the input reads as it did. -/
def profileBothSpec : ChangeSpec := { name := "profileBoth", fn := fun _ => fun
  | [d1, d2, d3] => { results := [.lit (.bool true)], args := [d1, d2, d3] }
  | _ => none }
def profileBothRow : OpenClaim := { program := "ytnfiipmcggjahaa", sum := "141c693c52e22bab02710c07eab62a71148b82dde486702f22b98ce5bcb1d7b1", func := "speculum/speculumlaw05.ProfileBoth", spec := "profileBoth", unfollowed := true, recurses := true, apart := false }
def ProfileBothSaid : Prop := profileBothRow.holds Try.pinned (OpenSpec.ofChange profileBothSpec)

/-- ITS FALSE NEIGHBOUR: 'it returns false'. Refute it at one input. -/
def profileBothWrong : ChangeSpec := { name := "profileBoth", fn := fun _ => fun
  | [d1, d2, d3] => { results := [.lit (.bool false)], args := [d1, d2, d3] }
  | _ => none }
def ProfileBothWrongFalsely : Prop := profileBothRow.holds Try.pinned (OpenSpec.ofChange profileBothWrong)

/-- 'speculumlaw05.ProfileUnwraps': WHATEVER THE INPUT: true; the input reads as it did. -/
def profileUnwrapsSpec : ChangeSpec := { name := "profileUnwraps", fn := fun _ => fun
  | [d] => { results := [.lit (.bool true)], args := [d] }
  | _ => none }
def profileUnwrapsRow : OpenClaim := { program := "ytnfiipmcggjahaa", sum := "141c693c52e22bab02710c07eab62a71148b82dde486702f22b98ce5bcb1d7b1", func := "speculum/speculumlaw05.ProfileUnwraps", spec := "profileUnwraps", unfollowed := true, recurses := true, apart := false }
def ProfileUnwrapsSaid : Prop := profileUnwrapsRow.holds Try.pinned (OpenSpec.ofChange profileUnwrapsSpec)

/-- ITS FALSE NEIGHBOUR: 'it returns false'. Refute it at one input. -/
def profileUnwrapsWrong : ChangeSpec := { name := "profileUnwraps", fn := fun _ => fun
  | [d] => { results := [.lit (.bool false)], args := [d] }
  | _ => none }
def ProfileUnwrapsWrongFalsely : Prop := profileUnwrapsRow.holds Try.pinned (OpenSpec.ofChange profileUnwrapsWrong)

/- THE SECOND FORM. 'bulk': how many values and letters a reading holds, each counted each time it is reached (what is shared counts as often as it is met; a slice's spare places count too). A statement '..UptoSaid' is the law's where the arguments, and the package variables that the reading takes, are together of bulk at most 1048576: NARROWER than '..Said'. Prove '..Said' where nothing that the law and all that it calls make is longer than what came in: it says more and counts as full. Else prove '..UptoSaid'. A law counts once. -/
mutual
def uptoBulk {H : Type} : DataW H → Nat
  | .lit (.string bytes) => bytes.length + 1
  | .lit _ => 1
  | .nil => 1
  | .ptr d => uptoBulk d + 1
  | .slice elems spare => uptoBulkAll elems + uptoBulkAll spare + 1
  | .agg parts => uptoBulkAll parts + 1
  | .iface _ d => uptoBulk d + 1
  | .map entries => uptoBulkEntries entries + 1
  | .held _ => 1
def uptoBulkAll {H : Type} : List (DataW H) → Nat
  | [] => 0
  | d :: r => uptoBulk d + uptoBulkAll r
def uptoBulkEntries {H : Type} : List (Lit × DataW H) → Nat
  | [] => 0
  | x :: r => uptoBulkEntry x + uptoBulkEntries r
def uptoBulkEntry {H : Type} : Lit × DataW H → Nat
  | (.string bytes, d) => bytes.length + uptoBulk d + 1
  | (_, d) => uptoBulk d + 1
 end
def uptoSmall : (H : Type) → List (DataW H) → Bool := fun _ ds => decide (uptoBulkAll ds ≤ 1048576)
def OpenSpec.upto (s : _root_.Go.ChangeSpec) : _root_.Go.OpenSpec := { _root_.Go.OpenSpec.ofChange s with cond := some uptoSmall }

/-- 'speculumlaw05.ProfileEnclosures', WHERE WHAT IT READS IS OF BULK AT MOST 1048576: true; the input reads as it did. -/
def profileEnclosuresUptoRow : OpenClaim := { program := "ytnfiipmcggjahaa", sum := "141c693c52e22bab02710c07eab62a71148b82dde486702f22b98ce5bcb1d7b1", func := "speculum/speculumlaw05.ProfileEnclosures", spec := "profileEnclosures", unfollowed := true, recurses := true, apart := false, narrowed := true }
def ProfileEnclosuresUptoSaid : Prop := profileEnclosuresUptoRow.holds Try.pinned (OpenSpec.upto profileEnclosuresSpec)

/-- 'speculumlaw05.ProfileClashes', WHERE WHAT IT READS IS OF BULK AT MOST 1048576: true; the input reads as it did. -/
def profileClashesUptoRow : OpenClaim := { program := "ytnfiipmcggjahaa", sum := "141c693c52e22bab02710c07eab62a71148b82dde486702f22b98ce5bcb1d7b1", func := "speculum/speculumlaw05.ProfileClashes", spec := "profileClashes", unfollowed := true, recurses := true, apart := false, narrowed := true }
def ProfileClashesUptoSaid : Prop := profileClashesUptoRow.holds Try.pinned (OpenSpec.upto profileClashesSpec)

/-- 'speculumlaw05.ProfilePairs', WHERE WHAT IT READS IS OF BULK AT MOST 1048576: true; the input reads as it did. -/
def profilePairsUptoRow : OpenClaim := { program := "ytnfiipmcggjahaa", sum := "141c693c52e22bab02710c07eab62a71148b82dde486702f22b98ce5bcb1d7b1", func := "speculum/speculumlaw05.ProfilePairs", spec := "profilePairs", unfollowed := true, recurses := true, apart := false, narrowed := true }
def ProfilePairsUptoSaid : Prop := profilePairsUptoRow.holds Try.pinned (OpenSpec.upto profilePairsSpec)

/-- 'speculumlaw05.ProfileReaches', WHERE WHAT IT READS IS OF BULK AT MOST 1048576: true; the input reads as it did. -/
def profileReachesUptoRow : OpenClaim := { program := "ytnfiipmcggjahaa", sum := "141c693c52e22bab02710c07eab62a71148b82dde486702f22b98ce5bcb1d7b1", func := "speculum/speculumlaw05.ProfileReaches", spec := "profileReaches", unfollowed := true, recurses := true, apart := false, narrowed := true }
def ProfileReachesUptoSaid : Prop := profileReachesUptoRow.holds Try.pinned (OpenSpec.upto profileReachesSpec)

/-- 'speculumlaw05.ProfileHeights', WHERE WHAT IT READS IS OF BULK AT MOST 1048576: true; the input reads as it did. -/
def profileHeightsUptoRow : OpenClaim := { program := "ytnfiipmcggjahaa", sum := "141c693c52e22bab02710c07eab62a71148b82dde486702f22b98ce5bcb1d7b1", func := "speculum/speculumlaw05.ProfileHeights", spec := "profileHeights", unfollowed := true, recurses := true, apart := false, narrowed := true }
def ProfileHeightsUptoSaid : Prop := profileHeightsUptoRow.holds Try.pinned (OpenSpec.upto profileHeightsSpec)

/-- 'speculumlaw05.ProfileNeedless', WHERE WHAT IT READS IS OF BULK AT MOST 1048576: true; the input reads as it did. -/
def profileNeedlessUptoRow : OpenClaim := { program := "ytnfiipmcggjahaa", sum := "141c693c52e22bab02710c07eab62a71148b82dde486702f22b98ce5bcb1d7b1", func := "speculum/speculumlaw05.ProfileNeedless", spec := "profileNeedless", unfollowed := true, recurses := true, apart := false, narrowed := true }
def ProfileNeedlessUptoSaid : Prop := profileNeedlessUptoRow.holds Try.pinned (OpenSpec.upto profileNeedlessSpec)

/-- 'speculumlaw05.ProfileGains', WHERE WHAT IT READS IS OF BULK AT MOST 1048576: true; the input reads as it did. -/
def profileGainsUptoRow : OpenClaim := { program := "ytnfiipmcggjahaa", sum := "141c693c52e22bab02710c07eab62a71148b82dde486702f22b98ce5bcb1d7b1", func := "speculum/speculumlaw05.ProfileGains", spec := "profileGains", unfollowed := true, recurses := true, apart := false, narrowed := true }
def ProfileGainsUptoSaid : Prop := profileGainsUptoRow.holds Try.pinned (OpenSpec.upto profileGainsSpec)

/-- 'speculumlaw05.ProfileBoth', WHERE WHAT IT READS IS OF BULK AT MOST 1048576: true; the input reads as it did. -/
def profileBothUptoRow : OpenClaim := { program := "ytnfiipmcggjahaa", sum := "141c693c52e22bab02710c07eab62a71148b82dde486702f22b98ce5bcb1d7b1", func := "speculum/speculumlaw05.ProfileBoth", spec := "profileBoth", unfollowed := true, recurses := true, apart := false, narrowed := true }
def ProfileBothUptoSaid : Prop := profileBothUptoRow.holds Try.pinned (OpenSpec.upto profileBothSpec)

/-- 'speculumlaw05.ProfileUnwraps', WHERE WHAT IT READS IS OF BULK AT MOST 1048576: true; the input reads as it did. -/
def profileUnwrapsUptoRow : OpenClaim := { program := "ytnfiipmcggjahaa", sum := "141c693c52e22bab02710c07eab62a71148b82dde486702f22b98ce5bcb1d7b1", func := "speculum/speculumlaw05.ProfileUnwraps", spec := "profileUnwraps", unfollowed := true, recurses := true, apart := false, narrowed := true }
def ProfileUnwrapsUptoSaid : Prop := profileUnwrapsUptoRow.holds Try.pinned (OpenSpec.upto profileUnwrapsSpec)

end Rows
end Go.Proofs.Ytnfiipmcggjahaa
