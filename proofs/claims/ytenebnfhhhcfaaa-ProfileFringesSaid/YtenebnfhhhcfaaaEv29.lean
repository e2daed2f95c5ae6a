import Derived.Test.YtenebnfhhhcfaaaEv28
import Derived.Below
set_option linter.unusedVariables false
set_option linter.unusedSimpArgs false
namespace Go.Proofs.Ytenebnfhhhcfaaa.Ev
open Go
def Qsg (P : Program) : Bool := P.funcs.toList.all fun fn => !(fn.name == "runtime.NumGoroutine")
theorem Qq1 {P : Program} (h : Qsg P = true) : Named P := by
 intro f fn hf
 have := List.all_eq_true.1 h fn (Array.mem_toList_iff.2 (Array.mem_of_getElem? hf))
 simpa using this
theorem Qqc (P : Program) (w : World) : Rep .nil 0 (W9 .nil 0) /\ WRel P w.heap.size (fun _ => none) (W9 .nil 0) w := by
 refine ⟨Rep.Qfq .nil (by omega), Nat.le_refl _, ?_, ?_, ?_⟩
 ·intro b x h; cases h
 ·intro b o x _ _ h; cases h
 ·intro b b' o o' x x' _ _ _ _ h; cases h
theorem Qja {P : Program} {O : Orc P} {n : Nat} {f : FuncId} (hm : P.follows .mixedOrders = true) (hn : Named P) (h : Qlu O n f = true) (w : World) :
 Calls P f #[] w fun e w' => e = .returned (.bool true) /\ Go.RowKit.Below w.heap.size w w' := by
 unfold Qlu at h
 split at h
 case h_2 => cases h
 rename_i HN hc
 obtain ⟨H, N⟩ := HN
 refine (callsIn_wide (n := 0)).1 ?_
 show CallsIn (fen none) 0 P f (([] : List Value).toArray) w _
 obtain ⟨hR, hr⟩ := Qqc P w
 refine Qk2 (fl := 0) (Qt4 hm hn n) hc hR hr (Nat.le_refl _) .nil ?_
 intro ρ' v' wA' w' _ hst hv
 generalize hu : Value.bool true = u at hv
 cases hv <;> cases hu
 refine ⟨rfl, hst.os, hst.tape, hst.output, hst.size, fun k hk => hst.keep k hk (fun b x _ h => by cases h)⟩
theorem Qjm {P : Program} {n : Nat} {f : FuncId} (hm : P.follows .mixedOrders = true) (hn : Named P) (h : Qom P n f = true) (w : World) :
 Calls P f #[] w fun e w' => e = .returned (.bool true) /\ Go.RowKit.Below w.heap.size w w' := Qja hm hn h w
end Go.Proofs.Ytenebnfhhhcfaaa.Ev
