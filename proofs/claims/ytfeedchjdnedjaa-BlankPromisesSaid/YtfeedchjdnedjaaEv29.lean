import Derived.Test.YtfeedchjdnedjaaEv28
import Derived.Below
set_option linter.unusedVariables false
set_option linter.unusedSimpArgs false
namespace Go.Proofs.Ytfeedchjdnedjaa.Ev
open Go
def Qv6 (P : Program) : Bool := P.funcs.toList.all fun fn => !(fn.name == "runtime.NumGoroutine")
theorem Qux {P : Program} (h : Qv6 P = true) : Named P := by
 intro f fn hf
 have := List.all_eq_true.1 h fn (Array.mem_toList_iff.2 (Array.mem_of_getElem? hf))
 simpa using this
theorem Qss (P : Program) (w : World) : Rep .nil 0 (Qce .nil 0) /\ WRel P w.heap.size (fun _ => none) (Qce .nil 0) w := by
 refine ⟨Rep.Qh9 .nil (by omega), Nat.le_refl _, ?_, ?_, ?_⟩
 ·intro b x h; cases h
 ·intro b o x _ _ h; cases h
 ·intro b b' o o' x x' _ _ _ _ h; cases h
theorem Qk3 {P : Program} {O : Orc P} {n : Nat} {f : FuncId} (hm : P.follows .mixedOrders = true) (hn : Named P) (h : Qnx O n f = true) (w : World) :
 Calls P f #[] w fun e w' => e = .returned (.bool true) /\ Go.RowKit.Below w.heap.size w w' := by
 unfold Qnx at h
 split at h
 case h_2 => cases h
 rename_i HN hc
 obtain ⟨H, N⟩ := HN
 refine (callsIn_wide (n := 0)).1 ?_
 show CallsIn (fen none) 0 P f (([] : List Value).toArray) w _
 obtain ⟨hR, hr⟩ := Qss P w
 refine Qn4 (fl := 0) (Qxf hm hn n) hc hR hr (Nat.le_refl _) .nil ?_
 intro ρ' v' wA' w' _ hst hv
 generalize hu : Value.bool true = u at hv
 cases hv <;> cases hu
 refine ⟨rfl, hst.os, hst.tape, hst.output, hst.size, fun k hk => hst.keep k hk (fun b x _ h => by cases h)⟩
theorem Qmm {P : Program} {n : Nat} {f : FuncId} (hm : P.follows .mixedOrders = true) (hn : Named P) (h : Qsj P n f = true) (w : World) :
 Calls P f #[] w fun e w' => e = .returned (.bool true) /\ Go.RowKit.Below w.heap.size w w' := Qk3 hm hn h w
end Go.Proofs.Ytfeedchjdnedjaa.Ev
