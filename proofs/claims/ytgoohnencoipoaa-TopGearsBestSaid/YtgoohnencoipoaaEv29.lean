import Derived.Test.YtgoohnencoipoaaEv28
import Derived.Below
set_option linter.unusedVariables false
set_option linter.unusedSimpArgs false
namespace Go.Proofs.Ytgoohnencoipoaa.Ev
open Go
def Quu (P : Program) : Bool := P.funcs.toList.all fun fn => !(fn.name == "runtime.NumGoroutine")
theorem Qua {P : Program} (h : Quu P = true) : Named P := by
 intro f fn hf
 have := List.all_eq_true.1 h fn (Array.mem_toList_iff.2 (Array.mem_of_getElem? hf))
 simpa using this
theorem Qm5 (P : Program) (w : World) : Rep .nil 0 (Qcn .nil 0) /\ WRel P w.heap.size (fun _ => none) (Qcn .nil 0) w := by
 refine ⟨Rep.Qh5 .nil (by omega), Nat.le_refl _, ?_, ?_, ?_⟩
 ·intro b x h; cases h
 ·intro b o x _ _ h; cases h
 ·intro b b' o o' x x' _ _ _ _ h; cases h
theorem Qlp {P : Program} {O : Orc P} {n : Nat} {f : FuncId} (hm : P.follows .mixedOrders = true) (hn : Named P) (h : Qn5 O n f = true) (w : World) :
 Calls P f #[] w fun e w' => e = .returned (.bool true) /\ Go.RowKit.Below w.heap.size w w' := by
 unfold Qn5 at h
 split at h
 case h_2 => cases h
 rename_i HN hc
 obtain ⟨H, N⟩ := HN
 refine (callsIn_wide (n := 0)).1 ?_
 show CallsIn (fen none) 0 P f (([] : List Value).toArray) w _
 obtain ⟨hR, hr⟩ := Qm5 P w
 refine Qld (fl := 0) (Qsq hm hn n) hc hR hr (Nat.le_refl _) .nil ?_
 intro ρ' v' wA' w' _ hst hv
 generalize hu : Value.bool true = u at hv
 cases hv <;> cases hu
 refine ⟨rfl, hst.os, hst.tape, hst.output, hst.size, fun k hk => hst.keep k hk (fun b x _ h => by cases h)⟩
theorem Qm6 {P : Program} {n : Nat} {f : FuncId} (hm : P.follows .mixedOrders = true) (hn : Named P) (h : Qr7 P n f = true) (w : World) :
 Calls P f #[] w fun e w' => e = .returned (.bool true) /\ Go.RowKit.Below w.heap.size w w' := Qlp hm hn h w
theorem Qsr {ρ : Ren} {d : Nat} : ∀ {l : List Value}, l.all (scV d) = true -> LRel ρ l l
 | [], _ => .nil
 | v :: l, h => by
   simp only [List.all_cons, Bool.and_eq_true] at h
   exact .cons (Qr6 h.1) (Qsr h.2)
theorem Qq3 {P : Program} {O : Orc P} {n : Nat} {e : Ent} (hm : P.follows .mixedOrders = true) (hn : Named P) (h : evIs O n e = true) (hb : ∃ fn c, P.funcs[e.f]? = some fn /\ fn.body = some c) : Good P e := by
 unfold evIs at h
 simp only [Bool.and_eq_true] at h
 obtain ⟨⟨h1, h2⟩, h⟩ := h
 split at h
 case h_2 => cases h
 rename_i v HN hc
 obtain ⟨H, N⟩ := HN
 refine ⟨hb, h1, h2, fun w => (callsIn_wide (n := 0)).1 ?_⟩
 obtain ⟨hR, hr⟩ := Qm5 P w
 refine Qld (fl := 0) (Qsq hm hn n) hc hR hr (Nat.le_refl _) (Qsr h1) ?_
 intro ρ' v' wA' w' _ hst hv
 have e1 := Qhx h
 subst e1
 exact ⟨by rw [Qpm h2 hv], hst.os, hst.tape, hst.output, hst.size, fun k hk => hst.keep k hk (fun b x _ h => by cases h)⟩
end Go.Proofs.Ytgoohnencoipoaa.Ev
