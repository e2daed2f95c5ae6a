/- An evaluator of closed calls, proved right. Part 5: addresses of elements, slices, rows, maps, strings. -/
import Derived.Test.YtlhkkbdfdkjlcaaEv4
set_option linter.unusedVariables false
set_option linter.unusedSimpArgs false
namespace Go.Proofs.Ytlhkkbdfdkjlcaa.Ev
open Go
section
variable {P : Program} {base fl : Nat} {ρ : Ren}

theorem Sim.indexAt {t : TypeId} {v v' : Value} {k : IntKind} {i : Int} (hv : VRel ρ v v') :
    Sim P base fl VRel ρ (Instr.indexAt t v (.int k i)) (Instr.indexAt t v' (.int k i)) := by
  unfold Instr.indexAt
  simp only [asIntOf, pure_bind]
  refine Sim.bindFree (.underlying t) fun d hd => ?_
  have fin : ∀ (b o o' n : Nat) (x : Img) (e : TypeId), ρ b = some x → (0 < n → o' = o + x.shift) → Sim P base fl VRel ρ
      (Go.underlying t >>= fun d2 => if 0 ≤ i ∧ i < (n : Int) then (Go.sizeOf e >>= fun s => Pure.pure (Value.pointer (some (Addr.add ⟨b, o, none⟩ (i.toNat * s))))) else
        if (decide (n ≤ 1) && (match d2 with | .array _ _ => true | _ => false)) = true then Go.unsupported (.noEntry "op/indexAddr.an index out of range at an array of length 0 or 1 (ledger 616)") else Go.boundsPanic k i n .index)
      (Go.underlying t >>= fun d2 => if 0 ≤ i ∧ i < (n : Int) then (Go.sizeOf e >>= fun s => Pure.pure (Value.pointer (some (Addr.add ⟨x.blk, o', none⟩ (i.toNat * s))))) else
        if (decide (n ≤ 1) && (match d2 with | .array _ _ => true | _ => false)) = true then Go.unsupported (.noEntry "op/indexAddr.an index out of range at an array of length 0 or 1 (ledger 616)") else Go.boundsPanic k i n .index) := by
    intro b o o' n x e hb ho
    refine Sim.bindFree (.underlying t) fun d2 _ => ?_
    refine Sim.ite (fun hi => ?_) fun _ => Sim.ite (fun _ => .unsupported) fun _ => .never (.boundsPanic _ _ _ _)
    refine Sim.bindFree (.sizeOf e) fun m _ => ?_
    refine .pure ?_
    rw [add_off, add_off, ho (by omega)]
    have := VRel.ptr (o := o + i.toNat * m) hb
    rw [show o + i.toNat * m + x.shift = o + x.shift + i.toNat * m by omega] at this
    exact this
  cases hv with
  | ptr h =>
    cases d with
    | array len e => exact fin _ _ _ _ _ e h (fun _ => rfl)
    | _ => exact .never (.bind (.halt _))
  | slice h hc =>
    cases d with
    | slice e => exact fin _ _ _ _ _ e h (fun _ => rfl)
    | array len e => exact .never (.bind (.halt _))
    | _ => exact .never (.bind (.halt _))
  | loose h hc hn' hx ho =>
    cases d with
    | slice e => exact fin _ _ _ _ _ e h ho
    | array len e => exact .never (.bind (.halt _))
    | _ => exact .never (.bind (.halt _))
  | nilSlice n c =>
    cases d with
    | slice e => exact .never (.bind2 fun _ => .boundsPanic _ _ _ _)
    | array len e => exact .never (.bind (.halt _))
    | _ => exact .never (.bind (.halt _))
  | _ => cases d <;> exact .never (.bind (.halt _))

theorem Sim.askRoom (n : Nat) : Sim P base fl (fun _ _ _ => True) ρ (Go.askRoom n) (Go.askRoom n) := by
  intro wA w u wA' hr hf e
  rw [run_askRoom] at e
  injection e with _ e
  subst e
  exact ⟨ρ, (), w, run_askRoom _ _ _, trivial, .refl hr⟩
theorem Sim.makeSlice {t : TypeId} (h : elemZero P t = true) {k k' : IntKind} {l c : Int} (hc : (IntKind.i64.wrap c).toNat < big) :
    Sim P base fl VRel ρ (Instr.makeSlice t (.int k l) (.int k' c)) (Instr.makeSlice t (.int k l) (.int k' c)) := by
  unfold Instr.makeSlice
  refine Sim.bindFree (.underlying t) fun d hd => ?_
  have hu := underlying_eq hd
  cases d with
  | slice e =>
    unfold elemZero at h
    rw [hu] at h
    dsimp only at h ⊢
    simp only [asInt, asIntOf, pure_bind]
    refine Sim.bindFree (.typeInfo e) fun i hi => ?_
    refine Sim.ite (fun _ => ?_) fun _ => ?_
    · refine .never ?_
      split
      · exact .bind (.runtimePanic _)
      · split
        · exact .bind (.runtimePanic _)
        · exact .bind2 fun _ => .bind (.runtimePanic _)
    · refine (Sim.askRoom _).bind fun ρ1 _ _ _ _ => ?_
      refine Sim.bindFree (.sizeOf e) fun size hs => ?_
      have fin : ∀ zero : Array Value, zero.all gcell = true → Sim P base fl VRel ρ1
          (do let a ← Go.newRow e ((Array.range ((IntKind.i64.wrap c).toNat * size)).map (zero[· % zero.size]!)); Pure.pure (Value.slice (some a) (IntKind.i64.wrap l).toNat (IntKind.i64.wrap c).toNat))
          (do let a ← Go.newRow e ((Array.range ((IntKind.i64.wrap c).toNat * size)).map (zero[· % zero.size]!)); Pure.pure (Value.slice (some a) (IntKind.i64.wrap l).toNat (IntKind.i64.wrap c).toNat)) := by
        intro zero hz
        exact (Sim.newRow (size_info hs) (zeros_rel hz _)).bind fun ρ' a a' _ hfr => .pure (hfr.slice hc)
      refine Sim.ite (fun _ => ?_) fun _ => ?_
      · exact fin #[] (by simp)
      · refine Sim.bindFree (.zeroValue e) fun z hz => ?_
        exact fin z.cells (zeroCell.spec h hz)
  | _ => exact .stuck
theorem Sim.makeMap {t : TypeId} {r : Option Value} (h : ∀ v, r = some v → gcell v = true) : Sim P base fl VRel ρ (Instr.makeMap t r) (Instr.makeMap t r) := by
  have fin : ∀ ρ1 : Ren, Sim P base fl VRel ρ1 (do Pure.pure (Value.map (some (← Go.newObj (.map #[] 0))))) (do Pure.pure (Value.map (some (← Go.newObj (.map #[] 0))))) := by
    intro ρ1
    refine (Sim.newObj (x := ⟨0, 0, 0, 0⟩) (wo := fun _ _ _ _ => True) ?_).bind ?_
    · intro ρ' y _ _ _ _ _
      exact .map rfl (fun i e e' a => by simp at a)
    · rintro ρ' n n' _ ⟨y, h1, h2, _⟩
      subst h2
      exact .pure (.map h1)
  unfold Instr.makeMap
  cases r with
  | none => exact fin ρ
  | some v =>
    dsimp only
    refine Sim.bindFree (.underlying t) fun d hd => ?_
    cases d with
    | map k e =>
      dsimp only
      have : Free P (Go.asInt v) := by
        unfold Go.asInt Go.asIntOf
        split
        · exact .pure _
        · exact .bind (.halt _) fun _ => .pure _
        · exact .bind (.halt _) fun _ => .pure _
      exact Sim.bindFree this fun _ _ => fin ρ
    | _ => exact .never (.bind (.halt _))
end
end Go.Proofs.Ytlhkkbdfdkjlcaa.Ev
