/- An evaluator of closed calls, proved right. Part 7: append. -/
import Derived.Test.YtlhkkbdfdkjlcaaEv6
import Derived.Laws.CopyRow
import Derived.Laws.AppendOwn
set_option linter.unusedVariables false
set_option linter.unusedSimpArgs false
namespace Go.Proofs.Ytlhkkbdfdkjlcaa.Ev
open Go
section
variable {P : Program} {base fl : Nat} {ρ : Ren}

theorem load_same {a : Addr} {w w' : World} {v : Value} (h : (Go.load a).run P w = .ok v w') : w' = w := by
  rw [run_load] at h
  split at h
  · injection h with _ h; exact h.symm
  · split at h
    · injection h with _ h; exact h.symm
    · cases h
theorem loadFrom_same {a : Addr} : ∀ (n i : Nat) (acc r : Array Value) (w w' : World), (Go.loadCellsFrom a i n acc).run P w = .ok r w' → w' = w ∧ r.size = acc.size + n
  | 0, i, acc, r, w, w', h => by
    simp only [Go.loadCellsFrom, Sem.run_pure, Result.ok.injEq] at h
    exact ⟨h.2.symm, by rw [h.1]; omega⟩
  | n + 1, i, acc, r, w, w', h => by
    simp only [Go.loadCellsFrom, Sem.run_bind] at h
    cases hl : (Go.load (a.add i)).run P w with
    | halt x y => rw [hl] at h; cases h
    | ok v w1 =>
      rw [hl] at h
      have e := load_same hl
      subst e
      obtain ⟨h1, h2⟩ := loadFrom_same n (i + 1) _ r _ w' h
      exact ⟨h1, by rw [h2, Array.size_push]; omega⟩
theorem first_same {size n : Nat} {a : Option Addr} {l c : Nat} {w w' : World} {r : Array Value} (h : (Builtin.firstCells size n (.slice a l c)).run P w = .ok r w') : w' = w := by
  unfold Builtin.firstCells at h
  cases a with
  | none => simp only [Sem.run_pure, Result.ok.injEq] at h; exact h.2.symm
  | some a => exact (loadFrom_same _ _ _ _ _ _ h).1
theorem Sim.first {size n : Nat} {x x' : Value} (hx : VRel ρ x x') (hn : ∀ a l c, x = .slice a l c → n ≤ l) : Sim P base fl ARel ρ (Builtin.firstCells size n x) (Builtin.firstCells size n x') := by
  unfold Builtin.firstCells
  cases hx with
  | nilSlice l c => exact .pure .empty
  | slice hb hc => exact Sim.loadCells hb _
  | @loose b o o' l c c' x hb hc hl ht ho =>
    have := hn _ _ _ rfl
    dsimp only
    by_cases h0 : n * size = 0
    · rw [h0]; exact .pure .empty
    · have hpos : 0 < l := by
        rcases Nat.eq_zero_or_pos n with e | e
        · rw [e] at h0; simp at h0
        · omega
      rw [ho hpos]
      exact Sim.loadCells hb _
  | string s => exact .pure (ARel.map _ fun b _ => .int _ _)
  | _ => exact .stuck

/-- What is read out of a block. -/
theorem loadFrom_spec {b o : Nat} {c : Array Value} {t : TypeId} {fr : Nat × Nat} {w : World} (hb : w.heap[b]? = some (.cells c t fr)) : ∀ (n i : Nat) (acc r : Array Value) (w' : World),
    (Go.loadCellsFrom ⟨b, o, none⟩ i n acc).run P w = .ok r w' → (∀ j, j < n → r[acc.size + j]? = c[o + i + j]?) ∧ (∀ j, j < acc.size → r[j]? = acc[j]?)
  | 0, i, acc, r, w', h => by
    simp only [Go.loadCellsFrom, Sem.run_pure, Result.ok.injEq] at h
    exact ⟨fun j hj => absurd hj (Nat.not_lt_zero _), fun j _ => by rw [h.1]⟩
  | n + 1, i, acc, r, w', h => by
    simp only [Go.loadCellsFrom, Sem.run_bind] at h
    cases hl : (Go.load ((⟨b, o, none⟩ : Addr).add i)).run P w with
    | halt x y => rw [hl] at h; cases h
    | ok v w1 =>
      rw [hl] at h
      have e := load_same hl
      subst e
      have hv : c[o + i]? = some v := by
        rw [run_load, add_off] at hl
        have hcell : w1.cell? ⟨b, o + i, none⟩ = c[o + i]? := by unfold World.cell?; rw [hb]; simp
        rw [hcell] at hl
        cases hc : c[o + i]? with
        | some u => rw [hc] at hl; simp only [Result.ok.injEq] at hl; rw [hl.1]
        | none =>
          rw [hc] at hl
          unfold World.farLoad at hl
          rw [hb] at hl
          cases hl
      obtain ⟨h1, h2⟩ := loadFrom_spec hb n (i + 1) _ r w' h
      simp only [Array.size_push] at h1 h2
      refine ⟨fun j hj => ?_, fun j hj => ?_⟩
      · rcases Nat.eq_zero_or_pos j with rfl | hp
        · rw [h2 _ (by omega)]
          simp [hv]
        · have := h1 (j - 1) (by omega)
          rw [show acc.size + 1 + (j - 1) = acc.size + j by omega, show o + (i + 1) + (j - 1) = o + i + j by omega] at this
          exact this
      · rw [h2 j (by omega), Array.getElem?_push, if_neg (by omega)]
theorem loadCells_spec {b o n : Nat} {c : Array Value} {t : TypeId} {fr : Nat × Nat} {w w' : World} {r : Array Value} (hb : w.heap[b]? = some (.cells c t fr))
    (h : (Go.loadCells ⟨b, o, none⟩ n).run P w = .ok r w') (j : Nat) (hj : j < n) : r[j]? = c[o + j]? := by
  have := (loadFrom_spec hb n 0 #[] r w' h).1 j hj
  simpa using this

theorem append_none (w : World) {t ty e : TypeId} {i : TypeInfo} (ht : P.underlying t = some (.slice e)) (hi : P.info? e = some i) {a a2 : Option Addr} {sLen sCap c2 : Nat} (hr : sLen ≤ sCap) :
    (Builtin.append_ #[t, t] ty #[.slice a sLen sCap, .slice a2 0 c2]).run P w = .ok (.slice a sLen sCap) w := by
  cases a <;> cases a2 <;> simp [Builtin.append_, run_underlying ht, sizeOf, typeInfo, hi, Builtin.lenOf, hr, Builtin.firstCells, storeCells, Go.loadCells, Go.loadCellsFrom]
theorem append_room (w : World) {t ty e : TypeId} {i : TypeInfo} (ht : P.underlying t = some (.slice e)) (hi : P.info? e = some i) {a : Addr} {a2 : Option Addr} {sLen sCap n c2 : Nat} (hr : sLen + n ≤ sCap) :
    (Builtin.append_ #[t, t] ty #[.slice (some a) sLen sCap, .slice a2 n c2]).run P w =
      (do let new ← Builtin.firstCells i.size n (.slice a2 n c2); Go.storeCells (a.add (sLen * i.size)) new.toList; Pure.pure (Value.slice (some a) (sLen + n) sCap)).run P w := by
  simp [Builtin.append_, run_underlying ht, sizeOf, typeInfo, hi, Builtin.lenOf, hr]
theorem append_grow (w : World) {t ty e : TypeId} {i : TypeInfo} {z : Value} (ht : P.underlying t = some (.slice e)) (hi : P.info? e = some i) (hz : i.zero = some z) {a a2 : Option Addr}
    {sLen sCap n c2 : Nat} {olds news : Array Value}
    (ho : (Builtin.firstCells i.size sLen (.slice a sLen sCap)).run P w.drew = .ok olds w.drew) (hn' : (Builtin.firstCells i.size n (.slice a2 n c2)).run P w.drew = .ok news w.drew)
    (hg : sCap < sLen + n) (h63 : sLen + n < 1099511627776) (hfit : (sLen + n) * i.bytes ≤ 140737488355328) :
    (Builtin.append_ #[t, t] ty #[.slice a sLen sCap, .slice a2 n c2]).run P w =
      .ok (.slice (some ⟨w.heap.size, 0, none⟩) (sLen + n) (grownCap w (sLen + n) sCap e))
        (w.drew.alloc (.cells (olds ++ news ++ Builtin.zeroCells z.cells (grownCap w (sLen + n) sCap e - (sLen + n))) e)) := by
  have hn : ¬ (sLen + n ≤ sCap) := by omega
  have h63' : ¬ (9223372036854775807 < ((sLen : Int) + (n : Int))) := by omega
  have h48' : ¬ (281474976710656 < Builtin.nextslicecap (sLen + n) sCap * i.bytes) := by have := growslice_fits hg hfit; omega
  simp [Builtin.append_, run_underlying ht, sizeOf, typeInfo, zeroValue, hi, hz, Builtin.lenOf, hn, h63', h48', Question.forced, hn', ho, newRow, grownCap]
end
end Go.Proofs.Ytlhkkbdfdkjlcaa.Ev
