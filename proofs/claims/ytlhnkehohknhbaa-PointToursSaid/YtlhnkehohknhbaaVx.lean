/- A calculus of calls over values that are trees: own slices of structs, made with zeros, written whole. -/
import Derived.Test.YtlhnkehohknhbaaVv19
set_option linter.unusedVariables false
set_option linter.unusedSimpArgs false
namespace Go.Proofs.Ytlhnkehohknhbaa.Vv
open Go Go.Proofs.Ytlhnkehohknhbaa.Ev
theorem zero_flat {A : Type} (c : A → List VV) (z : Value) (x : A) (m : Nat) (hm : 0 < m) (hc : c x = (List.range m).map fun j => VV.c (z.cells[j % z.cells.size]!)) (hz : z.cells.size = m) : ∀ n : Nat, zeroCells z (n * m) = (List.replicate n x).flatMap c
  | 0 => by simp [zeroCells]
  | n + 1 => by
    have ih := zero_flat c z x m hm hc hz n
    unfold zeroCells at ih ⊢
    rw [Nat.add_mul, Nat.one_mul, List.range_add, List.map_append, ih, List.replicate_succ', List.flatMap_append, List.map_map, List.flatMap_singleton, hc]
    congr 1
    apply List.map_congr_left
    intro j hj
    show VV.c (z.cells[(n * m + j) % z.cells.size]!) = VV.c (z.cells[j % z.cells.size]!)
    rw [hz, Nat.mul_add_mod_self_right]
theorem flat_len {A : Type} {c : A → List VV} {m : Nat} (hc : ∀ x, (c x).length = m) : ∀ xs : List A, (xs.flatMap c).length = xs.length * m
  | [] => by simp
  | x :: xs => by rw [List.flatMap_cons, List.length_append, hc, flat_len hc xs, List.length_cons, Nat.add_mul]; omega
theorem putT_flat {A : Type} {c : A → List VV} {m : Nat} (hc : ∀ x, (c x).length = m) (xs : List A) {i : Int} (h : 0 ≤ i ∧ i < (xs.length : Int)) (v : A) {off : Nat} (ho : off = i.toNat * m) : putT off (xs.flatMap c) (c v) = (xs.set i.toNat v).flatMap c := by
  subst ho
  have hlt : i.toNat < xs.length := by omega
  have hx : xs = xs.take i.toNat ++ xs[i.toNat] :: xs.drop (i.toNat + 1) := by
    rw [← List.drop_eq_getElem_cons hlt, List.take_append_drop]
  have hs : xs.set i.toNat v = xs.take i.toNat ++ v :: xs.drop (i.toNat + 1) := by
    rw [List.set_eq_take_append_cons_drop, if_pos hlt]
  have hl : ((xs.take i.toNat).flatMap c).length = i.toNat * m := by rw [flat_len hc, List.length_take, Nat.min_eq_left (by omega)]
  rw [hs]
  generalize xs.take i.toNat = P at hx hl
  generalize xs.drop (i.toNat + 1) = Q at hx
  rw [hx, List.flatMap_append, List.flatMap_append, List.flatMap_cons, List.flatMap_cons]
  unfold putT
  rw [List.take_left' hl, ← List.append_assoc, List.drop_left' (by rw [List.length_append, hl, hc, hc]), List.append_assoc]
end Go.Proofs.Ytlhnkehohknhbaa.Vv
