/- A calculus of calls over values that are trees: proofs whose statements are read off them. -/
import Derived.Test.YtlhnkehohknhbaaVy
set_option linter.unusedVariables false
set_option linter.unusedSimpArgs false
namespace Go.Proofs.Ytlhnkehohknhbaa.Vv
open Go Go.Proofs.Ytlhnkehohknhbaa.Ev
theorem unfr_flat2 {α : Type} {c d : α → List VV} (h : ∀ x, (c x).map unfr = d x) : ∀ xs : List α, (xs.flatMap c).map unfr = xs.flatMap d
  | [] => rfl
  | x :: xs => by rw [List.flatMap_cons, List.flatMap_cons, List.map_append, h, unfr_flat2 h xs]
theorem bs {α β : Type} {o : Option α} {f : α → Option β} {r : β} (h : o.bind f = some r) : ∃ a, o = some a ∧ f a = some r := Option.bind_eq_some_iff.1 h
theorem ifs {α : Type} {c : Prop} [Decidable c] {a b x : α} (h : (if c then a else b) = x) : (c ∧ a = x) ∨ (¬c ∧ b = x) := by
  by_cases hc : c
  · rw [if_pos hc] at h; exact .inl ⟨hc, h⟩
  · rw [if_neg hc] at h; exact .inr ⟨hc, h⟩
theorem ifn {α : Type} {c : Prop} [Decidable c] {a : Option α} {x : α} (h : (if c then a else none) = some x) : c ∧ a = some x := by
  by_cases hc : c
  · rw [if_pos hc] at h; exact ⟨hc, h⟩
  · rw [if_neg hc] at h; cases h
/-- operations of which nothing is told; that are struck out. -/
def nN : Nat → List Ans → List Ans
  | 0, l => l
  | n + 1, l => .n :: nN n l
def nS : Nat → List Ans → List Ans
  | 0, l => l
  | n + 1, l => .skip :: nS n l
theorem ti {p : Prop} (h : p) : True ∧ p := ⟨trivial, h⟩
theorem an {p q : Prop} (h : p) (h2 : q) : p ∧ q := ⟨h, h2⟩
theorem rt : true = true := rfl
theorem rf : false = false := rfl
theorem pkR {rd : Option Nat} {P : Program} {fn : Func} {k : Nat} {s s1 : VS} {ans : List An} {c : Cut} {e : Exit} {q : Prop} (hq : q) (h : vRound rd P fn k s ans c = some (e, s1, q)) : ∃ q : Prop, vRound rd P fn k s ans c = some (e, s1, q) ∧ q := ⟨q, h, hq⟩
end Go.Proofs.Ytlhnkehohknhbaa.Vv
