/- Pairs of ints in memory, kept over calls. -/
import Derived.Test.YtdlddfmodbcnmaaRet
set_option linter.unusedVariables false
set_option linter.unusedSimpArgs false
namespace Go.Proofs.Ytdlddfmodbcnmaa
open Go.RowKit

/-- A fact that no unfolding opens. -/
structure Bx (p : Prop) : Prop where
  out : p

/-- A pair of ints lies in block b. -/
def HF (w : World) (b : Nat) (x y : Int) : Prop := b < w.heap.size ∧ w.cell? ⟨b, 0, none⟩ = some (.int .i64 x) ∧ w.cell? ⟨b, 1, none⟩ = some (.int .i64 y)
theorem HF.below {w w' : World} {b : Nat} {x y : Int} (h : HF w b x y) (B : Below w.heap.size w w') : HF w' b x y :=
  ⟨Nat.lt_of_lt_of_le h.1 B.size, (B.cell (p := ⟨b, 0, none⟩) h.1).trans h.2.1, (B.cell (p := ⟨b, 1, none⟩) h.1).trans h.2.2⟩
theorem below_alloc1 (w : World) (o : Obj) : Below w.heap.size w (w.alloc o) := (Below.refl _ _).alloc (Nat.le_refl _) _
theorem HF.alloc {w : World} {b : Nat} {x y : Int} (h : HF w b x y) (o : Obj) : HF (w.alloc o) b x y := h.below (below_alloc1 w o)
theorem HF.drewN {w : World} {b : Nat} {x y : Int} (h : HF w b x y) (k : Nat) : HF (w.drewN k) b x y := h
theorem HF.new (w : World) (t : TypeId) (x y : Int) : HF (w.alloc (.cells #[.int .i64 x, .int .i64 y] t)) w.heap.size x y :=
  ⟨by simp, by simp [go_sem], by simp [go_sem]⟩
theorem HF.at {w : World} {b b' : Nat} {x y : Int} (h : HF w b x y) (e : b = b') : HF w b' x y := e ▸ h
/-- All of some pairs lie where they are said to lie. -/
def KP (w : World) : List (Nat × Int × Int) → Prop
  | [] => True
  | p :: l => HF w p.1 p.2.1 p.2.2 ∧ KP w l
theorem KP.below {w w' : World} (B : Below w.heap.size w w') : ∀ {l : List (Nat × Int × Int)}, KP w l → KP w' l
  | [], _ => trivial
  | _ :: _, h => ⟨h.1.below B, KP.below B h.2⟩
theorem KP.alloc {w : World} {l : List (Nat × Int × Int)} (h : KP w l) (o : Obj) : KP (w.alloc o) l := KP.below (below_alloc1 w o) h
theorem KP.nil (w : World) : KP w [] := trivial
theorem KP.new {w w' : World} {l : List (Nat × Int × Int)} (h : KP w l) (B : Below w.heap.size w w') (t : TypeId) (x y : Int) : KP (w'.alloc (.cells #[.int .i64 x, .int .i64 y] t)) ((w'.heap.size, x, y) :: l) :=
  ⟨HF.new w' t x y, (KP.below B h).alloc _⟩
theorem KP.push {w : World} {l : List (Nat × Int × Int)} (h : KP w l) (t : TypeId) (x y : Int) : KP (w.alloc (.cells #[.int .i64 x, .int .i64 y] t)) ((w.heap.size, x, y) :: l) := ⟨HF.new w t x y, h.alloc _⟩
theorem below_call {w w1 w2 : World} {o : Obj} (M : Below w.heap.size w w1) (B : Below (w1.alloc o).heap.size (w1.alloc o) w2) : Below w.heap.size w w2 :=
  (M.alloc M.size o).trans (B.mono (M.alloc M.size o).size)
theorem below_call0 {w w1 w2 : World} (M : Below w.heap.size w w1) (B : Below w1.heap.size w1 w2) : Below w.heap.size w w2 := M.trans (B.mono M.size)
theorem below_step {B : Nat} {w w' : World} (h : B ≤ w.heap.size) (k : Below w.heap.size w w') : Below B w w' := k.mono h

end Go.Proofs.Ytdlddfmodbcnmaa
