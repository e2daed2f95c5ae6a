import Derived.Test.YtclgijochagpdaaJ2
set_option linter.unusedVariables false
set_option linter.unusedSimpArgs false
namespace Go.Proofs.Ytclgijochagpdaa.Vg
open Go Go.Proofs.Ytclgijochagpdaa.Ev Go.Proofs.Ytclgijochagpdaa.Vv
theorem copy_any (k : Nat) {c : List Int} (h : c.length <= 1000) : nspeculumbase_CopyInts k c = some c := by
 unfold nspeculumbase_CopyInts
 rw [if_pos (by simp; omega)]; rfl
def keep (h : List Int) (r : SHeightReading) : Bool := inR r.Diff.Lo r.Diff.Hi (gx h r.To.toNat - gx h r.From.toNat)
section
variable {k : Nat} {z : Int} {l : List SHeightReading}
theorem keep_pot {h : List Int} (hO : OKR z l) (hk : ∀ r ∈ l, keep h r = true) : Pot (legs l 0) (fun j => gx h j) := by
 intro g hg
 obtain ⟨j, h1, h2⟩ := legs_mem hg
 have := inR_t.1 (hk _ (mem_getD h1 default))
 rcases h2 with h2 | h2
 ·have e1 : to g = (l.getD j default).To.toNat := by rw [h2]; rfl
  have e2 : fr g = (l.getD j default).From.toNat := by rw [h2]; rfl
  have e3 : ln g = (l.getD j default).Diff.Hi := by rw [h2]; rfl
  rw [e1, e2, e3]; dsimp only; omega
 ·have e1 : to g = (l.getD j default).From.toNat := by rw [h2]; rfl
  have e2 : fr g = (l.getD j default).To.toNat := by rw [h2]; rfl
  have e3 : ln g = -(l.getD j default).Diff.Lo := by rw [h2]; rfl
  rw [e1, e2, e3]; dsimp only; omega
end
end Go.Proofs.Ytclgijochagpdaa.Vg
