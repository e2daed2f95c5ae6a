/- Chapter 4, plain: sequences of grits from a depth to another one. -/
import Derived.Test.YtjhclaollpkdgaaKB
set_option linter.unusedVariables false
set_option linter.unusedSimpArgs false
namespace Go.Proofs.Ytjhclaollpkdgaa.Vg
open Go Go.Proofs.Ytjhclaollpkdgaa.Ev Go.Proofs.Ytjhclaollpkdgaa.Vv
theorem gritB_t {g : SGrit} (h : gritB g = true) : (0 ≤ g.Damage ∧ g.Damage ≤ 1000000) ∧ (1 ≤ g.Rate ∧ g.Rate ≤ 100000) := by
  unfold gritB at h
  simp only [Bool.and_eq_true] at h
  exact ⟨inR_t.1 h.1, inR_t.1 h.2⟩
def upQ (n b : Int) : Int := (n + b - 1) / b
theorem upQ_le {n m b : Int} (hb : 1 ≤ b) (h : n ≤ m) : upQ n b ≤ upQ m b := Int.ediv_le_ediv (by omega) (by omega)
theorem upQ_bd {n b : Int} (hb : 1 ≤ b) (hn : 1 ≤ n) : 0 ≤ upQ n b ∧ upQ n b ≤ n := by
  unfold upQ
  refine ⟨Int.ediv_nonneg (by omega) (by omega), ?_⟩
  have h1 : n + b - 1 < (n + 1) * b := by
    have := Int.mul_le_mul_of_nonneg_left hb (show 0 ≤ n by omega)
    rw [Int.add_mul, Int.one_mul]; omega
  have := Int.ediv_lt_of_lt_mul (show 0 < b by omega) h1
  omega
/-- the minutes of the sequences from a depth to at most another one, each of which does something. -/
inductive Pa (l : List SGrit) (W : Int) : Int → Int → Prop
  | nil {D : Int} : D ≤ W → Pa l W D 0
  | cons {D m : Int} {g : SGrit} : g ∈ l → g.Damage < D → W < D → Pa l W g.Damage m → Pa l W D (upQ D g.Rate + m)
structure GL (l : List SGrit) : Prop where
  all : ∀ g ∈ l, gritB g = true
theorem Pa.bd {l : List SGrit} (hl : GL l) {W D m : Int} (hW : 0 ≤ W) (h : Pa l W D m) : 0 ≤ m ∧ (W < D → m ≤ D * D) ∧ (D ≤ W → m = 0) := by
  induction h with
  | nil h => exact ⟨by decide, fun h2 => by omega, fun _ => rfl⟩
  | @cons D m g hg hd hw _ ih =>
    obtain ⟨b1, b2⟩ := gritB_t (hl.all g hg)
    have u := upQ_bd (n := D) (b := g.Rate) b2.1 (by omega)
    refine ⟨by omega, fun _ => ?_, fun h => by omega⟩
    have sq : m ≤ (D - 1) * (D - 1) := by
      rcases Int.lt_or_le W g.Damage with h | h
      · have := ih.2.1 h
        have := Int.mul_le_mul (show g.Damage ≤ D - 1 by omega) (show g.Damage ≤ D - 1 by omega) b1.1 (by omega)
        omega
      · have := ih.2.2 h
        have := Int.mul_nonneg (show 0 ≤ D - 1 by omega) (show 0 ≤ D - 1 by omega)
        omega
    have e : (D - 1) * (D - 1) = D * D - 2 * D + 1 := by grind
    omega
theorem Pa.deeper {l : List SGrit} (hl : GL l) {W D' m' : Int} (hW : 0 ≤ W) (h : Pa l W D' m') : ∀ D, D ≤ D' → ∃ m, m ≤ m' ∧ Pa l W D m := by
  induction h with
  | nil h => intro D hD; exact ⟨0, by omega, .nil (by omega)⟩
  | @cons D' m' g hg hd hw hp ih =>
    intro D hD
    have p0 := hp.bd hl hW
    obtain ⟨b1, b2⟩ := gritB_t (hl.all g hg)
    have u := upQ_bd (n := D') (b := g.Rate) b2.1 (by omega)
    by_cases c : D ≤ W
    · exact ⟨0, by omega, .nil c⟩
    · by_cases c2 : g.Damage < D
      · have := upQ_le (n := D) (m := D') b2.1 hD
        exact ⟨upQ D g.Rate + m', by omega, .cons hg c2 (by omega) hp⟩
      · obtain ⟨m, h1, h2⟩ := ih D (by omega)
        exact ⟨m, by omega, h2⟩
theorem Pa.looser {l : List SGrit} (hl : GL l) {W W' D m' : Int} (hW : 0 ≤ W') (hWW : W' ≤ W) (h : Pa l W' D m') : ∃ m, m ≤ m' ∧ Pa l W D m := by
  induction h with
  | nil h => exact ⟨0, by omega, .nil (by omega)⟩
  | @cons D m' g hg hd hw hp ih =>
    obtain ⟨b1, b2⟩ := gritB_t (hl.all g hg)
    have u := upQ_bd (n := D) (b := g.Rate) b2.1 (by omega)
    have p0 := hp.bd hl hW
    by_cases c : D ≤ W
    · exact ⟨0, by omega, .nil c⟩
    · obtain ⟨m, h1, h2⟩ := ih
      exact ⟨upQ D g.Rate + m, by omega, .cons hg hd (by omega) h2⟩
theorem Pa.more {l l' : List SGrit} (hs : ∀ g ∈ l, g ∈ l') {W D m : Int} (h : Pa l W D m) : Pa l' W D m := by
  induction h with
  | nil h => exact .nil h
  | cons hg hd hw _ ih => exact .cons (hs _ hg) hd hw ih
/-- the least minutes, or that there are none. -/
def Least (l : List SGrit) (W D : Int) (ok : Bool) (m : Int) : Prop := if ok = true then Pa l W D m ∧ ∀ m', Pa l W D m' → m ≤ m' else ∀ m', ¬ Pa l W D m'
end Go.Proofs.Ytjhclaollpkdgaa.Vg
