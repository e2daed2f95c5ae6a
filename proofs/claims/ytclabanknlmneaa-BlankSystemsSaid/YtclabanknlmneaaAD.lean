/- BlankSystems, plain. -/
import Derived.Test.YtclabanknlmneaaAC
import Derived.Test.YtclabanknlmneaaA4
set_option linter.unusedVariables false
set_option linter.unusedSimpArgs false
namespace Go.Proofs.Ytclabanknlmneaa.Vg
open Go Go.Proofs.Ytclabanknlmneaa.Ev Go.Proofs.Ytclabanknlmneaa.Vv
theorem bq2 (x : Int) : (x == x) = true := by simp
theorem same_l (k : Nat) (l : List SCoolBound) (e : Int) (hl : l.length < 1000000000) : ∀ (d fuel i : Nat), l.length = i + d → d < fuel → nspeculumlaw03_BlankSystems_l0_0 k (l, e) l fuel (i : Int) = some (.inr ()) := by
  intro d
  induction d with
  | zero =>
    intro fuel i he hf
    obtain ⟨f, rfl⟩ : ∃ f, fuel = f + 1 := ⟨fuel - 1, by omega⟩
    rw [nspeculumlaw03_BlankSystems_l0_0.eq_2, if_neg (by dsimp only; omega)]
  | succ d ih =>
    intro fuel i he hf
    obtain ⟨f, rfl⟩ : ∃ f, fuel = f + 1 := ⟨fuel - 1, by omega⟩
    rw [nspeculumlaw03_BlankSystems_l0_0.eq_2, if_pos (by dsimp only; omega), if_pos (by dsimp only; omega), if_pos (by omega)]
    simp only [bq2, Bool.and_self, if_true]
    rw [w64_succ (by omega)]
    exact ih f (i + 1) (by omega) (by omega)
theorem systems (k : Nat) (hk : 1000 < k) (a : SAnnealing) : nspeculumlaw03_BlankSystems k a = some true := by
  unfold nspeculumlaw03_BlankSystems
  rw [show nawake k = some true from rfl, Option.bind_some, if_pos rfl, light_any, Option.bind_some]
  cases hL : lightB a with
  | false => rfl
  | true =>
  have hl := Lg.of hL hk
  rw [if_pos rfl, own_any k a hL, Option.bind_some, cool_b hl, Option.bind_some, hl.r, Option.bind_some]
  by_cases c : annE a = 0
  · rw [if_pos c, if_pos c, cool_r hk (Ann.of c), Option.bind_some]
    dsimp only
    have hA := Ann.of c
    have h1 := hA.ns
    have h2 := hA.nw
    have h3 := sysB_len a
    rw [if_pos rfl, if_pos rfl, show nspeculumlaw03_BlankSystems_l0_0 k (sysB a, 0) (sysB a) k 0 = _ from same_l k (sysB a) 0 (by omega) (sysB a).length k 0 (by omega) (by omega)]; rfl
  · rw [if_neg c, if_neg c]
    dsimp only
    rw [if_pos rfl]; rfl
theorem vc_systems (a : SAnnealing) : VC Try.prog 7 [VV.ag (c_SAnnealing a)] (vb true) :=
  nspeculumlaw03_BlankSystems_ok 10000 a true (systems 10000 (by decide) a)
end Go.Proofs.Ytclabanknlmneaa.Vg
