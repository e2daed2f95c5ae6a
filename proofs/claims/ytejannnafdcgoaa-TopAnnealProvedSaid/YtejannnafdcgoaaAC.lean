/- The bounds of an annealing, plain. -/
import Derived.Test.YtejannnafdcgoaaAA
import Derived.Test.YtejannnafdcgoaaA3
set_option linter.unusedVariables false
set_option linter.unusedSimpArgs false
namespace Go.Proofs.Ytejannnafdcgoaa.Vg
open Go Go.Proofs.Ytejannnafdcgoaa.Ev Go.Proofs.Ytejannnafdcgoaa.Vv
def lvlB (i : Nat) : Nat → List SCoolBound
  | 0 => []
  | d + 1 => ⟨i, -1, 0⟩ :: lvlB (i + 1) d
def stpB (a : SAnnealing) (i : Nat) : Nat → List SCoolBound
  | 0 => []
  | d + 1 => ⟨i, i + 1, (a.Steps.getD i default).Most⟩ :: ⟨i + 1, i, -leastM a i⟩ :: stpB a (i + 1) d
def winB : List SCoolWindow → List SCoolBound
  | [] => []
  | w :: l => ⟨-1, w.Level, w.To⟩ :: ⟨w.Level, -1, -w.From⟩ :: winB l
def sysB (a : SAnnealing) : List SCoolBound := lvlB 0 (a.Steps.length + 1) ++ stpB a 0 a.Steps.length ++ winB a.Windows
theorem lvlB_len (i : Nat) : ∀ d, (lvlB i d).length = d
  | 0 => rfl
  | d + 1 => by simp [lvlB, lvlB_len (i + 1) d]
theorem stpB_len (a : SAnnealing) (i : Nat) : ∀ d, (stpB a i d).length = 2 * d
  | 0 => rfl
  | d + 1 => by simp [stpB, stpB_len a (i + 1) d]; omega
theorem winB_len : ∀ l, (winB l).length = 2 * l.length
  | [] => rfl
  | w :: l => by simp [winB, winB_len l]; omega
section
variable {a : SAnnealing}
theorem lvl_b (k : Nat) (h : Ann a) : ∀ (d fuel i : Nat) (y : List SCoolBound), a.Steps.length + 1 = i + d → d < fuel → y.length = i →
    nblank_CoolSystem_l0_0 k a fuel y (i : Int) = some (y ++ lvlB i d) := by
  have hn := h.ns
  intro d
  induction d with
  | zero =>
    intro fuel i y he hf hy
    obtain ⟨f, rfl⟩ : ∃ f, fuel = f + 1 := ⟨fuel - 1, by omega⟩
    rw [nblank_CoolSystem_l0_0.eq_2, w64_id (by omega) (by omega), if_neg (by omega)]; simp [lvlB]
  | succ d ih =>
    intro fuel i y he hf hy
    obtain ⟨f, rfl⟩ : ∃ f, fuel = f + 1 := ⟨fuel - 1, by omega⟩
    rw [nblank_CoolSystem_l0_0.eq_2, w64_id (n := (a.Steps.length : Int) + 1) (by omega) (by omega), if_pos (by omega), if_pos (by simp; omega), w64_succ (by omega)]
    rw [ih f (i + 1) _ (by omega) (by omega) (by simp; omega)]; simp [lvlB]
theorem leastM_bd (h : Ann a) {i : Int} (hi : 0 ≤ i ∧ i < (a.Steps.length : Int)) : 1 ≤ leastM a i ∧ leastM a i ≤ 1000000000000 := by
  obtain ⟨_, _, f3, f4⟩ := h.wk hi
  have : cdiv (work a i) (a.Steps.getD i.toNat default).Limit ≤ 1000000000000 := by
    rw [cdiv_le (by omega)]
    have : (1000000000000 : Int) * 1 ≤ 1000000000000 * (a.Steps.getD i.toNat default).Limit := Int.mul_le_mul_of_nonneg_left (by omega) (by omega)
    omega
  unfold leastM maxI
  split <;> omega
theorem stp_b (k : Nat) (h : Ann a) : ∀ (d fuel i : Nat) (y : List SCoolBound), a.Steps.length = i + d → d < fuel → y.length = a.Steps.length + 1 + 2 * i →
    nblank_CoolSystem_l1_0 k a fuel y (i : Int) = some (y ++ stpB a i d) := by
  have hn := h.ns
  intro d
  induction d with
  | zero =>
    intro fuel i y he hf hy
    obtain ⟨f, rfl⟩ : ∃ f, fuel = f + 1 := ⟨fuel - 1, by omega⟩
    rw [nblank_CoolSystem_l1_0.eq_2, if_neg (by omega)]; simp [stpB]
  | succ d ih =>
    intro fuel i y he hf hy
    obtain ⟨f, rfl⟩ : ∃ f, fuel = f + 1 := ⟨fuel - 1, by omega⟩
    have hb := leastM_bd h (i := (i : Int)) (by omega)
    rw [nblank_CoolSystem_l1_0.eq_2, if_pos (by omega), if_pos (by omega), least_b h k (by omega), Option.bind_some, if_pos (by simp; omega), w64_succ (by omega), w64_id (n := 0 - leastM a i) (by omega) (by omega)]
    rw [ih f (i + 1) _ (by omega) (by omega) (by simp; omega)]
    simp [stpB]
theorem win_l (k : Nat) (h : Ann a) : ∀ (d fuel i : Nat) (y : List SCoolBound), a.Windows.length = i + d → d < fuel → y.length ≤ 200 + 2 * i →
    nblank_CoolSystem_l2_0 k a fuel y (i : Int) = some (y ++ winB (a.Windows.drop i)) := by
  have hn := h.nw
  intro d
  induction d with
  | zero =>
    intro fuel i y he hf hy
    obtain ⟨f, rfl⟩ : ∃ f, fuel = f + 1 := ⟨fuel - 1, by omega⟩
    rw [nblank_CoolSystem_l2_0.eq_2, if_neg (by omega), List.drop_of_length_le (by omega)]; simp [winB]
  | succ d ih =>
    intro fuel i y he hf hy
    obtain ⟨f, rfl⟩ : ∃ f, fuel = f + 1 := ⟨fuel - 1, by omega⟩
    have hw := h.wi _ (mem_getD (l := a.Windows) (i := i) (by omega))
    rw [nblank_CoolSystem_l2_0.eq_2, if_pos (by omega), if_pos (by omega), if_pos (by simp; omega), w64_succ (by omega), Int.toNat_natCast, w64_id (n := 0 - (a.Windows.getD i default).From) (by omega) (by omega)]
    rw [ih f (i + 1) _ (by omega) (by omega) (by simp; omega), drop_get (show i < a.Windows.length by omega) default]
    simp [winB]
theorem sysB_len (a : SAnnealing) : (sysB a).length = a.Steps.length + 1 + 2 * a.Steps.length + 2 * a.Windows.length := by
  unfold sysB
  rw [List.length_append, List.length_append, lvlB_len, stpB_len, winB_len]
theorem sys_b {k : Nat} (hk : 1000 < k) (h : Ann a) : nblank_CoolSystem_l0_0 k a k [] 0 = some (lvlB 0 (a.Steps.length + 1)) ∧ nblank_CoolSystem_l1_0 k a k (lvlB 0 (a.Steps.length + 1)) 0 = some (lvlB 0 (a.Steps.length + 1) ++ stpB a 0 a.Steps.length) ∧ nblank_CoolSystem_l2_0 k a k (lvlB 0 (a.Steps.length + 1) ++ stpB a 0 a.Steps.length) 0 = some (sysB a) := by
  have hn := h.ns
  have hw := h.nw
  refine ⟨?_, ?_, ?_⟩
  · exact (lvl_b k h (a.Steps.length + 1) k 0 [] (by omega) (by omega) rfl).trans (by simp)
  · exact stp_b k h a.Steps.length k 0 _ (by omega) (by omega) (by rw [lvlB_len])
  · exact (win_l k h a.Windows.length k 0 _ (by omega) (by omega) (by rw [List.length_append, lvlB_len, stpB_len]; omega)).trans (by simp [sysB])
theorem cool_b {k : Nat} (hl : Lg a k) : nblank_CoolSystem k a = some (if annE a = 0 then (sysB a, 0) else ([], annE a)) := by
  unfold nblank_CoolSystem
  rw [hl.b, Option.bind_some]
  by_cases c : annE a = 0
  · rw [if_pos c, if_pos c]
    obtain ⟨e1, e2, e3⟩ := sys_b hl.hk (Ann.of c)
    rw [e1, Option.bind_some, e2, Option.bind_some, e3, Option.bind_some]
  · rw [if_neg c, if_neg c]
end
end Go.Proofs.Ytejannnafdcgoaa.Vg
