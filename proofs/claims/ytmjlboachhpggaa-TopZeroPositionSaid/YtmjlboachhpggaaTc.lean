/- Law of turned maps, last part: lists of fractions, the misfit, the law. -/
import Derived.Test.YtmjlboachhpggaaTb
set_option linter.unusedVariables false
set_option linter.unusedSimpArgs false
namespace Go.Proofs.Ytmjlboachhpggaa.Vg
open Go Go.Proofs.Ytmjlboachhpggaa.Ev Go.Proofs.Ytmjlboachhpggaa.Vv

theorem drop_getF {y : List SFrac} {i : Nat} (h : i < y.length) : y.drop i = y.getD i default :: y.drop (i + 1) := by
  rw [List.drop_eq_getElem_cons h, List.getD_eq_getElem?_getD, List.getElem?_eq_getElem h]; rfl
theorem take_setF {y : List SFrac} {i : Nat} (h : i < y.length) (v : SFrac) : (y.set i v).take (i + 1) = y.take i ++ [v] := by
  apply List.ext_getElem
  · simp; omega
  · intro j h1 h2
    simp only [List.getElem_take, List.getElem_set, List.getElem_append, List.length_take]
    simp at h1 h2
    by_cases hj : i = j
    · subst hj; rw [if_pos rfl, dif_neg (by omega)]; simp
    · rw [if_neg hj, dif_pos (by omega)]
def fr (f : Nat → SFrac) (i d : Nat) : List SFrac := (List.range' i d).map f
theorem fr_succ (f : Nat → SFrac) (i d : Nat) : fr f i (d + 1) = f i :: fr f (i + 1) d := by unfold fr; rw [List.range'_succ]; rfl
theorem div_l0 (k : Nat) (n den : Nat) (g : Nat → Int) (hn : n ≤ 24) (hd : 1 ≤ den ∧ den ≤ 1000000) (hb : ∀ j, j < n → (g j).natAbs ≤ 10000000000000) (hk : 100000000000000 ≤ k) : ∀ (d fuel i : Nat) (y : List SFrac), n = i + d → d < fuel → y.length = n →
    nprofile_divided_l0_0 k (lst n g) (den : Int) fuel y (i : Int) = some (y.take i ++ fr (fun j => lw den (g j)) i d) := by
  have hl := lst_len n g
  intro d
  induction d with
  | zero =>
    intro fuel i y h hf hy
    obtain ⟨p, rfl⟩ : ∃ p, fuel = p + 1 := ⟨fuel - 1, by omega⟩
    rw [nprofile_divided_l0_0.eq_2, if_neg (by omega), List.take_of_length_le (by omega)]; simp [fr]
  | succ d ih =>
    intro fuel i y h hf hy
    obtain ⟨p, rfl⟩ : ∃ p, fuel = p + 1 := ⟨fuel - 1, by omega⟩
    rw [nprofile_divided_l0_0.eq_2, if_pos (by omega), if_pos (by omega), Int.toNat_natCast, lst_get g (by omega), (low_p k den (g i) hd.1 hd.2 (hb i (by omega)) hk).1, Option.bind_some, if_pos (by omega), w64_succ (by omega),
      ih p (i + 1) _ (by omega) (by omega) (by simpa using hy), take_setF (by omega), fr_succ, List.append_assoc]
    rfl
theorem divided_any (k : Nat) (n den : Nat) (g : Nat → Int) (hn : n ≤ 24) (hd : 1 ≤ den ∧ den ≤ 1000000) (hb : ∀ j, j < n → (g j).natAbs ≤ 10000000000000) (hk : 100000000000000 ≤ k) : nprofile_divided k (lst n g) (den : Int) = some (fr (fun j => lw den (g j)) 0 n) := by
  have hl := lst_len n g
  have h := div_l0 k n den g hn hd hb hk n k 0 (List.replicate ((lst n g).length : Int).toNat ⟨0, 0⟩) (by omega) (by omega) (by simp [hl])
  unfold nprofile_divided
  rw [show ((0 : Nat) : Int) = 0 from rfl, List.take_zero, List.nil_append] at h
  rw [if_pos (by omega), h]; rfl
def mirF (m : STurnedMaps) (n s : Nat) : List SFrac := fr (fun j => lw (m.Values.length * m.Values.length) (ms m n s j)) 0 n
theorem Mirror_p (k : Nat) {m : STurnedMaps} {n s : Nat} (hg : GT m n s) (h0 : ctE m = 0) (hk : 100000000000000 ≤ k) : nprofile_MirrorPart k m = some (mirF m n s, 0) := by
  have hn := hg.n1
  have t0 := hg.t0
  have t1 := hg.t1
  have hp : m.Values.length * m.Values.length ≤ 12 * 12 := Nat.mul_le_mul t1 t1
  have hp1 : 1 * 1 ≤ m.Values.length * m.Values.length := Nat.mul_le_mul t0 t0
  have c := (check_any k m (by omega) (by omega)).1
  unfold nprofile_MirrorPart
  rw [c, Option.bind_some, if_pos h0, mirrorSums_any k hg (by omega), Option.bind_some, show (m.Values.length : Int) * (m.Values.length : Int) = ((m.Values.length * m.Values.length : Nat) : Int) by simp, w64_id (n := ((m.Values.length * m.Values.length : Nat) : Int)) (by omega) (by omega),
    divided_any k n _ _ hn (by omega) (fun j hj => by have := ms_bd hg j hj; omega) hk]
  rfl
def rstF (m : STurnedMaps) (n : Nat) : List SFrac := fr (fun j => lw m.Values.length (rs m j)) 0 n
theorem Rest_p (k : Nat) {m : STurnedMaps} {n s : Nat} (hg : GT m n s) (h0 : ctE m = 0) (hk : 100000000000000 ≤ k) : nprofile_RestPart k m = some (rstF m n, 0) := by
  have hn := hg.n1
  have t0 := hg.t0
  have t1 := hg.t1
  have c := (check_any k m (by omega) (by omega)).1
  unfold nprofile_RestPart
  rw [c, Option.bind_some, if_pos h0, restSums_any k hg (by omega), Option.bind_some, divided_any k n _ _ hn (by omega) (fun j hj => by have := rs_bd hg j hj; omega) hk]
  rfl
theorem fracs_l (k : Nat) (y : List SFrac) (hl : y.length < 1000000000000) : ∀ (d fuel i : Nat), y.length = i + d → d < fuel → nspeculumbase_Fracs_l0_0 k y y fuel (i : Int) = some (.inr ()) := by
  intro d
  induction d with
  | zero =>
    intro fuel i h hf
    obtain ⟨g, rfl⟩ : ∃ g, fuel = g + 1 := ⟨fuel - 1, by omega⟩
    rw [nspeculumbase_Fracs_l0_0.eq_2, if_neg (by omega)]
  | succ d ih =>
    intro fuel i h hf
    obtain ⟨g, rfl⟩ : ∃ g, fuel = g + 1 := ⟨fuel - 1, by omega⟩
    rw [nspeculumbase_Fracs_l0_0.eq_2, if_pos (by omega), if_pos (by omega), if_pos (by omega), if_pos (by simp), w64_succ (by omega)]
    exact ih g (i + 1) (by omega) (by omega)
theorem fracs_self (k : Nat) (y : List SFrac) (hl : y.length < 1000) (hk : 1000 ≤ k) : nspeculumbase_Fracs k y y = some true := by
  unfold nspeculumbase_Fracs
  rw [if_pos rfl, show (0 : Int) = ((0 : Nat) : Int) from rfl, fracs_l k y (by omega) y.length k 0 (by omega) (by omega)]; rfl

end Go.Proofs.Ytmjlboachhpggaa.Vg
