/- TopZeroPosition, plain. -/
import Derived.Test.YtmjlboachhpggaaZB
import Derived.Test.YtmjlboachhpggaaZ2
set_option linter.unusedVariables false
set_option linter.unusedSimpArgs false
namespace Go.Proofs.Ytmjlboachhpggaa.Vg
open Go Go.Proofs.Ytmjlboachhpggaa.Ev Go.Proofs.Ytmjlboachhpggaa.Vv
section
variable {k : Nat} {M I : List Int} {n s T : Nat}
theorem sg_mod {T z t : Nat} (ht : t < T) (hz : z ≤ T) : (t + z) % T = sg T z t := by
  unfold sg
  by_cases c : t + z < T
  · rw [if_pos c, Nat.mod_eq_of_lt c]
  · rw [if_neg c, Nat.mod_eq_sub_mod (by omega), Nat.mod_eq_of_lt (by omega)]
theorem pos_l (x : SMade) (B : BD M I n s T) {z : Nat} (hz : z < T) : ∀ (d fuel t : Nat), T = t + d → d < fuel →
    nspeculumtop_TopZeroPosition_l0_0 k x (z : Int) (mk M I n s T, true) fuel ((List.range t).map (fun t => rowW M I n s (sg T z t))) (t : Int) = some (rotM M I n s T z).Values := by
  have hT := B.t1
  intro d
  induction d with
  | zero =>
    intro fuel t h hf
    obtain ⟨g, rfl⟩ : ∃ g, fuel = g + 1 := ⟨fuel - 1, by omega⟩
    rw [nspeculumtop_TopZeroPosition_l0_0.eq_2]
    show (if (t : Int) < ((mk M I n s T).Values.length : Int) then _ else _) = _
    rw [mk_len, if_neg (by omega), show t = T by omega]; rfl
  | succ d ih =>
    intro fuel t h hf
    obtain ⟨g, rfl⟩ : ∃ g, fuel = g + 1 := ⟨fuel - 1, by omega⟩
    have ht : t < T := by omega
    rw [nspeculumtop_TopZeroPosition_l0_0.eq_2]
    show (if (t : Int) < ((mk M I n s T).Values.length : Int) then _ else _) = _
    dsimp only
    rw [mk_len, if_pos (by omega), w64_id (n := (t : Int) + (z : Int)) (by omega) (by omega), ← Int.natCast_add, ← Int.ofNat_tmod, sg_mod ht (by omega)]
    have := sg_lt (z := z) ht (by omega)
    rw [if_pos (by omega), if_pos (by omega), if_pos (by simp only [List.length_map, List.length_range, List.length_cons, List.length_nil]; omega), Int.toNat_natCast, mk_row this, w64_succ (by omega)]
    have ea : (List.range t).map (fun t => rowW M I n s (sg T z t)) ++ [rowW M I n s (sg T z t)] = (List.range (t + 1)).map (fun t => rowW M I n s (sg T z t)) := by
      rw [List.range_succ, List.map_append]; rfl
    rw [ea]
    exact ih g (t + 1) (by omega) (by omega)
theorem pos_l2 (x : SMade) (B : BD M I n s T) {z : Nat} (hz : z < T) (c d : List SFrac × Int) : ∀ (d' fuel i : Nat), n = i + d' → d' < fuel → nspeculumtop_TopZeroPosition_l1_0 k x (z : Int) (mk M I n s T, true) (mirF (mk M I n s T) n s, 0) (mirF (rotM M I n s T z) n s, 0) fuel (i : Int) = some (.inr ()) := by
  have hn := B.n1
  have hT1 := B.t1
  have hl1 : (mirF (mk M I n s T) n s).length = n := fr_len _ _ _
  have hl2 : (mirF (rotM M I n s T z) n s).length = n := fr_len _ _ _
  have hzs := (B.ts hz)
  have hdiv : (n : Int).tdiv (T : Int) = (s : Int) := by
    rw [B.st, Int.natCast_mul]; exact Int.mul_tdiv_cancel _ (by omega)
  intro d'
  induction d' with
  | zero =>
    intro fuel i h hf
    obtain ⟨g, rfl⟩ : ∃ g, fuel = g + 1 := ⟨fuel - 1, by omega⟩
    rw [nspeculumtop_TopZeroPosition_l1_0.eq_2]
    show (if (i : Int) < (n : Int) then _ else _) = _
    rw [if_neg (by omega)]
  | succ d' ih =>
    intro fuel i h hf
    obtain ⟨g, rfl⟩ : ∃ g, fuel = g + 1 := ⟨fuel - 1, by omega⟩
    have hi : i < n := by omega
    have hiv := ivz_in B (z := z) (by omega) hi
    rw [nspeculumtop_TopZeroPosition_l1_0.eq_2]
    show (if (i : Int) < (n : Int) then _ else _) = _
    rw [if_pos (by omega)]
    dsimp only
    rw [if_pos (by omega), if_pos (by rw [mk_len]; omega)]
    have e1 : w64 ((z : Int) * w64 ((n : Int).tdiv ((mk M I n s T).Values.length : Int))) = ((z * s : Nat) : Int) := by
      rw [mk_len, hdiv, w64_id (n := (s : Int)) (by omega) (by omega), ← Int.natCast_mul, w64_id (by omega) (by omega)]
    have hm := mod_iv k (n := n) (s := s) (t := z) (i := i) (by omega) hn hi
    rw [show (mk M I n s T).Sectors = (n : Int) from rfl, e1, w64_id (n := (i : Int) - ((z * s : Nat) : Int)) (by omega) (by omega), hm]
    rw [Option.bind_some, if_pos (by omega), Int.toNat_natCast, Int.toNat_natCast]
    unfold mirF
    rw [fr_get _ hi, fr_get _ hiv, rot_ms B (by omega) hi, rot_len, mk_len, if_pos (by simp), w64_succ (by omega)]
    have := ih g (i + 1) (by omega) (by omega)
    unfold mirF at this
    rw [rot_len, mk_len] at this
    exact this
theorem law_pos (hk : 100000000000000 ≤ k) (x : SMade) (zero : Int) : nspeculumtop_TopZeroPosition k x zero = some true := by
  unfold nspeculumtop_TopZeroPosition
  obtain ⟨r, e1, e2⟩ := maps_p (k := k) (by omega) x
  rw [show nawake k = some true from rfl, Option.bind_some, if_pos rfl, e1, Option.bind_some]
  rcases e2 with e2 | ⟨n, s, T, rfl, hT, B⟩
  · rw [if_neg (by rw [e2]; decide)]
  rw [if_pos rfl]
  dsimp only
  rw [within_base, Option.bind_some]
  have hT1 := B.t0
  have hT2 := B.t1
  have hn := B.n1
  have hv : (mk x.Mirror x.Instrument n s T).Values.length = T := mk_len
  by_cases c : 0 ≤ zero ∧ zero ≤ w64 (((mk x.Mirror x.Instrument n s T).Values.length : Int) - 1)
  case neg => rw [decide_eq_false c, if_neg (by simp)]
  rw [if_pos (decide_eq_true c)]
  rw [hv, w64_id (by omega) (by omega)] at c
  obtain ⟨z, rfl⟩ : ∃ z : Nat, zero = (z : Int) := ⟨zero.toNat, by omega⟩
  have hz : z < T := by omega
  have g1 := mk_gt B
  have g3 := rot_gt B (z := z) (by omega)
  have m1 := Mirror_p k g1 (gt_ct g1) hk
  have m3 := Mirror_p k g3 (gt_ct g3) hk
  have r1 := Rest_p k g1 (gt_ct g1) hk
  have r3 := Rest_p k g3 (gt_ct g3) hk
  have hl := pos_l (k := k) x B hz T k 0 (by omega) (by omega)
  have hsame : rstF (rotM x.Mirror x.Instrument n s T z) n = rstF (mk x.Mirror x.Instrument n s T) n := by
    unfold rstF
    rw [mk_len, rot_len]
    exact fr_congr _ _ (fun j _ hj => by rw [mk_rs B (by omega), rot_rs B (by omega) (by omega)])
  rw [show nspeculumtop_TopZeroPosition_l0_0 k x (z : Int) (mk x.Mirror x.Instrument n s T, true) k [] 0 = _ from hl, Option.bind_some, show (⟨(mk x.Mirror x.Instrument n s T).Sectors, (rotM x.Mirror x.Instrument n s T z).Values⟩ : STurnedMaps) = rotM x.Mirror x.Instrument n s T z from rfl, m1, m3, r1, r3]
  rw [Option.bind_some, Option.bind_some, Option.bind_some, Option.bind_some]
  dsimp only
  have h1 : (mirF (mk x.Mirror x.Instrument n s T) n s).length = n := fr_len _ _ _
  have h3 : (mirF (rotM x.Mirror x.Instrument n s T z) n s).length = n := fr_len _ _ _
  have hf := fracs_self k (rstF (mk x.Mirror x.Instrument n s T) n) (by unfold rstF; rw [fr_len]; omega) (by omega)
  rw [if_pos rfl, if_pos rfl, if_pos rfl, if_pos rfl, if_pos (show (((mirF (mk x.Mirror x.Instrument n s T) n s).length : Nat) : Int) = (mk x.Mirror x.Instrument n s T).Sectors by show _ = (n : Int); omega), if_pos (show (((mirF (rotM x.Mirror x.Instrument n s T z) n s).length : Nat) : Int) = (mk x.Mirror x.Instrument n s T).Sectors by show _ = (n : Int); omega), hsame, hf, Option.bind_some, if_pos rfl]
  rw [show nspeculumtop_TopZeroPosition_l1_0 k x (z : Int) (mk x.Mirror x.Instrument n s T, true) (mirF (mk x.Mirror x.Instrument n s T) n s, 0) (mirF (rotM x.Mirror x.Instrument n s T z) n s, 0) k 0 = _ from pos_l2 (k := k) x B hz ([], 0) ([], 0) n k 0 (by omega) (by omega), Option.bind_some]
end
theorem vc_pos (x : SMade) (zero : Int) : VC Go.Proofs.Try.prog 3 [VV.ag (c_SMade x), vi zero] (vb true) := nspeculumtop_TopZeroPosition_ok 100000000000000000000 x zero true (law_pos (by decide) x zero)
end Go.Proofs.Ytmjlboachhpggaa.Vg
