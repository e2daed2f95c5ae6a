import Derived.Test.YtclgijochagpdaaJR
import Derived.Test.YtclgijochagpdaaTLa
import Derived.Test.YtclgijochagpdaaLH
set_option linter.unusedVariables false
set_option linter.unusedSimpArgs false
namespace Go.Proofs.Ytclgijochagpdaa.Vg
open Go Go.Proofs.Ytclgijochagpdaa.Ev Go.Proofs.Ytclgijochagpdaa.Vv
namespace Fg
theorem okR_of (m : SRemovalMap) : ∀ (d i : Nat), (∀ j, i <= j -> j < i + d -> okZ m j = true) -> okR m d i = true
 | 0, _, _ => rfl
 | d + 1, i, h => by
   rw [okR, h i (Nat.le_refl _) (by omega), okR_of m d (i + 1) (fun j h1 h2 => h j (by omega) (by omega))]; rfl
theorem wsum_same (h h' q w : List Int) : ∀ (d i : Nat), wsum ⟨h, q, w⟩ d i = wsum ⟨h', q, w⟩ d i
 | 0, _ => rfl
 | d + 1, i => by rw [wsum, wsum, wsum_same h h' q w d (i + 1)]
theorem mapE_of {h h' q w : List Int} (h0 : mapE ⟨h, q, w⟩ = 0) (hl : h'.length = h.length) (hh : ∀ j, j < h.length -> inH (h'.getD j 0) = true) : mapE ⟨h', q, w⟩ = 0 := by
 obtain ⟨h1, h2, h3, h4, h5⟩ := mapE_zero h0
 dsimp only at h1 h2 h3 h4 h5
 have e : okR ⟨h', q, w⟩ h'.length 0 = true := okR_of _ _ _ (fun j _ hj => by
  have hz := okR_at _ _ _ h4 j (by omega) (by omega)
  unfold okZ at hz ⊢
  rw [Bool.and_eq_true] at hz ⊢
  exact ⟨hh j (by omega), hz.2⟩)
 have e2 : wsum ⟨h', q, w⟩ h'.length 0 = wsum ⟨h, q, w⟩ h.length 0 := by rw [hl]; exact wsum_same _ _ _ _ _ _
 unfold mapE
 dsimp only
 rw [e, e2, if_pos (by omega), if_pos (by omega), if_pos (by omega)]
 dsimp only
 rw [if_neg h5]
end Fg
section
variable {k : Nat}
def hiZ (x : List SRange) (c : Int) (n : Nat) : List Int := (List.range n).map fun i => (x.getD i default).Hi + c
theorem hiZ_len (x : List SRange) (c : Int) (n : Nat) : (hiZ x c n).length = n := by simp [hiZ]
theorem hiZ_get (x : List SRange) (c : Int) {n i : Nat} (h : i < n) : (hiZ x c n).getD i 0 = (x.getD i default).Hi + c := by
 simp [hiZ, List.getD_eq_getElem?_getD, List.getElem?_map, List.getElem?_range h]
theorem hi_l {m : SMeasured} (hn : m.Heights.length <= 8) (x : List SRange × List Int × Int) (hx : x.1.length = m.Heights.length) (q w : List Int) : ∀ (d fuel i : Nat), m.Heights.length = i + d -> d < fuel -> (∀ j, j < i -> -90000 <= (x.1.getD j default).Hi /\ (x.1.getD j default).Hi <= 90000) ->
 ∃ r, nspeculumtop_TopLeastRemoval_l0_0 k m x q w fuel (hiZ x.1 0 i) (hiZ x.1 77 i) (i : Int) = some r /\ (r = .inl () \/ r = .inr (hiZ x.1 0 m.Heights.length, hiZ x.1 77 m.Heights.length) /\ ∀ j, j < m.Heights.length -> -90000 <= (x.1.getD j default).Hi /\ (x.1.getD j default).Hi <= 90000) := by
 intro d
 induction d with
 | zero =>
   intro fuel i he hf hp
   obtain ⟨f, rfl⟩ : ∃ f, fuel = f + 1 := ⟨fuel - 1, by omega⟩
   refine ⟨_, by rw [nspeculumtop_TopLeastRemoval_l0_0.eq_2, if_neg (by omega)], .inr ⟨by rw [show m.Heights.length = i by omega], fun j hj => hp j (by omega)⟩⟩
 | succ d ih =>
   intro fuel i he hf hp
   obtain ⟨f, rfl⟩ : ∃ f, fuel = f + 1 := ⟨fuel - 1, by omega⟩
   rw [nspeculumtop_TopLeastRemoval_l0_0.eq_2, if_pos (by omega), if_pos (by omega), within_base, Option.bind_some, Int.toNat_natCast]
   by_cases c : inR (-90000) 90000 (x.1.getD i default).Hi = true
   ·have hc := inR_t.1 c
    have ea : ∀ c : Int, hiZ x.1 c i ++ [(x.1.getD i default).Hi + c] = hiZ x.1 c (i + 1) := fun c => by simp [hiZ, List.range_succ]
    have e0 := ea 0
    rw [Int.add_zero] at e0
    rw [if_pos c, if_pos (by rw [hiZ_len]; simp; omega), if_pos (by rw [hiZ_len]; simp; omega), w64_id (n := (x.1.getD i default).Hi + 77) (by omega) (by omega), e0, ea 77, w64_succ (by omega)]
    refine ih f (i + 1) (by omega) (by omega) (fun j hj => ?_)
    by_cases e : j = i
    ·rw [e]; exact hc
    ·exact hp j (by omega)
   ·rw [if_neg c]; exact ⟨_, rfl, .inl rfl⟩
theorem law_tl (hk : 9223372036854775808 < k) (hj : nspeculumtop_judges (k + 3) = some true) (m : SMeasured) (q w : List Int) : nspeculumtop_TopLeastRemoval (k + 3) m q w = some true := by
 unfold nspeculumtop_TopLeastRemoval
 obtain ⟨r1, e1, c1⟩ := readings_p (k := k + 3) (by omega) m (part := 1) (.inl rfl)
 rw [hj, Option.bind_some, if_pos rfl, e1, Option.bind_some]
 rcases c1 with c1 | ⟨rfl, v⟩
 ·rw [if_neg (by rw [c1]; decide)]
 dsimp only
 rw [if_pos rfl]
 by_cases hq : (q.length : Int) = (m.Heights.length : Int)
 case neg => rw [if_neg hq]
 rw [if_pos hq]
 by_cases hw' : (w.length : Int) = (m.Heights.length : Int)
 case neg => rw [if_neg hw']
 rw [if_pos hw']
 have hn := v.n
 have q1 := rds_chk v (part := 1) (.inl rfl)
 have O1 := chk_ok q1
 have P1 := keep_pot O1 (rds_keep v (.inl rfl))
 have hz : ((m.Heights.length : Int)).toNat = m.Heights.length := Int.toNat_natCast _
 by_cases hw : Whole m.Heights.length (legs (rds m 1 m.Pairs.length) 0)
 case neg =>
  rw [enc_open (by omega) O1 q1 ⟨_, P1⟩ (by rw [hz]; exact hw), Option.bind_some]
  dsimp only
  rw [if_neg (by decide)]
 have E1 := enc_ok (k := k + 3) (by omega) O1 q1 ⟨_, P1⟩ (by rw [hz]; exact hw)
 rw [hz] at E1
 rw [E1, Option.bind_some]
 dsimp only
 have hbl := encl_len m.Heights.length (legs (rds m 1 m.Pairs.length) 0)
 generalize encl m.Heights.length (legs (rds m 1 m.Pairs.length) 0) = b at *
 rw [if_pos rfl, if_pos (by omega), copy_any (k + 3) (c := q) (by omega), Option.bind_some, copy_any (k + 3) (c := w) (by omega), Option.bind_some]
 obtain ⟨r, f1, f2⟩ := hi_l (k := k + 3) hn.2 (b, [], 0) hbl q w m.Heights.length (k + 3) 0 (by omega) (by omega) (fun j hj => by omega)
 have f1' : nspeculumtop_TopLeastRemoval_l0_0 (k + 3) m (b, [], 0) q w (k + 3) ([] : List Int) ([] : List Int) 0 = some r := f1
 rw [f1', Option.bind_some]
 rcases f2 with rfl | ⟨rfl, hh⟩
 ·rfl
 dsimp only
 have hl0 := hiZ_len b 0 m.Heights.length
 have hl7 := hiZ_len b 77 m.Heights.length
 have g0 := fun i (hi : i < m.Heights.length) => hiZ_get b 0 hi
 have g7 := fun i (hi : i < m.Heights.length) => hiZ_get b 77 hi
 dsimp only at hh
 generalize hiZ b 0 m.Heights.length = H at *
 generalize hiZ b 77 m.Heights.length = U at *
 have ck := (Fg.checkMap_any (k + 1) ⟨H, q, w⟩ (by omega)).2
 rw [show nspeculumref06_CheckMap (k + 3) ⟨H, q, w⟩ = _ from ck, Option.bind_some]
 by_cases h0 : Fg.mapE ⟨H, q, w⟩ = 0
 case neg => rw [if_neg h0]
 rw [if_pos h0]
 have h7 : Fg.mapE ⟨U, q, w⟩ = 0 := Fg.mapE_of h0 (by omega) (fun j hj => by
  rw [g7 j (by omega)]
  have := hh j (by omega)
  exact decide_eq_true (by omega))
 obtain ⟨l, a, c, F, r0, s0⟩ := Fg.figure_p (k := k + 1) (by omega) h0
 obtain ⟨l', a', c', G, r7, s7⟩ := Fg.figure_p (k := k + 1) (by omega) h7
 have cf := Fg.checkFig_p (k := k) hk h0 F
 have M := Fg.mapE_ok h0
 have M' := Fg.mapE_ok h7
 rw [show nfigure_Reference (k + 3) ⟨H, q, w⟩ = _ from r0, Option.bind_some, cf, Option.bind_some, show nfigure_Least (k + 3) ⟨H, q, w⟩ = _ from s0, Option.bind_some, show nfigure_Least (k + 3) ⟨U, q, w⟩ = _ from s7, Option.bind_some]
 dsimp only at F G M M' ⊢
 have hUH : U.length = H.length := by omega
 rw [hUH] at G M' ⊢
 have same := Fg.least_same M M' F G (c := 77) (by decide) (fun i hi => by
  have x0 := g0 i (by omega)
  have x7 := g7 i (by omega)
  show U.getD i 0 = H.getD i 0 + 77
  rw [x0, x7]; omega) (fun i hi => rfl) (fun i hi => rfl)
 have nn := Fg.least_nonneg M F
 rw [if_pos rfl, if_pos rfl, if_pos rfl, if_pos rfl, <- same, if_pos (by simp)]
 rw [decide_eq_true nn]
end
theorem judges_big : nspeculumtop_judges (99999999999999999997 + 3) = some true := by kernel_rfl
theorem vc_tl (m : SMeasured) (q w : List Int) : VC Try.prog 3 [.ag (c_SMeasured m), .tr (q.map vi) q.length, .tr (w.map vi) w.length] (vb true) :=
 nspeculumtop_TopLeastRemoval_ok (99999999999999999997 + 3) m q w true (law_tl (by decide) judges_big m q w)
end Go.Proofs.Ytclgijochagpdaa.Vg
