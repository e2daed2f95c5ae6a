/- FigureSquares: the optimum; the greatest mean square; the law. Plain. -/
import Derived.Test.YtggggonmlmondaaSC
import Derived.Test.YtggggonmlmondaaQ2
set_option linter.unusedVariables false
set_option linter.unusedSimpArgs false
namespace Go.Proofs.Ytggggonmlmondaa.Vg
open Go Go.Proofs.Ytggggonmlmondaa.Ev Go.Proofs.Ytggggonmlmondaa.Vv
open Sq (sm vr cl)
local notation "LO" => SRange.Lo
local notation "HI" => SRange.Hi
theorem opt {l : List SRange} (L : LK l) : ∃ a ∈ l, ∃ e, (e = a.Lo ∨ e = a.Hi) ∧ 0 < NN e l ∧ sm (fun a => cl LO HI (nm l e).Num (nm l e).Den a - (nm l e).Num) l = 0 := by
  have hne : l ≠ [] := fun h => by have := L.n0; rw [h] at this; simp at this
  obtain ⟨e, he, hN, h⟩ := Sq.opt_ex (lo := LO) (hi := HI) hne (fun a ha => (L.ok a ha).2.2)
  have hN' : 0 < NN e l := hN
  have hz : sm (fun a => cl LO HI (nm l e).Num (nm l e).Den a - (nm l e).Num) l = 0 := by
    have hnm : nm l e = lw (SS e l) (NN e l) := by unfold nm; rw [if_neg (by omega)]
    rw [hnm]
    refine h _ _ (lw_low hN').d ?_
    have := lw_cross (x := SS e l) hN'
    rw [Int.mul_comm (lw (SS e l) (NN e l)).Den]
    exact this
  rcases List.mem_append.1 he with h1 | h1
  · obtain ⟨a, ha, rfl⟩ := List.mem_map.1 h1
    exact ⟨a, ha, _, .inl rfl, hN', hz⟩
  · obtain ⟨a, ha, rfl⟩ := List.mem_map.1 h1
    exact ⟨a, ha, _, .inr rfl, hN', hz⟩
section
variable {l : List SRange} {f : SFrac}
theorem xq_eq (l : List SRange) (f : SFrac) : xq l f = lw (vr (cl LO HI f.Num f.Den) l) ((l.length : Int) * (l.length : Int) * f.Den * f.Den) := by
  unfold xq mq
  rw [hs_len]
  unfold hs
  rw [vr_map]
theorem opt_x (L : LK l) (hl : l.length ≤ 6) (V : Lev f) (hz : sm (fun a => cl LO HI f.Num f.Den a - f.Num) l = 0) {g : SFrac} (W : Lev g) : (xq l f).Num * (xq l g).Den ≤ (xq l g).Num * (xq l f).Den := by
  have n0 := L.n0
  rw [xq_eq, xq_eq]
  have hb := Sq.best (p' := g.Den) (h := cl LO HI g.Num g.Den) V.d0 W.d0 hz (fun a ha => Sq.cl_in W.d0 (L.ok a ha).2.2)
  obtain ⟨d1, -⟩ := dd_bd (n := (l.length : Int)) (by omega) (by omega) V.d0 V.d1
  obtain ⟨c1, -⟩ := dd_bd (n := (l.length : Int)) (by omega) (by omega) W.d0 W.d1
  refine lw_cmp d1 c1 ?_
  have := Int.mul_le_mul_of_nonneg_left hb (show (0 : Int) ≤ (l.length : Int) * (l.length : Int) from Sq.sq_nonneg _)
  have e1 : (l.length : Int) * (l.length : Int) * (g.Den * g.Den * vr (cl LO HI f.Num f.Den) l) = vr (cl LO HI f.Num f.Den) l * ((l.length : Int) * (l.length : Int) * g.Den * g.Den) := by grind
  have e2 : (l.length : Int) * (l.length : Int) * (f.Den * f.Den * vr (cl LO HI g.Num g.Den) l) = vr (cl LO HI g.Num g.Den) l * ((l.length : Int) * (l.length : Int) * f.Den * f.Den) := by grind
  omega
theorem Gs_vr (l : List SRange) (g : SFrac) : vr (cl LO HI g.Num g.Den) l ≤ (l.length : Int) * Gs g l := by
  have e : vr (cl LO HI g.Num g.Den) l = vr (fun a => cl LO HI g.Num g.Den a - g.Num) l := by
    rw [← Sq.vr_shift (fun a => cl LO HI g.Num g.Den a - g.Num) g.Num]
    exact Sq.vr_congr l (fun a _ => by omega)
  have h := Sq.sq_nonneg (sm (fun a => cl LO HI g.Num g.Den a - g.Num) l)
  rw [e]
  have hg : Gs g l = sm (fun a => (fun a => cl LO HI g.Num g.Den a - g.Num) a * (fun a => cl LO HI g.Num g.Den a - g.Num) a) l := rfl
  rw [hg]
  unfold Sq.vr
  omega
theorem opt_g (L : LK l) (hl : l.length ≤ 6) (V : Lev f) (hz : sm (fun a => cl LO HI f.Num f.Den a - f.Num) l = 0) {g : SFrac} (W : Lev g) : (xq l f).Num * (sa l g).Den ≤ (sa l g).Num * (xq l f).Den := by
  have n0 := L.n0
  rw [xq_eq]
  unfold sa
  have hb := Sq.best (p' := g.Den) (h := cl LO HI g.Num g.Den) V.d0 W.d0 hz (fun a ha => Sq.cl_in W.d0 (L.ok a ha).2.2)
  have hv := Gs_vr l g
  obtain ⟨d1, -⟩ := dd_bd (n := (l.length : Int)) (by omega) (by omega) V.d0 V.d1
  obtain ⟨c1, -⟩ := den_bd L hl W
  refine lw_cmp d1 c1 ?_
  have h2 := Int.mul_le_mul_of_nonneg_left hv (show (0 : Int) ≤ f.Den * f.Den from Sq.sq_nonneg _)
  have h3 := Int.mul_le_mul_of_nonneg_left (Int.le_trans hb h2) (show (0 : Int) ≤ (l.length : Int) by omega)
  have e1 : (l.length : Int) * (g.Den * g.Den * vr (cl LO HI f.Num f.Den) l) = vr (cl LO HI f.Num f.Den) l * ((l.length : Int) * g.Den * g.Den) := by grind
  have e2 : (l.length : Int) * (f.Den * f.Den * ((l.length : Int) * Gs g l)) = Gs g l * ((l.length : Int) * (l.length : Int) * f.Den * f.Den) := by grind
  omega
theorem opt_s (L : LK l) (hl : l.length ≤ 6) (V : Lev f) (hz : sm (fun a => cl LO HI f.Num f.Den a - f.Num) l = 0) : xq l f = sa l f := by
  have n0 := L.n0
  rw [xq_eq]
  obtain ⟨d1, -⟩ := dd_bd (n := (l.length : Int)) (by omega) (by omega) V.d0 V.d1
  obtain ⟨c1, -⟩ := den_bd L hl V
  have e : vr (cl LO HI f.Num f.Den) l = (l.length : Int) * Gs f l := by
    have e1 : vr (cl LO HI f.Num f.Den) l = vr (fun a => cl LO HI f.Num f.Den a - f.Num) l := by
      rw [← Sq.vr_shift (fun a => cl LO HI f.Num f.Den a - f.Num) f.Num]
      exact Sq.vr_congr l (fun a _ => by omega)
    rw [e1, Sq.vr_zero hz]; rfl
  unfold sa
  refine lw_eq d1 (lw_low c1) ?_
  have h := lw_cross (x := Gs f l) c1
  rw [e]
  generalize lw (Gs f l) ((l.length : Int) * f.Den * f.Den) = w at h ⊢
  grind
end
theorem sa_fr {l : List SRange} (L : LK l) (hl : l.length ≤ 6) {f : SFrac} (V : Lev f) : Fr (sa l f) := by
  obtain ⟨d1, d2, -⟩ := den_bd L hl V
  have hg := Gs_bd L hl V
  have h := lw_le (x := Gs f l) d1
  unfold sa
  exact ⟨lw_low d1, by omega, by omega⟩
/-- the least mean square of both. -/
theorem leasts {k : Nat} (hk : 9223372036854775808 < k) {l : List SRange} (L : LK l) (hl : l.length ≤ 6) : ∃ T f : SFrac, Lev f ∧ sm (fun a => cl LO HI f.Num f.Den a - f.Num) l = 0 ∧ T = xq l f ∧ nfigure_leastSquare k l = some T ∧ ∃ F : List SFrac, nspeculumref06_SquareRange_l0_0 k l k [] 0 = some (Es l) ∧ nspeculumref06_SquareRange_l1_0 k l (Es l) k (Es l) 0 = some F ∧ 0 < F.length ∧ Lev (F.getD 0 default) ∧ nspeculumref06_SquareRange_l4_0 k l F k (xq l (F.getD 0 default)).Num (xq l (F.getD 0 default)).Den 1 = some (T.Num, T.Den) := by
  obtain ⟨a, ha, e, he, hN, hz⟩ := opt L
  have hea : -100000 ≤ e ∧ e ≤ 100000 := by
    have := L.ok a ha
    unfold OKr at this
    rcases he with rfl | rfl <;> omega
  have V := nm_lev L hl hea
  have hnm : nm l e = lw (SS e l) (NN e l) := by unfold nm; rw [if_neg (by omega)]
  refine ⟨xq l (nm l e), nm l e, V, hz, rfl, ?_, ?_⟩
  · have h := least_l k hk L hl l.length k 0 [] (by omega) (by omega) rfl
    unfold nfigure_leastSquare
    rw [show nfigure_leastSquare_l0_0 k l k [] 0 = _ from h, Option.bind_some, List.nil_append, List.drop_zero]
    have hlen : (l.flatMap (sq2 l)).length = 2 * l.length := by
      rw [List.length_flatMap]
      have : ∀ m : List SRange, (m.map (fun a => (sq2 l a).length)).sum = 2 * m.length := fun m => by
        induction m with
        | nil => rfl
        | cons b m ih => rw [List.map_cons, List.sum_cons, ih]; simp [sq2]; omega
      exact this l
    have hmem : ∀ g ∈ l.flatMap (sq2 l), ∃ w, Lev w ∧ g = sa l w := fun g hg => by
      obtain ⟨b, hb, hg⟩ := List.mem_flatMap.1 hg
      have ho := L.ok b hb
      unfold sq2 at hg
      rcases List.mem_cons.1 hg with rfl | hg
      · exact ⟨_, nm_lev L hl ho.1, rfl⟩
      · exact ⟨_, nm_lev L hl ho.2.1, List.mem_singleton.1 hg⟩
    rw [min_any (k := k) (by omega) (fun g hg => by obtain ⟨w, h1, rfl⟩ := hmem g hg; exact sa_fr L hl h1) (fun g hg => by obtain ⟨w, h1, rfl⟩ := hmem g hg; exact opt_g L hl V hz h1) (by omega) (T := xq l (nm l e)) (by
      rw [opt_s L hl V hz]
      refine List.mem_flatMap.2 ⟨a, ha, ?_⟩
      unfold sq2
      rcases he with rfl | rfl <;> simp)]
    rfl
  · obtain ⟨F, -, h2, h3, h4, h5, h6, h7⟩ := levels hk L hl
    have h0 := h2 _ (getD_m h3 default)
    have hin := h5 a ha e he hN
    rw [← hnm] at hin
    refine ⟨F, h6, h7, h3, h0, ?_⟩
    refine leastR_l hk L hl h2 h4 (xq_fr L hl V) (fun g W => opt_x L hl V hz W) (F.length - 1) k 1 (xq l (F.getD 0 default)) (by omega) (by omega) (xq_fr L hl h0) (opt_x L hl V hz h0) ?_
    have hd := drop_c h3 default
    rw [List.drop_zero] at hd
    rw [hd] at hin
    rcases List.mem_cons.1 hin with h | h
    · exact .inl (by rw [h])
    · exact .inr ⟨_, h, rfl⟩
/-! choices of ends -/
def hv (l : List SRange) (c : Int) (i : Nat) : Int := if (bits2 (fun _ x y => x &&& y) .i64 (c.fdiv (2 ^ (min (i : Int).toNat 64))) 1) = 1 then (l.getD i default).Hi else (l.getD i default).Lo
def chH (l : List SRange) (c : Int) : List Int := (List.range l.length).map (hv l c)
theorem chH_len (l : List SRange) (c : Int) : (chH l c).length = l.length := by simp [chH]
theorem hv_in {l : List SRange} (L : LK l) (c : Int) {i : Nat} (hi : i < l.length) : (l.getD i default).Lo ≤ hv l c i ∧ hv l c i ≤ (l.getD i default).Hi := by
  have ho := L.ok _ (getD_m hi default)
  unfold OKr at ho
  unfold hv; split <;> omega
theorem chH_bd {l : List SRange} (L : LK l) (c : Int) : ∀ y ∈ chH l c, -100000 ≤ y ∧ y ≤ 100000 := fun y hy => by
  obtain ⟨i, hi, rfl⟩ := List.mem_map.1 hy
  have hi := List.mem_range.1 hi
  have h := hv_in L c hi
  have ho := L.ok _ (getD_m hi default)
  unfold OKr at ho
  omega
theorem l_range (l : List SRange) : l = (List.range l.length).map (fun i => l.getD i default) := by
  refine List.ext_getElem (by simp) (fun i h1 h2 => ?_)
  simp [List.getD_eq_getElem?_getD, List.getElem?_eq_getElem h1]
theorem sm_range (g : SRange → Int) (l : List SRange) : sm g l = sm (fun i => g (l.getD i default)) (List.range l.length) := by
  conv => lhs; rw [l_range l]
  rw [sm_map]
/-- no choice has a smaller mean square than the least. -/
theorem opt_c {l : List SRange} (L : LK l) (hl : l.length ≤ 6) {f : SFrac} (V : Lev f) (hz : sm (fun a => cl LO HI f.Num f.Den a - f.Num) l = 0) (c : Int) : (xq l f).Num * (mq (chH l c) 1).Den ≤ (mq (chH l c) 1).Num * (xq l f).Den := by
  have n0 := L.n0
  rw [xq_eq]
  unfold mq
  have e0 : vr id (chH l c) = vr (hv l c) (List.range l.length) := vr_map _ _
  have ev : vr (cl LO HI f.Num f.Den) l = vr (cl (fun i => (l.getD i default).Lo) (fun i => (l.getD i default).Hi) f.Num f.Den) (List.range l.length) := by
    unfold Sq.vr
    rw [sm_range (fun a => cl LO HI f.Num f.Den a * cl LO HI f.Num f.Den a), sm_range (cl LO HI f.Num f.Den), List.length_range]; rfl
  have hz' : sm (fun i => cl (fun i => (l.getD i default).Lo) (fun i => (l.getD i default).Hi) f.Num f.Den i - f.Num) (List.range l.length) = 0 := by
    rw [← hz, sm_range (fun a => cl LO HI f.Num f.Den a - f.Num)]; rfl
  have hb := Sq.best (p' := 1) (h := hv l c) V.d0 (by omega) hz' (fun i hi => by
    have := hv_in L c (List.mem_range.1 hi)
    simp only [Int.mul_one]; exact this)
  rw [← ev, ← e0] at hb
  obtain ⟨d1, -⟩ := dd_bd (n := (l.length : Int)) (by omega) (by omega) V.d0 V.d1
  obtain ⟨c1, -⟩ := dd_bd (n := (l.length : Int)) (den := 1) (by omega) (by omega) (by omega) (by omega)
  rw [chH_len]
  refine lw_cmp d1 c1 ?_
  have := Int.mul_le_mul_of_nonneg_left hb (show (0 : Int) ≤ (l.length : Int) * (l.length : Int) from Sq.sq_nonneg _)
  have e1 : (l.length : Int) * (l.length : Int) * (1 * 1 * vr (cl LO HI f.Num f.Den) l) = vr (cl LO HI f.Num f.Den) l * ((l.length : Int) * (l.length : Int) * 1 * 1) := by grind
  have e2 : (l.length : Int) * (l.length : Int) * (f.Den * f.Den * vr id (chH l c)) = vr id (chH l c) * ((l.length : Int) * (l.length : Int) * f.Den * f.Den) := by grind
  omega
end Go.Proofs.Ytggggonmlmondaa.Vg
