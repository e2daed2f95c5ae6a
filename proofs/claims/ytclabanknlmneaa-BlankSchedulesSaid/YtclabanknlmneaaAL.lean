/- BlankSchedules: the reference's times, and the law. -/
import Derived.Test.YtclabanknlmneaaAK
set_option linter.unusedVariables false
set_option linter.unusedSimpArgs false
namespace Go.Proofs.Ytclabanknlmneaa.Vg
open Go Go.Proofs.Ytclabanknlmneaa.Ev Go.Proofs.Ytclabanknlmneaa.Vv
def rxB : List SCoolBound → List Int → List Int
  | [], x => x
  | b :: l, x => if gx x (fB b) < gx x (tB b) - b.Most then rxB l (x.set (fB b) (gx x (tB b) - b.Most)) else rxB l x
theorem rs_rx : ∀ (l : List SCoolBound) (i : Nat) (x q : List Int) (lev : Int) (ok : Bool), (rsB l i x q lev ok).2.2.1 = rxB l x
  | [], _, _, _, _, _ => rfl
  | b :: l, i, x, q, lev, ok => by
    unfold rsB rxB
    split
    · exact rs_rx l _ _ _ _ _
    · exact rs_rx l _ _ _ _ _
def itX (l : List SCoolBound) : Nat → List Int → List Int
  | 0, x => x
  | r + 1, x => itX l r (rxB l x)
def ryB : List SCoolBound → List Int → List Int
  | [], y => y
  | b :: l, y => if 0 ≤ b.From then (if gx (0 :: y) (fB b) < gx (0 :: y) (tB b) - b.Most then ryB l (y.set b.From.toNat (gx (0 :: y) (tB b) - b.Most)) else ryB l y) else ryB l y
def itY (l : List SCoolBound) : Nat → List Int → List Int
  | 0, y => y
  | r + 1, y => itY l r (ryB l y)
def posB (l : List SCoolBound) : List SCoolBound := l.filter fun b => decide (0 ≤ b.From)
theorem ry_rx : ∀ (l : List SCoolBound) (y : List Int), (0 : Int) :: ryB l y = rxB (posB l) (0 :: y)
  | [], y => rfl
  | b :: l, y => by
    unfold ryB posB
    by_cases c : 0 ≤ b.From
    · rw [if_pos c, List.filter_cons_of_pos (by simpa using c)]
      show _ = rxB (b :: posB l) (0 :: y)
      unfold rxB
      have hf : fB b = b.From.toNat + 1 := by unfold fB; omega
      by_cases c2 : gx (0 :: y) (fB b) < gx (0 :: y) (tB b) - b.Most
      · rw [if_pos c2, if_pos c2, ry_rx l _, hf]; rfl
      · rw [if_neg c2, if_neg c2]; exact ry_rx l y
    · rw [if_neg c, List.filter_cons_of_neg (by simpa using c)]
      exact ry_rx l y
theorem it_yx (l : List SCoolBound) : ∀ (r : Nat) (y : List Int), (0 : Int) :: itY l r y = itX (posB l) r (0 :: y)
  | 0, y => rfl
  | r + 1, y => by
    show (0 : Int) :: itY l r (ryB l y) = itX (posB l) r (rxB (posB l) (0 :: y))
    rw [it_yx l r, ry_rx]
theorem ryB_len : ∀ (l : List SCoolBound) (y : List Int), (ryB l y).length = y.length
  | [], y => rfl
  | b :: l, y => by
    unfold ryB
    split
    · split
      · rw [ryB_len]; simp
      · exact ryB_len l y
    · exact ryB_len l y
theorem gx_tail (y : List Int) (j : Nat) : gx (0 :: y) (j + 1) = y.getD j 0 := rfl
theorem timeOf_n (k : Nat) {N : Nat} {b : SCoolBound} (hB : BOK N b) {y : List Int} (hy : y.length + 1 = N) : nspeculumref03_timeOf k y b.To = some (gx (0 :: y) (tB b)) := by
  have h := hB.t
  unfold nspeculumref03_timeOf
  by_cases c : b.To < 0
  · have : tB b = 0 := by unfold tB; omega
    rw [if_pos c, this]; rfl
  · have : tB b = b.To.toNat + 1 := by unfold tB; omega
    rw [if_neg c, if_pos (by omega), this]; rfl
theorem timeOf_f (k : Nat) {N : Nat} {b : SCoolBound} (hB : BOK N b) {y : List Int} (hy : y.length + 1 = N) : nspeculumref03_timeOf k y b.From = some (gx (0 :: y) (fB b)) := by
  have h := hB.f
  unfold nspeculumref03_timeOf
  by_cases c : b.From < 0
  · have : fB b = 0 := by unfold fB; omega
    rw [if_pos c, this]; rfl
  · have : fB b = b.From.toNat + 1 := by unfold fB; omega
    rw [if_neg c, if_pos (by omega), this]; rfl
section
variable {a : SAnnealing} {l : List SCoolBound} {N : Nat}
theorem ref_round (k : Nat) (hb : ∀ b ∈ l, BOK N b) (hl : l.length ≤ 211) (hN : N ≤ 1000) (x6 : Int) : ∀ (d fuel i : Nat) (y : List Int) (C : Int), l.length = i + d → d < fuel → y.length + 1 = N → 0 ≤ C → (∀ j, 0 ≤ gx (0 :: y) j ∧ gx (0 :: y) j ≤ C) → C + (d : Int) * 1000000000000 ≤ 8000000000000000000 →
    nspeculumref03_Earliest_l1_0 k a l x6 fuel y (i : Int) = some (ryB (l.drop i) y) ∧ ∀ j, 0 ≤ gx (0 :: ryB (l.drop i) y) j ∧ gx (0 :: ryB (l.drop i) y) j ≤ C + (d : Int) * 1000000000000 := by
  intro d
  induction d with
  | zero =>
    intro fuel i y C he hf hy h0 hC hM
    obtain ⟨f, rfl⟩ : ∃ f, fuel = f + 1 := ⟨fuel - 1, by omega⟩
    rw [nspeculumref03_Earliest_l1_0.eq_2, if_neg (by omega), List.drop_of_length_le (by omega)]
    refine ⟨rfl, fun j => ?_⟩
    have := hC j
    show 0 ≤ gx (0 :: y) j ∧ gx (0 :: y) j ≤ _
    omega
  | succ d ih =>
    intro fuel i y C he hf hy h0 hC hM
    obtain ⟨f, rfl⟩ : ∃ f, fuel = f + 1 := ⟨fuel - 1, by omega⟩
    have hB := hb _ (mem_getD (l := l) (i := i) (by omega))
    rw [nspeculumref03_Earliest_l1_0.eq_2, if_pos (by omega), if_pos (by omega), drop_get (show i < l.length by omega) default, Int.toNat_natCast, w64_succ (by omega)]
    generalize l.getD i default = b at hB
    have hfN := hB.f
    have h3 := hB.m
    have c1 := hC (tB b)
    have c2 := hC (fB b)
    unfold ryB
    have go : ∀ y' : List Int, y'.length + 1 = N → ∀ C', 0 ≤ C' → C' ≤ C + 1000000000000 → (∀ j, 0 ≤ gx (0 :: y') j ∧ gx (0 :: y') j ≤ C') →
        nspeculumref03_Earliest_l1_0 k a l x6 f y' ((i + 1 : Nat) : Int) = some (ryB (l.drop (i + 1)) y') ∧ ∀ j, 0 ≤ gx (0 :: ryB (l.drop (i + 1)) y') j ∧ gx (0 :: ryB (l.drop (i + 1)) y') j ≤ C + ((d + 1 : Nat) : Int) * 1000000000000 := by
      intro y' hy' C' h0' hC' hb'
      obtain ⟨g1, g2⟩ := ih f (i + 1) y' C' (by omega) (by omega) hy' h0' hb' (by omega)
      exact ⟨g1, fun j => by have := g2 j; omega⟩
    by_cases c : 0 ≤ b.From
    · have hf : fB b = b.From.toNat + 1 := by unfold fB; omega
      rw [if_pos c, if_pos c, timeOf_n k hB hy, Option.bind_some, if_pos (by omega), show y.getD b.From.toNat 0 = gx (0 :: y) (fB b) by rw [hf]; rfl, w64_id (n := gx (0 :: y) (tB b) - gx (0 :: y) (fB b)) (by omega) (by omega)]
      by_cases c3 : gx (0 :: y) (fB b) < gx (0 :: y) (tB b) - b.Most
      · rw [if_pos (show b.Most < _ by omega), if_pos c3, w64_id (n := gx (0 :: y) (tB b) - b.Most) (by omega) (by omega)]
        refine go _ (by simp [hy]) (C + 1000000000000) (by omega) (Int.le_refl _) (fun j => ?_)
        have hs : gx (0 :: y.set b.From.toNat (gx (0 :: y) (tB b) - b.Most)) j = gx ((0 :: y).set (fB b) (gx (0 :: y) (tB b) - b.Most)) j := by rw [hf]; rfl
        rw [hs, gx_set (by simp; omega)]
        have := hC j
        split <;> omega
      · rw [if_neg (show ¬ b.Most < _ by omega), if_neg c3]
        exact go y hy C h0 (by omega) hC
    · rw [if_neg c, if_neg c]
      exact go y hy C h0 (by omega) hC
theorem ref_rounds (k : Nat) (hk : 1000 < k) (hs : a.Steps.length ≤ 30) (hN : N = a.Steps.length + 2) (hb : ∀ b ∈ l, BOK N b) (hl : l.length ≤ 211) : ∀ (d fuel i : Nat) (y : List Int), N + 1 = i + d → d < fuel → y.length + 1 = N → (∀ j, 0 ≤ gx (0 :: y) j ∧ gx (0 :: y) j ≤ (i : Int) * 211000000000000) →
    nspeculumref03_Earliest_l0_0 k a l fuel y (i : Int) = some (itY l d y) ∧ (itY l d y).length + 1 = N ∧ ∀ j, 0 ≤ gx (0 :: itY l d y) j ∧ gx (0 :: itY l d y) j ≤ 7000000000000000 := by
  intro d
  induction d with
  | zero =>
    intro fuel i y he hf hy hC
    obtain ⟨f, rfl⟩ : ∃ f, fuel = f + 1 := ⟨fuel - 1, by omega⟩
    refine ⟨?_, hy, fun j => by have := hC j; show 0 ≤ gx (0 :: y) j ∧ gx (0 :: y) j ≤ _; omega⟩
    rw [nspeculumref03_Earliest_l0_0.eq_2, w64_id (n := (a.Steps.length : Int) + 2) (by omega) (by omega), if_neg (by omega)]; rfl
  | succ d ih =>
    intro fuel i y he hf hy hC
    obtain ⟨f, rfl⟩ : ∃ f, fuel = f + 1 := ⟨fuel - 1, by omega⟩
    obtain ⟨g1, g2⟩ := ref_round (a := a) k hb hl (by omega) (i : Int) l.length k 0 y ((i : Int) * 211000000000000) (by omega) (by omega) hy (by omega) hC (by omega)
    rw [List.drop_zero] at g1 g2
    rw [nspeculumref03_Earliest_l0_0.eq_2, w64_id (n := (a.Steps.length : Int) + 2) (by omega) (by omega), if_pos (by omega), show nspeculumref03_Earliest_l1_0 k a l (i : Int) k y 0 = _ from g1, Option.bind_some, w64_succ (by omega)]
    exact ih f (i + 1) _ (by omega) (by omega) (by rw [ryB_len]; exact hy) (fun j => by have := g2 j; omega)
def satB (y : List Int) (b : SCoolBound) : Bool := decide (gx (0 :: y) (tB b) - b.Most ≤ gx (0 :: y) (fB b))
theorem ref_check (k : Nat) (hb : ∀ b ∈ l, BOK N b) (hl : l.length ≤ 211) {y : List Int} (hy : y.length + 1 = N) (hC : ∀ j, 0 ≤ gx (0 :: y) j ∧ gx (0 :: y) j ≤ 7000000000000000) : ∀ (d fuel i : Nat), l.length = i + d → d < fuel → nspeculumref03_Earliest_l2_0 k a l y fuel (i : Int) = some (sumB ((l.drop i).all (satB y))) := by
  intro d
  induction d with
  | zero =>
    intro fuel i he hf
    obtain ⟨f, rfl⟩ : ∃ f, fuel = f + 1 := ⟨fuel - 1, by omega⟩
    rw [nspeculumref03_Earliest_l2_0.eq_2, if_neg (by omega), List.drop_of_length_le (by omega)]; rfl
  | succ d ih =>
    intro fuel i he hf
    obtain ⟨f, rfl⟩ : ∃ f, fuel = f + 1 := ⟨fuel - 1, by omega⟩
    have hB := hb _ (mem_getD (l := l) (i := i) (by omega))
    rw [nspeculumref03_Earliest_l2_0.eq_2, if_pos (by omega), if_pos (by omega), drop_get (show i < l.length by omega) default, Int.toNat_natCast, w64_succ (by omega)]
    generalize l.getD i default = b at hB
    have c1 := hC (tB b)
    have c2 := hC (fB b)
    rw [timeOf_n k hB hy, Option.bind_some, timeOf_f k hB hy, Option.bind_some, w64_id (by omega) (by omega), List.all_cons]
    by_cases c : gx (0 :: y) (tB b) - b.Most ≤ gx (0 :: y) (fB b)
    · rw [if_neg (by omega), show satB y b = true from decide_eq_true c, Bool.true_and]
      exact ih f (i + 1) (by omega) (by omega)
    · rw [if_pos (by omega), show satB y b = false from decide_eq_false c]; rfl
/-- rounds that have ended stay. -/
theorem itX_fix {x : List Int} (h : rxB l x = x) : ∀ r, itX l r x = x
  | 0 => rfl
  | r + 1 => by show itX l r (rxB l x) = x; rw [h]; exact itX_fix h r
theorem itX_done (hb : ∀ b ∈ l, BOK N b) (hN : 2 ≤ N) : ∀ (r m : Nat) (x q : List Int) (lev : Int) (y : List Int × List Int), r ≤ m → x.length = N → QOK N l q → rdB l r x q lev = .inl y → itX l m x = y.1
  | 0, m, x, q, lev, y, hm, hx, hq, h => by cases h
  | r + 1, m, x, q, lev, y, hm, hx, hq, h => by
    have hP := rs_at hb hN hx hq
    obtain ⟨m, rfl⟩ : ∃ m', m = m' + 1 := ⟨m - 1, by omega⟩
    unfold rdB at h
    show itX l m (rxB l x) = y.1
    by_cases e : (rsB l 0 x q 0 false).2.1 = true
    · rw [if_pos e] at h
      rw [← rs_rx l 0 x q 0 false]
      exact itX_done hb hN r m _ _ _ y (by omega) hP.lx ⟨hP.lq, hP.q⟩ h
    · rw [if_neg e] at h
      injection h with h
      subst h
      have hn := (hP.no (by simpa using e)).2
      have hn' := hn
      rw [rs_rx] at hn
      dsimp only
      rw [hn', hn]
      exact itX_fix hn m
end
theorem posB_mem {l : List SCoolBound} {b : SCoolBound} : b ∈ posB l ↔ b ∈ l ∧ 0 ≤ b.From := by
  unfold posB
  rw [List.mem_filter]
  simp
/-- the reference's times are the earliest. -/
theorem ref_same {a : SAnnealing} (hA : Ann a) {x : List Int} (hx : x.length = a.Steps.length + 2) (fx : Feas (a.Steps.length + 2) (sysB a) (gx x)) (hle : ∀ d, Feas (a.Steps.length + 2) (sysB a) d → ∀ j, gx x j ≤ d j) :
    itY (sysB a) (a.Steps.length + 3) (List.replicate (a.Steps.length + 1) 0) = x.drop 1 ∧ (sysB a).all (satB (x.drop 1)) = true := by
  have hb := sysB_ok hA
  have hs := hA.ns
  have lv : ∀ (d i j : Nat), i ≤ j → j < i + d → (⟨(j : Int), -1, 0⟩ : SCoolBound) ∈ lvlB i d := by
    intro d
    induction d with
    | zero => intro i j h1 h2; omega
    | succ d ih =>
      intro i j h1 h2
      by_cases e : j = i
      · subst e; exact List.mem_cons_self
      · exact List.mem_cons_of_mem _ (ih (i + 1) j (by omega) (by omega))
  have hlv : ∀ j : Nat, j ≤ a.Steps.length → (⟨(j : Int), -1, 0⟩ : SCoolBound) ∈ sysB a := fun j hj => by
    unfold sysB
    exact List.mem_append_left _ (List.mem_append_left _ (lv _ 0 j (Nat.zero_le _) (by omega)))
  have hgN : ∀ j, a.Steps.length + 2 ≤ j → gx x j = 0 := fun j hj => by
    unfold gx
    rw [List.getD_eq_getElem?_getD, List.getElem?_eq_none (by omega)]; rfl
  have hx0 : gx x 0 = 0 := by
    have h1 := hle (fun j => if j < a.Steps.length + 2 then gx x j - gx x 0 else 0) ⟨fun j => ?_, fun b hbm => ?_⟩ 0
    · have h1 : gx x 0 ≤ (if 0 < a.Steps.length + 2 then gx x 0 - gx x 0 else 0) := h1
      rw [if_pos (by omega)] at h1
      have := fx.pos 0
      omega
    · show 0 ≤ (if j < a.Steps.length + 2 then gx x j - gx x 0 else 0)
      split
      · cases j with
        | zero => omega
        | succ j =>
          have h := fx.kept _ (hlv j (by omega))
          have e1 : tB ⟨(j : Int), -1, 0⟩ = 0 := rfl
          have e2 : fB ⟨(j : Int), -1, 0⟩ = j + 1 := by unfold fB; dsimp only; omega
          rw [e1, e2] at h
          dsimp only at h
          omega
      · exact Int.le_refl _
    · have hB := hb b hbm
      have := fx.kept b hbm
      show (if tB b < a.Steps.length + 2 then gx x (tB b) - gx x 0 else 0) - b.Most ≤ (if fB b < a.Steps.length + 2 then gx x (fB b) - gx x 0 else 0)
      rw [if_pos hB.tN.1, if_pos hB.fN.1]
      omega
  have hb' : ∀ b ∈ posB (sysB a), BOK (a.Steps.length + 2) b := fun b h => hb b (posB_mem.1 h).1
  have fx' : Feas (a.Steps.length + 2) (posB (sysB a)) (gx x) := ⟨fx.pos, fun b h => fx.kept b (posB_mem.1 h).1⟩
  have hne : 0 < (posB (sysB a)).length := List.length_pos_of_mem (posB_mem.2 ⟨hlv 0 (by omega), by dsimp only; omega⟩)
  have hq : QOK (a.Steps.length + 2) (posB (sysB a)) (List.replicate (a.Steps.length + 2) 0) := ⟨by simp, fun j => by rw [gx_rep]; omega⟩
  obtain ⟨y, hy⟩ := rd_done hb' (by omega) fx' hq
  obtain ⟨g1, g2, g3⟩ := rd_inl hb' (by omega) _ _ _ 0 y (by simp) hq (fun j => by rw [gx_rep]; omega) hy
  have hit := itX_done hb' (by omega) _ (a.Steps.length + 3) _ _ 0 y (by omega) (by simp) hq hy
  have hyx : ∀ j, gx y.1 j ≤ gx x j := g3 _ fx' (fun j => by rw [gx_rep]; exact fx.pos j)
  have hF : Feas (a.Steps.length + 2) (sysB a) (gx y.1) := ⟨g2.pos, fun b hbm => by
    by_cases c : 0 ≤ b.From
    · exact g2.kept b (posB_mem.2 ⟨hbm, c⟩)
    · have hB := hb b hbm
      have := hB.f
      have h0 : fB b = 0 := by unfold fB; omega
      have h1 := fx.kept b hbm
      have h2 := hyx (tB b)
      have h3 := g2.pos 0
      rw [h0] at h1 ⊢
      omega⟩
  have hxy := hle _ hF
  have hyeq : y.1 = x := by
    apply List.ext_getElem (by omega)
    intro j h1 h2
    have e1 := hyx j
    have e2 := hxy j
    unfold gx at e1 e2
    rw [List.getD_eq_getElem?_getD, List.getD_eq_getElem?_getD, List.getElem?_eq_getElem h1, List.getElem?_eq_getElem h2] at e1 e2
    have e1 : y.1[j] ≤ x[j] := e1
    have e2 : x[j] ≤ y.1[j] := e2
    omega
  have hz : List.replicate (a.Steps.length + 2) (0 : Int) = 0 :: List.replicate (a.Steps.length + 1) 0 := rfl
  rw [hz, ← it_yx, hyeq] at hit
  have hY : itY (sysB a) (a.Steps.length + 3) (List.replicate (a.Steps.length + 1) 0) = x.drop 1 := by rw [← hit]; rfl
  refine ⟨hY, List.all_eq_true.2 (fun b hbm => ?_)⟩
  have hxe : (0 : Int) :: x.drop 1 = x := by rw [← hY]; exact hit
  unfold satB
  rw [hxe]
  exact decide_eq_true (fx.kept b hbm)
theorem earliest_r {a : SAnnealing} {k : Nat} (hA : Ann a) (hk : 1000 < k) : nspeculumref03_Earliest k a = some (if (sysB a).all (satB (itY (sysB a) (a.Steps.length + 3) (List.replicate (a.Steps.length + 1) 0))) = true then (itY (sysB a) (a.Steps.length + 3) (List.replicate (a.Steps.length + 1) 0), true) else ([], false)) ∧
    ∀ j, 0 ≤ gx (0 :: itY (sysB a) (a.Steps.length + 3) (List.replicate (a.Steps.length + 1) 0)) j := by
  have hs := hA.ns
  have hw := hA.nw
  have hlen := sysB_len a
  have hb := sysB_ok hA
  have hrep : ∀ j, gx (0 :: List.replicate (a.Steps.length + 1) 0) j = 0 := fun j => by
    rw [show (0 : Int) :: List.replicate (a.Steps.length + 1) 0 = List.replicate (a.Steps.length + 2) 0 from rfl, gx_rep]
  obtain ⟨g1, g2, g3⟩ := ref_rounds (a := a) k hk (by omega) rfl hb (by omega) (a.Steps.length + 3) k 0 (List.replicate (a.Steps.length + 1) 0) (by omega) (by omega) (by simp) (fun j => by rw [hrep]; omega)
  refine ⟨?_, fun j => (g3 j).1⟩
  unfold nspeculumref03_Earliest
  rw [cool_r hk hA, Option.bind_some, w64_id (n := (a.Steps.length : Int) + 1) (by omega) (by omega), if_pos (by omega), show ((a.Steps.length : Int) + 1).toNat = a.Steps.length + 1 by omega, show nspeculumref03_Earliest_l0_0 k a (sysB a) k (List.replicate (a.Steps.length + 1) 0) 0 = _ from g1, Option.bind_some,
    show nspeculumref03_Earliest_l2_0 k a (sysB a) _ k 0 = _ from ref_check k hb (by omega) g2 g3 (sysB a).length k 0 (by omega) (by omega), Option.bind_some, List.drop_zero]
  cases (sysB a).all (satB (itY (sysB a) (a.Steps.length + 3) (List.replicate (a.Steps.length + 1) 0))) <;> rfl
theorem ints_same (k : Nat) (y : List Int) (hy : y.length ≤ 1000) (hk : 1000 < k) : nspeculumbase_Ints k y y = some true := by
  have lp : ∀ (d fuel i : Nat), y.length = i + d → d < fuel → nspeculumbase_Ints_l0_0 k y y fuel (i : Int) = some (.inr ()) := by
    intro d
    induction d with
    | zero =>
      intro fuel i he hf
      obtain ⟨f, rfl⟩ : ∃ f, fuel = f + 1 := ⟨fuel - 1, by omega⟩
      rw [nspeculumbase_Ints_l0_0.eq_2, if_neg (by omega)]
    | succ d ih =>
      intro fuel i he hf
      obtain ⟨f, rfl⟩ : ∃ f, fuel = f + 1 := ⟨fuel - 1, by omega⟩
      rw [nspeculumbase_Ints_l0_0.eq_2, if_pos (by omega), if_pos (by omega), if_pos (by omega), if_pos rfl, w64_succ (by omega)]
      exact ih f (i + 1) (by omega) (by omega)
  unfold nspeculumbase_Ints
  rw [if_pos rfl, show nspeculumbase_Ints_l0_0 k y y k 0 = _ from lp y.length k 0 (by omega) (by omega)]; rfl
theorem schedules (k : Nat) (hk : 1000 < k) (a : SAnnealing) : nspeculumlaw03_BlankSchedules k a = some true := by
  unfold nspeculumlaw03_BlankSchedules
  rw [show nawake k = some true from rfl, Option.bind_some, if_pos rfl, light_any, Option.bind_some]
  cases hL : lightB a with
  | false => rfl
  | true =>
  have hl := Lg.of hL hk
  rw [if_pos rfl, own_any k a hL, Option.bind_some]
  by_cases c0 : annE a = 0
  · have hA := Ann.of c0
    have hn := hA.ns
    obtain ⟨er, hp⟩ := earliest_r hA hk
    rcases earliest_c hA c0 hl with ⟨x, ex, hx, fx, hle⟩ | ⟨c, ec, hc1, hc2, hno⟩
    · obtain ⟨r1, r2⟩ := ref_same hA hx fx hle
      rw [ex, Option.bind_some, hl.r, Option.bind_some, if_pos c0, er, Option.bind_some, r1, if_pos r2]
      dsimp only
      rw [if_pos rfl, if_pos rfl, if_pos (show (([] : List Int).length : Int) = 0 from rfl), ints_same k _ (by simp [hx]; omega) hk]; rfl
    · have hns : ¬ (sysB a).all (satB (itY (sysB a) (a.Steps.length + 3) (List.replicate (a.Steps.length + 1) 0))) = true := fun h => by
        refine hno (gx (0 :: itY (sysB a) (a.Steps.length + 3) (List.replicate (a.Steps.length + 1) 0))) ⟨hp, fun b hbm => ?_⟩
        exact of_decide_eq_true (List.all_eq_true.1 h b hbm)
      rw [ec, Option.bind_some, hl.r, Option.bind_some, if_pos c0, er, Option.bind_some, if_neg hns]
      dsimp only
      rw [if_neg (by decide), if_pos rfl, if_pos (show (([] : List Int).length : Int) = 0 from rfl), circle_r hA hk c (by omega), Option.bind_some, copy_any k (by omega), Option.bind_some, circle_b hA c0 hl c (by omega), Option.bind_some, if_pos hc2, if_pos hc2]
      simp
  · rw [earliest_bad c0 hl, Option.bind_some, hl.r, Option.bind_some, if_neg c0]
    dsimp only
    rw [if_pos rfl]; rfl
theorem vc_schedules (a : SAnnealing) : VC Try.prog 8 [VV.ag (c_SAnnealing a)] (vb true) :=
  nspeculumlaw03_BlankSchedules_ok 10000 a true (schedules 10000 (by decide) a)
end Go.Proofs.Ytclabanknlmneaa.Vg
