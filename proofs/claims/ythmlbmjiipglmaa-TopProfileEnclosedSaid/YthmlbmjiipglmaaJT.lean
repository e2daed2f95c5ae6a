/- Readings of a true profile enclose it; half the errors enclose it no wider. -/
import Derived.Test.YthmlbmjiipglmaaJP
import Derived.Test.YthmlbmjiipglmaaW2
set_option linter.unusedVariables false
set_option linter.unusedSimpArgs false
namespace Go.Proofs.Ythmlbmjiipglmaa.Vg
open Go Go.Proofs.Ythmlbmjiipglmaa.Ev Go.Proofs.Ythmlbmjiipglmaa.Vv
def pr (m : SMeasured) (i : Nat) : A44 := m.Pairs.getD i default
def er (m : SMeasured) (i : Nat) : A44 := m.Errors.getD i default
def df (m : SMeasured) (i : Nat) : Int := gx m.Heights (pr m i).e1.toNat - gx m.Heights (pr m i).e0.toNat
def rdg (m : SMeasured) (part : Int) (i : Nat) : SHeightReading := ⟨(pr m i).e0, (pr m i).e1, ⟨df m i - (er m i).e0.tdiv part, df m i + (er m i).e1.tdiv part⟩⟩
def rds (m : SMeasured) (part : Int) (n : Nat) : List SHeightReading := (List.range n).map (rdg m part)
theorem rds_len (m : SMeasured) (part : Int) (n : Nat) : (rds m part n).length = n := by simp [rds]
theorem rds_get (m : SMeasured) (part : Int) {n i : Nat} (h : i < n) : (rds m part n).getD i default = rdg m part i := by
  simp [rds, List.getD_eq_getElem?_getD, List.getElem?_map, List.getElem?_range h]
def okP (m : SMeasured) (i : Nat) : Prop := (0 ≤ (pr m i).e0 ∧ (pr m i).e0 < (m.Heights.length : Int)) ∧ (0 ≤ (pr m i).e1 ∧ (pr m i).e1 < (m.Heights.length : Int)) ∧ (pr m i).e0 ≠ (pr m i).e1 ∧ (0 ≤ (er m i).e0 ∧ (er m i).e0 ≤ 100000) ∧ 0 ≤ (er m i).e1 ∧ (er m i).e1 ≤ 100000
structure V (m : SMeasured) : Prop where
  n : 1 ≤ m.Heights.length ∧ m.Heights.length ≤ 8
  np : m.Pairs.length ≤ 12
  ne : m.Errors.length = m.Pairs.length
  h : ∀ j, j < m.Heights.length → -100000 ≤ gx m.Heights j ∧ gx m.Heights j ≤ 100000
  p : ∀ i, i < m.Pairs.length → okP m i
section
variable {k : Nat} {m : SMeasured} {part : Int}
theorem heights_l (m : SMeasured) (part : Int) (hn : m.Heights.length ≤ 8) : ∀ (d fuel i : Nat), m.Heights.length = i + d → d < fuel → ∃ r, n_speculumtop_Measured_readings_l0_0 k m part fuel (i : Int) = some r ∧ (r = .inl () ∨ r = .inr () ∧ ∀ j, i ≤ j → j < m.Heights.length → -100000 ≤ gx m.Heights j ∧ gx m.Heights j ≤ 100000) := by
  intro d
  induction d with
  | zero =>
    intro fuel i he hf
    obtain ⟨f, rfl⟩ : ∃ f, fuel = f + 1 := ⟨fuel - 1, by omega⟩
    exact ⟨_, by rw [n_speculumtop_Measured_readings_l0_0.eq_2, if_neg (by omega)], .inr ⟨rfl, fun j h1 h2 => by omega⟩⟩
  | succ d ih =>
    intro fuel i he hf
    obtain ⟨f, rfl⟩ : ∃ f, fuel = f + 1 := ⟨fuel - 1, by omega⟩
    rw [n_speculumtop_Measured_readings_l0_0.eq_2, if_pos (by omega), if_pos (by omega), within_base, Option.bind_some, Int.toNat_natCast]
    by_cases c : inR (-100000) 100000 (m.Heights.getD i 0) = true
    · rw [if_pos c, w64_succ (by omega)]
      obtain ⟨r, e1, e2⟩ := ih f (i + 1) (by omega) (by omega)
      refine ⟨r, e1, ?_⟩
      rcases e2 with e2 | ⟨e2, e3⟩
      · exact .inl e2
      · refine .inr ⟨e2, fun j h1 h2 => ?_⟩
        by_cases e : j = i
        · rw [e]; exact inR_t.1 c
        · exact e3 j (by omega) h2
    · rw [if_neg c]; exact ⟨_, rfl, .inl rfl⟩
theorem tdiv_bd {e : Int} (he : 0 ≤ e ∧ e ≤ 100000) (hp : part = 1 ∨ part = 2) : 0 ≤ e.tdiv part ∧ e.tdiv part ≤ e := by
  have h1 : 0 ≤ e.tdiv part := Int.tdiv_nonneg he.1 (by omega)
  have h2 : (e.tdiv part).natAbs ≤ e.natAbs := by rw [Int.natAbs_tdiv]; exact Nat.div_le_self _ _
  omega
theorem pairs_l (hp : part = 1 ∨ part = 2) (hn : m.Heights.length ≤ 8) (hne : m.Errors.length = m.Pairs.length) (hnp : m.Pairs.length ≤ 12) (hh : ∀ j, j < m.Heights.length → -100000 ≤ gx m.Heights j ∧ gx m.Heights j ≤ 100000) :
    ∀ (d fuel i : Nat), m.Pairs.length = i + d → d < fuel → ∃ r, n_speculumtop_Measured_readings_l1_0 k m part fuel (rds m part i) (i : Int) = some r ∧ (r = .inl () ∨ r = .inr (rds m part m.Pairs.length) ∧ ∀ j, i ≤ j → j < m.Pairs.length → okP m j) := by
  intro d
  induction d with
  | zero =>
    intro fuel i he hf
    obtain ⟨f, rfl⟩ : ∃ f, fuel = f + 1 := ⟨fuel - 1, by omega⟩
    exact ⟨_, by rw [n_speculumtop_Measured_readings_l1_0.eq_2, if_neg (by omega)], .inr ⟨by rw [show m.Pairs.length = i by omega], fun j h1 h2 => by omega⟩⟩
  | succ d ih =>
    intro fuel i he hf
    obtain ⟨f, rfl⟩ : ∃ f, fuel = f + 1 := ⟨fuel - 1, by omega⟩
    rw [n_speculumtop_Measured_readings_l1_0.eq_2, if_pos (by omega), if_pos (by omega), if_pos (show 0 ≤ (i : Int) ∧ (i : Int) < (m.Errors.length : Int) by omega), within_base, within_base, within_base, within_base, Int.toNat_natCast, Option.bind_some, Option.bind_some, Option.bind_some, Option.bind_some]
    rw [show m.Pairs.getD i default = pr m i from rfl, show m.Errors.getD i default = er m i from rfl]
    by_cases c1 : inR 0 (w64 ((m.Heights.length : Int) - 1)) (pr m i).e0 = true
    case neg => rw [if_neg c1]; exact ⟨_, rfl, .inl rfl⟩
    rw [if_pos c1]
    by_cases c2 : inR 0 (w64 ((m.Heights.length : Int) - 1)) (pr m i).e1 = true
    case neg => rw [if_neg c2]; exact ⟨_, rfl, .inl rfl⟩
    rw [if_pos c2]
    by_cases c3 : (pr m i).e0 = (pr m i).e1
    · rw [if_pos c3]; exact ⟨_, rfl, .inl rfl⟩
    rw [if_neg c3]
    by_cases c4 : inR 0 100000 (er m i).e0 = true
    case neg => rw [if_neg c4]; exact ⟨_, rfl, .inl rfl⟩
    rw [if_pos c4]
    by_cases c5 : inR 0 100000 (er m i).e1 = true
    case neg => rw [if_neg c5]; exact ⟨_, rfl, .inl rfl⟩
    rw [if_pos c5]
    rw [w64_id (n := (m.Heights.length : Int) - 1) (by omega) (by omega), inR_t] at c1 c2
    rw [inR_t] at c4 c5
    have g1 := hh (pr m i).e1.toNat (by omega)
    have g0 := hh (pr m i).e0.toNat (by omega)
    have t0 := tdiv_bd c4 hp
    have t1 := tdiv_bd c5 hp
    rw [if_pos (show 0 ≤ (pr m i).e1 ∧ (pr m i).e1 < (m.Heights.length : Int) by omega), if_pos (show 0 ≤ (pr m i).e0 ∧ (pr m i).e0 < (m.Heights.length : Int) by omega), if_pos (show part ≠ 0 by omega), if_pos (by rw [rds_len]; simp; omega)]
    rw [show m.Heights.getD (pr m i).e1.toNat 0 = gx m.Heights (pr m i).e1.toNat from rfl, show m.Heights.getD (pr m i).e0.toNat 0 = gx m.Heights (pr m i).e0.toNat from rfl]
    rw [w64_id (n := gx m.Heights (pr m i).e1.toNat - gx m.Heights (pr m i).e0.toNat) (by omega) (by omega), w64_id (n := (er m i).e0.tdiv part) (by omega) (by omega), w64_id (n := (er m i).e1.tdiv part) (by omega) (by omega), w64_id (n := gx m.Heights (pr m i).e1.toNat - gx m.Heights (pr m i).e0.toNat - (er m i).e0.tdiv part) (by omega) (by omega), w64_id (n := gx m.Heights (pr m i).e1.toNat - gx m.Heights (pr m i).e0.toNat + (er m i).e1.tdiv part) (by omega) (by omega), w64_succ (by omega)]
    have ea : rds m part i ++ [rdg m part i] = rds m part (i + 1) := by simp [rds, List.range_succ]
    obtain ⟨r, e1, e2⟩ := ih f (i + 1) (by omega) (by omega)
    rw [← ea] at e1
    refine ⟨r, e1, ?_⟩
    rcases e2 with e2 | ⟨e2, e3⟩
    · exact .inl e2
    · refine .inr ⟨e2, fun j h1 h2 => ?_⟩
      by_cases e : j = i
      · rw [e]; exact ⟨by omega, by omega, c3, c4, c5⟩
      · exact e3 j (by omega) h2
theorem readings_p (hk : 2000 < k) (m : SMeasured) (hp : part = 1 ∨ part = 2) : ∃ r, n_speculumtop_Measured_readings k m part = some r ∧ (r.2 = false ∨ r = (rds m part m.Pairs.length, true) ∧ V m) := by
  unfold n_speculumtop_Measured_readings
  rw [within_base, Option.bind_some]
  by_cases c1 : inR 1 8 (m.Heights.length : Int) = true
  case neg => rw [if_neg c1]; exact ⟨_, rfl, .inl rfl⟩
  rw [if_pos c1]
  rw [inR_t] at c1
  by_cases c2 : 12 < (m.Pairs.length : Int)
  · rw [if_pos c2]; exact ⟨_, rfl, .inl rfl⟩
  rw [if_neg c2]
  by_cases c3 : (m.Errors.length : Int) = (m.Pairs.length : Int)
  case neg => rw [if_neg c3]; exact ⟨_, rfl, .inl rfl⟩
  rw [if_pos c3]
  obtain ⟨r, e1, e2⟩ := heights_l (k := k) m part (by omega) m.Heights.length k 0 (by omega) (by omega)
  rw [show n_speculumtop_Measured_readings_l0_0 k m part k 0 = _ from e1, Option.bind_some]
  rcases e2 with rfl | ⟨rfl, hh⟩
  · exact ⟨_, rfl, .inl rfl⟩
  obtain ⟨r, e3, e4⟩ := pairs_l (k := k) (m := m) hp (by omega) (by omega) (by omega) (fun j hj => hh j (by omega) hj) m.Pairs.length k 0 (by omega) (by omega)
  have e3' : n_speculumtop_Measured_readings_l1_0 k m part k ([] : List SHeightReading) 0 = some r := e3
  dsimp only
  rw [e3', Option.bind_some]
  rcases e4 with rfl | ⟨rfl, hp⟩
  · exact ⟨_, rfl, .inl rfl⟩
  · exact ⟨_, rfl, .inr ⟨rfl, ⟨by omega, by omega, by omega, fun j hj => hh j (by omega) hj, fun i hi => hp i (by omega) hi⟩⟩⟩
theorem firstE_all {α : Type} {f : α → Int} : ∀ {l : List α}, (∀ x, x ∈ l → f x = 0) → firstE f l = 0
  | [], _ => rfl
  | x :: l, h => by rw [firstE, if_pos (h x (by simp))]; exact firstE_all (fun y hy => h y (by simp [hy]))
theorem rds_mem {r : SHeightReading} {n : Nat} (h : r ∈ rds m part n) : ∃ i, i < n ∧ r = rdg m part i := by
  obtain ⟨i, h1, h2⟩ := List.mem_map.1 h
  exact ⟨i, List.mem_range.1 h1, h2.symm⟩
theorem rds_chk (v : V m) (hp : part = 1 ∨ part = 2) : chkE (m.Heights.length : Int) (rds m part m.Pairs.length) = 0 := by
  have hn := v.n
  have hnp := v.np
  unfold chkE
  rw [if_pos (inR_t.2 (by omega)), if_neg (by rw [rds_len]; omega)]
  refine firstE_all fun r hr => ?_
  obtain ⟨i, hi, rfl⟩ := rds_mem hr
  obtain ⟨p1, p2, p3, p4, p5⟩ := v.p i hi
  have g1 := v.h (pr m i).e1.toNat (by omega)
  have g0 := v.h (pr m i).e0.toNat (by omega)
  have t0 := tdiv_bd p4 hp
  have t1 := tdiv_bd p5 hp
  unfold rdE
  rw [if_pos (by rw [Bool.and_eq_true, inR_t, inR_t]; show (0 ≤ (pr m i).e0 ∧ (pr m i).e0 ≤ _) ∧ 0 ≤ (pr m i).e1 ∧ (pr m i).e1 ≤ _; omega), if_neg (show ¬ (rdg m part i).From = (rdg m part i).To from p3), if_pos (by
    rw [Bool.and_eq_true, inR_t, inR_t]
    show (_ ≤ df m i - (er m i).e0.tdiv part ∧ df m i - (er m i).e0.tdiv part ≤ _) ∧ _ ≤ df m i + (er m i).e1.tdiv part ∧ df m i + (er m i).e1.tdiv part ≤ _
    unfold df; omega), if_neg (show ¬ (rdg m part i).Diff.Hi < (rdg m part i).Diff.Lo from (show ¬ df m i + (er m i).e1.tdiv part < df m i - (er m i).e0.tdiv part by omega))]
theorem rds_keep (v : V m) (hp : part = 1 ∨ part = 2) : ∀ r ∈ rds m part m.Pairs.length, keep m.Heights r = true := by
  intro r hr
  obtain ⟨i, hi, rfl⟩ := rds_mem hr
  obtain ⟨p1, p2, p3, p4, p5⟩ := v.p i hi
  have t0 := tdiv_bd p4 hp
  have t1 := tdiv_bd p5 hp
  refine inR_t.2 ?_
  show df m i - (er m i).e0.tdiv part ≤ df m i ∧ df m i ≤ df m i + (er m i).e1.tdiv part
  omega
/-! shorter legs -/
theorem wk_le {L L' : List Sleg} (h : ∀ g, g ∈ L → ∃ g', g' ∈ L' ∧ fr g' = fr g ∧ to g' = to g ∧ ln g' ≤ ln g) {a b : Nat} {s : Int} (w : Wk L a b s) : ∃ t, t ≤ s ∧ Wk L' a b t := by
  induction w with
  | nil => exact ⟨0, Int.le_refl _, .nil _⟩
  | snoc w hg ih =>
    obtain ⟨t, h1, h2⟩ := ih
    obtain ⟨g', e1, e2, e3, e4⟩ := h _ hg
    have := Wk.one e1
    rw [e2, e3] at this
    exact ⟨_, by omega, h2.app this⟩
theorem wk_some {L L' : List Sleg} (h : ∀ g, g ∈ L → ∃ g', g' ∈ L' ∧ fr g' = fr g ∧ to g' = to g) {a b : Nat} {s : Int} (w : Wk L a b s) : ∃ t, Wk L' a b t := by
  induction w with
  | nil => exact ⟨0, .nil _⟩
  | snoc w hg ih =>
    obtain ⟨t, h2⟩ := ih
    obtain ⟨g', e1, e2, e3⟩ := h _ hg
    have := Wk.one e1
    rw [e2, e3] at this
    exact ⟨_, h2.app this⟩
theorem legs_rel (v : V m) : (∀ g, g ∈ legs (rds m 1 m.Pairs.length) 0 → ∃ g', g' ∈ legs (rds m 2 m.Pairs.length) 0 ∧ fr g' = fr g ∧ to g' = to g ∧ ln g' ≤ ln g) ∧ (∀ g, g ∈ legs (rds m 2 m.Pairs.length) 0 → ∃ g', g' ∈ legs (rds m 1 m.Pairs.length) 0 ∧ fr g' = fr g ∧ to g' = to g) := by
  have half : ∀ {e : Int}, 0 ≤ e ∧ e ≤ 100000 → e.tdiv 2 ≤ e.tdiv 1 := fun {e} he => by
    have := tdiv_bd (part := 2) he (.inr rfl)
    rw [Int.tdiv_one]; omega
  constructor
  · intro g hg
    obtain ⟨j, h1, h2⟩ := legs_mem hg
    rw [rds_len] at h1
    have hm := mem_legs (l := rds m 2 m.Pairs.length) (i := 0) (j := j) (by rw [rds_len]; exact h1)
    rw [rds_get _ _ h1] at hm h2
    obtain ⟨_, _, _, p4, p5⟩ := v.p j h1
    have q4 := half p4
    have q5 := half p5
    rcases h2 with h2 | h2
    · refine ⟨_, hm.1, by rw [h2]; rfl, by rw [h2]; rfl, ?_⟩
      rw [h2]
      show df m j + (er m j).e1.tdiv 2 ≤ df m j + (er m j).e1.tdiv 1
      omega
    · refine ⟨_, hm.2, by rw [h2]; rfl, by rw [h2]; rfl, ?_⟩
      rw [h2]
      show -(df m j - (er m j).e0.tdiv 2) ≤ -(df m j - (er m j).e0.tdiv 1)
      omega
  · intro g hg
    obtain ⟨j, h1, h2⟩ := legs_mem hg
    rw [rds_len] at h1
    have hm := mem_legs (l := rds m 1 m.Pairs.length) (i := 0) (j := j) (by rw [rds_len]; exact h1)
    rw [rds_get _ _ h1] at hm h2
    rcases h2 with h2 | h2
    · exact ⟨_, hm.1, by rw [h2]; rfl, by rw [h2]; rfl⟩
    · exact ⟨_, hm.2, by rw [h2]; rfl, by rw [h2]; rfl⟩
theorem whole_iff {n : Nat} {L L' : List Sleg} (W : Web n L) (W' : Web n L') {h : Nat → Int} (H : Pot L h) (H' : Pot L' h) (r1 : ∀ g, g ∈ L → ∃ g', g' ∈ L' ∧ fr g' = fr g ∧ to g' = to g) (hw : Whole n L) : Whole n L' := fun j hj => by
  obtain ⟨t, w⟩ := wk_some r1 (Dz_wk W W.n0 hj (hw j hj))
  exact (Dz_le W' H' W.n0 w).1
theorem Dz_mono {n : Nat} {L L' : List Sleg} (W : Web n L) (W' : Web n L') {h : Nat → Int} (H' : Pot L' h) (r1 : ∀ g, g ∈ L → ∃ g', g' ∈ L' ∧ fr g' = fr g ∧ to g' = to g ∧ ln g' ≤ ln g) {a b : Nat} (ha : a < n) (hb : b < n) (hf : Dz n L a b ≠ far) : Dz n L' a b ≤ Dz n L a b := by
  obtain ⟨t, h1, w⟩ := wk_le r1 (Dz_wk W ha hb hf)
  have := (Dz_le W' H' ha w).2
  omega
theorem top_l (v : V m) {L L' : List Sleg} (x y : List Int × Int) (hd : ∀ j, j < m.Heights.length → (-Dz m.Heights.length L' j 0 ≤ gx m.Heights j - gx m.Heights 0 ∧ gx m.Heights j - gx m.Heights 0 ≤ Dz m.Heights.length L' 0 j) ∧ Dz m.Heights.length L' j 0 ≤ Dz m.Heights.length L j 0 ∧ Dz m.Heights.length L' 0 j ≤ Dz m.Heights.length L 0 j) :
    ∀ (d fuel i : Nat), m.Heights.length = i + d → d < fuel → nspeculumtop_TopProfileEnclosed_l0_0 k m (encl m.Heights.length L, x) (encl m.Heights.length L', y) fuel (i : Int) = some (.inr ()) := by
  have hn := v.n
  intro d
  induction d with
  | zero =>
    intro fuel i he hf
    obtain ⟨f, rfl⟩ : ∃ f, fuel = f + 1 := ⟨fuel - 1, by omega⟩
    rw [nspeculumtop_TopProfileEnclosed_l0_0.eq_2, if_neg (by omega)]
  | succ d ih =>
    intro fuel i he hf
    obtain ⟨f, rfl⟩ : ∃ f, fuel = f + 1 := ⟨fuel - 1, by omega⟩
    obtain ⟨⟨d1, d2⟩, d3, d4⟩ := hd i (by omega)
    have h1 := v.h i (by omega)
    have h0 := v.h 0 (by omega)
    rw [nspeculumtop_TopProfileEnclosed_l0_0.eq_2]
    dsimp only
    rw [if_pos (show (i : Int) < (m.Heights.length : Int) by omega), if_pos (show 0 ≤ (i : Int) ∧ (i : Int) < (m.Heights.length : Int) by omega), if_pos (show (0 : Int) ≤ 0 ∧ 0 < (m.Heights.length : Int) by omega), if_pos (show 0 ≤ (i : Int) ∧ (i : Int) < ((encl m.Heights.length L').length : Int) by rw [encl_len]; omega), if_pos (show 0 ≤ (i : Int) ∧ (i : Int) < ((encl m.Heights.length L).length : Int) by rw [encl_len]; omega), Int.toNat_natCast, encl_get (by omega), encl_get (by omega), within_base, Option.bind_some]
    rw [show m.Heights.getD i 0 = gx m.Heights i from rfl, show m.Heights.getD ((0 : Int)).toNat 0 = gx m.Heights 0 from rfl, w64_id (n := gx m.Heights i - gx m.Heights 0) (by omega) (by omega), if_pos (inR_t.2 ⟨d1, d2⟩), if_neg (show ¬ (-Dz m.Heights.length L' i 0 < -Dz m.Heights.length L i 0) by omega), if_neg (show ¬ (Dz m.Heights.length L 0 i < Dz m.Heights.length L' 0 i) by omega), w64_succ (by omega)]
    exact ih f (i + 1) (by omega) (by omega)
theorem bad_none {h : List Int} : ∀ {l : List SHeightReading} {i : Nat}, (∀ r ∈ l, keep h r = true) → bad h l i = .inr ()
  | [], _, _ => rfl
  | r :: l, i, hk => by rw [bad, if_pos (hk r (by simp))]; exact bad_none (fun x hx => hk x (by simp [hx]))
theorem law_enclosed (k : Nat) (hk : 2000 < k) (m : SMeasured) : nspeculumtop_TopProfileEnclosed k m = some true := by
  unfold nspeculumtop_TopProfileEnclosed nawake
  obtain ⟨r1, e1, c1⟩ := readings_p hk m (part := 1) (.inl rfl)
  obtain ⟨r2, e2, c2⟩ := readings_p hk m (part := 2) (.inr rfl)
  rw [Option.bind_some, if_pos rfl, e1, Option.bind_some, e2, Option.bind_some]
  rcases c1 with c1 | ⟨rfl, v⟩
  · rw [if_neg (by rw [c1]; decide)]
  rcases c2 with c2 | ⟨rfl, _⟩
  · rw [if_pos rfl, if_neg (by rw [c2]; decide)]
  dsimp only
  rw [if_pos rfl, if_pos rfl]
  have hn := v.n
  have q1 := rds_chk v (part := 1) (.inl rfl)
  have q2 := rds_chk v (part := 2) (.inr rfl)
  have O1 := chk_ok q1
  have O2 := chk_ok q2
  have P1 := keep_pot O1 (rds_keep v (.inl rfl))
  have P2 := keep_pot O2 (rds_keep v (.inr rfl))
  obtain ⟨rel1, rel2⟩ := legs_rel v
  have rel1' : ∀ g, g ∈ legs (rds m 1 m.Pairs.length) 0 → ∃ g', g' ∈ legs (rds m 2 m.Pairs.length) 0 ∧ fr g' = fr g ∧ to g' = to g := fun g hg => by
    obtain ⟨g', a, b, c, _⟩ := rel1 g hg; exact ⟨g', a, b, c⟩
  have W1 := O1.web
  have W2 := O2.web
  have hc : nspeculumbase_CopyInts k m.Heights = some m.Heights := copy_any k (by omega)
  have hs : m.Heights.all (inR (-100000000) 100000000) = true := List.all_eq_true.2 fun x hx => by
    obtain ⟨j, hj, rfl⟩ := List.getElem_of_mem hx
    have := v.h j hj
    unfold gx at this
    rw [List.getD_eq_getElem?_getD, List.getElem?_eq_getElem hj] at this
    exact inR_t.2 (by simp only [Option.getD_some] at this; omega)
  have hH : nprofile_CheckHeights k (m.Heights.length : Int) (rds m 1 m.Pairs.length) m.Heights = some (0, 0) := by
    rw [heights_p hk (by rw [rds_len]; have := v.np; omega) (by omega), if_pos q1]
    unfold htE
    rw [if_pos rfl, if_pos hs, bad_none (rds_keep v (.inl rfl))]
  have hz : ((m.Heights.length : Int)).toNat = m.Heights.length := Int.toNat_natCast _
  by_cases hw : Whole m.Heights.length (legs (rds m 1 m.Pairs.length) 0)
  · have hw2 : Whole m.Heights.length (legs (rds m 2 m.Pairs.length) 0) := by
      rw [hz] at W1 W2
      exact whole_iff W1 W2 P1 P2 rel1' hw
    have E1 := enc_ok hk O1 q1 ⟨_, P1⟩ (by rw [hz]; exact hw)
    have E2 := enc_ok hk O2 q2 ⟨_, P2⟩ (by rw [hz]; exact hw2)
    rw [hz] at E1 E2
    rw [E1, Option.bind_some, E2, Option.bind_some]
    dsimp only
    rw [if_pos rfl, if_pos rfl, hc, Option.bind_some, hH, Option.bind_some]
    dsimp only
    rw [if_pos rfl, if_pos (by rw [encl_len]), if_pos (by rw [encl_len])]
    have hl := top_l (k := k) v (L := legs (rds m 1 m.Pairs.length) 0) (L' := legs (rds m 2 m.Pairs.length) 0) ([], 0) ([], 0) (fun j hj => by
      have d1 := Dz_holds O1 P1 (by rw [hz]; exact hw) (j := j) (by rw [hz]; exact hj)
      have d2 := Dz_holds O2 P2 (by rw [hz]; exact hw2) (j := j) (by rw [hz]; exact hj)
      rw [hz] at d1 d2 W1 W2
      exact ⟨⟨d2.1, d2.2.1⟩, Dz_mono W1 W2 P2 rel1 hj (by omega) d1.2.2, Dz_mono W1 W2 P2 rel1 (by omega) hj (hw j hj)⟩) m.Heights.length k 0 (by omega) (by omega)
    rw [show nspeculumtop_TopProfileEnclosed_l0_0 k m (encl m.Heights.length (legs (rds m 1 m.Pairs.length) 0), [], 0) (encl m.Heights.length (legs (rds m 2 m.Pairs.length) 0), [], 0) k 0 = _ from hl]; rfl
  · have hw2 : ¬ Whole m.Heights.length (legs (rds m 2 m.Pairs.length) 0) := fun h => hw (by
      rw [hz] at W1 W2
      exact whole_iff W2 W1 P2 P1 rel2 h)
    rw [enc_open hk O1 q1 ⟨_, P1⟩ (by rw [hz]; exact hw), Option.bind_some, enc_open hk O2 q2 ⟨_, P2⟩ (by rw [hz]; exact hw2), Option.bind_some]
    dsimp only
    rw [if_pos rfl, if_neg (by decide), if_pos rfl, hc, Option.bind_some, hH, Option.bind_some]
    rfl
end
theorem vc_enclosed (m : SMeasured) : VC Go.Proofs.Try.prog 3 [.ag (c_SMeasured m)] (vb true) :=
  nspeculumtop_TopProfileEnclosed_ok 3000 m true (law_enclosed 3000 (by omega) m)
end Go.Proofs.Ythmlbmjiipglmaa.Vg
