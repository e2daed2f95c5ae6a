/- ProfileBoth, plain. -/
import Derived.Test.YtbjfaeffilbkfaaJ2
import Derived.Test.YtbjfaeffilbkfaaW3
set_option linter.unusedVariables false
set_option linter.unusedSimpArgs false
namespace Go.Proofs.Ytbjfaeffilbkfaa.Vg
open Go Go.Proofs.Ytbjfaeffilbkfaa.Ev Go.Proofs.Ytbjfaeffilbkfaa.Vv
/-- what heights keep; the first reading that they do not. -/
def keep (h : List Int) (r : SHeightReading) : Bool := inR r.Diff.Lo r.Diff.Hi (gx h r.To.toNat - gx h r.From.toNat)
def bad (h : List Int) : List SHeightReading → Nat → Sum Int Unit
  | [], _ => .inr ()
  | r :: l, i => if keep h r = true then bad h l (i + 1) else .inl (i : Int)
def htE (z : Int) (l : List SHeightReading) (h : List Int) : Int × Int := if (h.length : Int) = z then (if h.all (inR (-100000000) 100000000) = true then (match bad h l 0 with | .inl i => (i, 26) | .inr _ => (0, 0)) else (0, 2)) else (0, 10)
theorem small_get {h : List Int} (hs : h.all (inR (-100000000) 100000000) = true) {j : Nat} (hj : j < h.length) : -100000000 ≤ gx h j ∧ gx h j ≤ 100000000 :=
  inR_t.1 (List.all_eq_true.1 hs _ (mem_getD hj 0))
theorem bad_keep {h : List Int} : ∀ {l : List SHeightReading} {i : Nat}, bad h l i = .inr () → ∀ r ∈ l, keep h r = true
  | [], i, _, r, hr => by cases hr
  | r0 :: l, i, e, r, hr => by
    unfold bad at e
    by_cases c : keep h r0 = true
    · rw [if_pos c] at e
      rcases List.mem_cons.1 hr with rfl | hr
      · exact c
      · exact bad_keep e r hr
    · rw [if_neg c] at e; cases e
theorem htE_ok {z : Int} {l : List SHeightReading} {h : List Int} (e : (htE z l h).2 = 0) : (h.length : Int) = z ∧ h.all (inR (-100000000) 100000000) = true ∧ ∀ r ∈ l, keep h r = true := by
  unfold htE at e
  by_cases c : (h.length : Int) = z
  · rw [if_pos c] at e
    by_cases c2 : h.all (inR (-100000000) 100000000) = true
    · rw [if_pos c2] at e
      refine ⟨c, c2, ?_⟩
      cases hb : bad h l 0 with
      | inl i => rw [hb] at e; simp at e
      | inr u => exact bad_keep hb
    · rw [if_neg c2] at e; simp at e
  · rw [if_neg c] at e; simp at e
section
variable {k : Nat} {z : Int} {l : List SHeightReading}
theorem hbad_p (hk : 2000 < k) (hO : OKR z l) {h : List Int} (hh : (h.length : Int) = z) (hs : h.all (inR (-100000000) 100000000) = true) : ∀ (d fuel i : Nat), l.length = i + d → d < fuel → nprofile_CheckHeights_l0_0 k l h fuel (i : Int) = some (bad h (l.drop i) i) := by
  intro d
  induction d with
  | zero =>
    intro fuel i he hf
    obtain ⟨f, rfl⟩ : ∃ f, fuel = f + 1 := ⟨fuel - 1, by omega⟩
    rw [nprofile_CheckHeights_l0_0.eq_2, if_neg (by omega), List.drop_of_length_le (by omega)]; rfl
  | succ d ih =>
    intro fuel i he hf
    obtain ⟨f, rfl⟩ : ∃ f, fuel = f + 1 := ⟨fuel - 1, by omega⟩
    have hn := hO.n
    have hr := hO.r _ (mem_getD (show i < l.length by omega) default)
    rw [nprofile_CheckHeights_l0_0.eq_2, if_pos (by omega), if_pos (by omega), drop_get (show i < l.length by omega) default, Int.toNat_natCast]
    generalize l.getD i default = r at hr ⊢
    have f1 := hr.f
    have f2 := hr.t
    have s1 := small_get hs (j := r.To.toNat) (by omega)
    have s2 := small_get hs (j := r.From.toNat) (by omega)
    rw [if_pos (by omega), if_pos (by omega), show h.getD r.To.toNat 0 = gx h r.To.toNat from rfl, show h.getD r.From.toNat 0 = gx h r.From.toNat from rfl, w64_id (n := gx h r.To.toNat - gx h r.From.toNat) (by omega) (by omega), isWithin_p, Option.bind_some]
    unfold bad
    by_cases c : keep h r = true
    · rw [if_pos c, if_pos (show inR r.Diff.Lo r.Diff.Hi (gx h r.To.toNat - gx h r.From.toNat) = true from c), w64_succ (by omega)]
      exact ih f (i + 1) (by omega) (by omega)
    · rw [if_neg c, if_neg (show ¬ inR r.Diff.Lo r.Diff.Hi (gx h r.To.toNat - gx h r.From.toNat) = true from c)]
theorem heights_p (hk : 2000 < k) (hl : l.length ≤ 200) {h : List Int} (hh : h.length ≤ 1000) : nprofile_CheckHeights k z l h = some (if chkE z l = 0 then htE z l h else (0, chkE z l)) := by
  unfold nprofile_CheckHeights
  rw [check_p hk z l hl, Option.bind_some]
  by_cases c : chkE z l = 0
  · rw [if_pos c, if_pos c]
    have hO := chk_ok c
    unfold htE
    by_cases c1 : (h.length : Int) = z
    · rw [if_pos c1, if_pos c1, areSmall_p hk (by omega) h hh, Option.bind_some]
      show (if h.all (inR (-100000000) 100000000) = true then _ else _) = _
      by_cases c2 : h.all (inR (-100000000) 100000000) = true
      · rw [if_pos c2, if_pos c2, show nprofile_CheckHeights_l0_0 k l h k 0 = _ from hbad_p hk hO c1 c2 l.length k 0 (by omega) (by omega), Option.bind_some, List.drop_zero]
        cases bad h l 0 <;> rfl
      · rw [if_neg c2, if_neg c2]
    · rw [if_neg c1, if_neg c1]
  · rw [if_neg c, if_neg c]
/-- heights that keep all readings keep all legs. -/
theorem keep_pot {h : List Int} (hO : OKR z l) (hk : ∀ r ∈ l, keep h r = true) : Pot (legs l 0) (fun j => gx h j) := by
  intro g hg
  obtain ⟨j, h1, h2⟩ := legs_mem hg
  have := inR_t.1 (hk _ (mem_getD h1 default))
  rcases h2 with h2 | h2
  · have e1 : to g = (l.getD j default).To.toNat := by rw [h2]; rfl
    have e2 : fr g = (l.getD j default).From.toNat := by rw [h2]; rfl
    have e3 : ln g = (l.getD j default).Diff.Hi := by rw [h2]; rfl
    rw [e1, e2, e3]; dsimp only; omega
  · have e1 : to g = (l.getD j default).From.toNat := by rw [h2]; rfl
    have e2 : fr g = (l.getD j default).To.toNat := by rw [h2]; rfl
    have e3 : ln g = -(l.getD j default).Diff.Lo := by rw [h2]; rfl
    rw [e1, e2, e3]; dsimp only; omega
/-- sums that are there, there and back, hold what heights differ by. -/
theorem Dz_holds (hO : OKR z l) {p : Nat → Int} (H : Pot (legs l 0) p) (hw : Whole z.toNat (legs l 0)) {j : Nat} (hj : j < z.toNat) : -Dz z.toNat (legs l 0) j 0 ≤ p j - p 0 ∧ p j - p 0 ≤ Dz z.toNat (legs l 0) 0 j ∧ Dz z.toNat (legs l 0) j 0 ≠ far := by
  have W := hO.web
  have w1 := Dz_wk W W.n0 hj (hw j hj)
  obtain ⟨t, ht⟩ := wk_back w1
  have hb := (Dz_le W H hj ht).1
  have w2 := Dz_wk W hj W.n0 hb
  have h1 := H.wk w1
  have h2 := H.wk w2
  exact ⟨by omega, by omega, hb⟩

/-- legs that are kept keep the readings. -/
theorem pot_keep {h : List Int} (hO : OKR z l) (H : Pot (legs l 0) (fun j => gx h j)) : ∀ r ∈ l, keep h r = true := by
  intro r hr
  obtain ⟨j, hj, rfl⟩ := List.getElem_of_mem hr
  have hg : l.getD j default = l[j] := by rw [List.getD_eq_getElem?_getD, List.getElem?_eq_getElem hj]; rfl
  obtain ⟨m1, m2⟩ := mem_legs (l := l) (i := 0) hj
  have a := H _ m1
  have b := H _ m2
  rw [hg] at a b
  have a : gx h l[j].To.toNat ≤ gx h l[j].From.toNat + l[j].Diff.Hi := a
  have b : gx h l[j].From.toNat ≤ gx h l[j].To.toNat + -l[j].Diff.Lo := b
  exact inR_t.2 (by omega)
theorem bad_none {h : List Int} : ∀ {l : List SHeightReading} {i : Nat}, (∀ r ∈ l, keep h r = true) → bad h l i = .inr ()
  | [], _, _ => rfl
  | r :: l, i, hk => by rw [bad, if_pos (hk r (by simp))]; exact bad_none (fun x hx => hk x (by simp [hx]))
def lows (n : Nat) (L : List Sleg) (i : Nat) : List Int := (List.range i).map fun j => -Dz n L j 0
def highs (n : Nat) (L : List Sleg) (i : Nat) : List Int := (List.range i).map fun j => Dz n L 0 j
theorem lows_len (n : Nat) (L : List Sleg) (i : Nat) : (lows n L i).length = i := by simp [lows]
theorem highs_len (n : Nat) (L : List Sleg) (i : Nat) : (highs n L i).length = i := by simp [highs]
theorem lows_get {n : Nat} {L : List Sleg} {i j : Nat} (h : j < i) : gx (lows n L i) j = -Dz n L j 0 := by
  simp [gx, lows, List.getD_eq_getElem?_getD, List.getElem?_map, List.getElem?_range h]
theorem highs_get {n : Nat} {L : List Sleg} {i j : Nat} (h : j < i) : gx (highs n L i) j = Dz n L 0 j := by
  simp [gx, highs, List.getD_eq_getElem?_getD, List.getElem?_map, List.getElem?_range h]
theorem ends_l (hO : OKR z l) (x : List Int × Int) (h : List Int) : ∀ (d fuel i : Nat), z.toNat = i + d → d < fuel → nspeculumlaw05_ProfileBoth_l0_0 k z l h (encl z.toNat (legs l 0), x) fuel (lows z.toNat (legs l 0) i) (highs z.toNat (legs l 0) i) (i : Int) = some (lows z.toNat (legs l 0) z.toNat, highs z.toNat (legs l 0) z.toNat) := by
  have hz := hO.zz
  have hl := encl_len z.toNat (legs l 0)
  intro d
  induction d with
  | zero =>
    intro fuel i he hf
    obtain ⟨f, rfl⟩ : ∃ f, fuel = f + 1 := ⟨fuel - 1, by omega⟩
    rw [nspeculumlaw05_ProfileBoth_l0_0.eq_2, if_neg (by omega), show i = z.toNat by omega]
  | succ d ih =>
    intro fuel i he hf
    obtain ⟨f, rfl⟩ : ∃ f, fuel = f + 1 := ⟨fuel - 1, by omega⟩
    have e1 : lows z.toNat (legs l 0) i ++ [-Dz z.toNat (legs l 0) i 0] = lows z.toNat (legs l 0) (i + 1) := by simp [lows, List.range_succ]
    have e2 : highs z.toNat (legs l 0) i ++ [Dz z.toNat (legs l 0) 0 i] = highs z.toNat (legs l 0) (i + 1) := by simp [highs, List.range_succ]
    rw [nspeculumlaw05_ProfileBoth_l0_0.eq_2]
    dsimp only
    rw [if_pos (by omega), if_pos (by omega), Int.toNat_natCast, encl_get (by omega), e1, e2, if_pos (by rw [lows_len]; simp; omega), if_pos (by rw [highs_len]; simp; omega), w64_succ (by omega)]
    exact ih f (i + 1) (by omega) (by omega)
theorem Dz_hi (hO : OKR z l) {p : Nat → Int} (H : Pot (legs l 0) p) (hw : Whole z.toNat (legs l 0)) {j : Nat} (hj : j < z.toNat) : (-40000000 ≤ Dz z.toNat (legs l 0) 0 j ∧ Dz z.toNat (legs l 0) 0 j ≤ 40000000) ∧ -40000000 ≤ -Dz z.toNat (legs l 0) j 0 ∧ -Dz z.toNat (legs l 0) j 0 ≤ 40000000 := by
  have W := hO.web
  obtain ⟨d1, d2, d3⟩ := Dz_holds hO H hw hj
  have u1 := Dz_up W W.n0 hj (hw j hj)
  have u2 := Dz_up W hj W.n0 d3
  omega
theorem high_pot (hO : OKR z l) {p : Nat → Int} (H : Pot (legs l 0) p) (hw : Whole z.toNat (legs l 0)) : Pot (legs l 0) (fun j => gx (highs z.toNat (legs l 0) z.toNat) j) := by
  have W := hO.web
  intro g hg
  obtain ⟨g1, g2⟩ := W.ok g hg
  dsimp only
  rw [highs_get g1, highs_get g2]
  exact Dz_cl W H W.n0 g hg (hw _ g1)
theorem low_pot (hO : OKR z l) {p : Nat → Int} (H : Pot (legs l 0) p) (hw : Whole z.toNat (legs l 0)) : Pot (legs l 0) (fun j => gx (lows z.toNat (legs l 0) z.toNat) j) := by
  have W := hO.web
  intro g hg
  obtain ⟨g1, g2⟩ := W.ok g hg
  dsimp only
  rw [lows_get g1, lows_get g2]
  have w := Dz_wk W g2 W.n0 (Dz_holds hO H hw g2).2.2
  have := (Dz_le W H g1 ((Wk.one hg).app w)).2
  omega
theorem end_ok (hk : 2000 < k) (hO : OKR z l) (he : chkE z l = 0) {h : List Int} (hl : (h.length : Int) = z) (hb : ∀ j, j < z.toNat → -100000000 ≤ gx h j ∧ gx h j ≤ 100000000) (H : Pot (legs l 0) (fun j => gx h j)) : nprofile_CheckHeights k z l h = some (0, 0) := by
  have hz := hO.zz
  have hn := hO.n
  have hs : h.all (inR (-100000000) 100000000) = true := List.all_eq_true.2 fun x hx => by
    obtain ⟨j, hj, rfl⟩ := List.getElem_of_mem hx
    have := hb j (by omega)
    unfold gx at this
    rw [List.getD_eq_getElem?_getD, List.getElem?_eq_getElem hj] at this
    exact inR_t.2 (by simp only [Option.getD_some] at this; omega)
  rw [heights_p hk (by omega) (by omega), if_pos he]
  unfold htE
  rw [if_pos hl, if_pos hs, bad_none (pot_keep hO H)]
theorem lawb_l (hk : 2000 < k) (hO : OKR z l) {h : List Int} (hh : (h.length : Int) = z) (hs : ∀ j, j < z.toNat → -100000000 ≤ gx h j ∧ gx h j ≤ 100000000) (H : Pot (legs l 0) (fun j => gx h j)) (hw : Whole z.toNat (legs l 0)) : ∀ (d fuel i : Nat), z.toNat = i + d → d < fuel → nspeculumlaw05_ProfileBoth_l1_0 k z h (lows z.toNat (legs l 0) z.toNat, highs z.toNat (legs l 0) z.toNat) fuel (i : Int) = some (.inr ()) := by
  have hz := hO.zz
  have h1 := lows_len z.toNat (legs l 0) z.toNat
  have h2 := highs_len z.toNat (legs l 0) z.toNat
  intro d
  induction d with
  | zero =>
    intro fuel i he hf
    obtain ⟨f, rfl⟩ : ∃ f, fuel = f + 1 := ⟨fuel - 1, by omega⟩
    rw [nspeculumlaw05_ProfileBoth_l1_0.eq_2, if_neg (by omega)]
  | succ d ih =>
    intro fuel i he hf
    obtain ⟨f, rfl⟩ : ∃ f, fuel = f + 1 := ⟨fuel - 1, by omega⟩
    have s1 := hs i (by omega)
    have s0 := hs 0 (by omega)
    obtain ⟨d1, d2, _⟩ := Dz_holds hO H hw (j := i) (by omega)
    rw [nspeculumlaw05_ProfileBoth_l1_0.eq_2]
    dsimp only
    rw [if_pos (by omega), if_pos hh, if_pos (by omega), if_pos (by omega), if_pos (show 0 ≤ (i : Int) ∧ (i : Int) < ((highs z.toNat (legs l 0) z.toNat).length : Int) by omega), if_pos (show 0 ≤ (i : Int) ∧ (i : Int) < ((lows z.toNat (legs l 0) z.toNat).length : Int) by omega), Int.toNat_natCast, show h.getD i 0 = gx h i from rfl, show h.getD ((0 : Int)).toNat 0 = gx h 0 from rfl, show (highs z.toNat (legs l 0) z.toNat).getD i 0 = gx (highs z.toNat (legs l 0) z.toNat) i from rfl, show (lows z.toNat (legs l 0) z.toNat).getD i 0 = gx (lows z.toNat (legs l 0) z.toNat) i from rfl, highs_get (by omega), lows_get (by omega), w64_id (n := gx h i - gx h 0) (by omega) (by omega), if_neg (by omega), if_neg (by omega), w64_succ (by omega)]
    exact ih f (i + 1) (by omega) (by omega)
end
theorem law_both (k : Nat) (hk : 2000 < k) (z : Int) (l : List SHeightReading) (h : List Int) : nspeculumlaw05_ProfileBoth k z l h = some true := by
  unfold nspeculumlaw05_ProfileBoth nawake
  rw [Option.bind_some, if_pos rfl]
  by_cases c1 : 12 < (l.length : Int)
  · rw [if_pos c1]
  rw [if_neg c1]
  by_cases c2 : 45 < (h.length : Int)
  · rw [if_pos c2]
  rw [if_neg c2]
  by_cases he : chkE z l = 0
  case neg =>
    have hne := (chk_ne z l).resolve_left he
    rw [enc_err hk (by omega) he hne.1, Option.bind_some]
    dsimp only
    rw [if_neg he]
  have hO := chk_ok he
  have hz := hO.zz
  by_cases hp : ∃ h, Pot (legs l 0) h
  case neg =>
    obtain ⟨c, y, t, m, e, _⟩ := enc_no hk hO he hp
    rw [e, Option.bind_some]
    dsimp only
    rw [if_neg (by decide)]
  by_cases hw : Whole z.toNat (legs l 0)
  case neg =>
    rw [enc_open hk hO he hp hw, Option.bind_some]
    dsimp only
    rw [if_neg (by decide)]
  obtain ⟨p, H⟩ := hp
  have W := hO.web
  have hl := encl_len z.toNat (legs l 0)
  have d0 := Dz_self W H W.n0
  rw [enc_ok hk hO he ⟨p, H⟩ hw, Option.bind_some]
  dsimp only
  rw [if_pos rfl, if_pos (by omega), if_neg (by omega), if_pos (by omega), show ((0 : Int)).toNat = 0 from rfl, encl_get W.n0, d0]
  have e1 : nspeculumlaw05_ProfileBoth_l0_0 k z l h (encl z.toNat (legs l 0), [], 0) k [] [] 0 = _ := ends_l (k := k) hO ([], 0) h z.toNat k 0 (by omega) (by omega)
  have b := fun j (hj : j < z.toNat) => Dz_hi hO H hw hj
  have r1 := end_ok hk hO he (h := lows z.toNat (legs l 0) z.toNat) (by rw [lows_len]; omega) (fun j hj => by have := b j hj; rw [lows_get hj]; omega) (low_pot hO H hw)
  have r2 := end_ok hk hO he (h := highs z.toNat (legs l 0) z.toNat) (by rw [highs_len]; omega) (fun j hj => by have := b j hj; rw [highs_get hj]; omega) (high_pot hO H hw)
  rw [if_pos (by simp), e1, Option.bind_some]
  dsimp only
  rw [r1, Option.bind_some]
  dsimp only
  rw [if_pos rfl, r2, Option.bind_some]
  dsimp only
  rw [if_pos rfl, heights_p hk (by omega) (by omega), if_pos he, Option.bind_some]
  by_cases c3 : (htE z l h).2 = 0
  case neg => rw [if_neg c3]
  rw [if_pos c3]
  obtain ⟨h1, h2, h3⟩ := htE_ok c3
  rw [show nspeculumlaw05_ProfileBoth_l1_0 k z h (lows z.toNat (legs l 0) z.toNat, highs z.toNat (legs l 0) z.toNat) k 0 = _ from lawb_l (k := k) hk hO h1 (fun j hj => small_get h2 (by omega)) (keep_pot hO h3) hw z.toNat k 0 (by omega) (by omega)]
  rfl
theorem vc_both (z : Int) (l : List SHeightReading) (h : List Int) : VC Go.Proofs.Try.prog 3 [vi z, VV.tr (l.flatMap c_SHeightReading) l.length, VV.tr (h.map vi) h.length] (vb true) := nspeculumlaw05_ProfileBoth_ok _ _ _ _ _ (law_both (k := 100000000000000000000) (by decide) z l h)
end Go.Proofs.Ytbjfaeffilbkfaa.Vg
