/- Law of deciding zones: the program and the reference name the same first zone. -/
import Derived.Test.YtlhkkbdfdkjlcaaD1
import Derived.Test.YtlhkkbdfdkjlcaaKj
set_option linter.unusedVariables false
set_option linter.unusedSimpArgs false
namespace Go.Proofs.Ytlhkkbdfdkjlcaa.Vg
open Go Go.Proofs.Ytlhkkbdfdkjlcaa.Ev Go.Proofs.Ytlhkkbdfdkjlcaa.Vv

theorem good_set {a : List SRange} (ha : GoodR a) (z : Nat) (hz : z < a.length) (x : Int) (h1 : loA a z ≤ x) (h2 : x ≤ hiA a z) : GoodR (a.set z ⟨x, x⟩) := by
  refine ⟨by simpa using ha.pos, by simpa using ha.le, fun i h3 h4 => ?_⟩
  simp only [List.length_set] at h4
  have hi := ha.all i h3 h4
  have hzz := ha.all (z : Int) (by omega) (by omega)
  by_cases e : z = i.toNat
  · have : (a.set z ⟨x, x⟩).getD i.toNat default = ⟨x, x⟩ := by
      rw [← e, List.getD_eq_getElem?_getD, List.getElem?_set_self hz]; rfl
    unfold loA hiA at *
    rw [this]
    simp only [Int.toNat_natCast] at *
    omega
  · have : (a.set z ⟨x, x⟩).getD i.toNat default = a.getD i.toNat default := by
      rw [List.getD_eq_getElem?_getD, List.getD_eq_getElem?_getD, List.getElem?_set_ne e]
    unfold loA hiA at *
    rw [this]; exact hi
def dec (a : List SRange) (t : SFigureTolerance) (z : Nat) (x : Int) : Nat → Bool
  | 0 => true
  | d + 1 => match decide ((judgeOf (a.set z ⟨x, x⟩) t).1 = 0) with | true => false | false => dec a t z (x + 1) d
theorem dec_p (k : Nat) {a : List SRange} (ha : GoodR a) (t : SFigureTolerance) (z : Nat) (hz : z < a.length) : ∀ (d fuel : Nat) (x : Int) (y : List SRange), loA a z ≤ x → x + d = hiA a z + 1 → d < fuel → y.length = a.length → (∀ v, y.set z v = a.set z v) →
    nfigure_decides_l0_0 k a t (z : Int) fuel y x = some (sumB (dec a t z x d)) := by
  have hr := ha.all (z : Int) (by omega) (by omega)
  intro d
  induction d with
  | zero =>
    intro fuel x y h1 h2 hf hy hs
    obtain ⟨g, rfl⟩ : ∃ g, fuel = g + 1 := ⟨fuel - 1, by omega⟩
    have e : ¬ x ≤ (a.getD (z : Int).toNat default).Hi := by
      show ¬ x ≤ hiA a z; omega
    rw [nfigure_decides_l0_0.eq_2, if_pos (by omega), if_neg e]; rfl
  | succ d ih =>
    intro fuel x y h1 h2 hf hy hs
    obtain ⟨g, rfl⟩ : ∃ g, fuel = g + 1 := ⟨fuel - 1, by omega⟩
    have e : x ≤ (a.getD (z : Int).toNat default).Hi := by
      show x ≤ hiA a z; omega
    rw [nfigure_decides_l0_0.eq_2, if_pos (by omega), if_pos e, if_pos (by omega), Int.toNat_natCast]
    change (nfigure_judge k (y.set z ⟨x, x⟩) t).bind _ = _
    rw [hs, judge_fig k (good_set ha z hz x h1 (by omega)) t, Option.bind_some, w64_id (by omega) (by omega), ih g (x + 1) (a.set z ⟨x, x⟩) (by omega) (by omega) (by omega) (by simp) (fun v => List.set_set ..), dec]
    by_cases hj : (judgeOf (a.set z ⟨x, x⟩) t).1 = 0
    · rw [if_pos hj, decide_eq_true hj]; rfl
    · rw [if_neg hj, decide_eq_false hj]
theorem copyR_any (k : Nat) (a : List SRange) (hl : a.length ≤ 1000000000) : nspeculumbase_CopyRanges k a = some a := by
  unfold nspeculumbase_CopyRanges
  rw [if_pos (by simpa using hl)]; rfl
theorem dec_r (k : Nat) {a : List SRange} (ha : GoodR a) (t : SFigureTolerance) (z : Nat) (hz : z < a.length) (hk : 100 ≤ k) : ∀ (d fuel : Nat) (x : Int), loA a z ≤ x → x + d = hiA a z + 1 → d < fuel →
    nspeculumref06_Deciding_l2_0 k a t (z : Int) fuel true x = some (dec a t z x d) := by
  have hr := ha.all (z : Int) (by omega) (by omega)
  have hle := ha.le
  intro d
  induction d with
  | zero =>
    intro fuel x h1 h2 hf
    obtain ⟨g, rfl⟩ : ∃ g, fuel = g + 1 := ⟨fuel - 1, by omega⟩
    have e : ¬ x ≤ (a.getD (z : Int).toNat default).Hi := by
      show ¬ x ≤ hiA a z; omega
    rw [nspeculumref06_Deciding_l2_0.eq_2, if_pos (by omega), if_neg e]; rfl
  | succ d ih =>
    intro fuel x h1 h2 hf
    obtain ⟨g, rfl⟩ : ∃ g, fuel = g + 1 := ⟨fuel - 1, by omega⟩
    have e : x ≤ (a.getD (z : Int).toNat default).Hi := by
      show x ≤ hiA a z; omega
    rw [nspeculumref06_Deciding_l2_0.eq_2, if_pos (by omega), if_pos e, if_pos rfl, copyR_any k a (by omega), Option.bind_some, if_pos (by omega), Int.toNat_natCast]
    change (nspeculumref06_Judge k (a.set z ⟨x, x⟩) t).bind _ = _
    rw [judge_ref k (good_set ha z hz x h1 (by omega)) t hk, Option.bind_some, w64_id (by omega) (by omega), dec]
    by_cases hj : (judgeOf (a.set z ⟨x, x⟩) t).1 = 0
    · rw [decide_eq_true hj]
      obtain ⟨g', rfl⟩ : ∃ g', g = g' + 1 := ⟨g - 1, by omega⟩
      rw [nspeculumref06_Deciding_l2_0.eq_2, if_pos (by omega)]
      by_cases h3 : x + 1 ≤ (a.getD (z : Int).toNat default).Hi
      · rw [if_pos h3]; rfl
      · rw [if_neg h3]; rfl
    · rw [decide_eq_false hj]
      exact ih g (x + 1) (by omega) (by omega) (by omega)
def wide (r : SRange) : Bool := decide (200 < r.Hi - r.Lo)
theorem wide_l (k : Nat) {a : List SRange} (ha : GoodR a) (t : SFigureTolerance) : ∀ (d fuel i : Nat), a.length = i + d → d < fuel →
    nspeculumref06_Deciding_l0_0 k a t fuel (i : Int) = some (aOut ((a.drop i).any wide)) ∧
    ((a.drop i).any wide = true → ∃ j : Int, 0 ≤ j ∧ nslices_IndexFunc_api_Range_api_Range__c1_88_l0_0 k a fuel (i : Int) = some (.inl j)) ∧
    ((a.drop i).any wide = false → nslices_IndexFunc_api_Range_api_Range__c1_88_l0_0 k a fuel (i : Int) = some (.inr ())) := by
  have hle := ha.le
  intro d
  induction d with
  | zero =>
    intro fuel i h hf
    obtain ⟨g, rfl⟩ : ∃ g, fuel = g + 1 := ⟨fuel - 1, by omega⟩
    rw [nspeculumref06_Deciding_l0_0.eq_2, nslices_IndexFunc_api_Range_api_Range__c1_88_l0_0.eq_2, if_neg (by omega), if_neg (by omega), List.drop_eq_nil_of_le (by omega)]
    exact ⟨rfl, fun h => by simp at h, fun _ => rfl⟩
  | succ d ih =>
    intro fuel i h hf
    obtain ⟨g, rfl⟩ : ∃ g, fuel = g + 1 := ⟨fuel - 1, by omega⟩
    have hr := ha.all (i : Int) (by omega) (by omega)
    unfold loA hiA at hr
    rw [Int.toNat_natCast] at hr
    obtain ⟨i1, i2, i3⟩ := ih g (i + 1) (by omega) (by omega)
    have c1 : (i : Int) < (a.length : Int) := by omega
    have c2 : 0 ≤ (i : Int) ∧ (i : Int) < (a.length : Int) := by omega
    rw [nspeculumref06_Deciding_l0_0.eq_2, nslices_IndexFunc_api_Range_api_Range__c1_88_l0_0.eq_2]
    unfold nfigure_Deciding_1
    simp only [if_pos c1, if_pos c2, Int.toNat_natCast, Option.bind_some]
    rw [w64_succ (by omega), i1, drop_get (y := a) (i := i) (by omega) default, List.any_cons]
    have ew := w64_id (n := (a.getD i default).Hi - (a.getD i default).Lo) (by omega) (by omega)
    simp only [ew]
    by_cases hx : 200 < (a.getD i default).Hi - (a.getD i default).Lo
    · have hw : wide (a.getD i default) = true := decide_eq_true hx
      simp only [if_pos hx, decide_eq_true hx, if_true, hw, Bool.true_or]
      exact ⟨rfl, fun _ => ⟨(i : Int), by omega, rfl⟩, fun h => by simp at h⟩
    · have hw : wide (a.getD i default) = false := decide_eq_false hx
      simp only [if_neg hx, decide_eq_false hx, hw, Bool.false_or, Bool.false_eq_true, if_false]
      exact ⟨trivial, i2, i3⟩
theorem zones_l (k : Nat) {a : List SRange} (ha : GoodR a) (t : SFigureTolerance) (hk : 1000 ≤ k) (hw : ∀ z : Nat, z < a.length → hiA a z - loA a z ≤ 200) : ∀ (d fuel z : Nat), a.length = z + d → d < fuel →
    ∃ r, nfigure_Deciding_l0_0 k a t fuel (z : Int) = some r ∧ nspeculumref06_Deciding_l1_0 k a t fuel (z : Int) = some r := by
  have hle := ha.le
  have hpos := ha.pos
  intro d
  induction d with
  | zero =>
    intro fuel i h hf
    obtain ⟨g, rfl⟩ : ∃ g, fuel = g + 1 := ⟨fuel - 1, by omega⟩
    rw [nfigure_Deciding_l0_0.eq_2, nspeculumref06_Deciding_l1_0.eq_2, if_neg (by omega), if_neg (by omega)]
    exact ⟨_, rfl, rfl⟩
  | succ d ih =>
    intro fuel z h hf
    obtain ⟨g, rfl⟩ : ∃ g, fuel = g + 1 := ⟨fuel - 1, by omega⟩
    have hz : z < a.length := by omega
    have hr := ha.all (z : Int) (by omega) (by omega)
    have hwz := hw z hz
    obtain ⟨r, i1, i2⟩ := ih g (z + 1) (by omega) (by omega)
    obtain ⟨n, hn⟩ := Int.eq_ofNat_of_zero_le (show 0 ≤ hiA a z + 1 - loA a z by omega)
    have e1 := dec_p k ha t z hz n k (loA a z) a (by omega) (by omega) (by omega) rfl (fun _ => rfl)
    have e2 := dec_r k ha t z hz (by omega) n k (loA a z) (by omega) (by omega) (by omega)
    have e3 : nfigure_decides k a t (z : Int) = some (dec a t z (loA a z) n) := by
      unfold nfigure_decides nslices_Clone_api_Range_api_Range_
      rw [if_pos (by omega), if_pos (by simp; omega), Option.bind_some, if_pos (by omega)]
      change (nfigure_decides_l0_0 k a t (z : Int) k a (loA a z)).bind _ = _
      rw [e1]
      cases dec a t z (loA a z) n <;> rfl
    rw [nfigure_Deciding_l0_0.eq_2, nspeculumref06_Deciding_l1_0.eq_2, if_pos (by omega), if_pos (by omega), if_pos (by omega)]
    change ∃ r, (nfigure_decides k a t (z : Int)).bind _ = some r ∧ (nspeculumref06_Deciding_l2_0 k a t (z : Int) k true (loA a z)).bind _ = some r
    rw [e2, e3, Option.bind_some, Option.bind_some, w64_succ (by omega), i1, i2]
    cases dec a t z (loA a z) n with
    | true => exact ⟨_, rfl, rfl⟩
    | false => exact ⟨r, rfl, rfl⟩
theorem deciding_any (k : Nat) {a : List SRange} {t : SFigureTolerance} (h0 : jE a t = 0) (hl : a.length < k) (hk : 1000 ≤ k) (hk2 : k ≤ 1000000000) : ∃ p : Int × Int, nfigure_Deciding k a t = some p ∧ nspeculumref06_Deciding k a t = some p := by
  have ha := eE_zero (jE_zero h0).1
  obtain ⟨w1, w2, w3⟩ := wide_l k ha t a.length k 0 (by omega) hl
  rw [List.drop_zero, show ((0 : Nat) : Int) = 0 from rfl] at w1 w2 w3
  unfold nfigure_Deciding nspeculumref06_Deciding nslices_ContainsFunc_api_Range_api_Range__c1_88 nslices_IndexFunc_api_Range_api_Range__c1_88
  change ∃ p, (nfigure_Judge k a t).bind _ = some p ∧ (nspeculumref06_Judge k a t).bind _ = some p
  rw [Judge_fig k a t hl (by omega) hk2, judge_ref k ha t (by omega), if_pos h0]
  simp only [Option.bind_some, if_true]
  by_cases hj : (judgeOf a t).1 = 0
  · rw [if_pos hj, if_pos hj, w1]
    cases hx : a.any wide with
    | true =>
      obtain ⟨j, hj0, e⟩ := w2 hx
      rw [e]
      simp only [Option.bind_some, decide_eq_true hj0, if_true, aOut]
      exact ⟨_, rfl, rfl⟩
    | false =>
      have hw : ∀ z : Nat, z < a.length → hiA a z - loA a z ≤ 200 := fun z hz => by
        rw [List.any_eq_false] at hx
        have := hx (a.getD z default) (by rw [List.getD_eq_getElem?_getD, List.getElem?_eq_getElem hz]; exact List.getElem_mem hz)
        unfold wide at this
        unfold hiA loA
        rw [Int.toNat_natCast]
        simp only [decide_eq_true_eq] at this
        omega
      obtain ⟨r, z1, z2⟩ := zones_l k ha t hk hw a.length k 0 (by omega) hl
      rw [show ((0 : Nat) : Int) = 0 from rfl] at z1 z2
      rw [w3 hx, z1, z2]
      cases r with
      | inl i => exact ⟨_, rfl, rfl⟩
      | inr u => exact ⟨_, rfl, rfl⟩
  · rw [if_neg hj, if_neg hj]; exact ⟨_, rfl, rfl⟩
theorem law_decides (k : Nat) (a : List SRange) (t : SFigureTolerance) (hk : 1000 ≤ k) (hk2 : k ≤ 1000000000) : nspeculumlaw06_FigureDecides k a t = some true := by
  have ht : (⟨t.Peak, t.Slope⟩ : SFigureTolerance) = t := rfl
  have main : a.length ≤ 45 → (nfigure_Deciding k a t).bind (fun r1128 => (nspeculumlaw06_judgeErr k a t).bind fun r1130 => (if r1130 = 0 then ((nspeculumref06_Deciding k a t).bind fun r1133 => (if r1128.2 = r1133.2 then (some (decide (r1128.1 = r1133.1))) else (some false))) else (if r1128.2 = r1130 then (some (decide (r1128.1 = 0))) else (some false)))) = some true := by
    intro hl
    rw [judgeErr_any k a t (by omega) (by omega) hk2]
    by_cases h0 : jE a t = 0
    · obtain ⟨p, p1, p2⟩ := deciding_any k h0 (by omega) hk hk2
      rw [p1, p2]
      simp [h0]
    · unfold nfigure_Deciding
      change ((nfigure_Judge k a t).bind _).bind _ = _
      rw [Judge_fig k a t (by omega) (by omega) hk2, if_neg h0]
      simp [h0]
  unfold nspeculumlaw06_FigureDecides
  rw [show nawake k = some true from rfl]
  simp only [Option.bind_some, if_true, ht]
  by_cases h6 : 6 < (a.length : Int)
  · rw [if_pos h6]
    by_cases h40 : (a.length : Int) ≤ 40
    · rw [if_pos h40]
    · rw [if_neg h40]
      by_cases h45 : 45 < (a.length : Int)
      · rw [if_pos h45]
      · rw [if_neg h45, ranges_any k a (by omega), Option.bind_some]
        exact main (by omega)
  · rw [if_neg h6]
    by_cases h45 : 45 < (a.length : Int)
    · rw [if_pos h45]
    · rw [if_neg h45, ranges_any k a (by omega), Option.bind_some]
      exact main (by omega)
theorem vc_decides (a : List SRange) (t : SFigureTolerance) : VC Go.Proofs.Try.prog 10 [VV.tr (a.flatMap c_SRange) a.length, VV.ag [vi t.Peak, vi t.Slope]] (vb true) :=
  nspeculumlaw06_FigureDecides_ok 1000 a t true (law_decides 1000 a t (by decide) (by decide))
end Go.Proofs.Ytlhkkbdfdkjlcaa.Vg
