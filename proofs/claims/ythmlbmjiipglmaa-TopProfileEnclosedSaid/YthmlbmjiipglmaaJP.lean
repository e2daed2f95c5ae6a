/- What heights keep, plain. -/
import Derived.Test.YthmlbmjiipglmaaJ2
set_option linter.unusedVariables false
set_option linter.unusedSimpArgs false
namespace Go.Proofs.Ythmlbmjiipglmaa.Vg
open Go Go.Proofs.Ythmlbmjiipglmaa.Ev Go.Proofs.Ythmlbmjiipglmaa.Vv
theorem copy_any (k : Nat) {c : List Int} (h : c.length ≤ 1000) : nspeculumbase_CopyInts k c = some c := by
  unfold nspeculumbase_CopyInts
  rw [if_pos (by simp; omega)]; rfl
/-- what heights keep; the first reading that they do not. -/
def keep (h : List Int) (r : SHeightReading) : Bool := inR r.Diff.Lo r.Diff.Hi (gx h r.To.toNat - gx h r.From.toNat)
def bad (h : List Int) : List SHeightReading → Nat → Sum Int Unit
  | [], _ => .inr ()
  | r :: l, i => if keep h r = true then bad h l (i + 1) else .inl (i : Int)
def htE (z : Int) (l : List SHeightReading) (h : List Int) : Int × Int := if (h.length : Int) = z then (if h.all (inR (-100000000) 100000000) = true then (match bad h l 0 with | .inl i => (i, 26) | .inr _ => (0, 0)) else (0, 2)) else (0, 10)
theorem small_get {h : List Int} (hs : h.all (inR (-100000000) 100000000) = true) {j : Nat} (hj : j < h.length) : -100000000 ≤ gx h j ∧ gx h j ≤ 100000000 :=
  inR_t.1 (List.all_eq_true.1 hs _ (mem_getD hj 0))
theorem bad_keep {h : List Int} : ∀ {l : List SHeightReading} {i : Nat}, bad h l i = .inr () → ∀ r ∈ l, keep h r = true
  | [], i, _, r, hr => by cases hr
  | r0 :: l, i, e, r, hr => by
    unfold bad at e
    by_cases c : keep h r0 = true
    · rw [if_pos c] at e
      rcases List.mem_cons.1 hr with rfl | hr
      · exact c
      · exact bad_keep e r hr
    · rw [if_neg c] at e; cases e
theorem htE_ok {z : Int} {l : List SHeightReading} {h : List Int} (e : (htE z l h).2 = 0) : (h.length : Int) = z ∧ h.all (inR (-100000000) 100000000) = true ∧ ∀ r ∈ l, keep h r = true := by
  unfold htE at e
  by_cases c : (h.length : Int) = z
  · rw [if_pos c] at e
    by_cases c2 : h.all (inR (-100000000) 100000000) = true
    · rw [if_pos c2] at e
      refine ⟨c, c2, ?_⟩
      cases hb : bad h l 0 with
      | inl i => rw [hb] at e; simp at e
      | inr u => exact bad_keep hb
    · rw [if_neg c2] at e; simp at e
  · rw [if_neg c] at e; simp at e
section
variable {k : Nat} {z : Int} {l : List SHeightReading}
theorem hbad_p (hk : 2000 < k) (hO : OKR z l) {h : List Int} (hh : (h.length : Int) = z) (hs : h.all (inR (-100000000) 100000000) = true) : ∀ (d fuel i : Nat), l.length = i + d → d < fuel → nprofile_CheckHeights_l0_0 k l h fuel (i : Int) = some (bad h (l.drop i) i) := by
  intro d
  induction d with
  | zero =>
    intro fuel i he hf
    obtain ⟨f, rfl⟩ : ∃ f, fuel = f + 1 := ⟨fuel - 1, by omega⟩
    rw [nprofile_CheckHeights_l0_0.eq_2, if_neg (by omega), List.drop_of_length_le (by omega)]; rfl
  | succ d ih =>
    intro fuel i he hf
    obtain ⟨f, rfl⟩ : ∃ f, fuel = f + 1 := ⟨fuel - 1, by omega⟩
    have hn := hO.n
    have hr := hO.r _ (mem_getD (show i < l.length by omega) default)
    rw [nprofile_CheckHeights_l0_0.eq_2, if_pos (by omega), if_pos (by omega), drop_get (show i < l.length by omega) default, Int.toNat_natCast]
    generalize l.getD i default = r at hr ⊢
    have f1 := hr.f
    have f2 := hr.t
    have s1 := small_get hs (j := r.To.toNat) (by omega)
    have s2 := small_get hs (j := r.From.toNat) (by omega)
    rw [if_pos (by omega), if_pos (by omega), show h.getD r.To.toNat 0 = gx h r.To.toNat from rfl, show h.getD r.From.toNat 0 = gx h r.From.toNat from rfl, w64_id (n := gx h r.To.toNat - gx h r.From.toNat) (by omega) (by omega), isWithin_p, Option.bind_some]
    unfold bad
    by_cases c : keep h r = true
    · rw [if_pos c, if_pos (show inR r.Diff.Lo r.Diff.Hi (gx h r.To.toNat - gx h r.From.toNat) = true from c), w64_succ (by omega)]
      exact ih f (i + 1) (by omega) (by omega)
    · rw [if_neg c, if_neg (show ¬ inR r.Diff.Lo r.Diff.Hi (gx h r.To.toNat - gx h r.From.toNat) = true from c)]
theorem heights_p (hk : 2000 < k) (hl : l.length ≤ 200) {h : List Int} (hh : h.length ≤ 1000) : nprofile_CheckHeights k z l h = some (if chkE z l = 0 then htE z l h else (0, chkE z l)) := by
  unfold nprofile_CheckHeights
  rw [check_p hk z l hl, Option.bind_some]
  by_cases c : chkE z l = 0
  · rw [if_pos c, if_pos c]
    have hO := chk_ok c
    unfold htE
    by_cases c1 : (h.length : Int) = z
    · rw [if_pos c1, if_pos c1, areSmall_p hk (by omega) h hh, Option.bind_some]
      show (if h.all (inR (-100000000) 100000000) = true then _ else _) = _
      by_cases c2 : h.all (inR (-100000000) 100000000) = true
      · rw [if_pos c2, if_pos c2, show nprofile_CheckHeights_l0_0 k l h k 0 = _ from hbad_p hk hO c1 c2 l.length k 0 (by omega) (by omega), Option.bind_some, List.drop_zero]
        cases bad h l 0 <;> rfl
      · rw [if_neg c2, if_neg c2]
    · rw [if_neg c1, if_neg c1]
  · rw [if_neg c, if_neg c]
/-- heights that keep all readings keep all legs. -/
theorem keep_pot {h : List Int} (hO : OKR z l) (hk : ∀ r ∈ l, keep h r = true) : Pot (legs l 0) (fun j => gx h j) := by
  intro g hg
  obtain ⟨j, h1, h2⟩ := legs_mem hg
  have := inR_t.1 (hk _ (mem_getD h1 default))
  rcases h2 with h2 | h2
  · have e1 : to g = (l.getD j default).To.toNat := by rw [h2]; rfl
    have e2 : fr g = (l.getD j default).From.toNat := by rw [h2]; rfl
    have e3 : ln g = (l.getD j default).Diff.Hi := by rw [h2]; rfl
    rw [e1, e2, e3]; dsimp only; omega
  · have e1 : to g = (l.getD j default).From.toNat := by rw [h2]; rfl
    have e2 : fr g = (l.getD j default).To.toNat := by rw [h2]; rfl
    have e3 : ln g = -(l.getD j default).Diff.Lo := by rw [h2]; rfl
    rw [e1, e2, e3]; dsimp only; omega
/-- sums that are there, there and back, hold what heights differ by. -/
theorem Dz_holds (hO : OKR z l) {p : Nat → Int} (H : Pot (legs l 0) p) (hw : Whole z.toNat (legs l 0)) {j : Nat} (hj : j < z.toNat) : -Dz z.toNat (legs l 0) j 0 ≤ p j - p 0 ∧ p j - p 0 ≤ Dz z.toNat (legs l 0) 0 j ∧ Dz z.toNat (legs l 0) j 0 ≠ far := by
  have W := hO.web
  have w1 := Dz_wk W W.n0 hj (hw j hj)
  obtain ⟨t, ht⟩ := wk_back w1
  have hb := (Dz_le W H hj ht).1
  have w2 := Dz_wk W hj W.n0 hb
  have h1 := H.wk w1
  have h2 := H.wk w2
  exact ⟨by omega, by omega, hb⟩
end
end Go.Proofs.Ythmlbmjiipglmaa.Vg
