/- ProfileClashes, plain. -/
import Derived.Test.YtnfiipmcggjahaaJ2
import Derived.Test.YtnfiipmcggjahaaW4
set_option linter.unusedVariables false
set_option linter.unusedSimpArgs false
namespace Go.Proofs.Ytnfiipmcggjahaa.Vg
open Go Go.Proofs.Ytnfiipmcggjahaa.Ev Go.Proofs.Ytnfiipmcggjahaa.Vv
theorem copy_any (k : Nat) {c : List Int} (h : c.length ≤ 1000) : nspeculumbase_CopyInts k c = some c := by
  unfold nspeculumbase_CopyInts
  rw [if_pos (by simp; omega)]; rfl
theorem readings_p (k : Nat) {l : List SHeightReading} (h : l.length ≤ 1000) : nspeculumlaw05_readings k l = some l := by
  unfold nspeculumlaw05_readings
  rw [if_pos (by simp; omega)]; rfl
--PART
/-- the leg of a signed number. -/
def lgS (l : List SHeightReading) (c : Int) : Sleg := if c < 0 then lgN (-c - 1).toNat (l.getD (-c - 1).toNat default) else lgP (c - 1).toNat (l.getD (c - 1).toNat default)
def okC (l : List SHeightReading) (c : Int) : Bool := !(decide (c = 0)) && inR (0 - (l.length : Int)) (l.length : Int) c
theorem okC_t {l : List SHeightReading} {c : Int} (h : okC l c = true) : c ≠ 0 ∧ -(l.length : Int) ≤ c ∧ c ≤ (l.length : Int) := by
  unfold okC at h
  rw [Bool.and_eq_true, inR_t] at h
  have : c ≠ 0 := by simpa using h.1
  omega
theorem legOf_s (k : Nat) {z : Int} {l : List SHeightReading} (hO : OKR z l) {c : Int} (hc : okC l c = true) : nprofile_legOf k l c = some (lgS l c) := by
  obtain ⟨h0, h1, h2⟩ := okC_t hc
  unfold lgS
  by_cases s : c < 0
  · rw [if_pos s]
    have := (legOf_p k hO (i := (-c - 1).toNat) (by omega)).2
    rw [show -(((-c - 1).toNat : Nat) : Int) - 1 = c by omega] at this
    exact this
  · rw [if_neg s]
    have := (legOf_p k hO (i := (c - 1).toNat) (by omega)).1
    rw [show (((c - 1).toNat : Nat) : Int) + 1 = c by omega] at this
    exact this
theorem lgS_mem {l : List SHeightReading} {c : Int} (hc : okC l c = true) : lgS l c ∈ legs l 0 := by
  obtain ⟨h0, h1, h2⟩ := okC_t hc
  unfold lgS
  by_cases s : c < 0
  · rw [if_pos s]
    have := (mem_legs (l := l) (i := 0) (j := (-c - 1).toNat) (by omega)).2
    rwa [Nat.zero_add] at this
  · rw [if_neg s]
    have := (mem_legs (l := l) (i := 0) (j := (c - 1).toNat) (by omega)).1
    rwa [Nat.zero_add] at this
/-- along a circle: the sum, if it hangs together. -/
def wkC (l : List SHeightReading) : List Int → Int → Int → Option Int
  | [], s, _ => some s
  | c :: cs, s, at_ => if (lgS l c).from_ = at_ then wkC l cs (s + (lgS l c).length) (lgS l c).to else none
def sumI (r : Option Int) : Sum Unit Int := match r with | some s => .inr s | none => .inl ()
def endC (l : List SHeightReading) (c : List Int) : Int := (lgS l (c.getD (c.length - 1) 0)).to
def clE (l : List SHeightReading) (c : List Int) : Int × Int := if inR 1 40 (c.length : Int) = true then (if c.all (okC l) = true then (match wkC l c 0 (endC l c) with
    | none => (0, 25)
    | some s => if 0 ≤ s then (0, 22) else (s, 0)) else (0, 6)) else (0, 10)
section
variable {k : Nat} {z : Int} {l : List SHeightReading}
theorem ok_p (hk : 2000 < k) (hl : l.length ≤ 200) {c : List Int} (hc : c.length ≤ 1000) : ∀ (d fuel i : Nat), c.length = i + d → d < fuel → nprofile_CheckClash_l0_0 k l c fuel (i : Int) = some (sumB ((c.drop i).all (okC l))) := by
  intro d
  induction d with
  | zero =>
    intro fuel i he hf
    obtain ⟨f, rfl⟩ : ∃ f, fuel = f + 1 := ⟨fuel - 1, by omega⟩
    rw [nprofile_CheckClash_l0_0.eq_2, if_neg (by omega), List.drop_of_length_le (by omega)]; rfl
  | succ d ih =>
    intro fuel i he hf
    obtain ⟨f, rfl⟩ : ∃ f, fuel = f + 1 := ⟨fuel - 1, by omega⟩
    rw [nprofile_CheckClash_l0_0.eq_2, if_pos (by omega), if_pos (by omega), drop_get (show i < c.length by omega) 0, Int.toNat_natCast, List.all_cons]
    unfold okC
    by_cases c0 : c.getD i 0 = 0
    · rw [if_pos c0, c0]; rfl
    · rw [if_neg c0, areSmall_p hk (by omega) _ (by simp), Option.bind_some, List.all_cons, List.all_nil, Bool.and_true, show (!decide (c.getD i 0 = 0)) = true by simpa using c0, Bool.true_and]
      cases inR (0 - (l.length : Int)) (l.length : Int) (c.getD i 0) with
      | false => rfl
      | true =>
        rw [if_pos rfl, w64_succ (by omega), Bool.true_and]
        exact ih f (i + 1) (by omega) (by omega)
theorem len_bd (hO : OKR z l) {c : Int} (hc : okC l c = true) : -1000000 ≤ (lgS l c).length ∧ (lgS l c).length ≤ 1000000 := ⟨hO.web.lo _ (lgS_mem hc), hO.web.up _ (lgS_mem hc)⟩
theorem walk_p (hO : OKR z l) {c : List Int} (hc : c.length ≤ 1000) (ha : c.all (okC l) = true) : ∀ (d fuel i : Nat) (s at_ : Int), c.length = i + d → d < fuel → (-(i : Int) * 1000000 ≤ s ∧ s ≤ (i : Int) * 1000000) → nprofile_CheckClash_l1_0 k l c fuel s at_ (i : Int) = some (sumI (wkC l (c.drop i) s at_)) := by
  intro d
  induction d with
  | zero =>
    intro fuel i s at_ he hf hs
    obtain ⟨f, rfl⟩ : ∃ f, fuel = f + 1 := ⟨fuel - 1, by omega⟩
    rw [nprofile_CheckClash_l1_0.eq_2, if_neg (by omega), List.drop_of_length_le (by omega)]; rfl
  | succ d ih =>
    intro fuel i s at_ he hf hs
    obtain ⟨f, rfl⟩ : ∃ f, fuel = f + 1 := ⟨fuel - 1, by omega⟩
    have hok := List.all_eq_true.1 ha _ (mem_getD (show i < c.length by omega) 0)
    have hb := len_bd hO hok
    rw [nprofile_CheckClash_l1_0.eq_2, if_pos (by omega), if_pos (by omega), drop_get (show i < c.length by omega) 0, Int.toNat_natCast, legOf_s k hO hok, Option.bind_some]
    unfold wkC
    by_cases e : (lgS l (c.getD i 0)).from_ = at_
    · rw [if_pos e, if_pos e, w64_id (n := s + _) (by omega) (by omega), w64_succ (by omega)]
      exact ih f (i + 1) _ _ (by omega) (by omega) (by omega)
    · rw [if_neg e, if_neg e]; rfl
theorem clash_p (hk : 2000 < k) (hl : l.length ≤ 200) {c : List Int} (hc : c.length ≤ 1000) : nprofile_CheckClash k z l c = some (if chkE z l = 0 then clE l c else (0, chkE z l)) := by
  unfold nprofile_CheckClash
  rw [check_p hk z l hl, Option.bind_some]
  by_cases c0 : chkE z l = 0
  · have hO := chk_ok c0
    rw [if_pos c0, if_pos c0, isWithin_p, Option.bind_some]
    unfold clE
    cases e1 : inR 1 40 (c.length : Int) with
    | false => rfl
    | true =>
      have e1 := inR_t.1 e1
      rw [if_pos rfl, if_pos rfl, show nprofile_CheckClash_l0_0 k l c k 0 = _ from ok_p hk hl hc c.length k 0 (by omega) (by omega), Option.bind_some, List.drop_zero]
      cases e2 : c.all (okC l) with
      | false => rfl
      | true =>
        rw [if_pos rfl, w64_id (n := (c.length : Int) - 1) (by omega) (by omega), show ((c.length : Int) - 1).toNat = c.length - 1 by omega]
        show (if _ then _ else _) = _
        have hok := List.all_eq_true.1 e2 _ (mem_getD (show c.length - 1 < c.length by omega) 0)
        rw [if_pos (by omega), legOf_s k hO hok, Option.bind_some, show nprofile_CheckClash_l1_0 k l c k 0 (lgS l (c.getD (c.length - 1) 0)).to 0 = _ from walk_p (k := k) hO hc e2 c.length k 0 0 _ (by omega) (by omega) (by omega), Option.bind_some, List.drop_zero]
        show (match sumI (wkC l c 0 (endC l c)) with | .inl _ => _ | .inr _ => _) = _
        cases wkC l c 0 (endC l c) with
        | none => rfl
        | some s =>
          show (if 0 ≤ s then _ else _) = some (if 0 ≤ s then _ else _)
          split <;> rfl
  · rw [if_neg c0, if_neg c0]
theorem rok_l (hk : 2000 < k) (hl : l.length ≤ 200) {c : List Int} (hc : c.length ≤ 1000) : ∀ (d fuel i : Nat), c.length = i + d → d < fuel → nspeculumref05_CheckClash_l0_0 k l c fuel (i : Int) = some (sumB ((c.drop i).all (okC l))) := by
  intro d
  induction d with
  | zero =>
    intro fuel i he hf
    obtain ⟨f, rfl⟩ : ∃ f, fuel = f + 1 := ⟨fuel - 1, by omega⟩
    rw [nspeculumref05_CheckClash_l0_0.eq_2, if_neg (by omega), List.drop_of_length_le (by omega)]; rfl
  | succ d ih =>
    intro fuel i he hf
    obtain ⟨f, rfl⟩ : ∃ f, fuel = f + 1 := ⟨fuel - 1, by omega⟩
    rw [nspeculumref05_CheckClash_l0_0.eq_2, if_pos (by omega), if_pos (by omega), drop_get (show i < c.length by omega) 0, Int.toNat_natCast, List.all_cons]
    unfold okC
    by_cases c0 : c.getD i 0 = 0
    · rw [if_pos c0, c0]; rfl
    · rw [if_neg c0, w64_id (n := 0 - (l.length : Int)) (by omega) (by omega), within_base, Option.bind_some, show (!decide (c.getD i 0 = 0)) = true by simpa using c0, Bool.true_and]
      cases inR (0 - (l.length : Int)) (l.length : Int) (c.getD i 0) with
      | false => rfl
      | true =>
        rw [if_pos rfl, w64_succ (by omega), Bool.true_and]
        exact ih f (i + 1) (by omega) (by omega)
theorem lead_s (hO : OKR z l) {c : Int} (hc : okC l c = true) : nspeculumref05_lead k l c = some ((lgS l c).from_, (lgS l c).to, (lgS l c).length) := by
  have h := legOf_s k hO hc
  unfold nprofile_legOf at h
  unfold nspeculumref05_lead
  by_cases s : c < 0
  · rw [if_pos s] at h ⊢
    split at h
    · rename_i c2
      injection h with h
      rw [if_pos c2, ← h]
    · cases h
  · rw [if_neg s] at h ⊢
    split at h
    · rename_i c2
      injection h with h
      rw [if_pos c2, ← h]
    · cases h
/-- behind the first one: the reference's walk. -/
theorem rwalk_l (hO : OKR z l) {c : List Int} (hc : c.length ≤ 1000) (ha : c.all (okC l) = true) (first : Int) : ∀ (d fuel i : Nat) (s at_ : Int), c.length = i + d → d < fuel → 0 < i → (-(i : Int) * 1000000 ≤ s ∧ s ≤ (i : Int) * 1000000) → at_ = (lgS l (c.getD (i - 1) 0)).to →
    nspeculumref05_CheckClash_l1_0 k l c fuel (i : Int) s first at_ = some (match wkC l (c.drop i) s at_ with | some s => .inr (s, first, endC l c) | none => .inl ()) := by
  intro d
  induction d with
  | zero =>
    intro fuel i s at_ he hf hi hs ht
    obtain ⟨f, rfl⟩ : ∃ f, fuel = f + 1 := ⟨fuel - 1, by omega⟩
    rw [nspeculumref05_CheckClash_l1_0.eq_2, if_neg (by omega), List.drop_of_length_le (by omega)]
    show some (Sum.inr (s, first, at_)) = some (Sum.inr (s, first, endC l c))
    rw [ht]; unfold endC; rw [show i - 1 = c.length - 1 by omega]
  | succ d ih =>
    intro fuel i s at_ he hf hi hs ht
    obtain ⟨f, rfl⟩ : ∃ f, fuel = f + 1 := ⟨fuel - 1, by omega⟩
    have hok := List.all_eq_true.1 ha _ (mem_getD (show i < c.length by omega) 0)
    have hb := len_bd hO hok
    rw [nspeculumref05_CheckClash_l1_0.eq_2, if_pos (by omega), if_pos (by omega), drop_get (show i < c.length by omega) 0, Int.toNat_natCast, lead_s hO hok, Option.bind_some, if_neg (by omega)]
    unfold wkC
    dsimp only
    by_cases e : (lgS l (c.getD i 0)).from_ = at_
    · rw [if_pos e, if_pos e, w64_id (n := s + _) (by omega) (by omega), w64_succ (by omega)]
      exact ih f (i + 1) _ _ (by omega) (by omega) (by omega) (by omega) (by rw [Nat.add_sub_cancel])
    · rw [if_neg e, if_neg e]
theorem clash_r (hk : 2000 < k) (hO : OKR z l) {c : List Int} (hc : c.length ≤ 1000) : nspeculumref05_CheckClash k l c = some (clE l c) := by
  have hn := hO.n
  unfold nspeculumref05_CheckClash clE
  rw [within_base, Option.bind_some]
  cases e1 : inR 1 40 (c.length : Int) with
  | false => rfl
  | true =>
    have e1 := inR_t.1 e1
    rw [if_pos rfl, if_pos rfl, show nspeculumref05_CheckClash_l0_0 k l c k 0 = _ from rok_l hk (by omega) hc c.length k 0 (by omega) (by omega), Option.bind_some, List.drop_zero]
    cases e2 : c.all (okC l) with
    | false => rfl
    | true =>
      rw [if_pos rfl]
      show ((nspeculumref05_CheckClash_l1_0 k l c k 0 0 0 0).bind _) = _
      obtain ⟨f, rfl⟩ : ∃ f, k = f + 1 := ⟨k - 1, by omega⟩
      have hok := List.all_eq_true.1 e2 _ (mem_getD (show 0 < c.length by omega) 0)
      have hb := len_bd hO hok
      have hc0 := drop_get (show 0 < c.length by omega) 0
      rw [List.drop_zero] at hc0
      rw [nspeculumref05_CheckClash_l1_0.eq_2, if_pos (by omega), if_pos (by omega), show ((0 : Int)).toNat = 0 from rfl, lead_s hO hok, Option.bind_some, if_pos rfl]
      dsimp only
      rw [w64_id (n := 0 + (lgS l (c.getD 0 0)).length) (by omega) (by omega), show w64 (0 + 1) = ((1 : Nat) : Int) from rfl, rwalk_l (k := f + 1) hO hc e2 _ (c.length - 1) f 1 _ _ (by omega) (by omega) (by omega) (by omega) rfl, Option.bind_some]
      have hc1 : c = c.getD 0 0 :: c.drop 1 := hc0
      have key : ∀ (d : Int) (ds : List Int) (E : Int), wkC l (d :: ds) 0 E = if (lgS l d).from_ = E then wkC l ds (0 + (lgS l d).length) (lgS l d).to else none := fun _ _ _ => rfl
      have hw := key (c.getD 0 0) (c.drop 1) (endC l c)
      rw [← hc1] at hw
      rw [hw]
      cases e3 : wkC l (c.drop 1) (0 + (lgS l (c.getD 0 0)).length) (lgS l (c.getD 0 0)).to with
      | none =>
        dsimp only
        rw [show (if (lgS l (c.getD 0 0)).from_ = endC l c then (none : Option Int) else none) = none from by split <;> rfl]
      | some s =>
        dsimp only
        by_cases e4 : endC l c = (lgS l (c.getD 0 0)).from_
        · rw [if_pos e4, if_pos e4.symm]
          dsimp only
          split <;> rfl
        · rw [if_neg e4, if_neg (fun h => e4 h.symm)]
/-- what hangs together leads from its beginning to its end. -/
theorem wkC_pot {p : Nat → Int} (H : Pot (legs l 0) p) (hO : OKR z l) : ∀ (c : List Int) (s at_ t : Int), c.all (okC l) = true → wkC l c s at_ = some t → p (if c = [] then at_.toNat else (endC l c).toNat) ≤ p at_.toNat + (t - s)
  | [], s, at_, t, _, h => by
    injection h with h; subst h
    rw [if_pos rfl]; omega
  | c :: cs, s, at_, t, ha, h => by
    unfold wkC at h
    rw [List.all_cons, Bool.and_eq_true] at ha
    by_cases e : (lgS l c).from_ = at_
    · rw [if_pos e] at h
      have h1 := H _ (lgS_mem ha.1)
      have h2 := wkC_pot H hO cs _ _ t ha.2 h
      have e1 : fr (lgS l c) = at_.toNat := by unfold fr; rw [e]
      rw [e1] at h1
      rw [if_neg (by simp)]
      have e2 : (if cs = [] then (lgS l c).to.toNat else (endC l cs).toNat) = (endC l (c :: cs)).toNat := by
        cases cs with
        | nil => rw [if_pos rfl]; rfl
        | cons d ds => rw [if_neg (by simp)]; rfl
      rw [e2] at h2
      have e3 : to (lgS l c) = (lgS l c).to.toNat := rfl
      have e4 : ln (lgS l c) = (lgS l c).length := rfl
      rw [e3, e4] at h1
      omega
    · rw [if_neg e] at h; cases h
/-- a circle that is accepted: no heights keep all readings. -/
theorem clE_no (hO : OKR z l) {c : List Int} (h : (clE l c).2 = 0) : ¬ ∃ p, Pot (legs l 0) p := by
  rintro ⟨p, H⟩
  unfold clE at h
  cases e1 : inR 1 40 (c.length : Int) with
  | false => rw [e1] at h; simp at h
  | true =>
    rw [e1, if_pos rfl] at h
    have e1 := inR_t.1 e1
    cases e2 : c.all (okC l) with
    | false => rw [e2] at h; simp at h
    | true =>
      rw [e2, if_pos rfl] at h
      cases e3 : wkC l c 0 (endC l c) with
      | none => rw [e3] at h; simp at h
      | some s =>
        rw [e3] at h
        dsimp only at h
        by_cases e4 : 0 ≤ s
        · rw [if_pos e4] at h; simp at h
        · have := wkC_pot H hO c 0 (endC l c) s e2 e3
          rw [if_neg (fun e => by rw [e] at e1; simp at e1)] at this
          omega
--END
end
theorem law_clashes (k : Nat) (hk : 2000 < k) (z : Int) (l : List SHeightReading) (c : List Int) : nspeculumlaw05_ProfileClashes k z l c = some true := by
  unfold nspeculumlaw05_ProfileClashes nawake
  rw [Option.bind_some, if_pos rfl]
  unfold nspeculumlaw05_Few
  have main : l.length ≤ 103 → ((if 45 < (c.length : Int) then (some true) else ((nspeculumlaw05_readings k l).bind fun r2205 => ((nspeculumbase_CopyInts k c).bind fun r2208 => ((nprofile_CheckClash k z r2205 r2208).bind fun r2211 => ((nspeculumref05_CheckReadings k z l).bind fun r2215 => (if r2215 = 0 then ((nspeculumref05_CheckClash k l c).bind fun r2219 => (if r2211.2 = r2219.2 then (if r2211.1 = r2219.1 then (if r2219.2 = 0 then ((nprofile_Enclosure k z r2205).bind fun r2232 => (some (decide (r2232.2.2 = 13)))) else (some true)) else (some false)) else (some false))) else (if r2211.2 = r2215 then (if r2211.1 = 0 then (some true) else (some false)) else (some false)))))))) : Option Bool) = some true := by
    intro hl
    by_cases c45 : 45 < (c.length : Int)
    · rw [if_pos c45]
    · rw [if_neg c45, readings_p k (by omega), Option.bind_some, copy_any k (by omega), Option.bind_some, clash_p hk (by omega) (by omega), Option.bind_some, check_r hk z l (by omega), Option.bind_some]
      by_cases c0 : chkE z l = 0
      · have hO := chk_ok c0
        rw [if_pos c0, if_pos c0, clash_r hk hO (by omega), Option.bind_some, if_pos rfl, if_pos rfl]
        by_cases c2 : (clE l c).2 = 0
        · rw [if_pos c2]
          obtain ⟨c', y, t, m, e, _⟩ := enc_no hk hO c0 (clE_no hO c2)
          rw [e, Option.bind_some]; rfl
        · rw [if_neg c2]
      · rw [if_neg c0, if_neg c0, if_pos rfl, if_pos rfl]
  by_cases c1 : (l.length : Int) ≤ 12
  · rw [if_pos c1, Option.bind_some, if_pos rfl]
    exact main (by omega)
  · rw [if_neg c1]
    by_cases c2 : 100 < (l.length : Int)
    · rw [if_pos c2, Option.bind_some]
      by_cases c3 : (l.length : Int) ≤ 103
      · rw [if_pos (by simpa using c3)]
        exact main (by omega)
      · rw [if_neg (by simpa using c3)]
    · rw [if_neg c2, Option.bind_some]; rfl
theorem vc_clashes (z : Int) (l : List SHeightReading) (c : List Int) : VC Try.prog 4 [vi z, VV.tr (List.flatMap c_SHeightReading l) l.length, VV.tr (List.map vi c) c.length] (vb true) :=
  nspeculumlaw05_ProfileClashes_ok 3000 z l c true (law_clashes 3000 (by omega) z l c)
end Go.Proofs.Ytnfiipmcggjahaa.Vg
