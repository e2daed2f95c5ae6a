/- Law of sessions: the plain functions of the text G2 agree, for all lists. -/
import Derived.Test.YteicfenmfnpmgaaG2
import Derived.Test.YteicfenmfnpmgaaGp
set_option linter.unusedVariables false
set_option linter.unusedSimpArgs false
namespace Go.Proofs.Yteicfenmfnpmgaa.Vg
open Go Go.Proofs.Yteicfenmfnpmgaa.Ev Go.Proofs.Yteicfenmfnpmgaa.Vv

def blw (x y : Int) : Bool := decide (x < y)
def belowB (a b : List Int) : Bool := (List.zipWith blw a b).any id
def sumN (b : Bool) : Sum Unit Unit := match b with | true => .inl () | false => .inr ()
theorem isBelow_l (k : Nat) (a b : List Int) (hb : b.length = a.length) (hl : a.length < 1000000000000) : ∀ (d fuel i : Nat), a.length = i + d → d < fuel →
    nfigure_isBelow_l0_0 k a b fuel (i : Int) = some (sumN (belowB (a.drop i) (b.drop i))) := by
  intro d
  induction d with
  | zero =>
    intro fuel i h hf
    obtain ⟨g, rfl⟩ : ∃ g, fuel = g + 1 := ⟨fuel - 1, by omega⟩
    rw [nfigure_isBelow_l0_0.eq_2, if_neg (by omega), List.drop_eq_nil_of_le (by omega)]; rfl
  | succ d ih =>
    intro fuel i h hf
    obtain ⟨g, rfl⟩ : ∃ g, fuel = g + 1 := ⟨fuel - 1, by omega⟩
    rw [nfigure_isBelow_l0_0.eq_2, if_pos (by omega), if_pos (by omega), if_pos (by omega), w64_succ (by omega), ih g (i + 1) (by omega) (by omega), drop_get (y := a) (i := i) (by omega) 0, drop_get (y := b) (i := i) (by omega) 0]
    simp only [Int.toNat_natCast, belowB, List.zipWith_cons_cons, List.any_cons, id]
    by_cases h1 : a.getD i 0 < b.getD i 0
    · rw [if_pos h1, show blw (a.getD i 0) (b.getD i 0) = true from decide_eq_true h1]; rfl
    · rw [if_neg h1, show blw (a.getD i 0) (b.getD i 0) = false from decide_eq_false h1]; rfl
theorem isBelow_any (k : Nat) (a b : List Int) (hb : b.length = a.length) (hl : a.length < k) (hk : k ≤ 1000000000) : nfigure_isBelow k a b = some (belowB a b) := by
  unfold nfigure_isBelow
  have h : nfigure_isBelow_l0_0 k a b k 0 = some (sumN (belowB a b)) := isBelow_l k a b hb (by omega) a.length k 0 (by omega) hl
  rw [h, Option.bind_some]
  cases belowB a b <;> rfl
theorem below_l (k : Nat) (a b : List Int) : ∀ (fuel : Nat) (i : Int), nspeculumref06_below_l0_0 k a b fuel i = nfigure_isBelow_l0_0 k a b fuel i := by
  intro fuel
  induction fuel with
  | zero => intro i; rfl
  | succ g ih => intro i; rw [nfigure_isBelow_l0_0.eq_2, nspeculumref06_below_l0_0.eq_2, ih]
theorem below_any (k : Nat) (a b : List Int) (hb : b.length = a.length) (hl : a.length < k) (hk : k ≤ 1000000000) : nspeculumref06_below k a b = some (belowB a b) := by
  rw [← isBelow_any k a b hb hl hk]
  unfold nfigure_isBelow nspeculumref06_below
  rw [below_l]
theorem lawBelow_l (k : Nat) (b : List Int) (r : List Int × Int) : ∀ (fuel : Nat) (i : Int), nspeculumlaw06_FigureSessions_l0_0 k b r fuel i = nfigure_isBelow_l0_0 k r.1 b fuel i := by
  intro fuel
  induction fuel with
  | zero => intro i; rfl
  | succ g ih => intro i; rw [nfigure_isBelow_l0_0.eq_2, nspeculumlaw06_FigureSessions_l0_0.eq_2, ih]

/-- The fault of two lists of heights. -/
def hE (a : List Int) : Int := if 1 ≤ a.length ∧ a.length ≤ 40 then (if a.all inH then 0 else 2) else 10
def twoE (a b : List Int) : Int := if hE a = 0 then (if b.length = a.length then hE b else 10) else hE a
theorem checkWanted_any (k : Nat) (a b : List Int) (hl : a.length < k) (hk : k ≤ 1000000000) : nfigure_checkWanted k a b = some (twoE a b) := by
  unfold nfigure_checkWanted twoE
  rw [checkHeights_any k a hl hk, Option.bind_some]
  change (if hE a = 0 then _ else some (hE a)) = _
  by_cases h : hE a = 0
  · rw [if_pos h, if_pos h]
    by_cases h1 : b.length = a.length
    · rw [if_pos (by omega), if_pos h1, checkHeights_any k b (by omega) hk]; rfl
    · rw [if_neg (by omega), if_neg h1]
  · rw [if_neg h, if_neg h]
theorem twoErr_any (k : Nat) (a b : List Int) (hl : a.length < k) (hk : k ≤ 1000000000) : nspeculumref06_TwoErr k a b = some (twoE a b) := by
  unfold nspeculumref06_TwoErr twoE
  rw [heightsErr_any k a hl hk, Option.bind_some]
  change (if hE a = 0 then _ else some (hE a)) = _
  by_cases h : hE a = 0
  · rw [if_pos h, if_pos h]
    by_cases h1 : b.length = a.length
    · rw [if_pos (by omega), if_pos h1, heightsErr_any k b (by omega) hk]; rfl
    · rw [if_neg (by omega), if_neg h1]
  · rw [if_neg h, if_neg h]
theorem twoE_zero {a b : List Int} (h : twoE a b = 0) : hE a = 0 ∧ b.length = a.length ∧ hE b = 0 := by
  unfold twoE at h
  by_cases h1 : hE a = 0
  · rw [if_pos h1] at h
    by_cases h2 : b.length = a.length
    · rw [if_pos h2] at h; exact ⟨h1, h2, h⟩
    · rw [if_neg h2] at h; cases h
  · rw [if_neg h1] at h; exact absurd h h1
theorem hE_zero {a : List Int} (h : hE a = 0) : 1 ≤ a.length ∧ a.length ≤ 40 ∧ a.all inH = true := by
  unfold hE at h
  by_cases h1 : 1 ≤ a.length ∧ a.length ≤ 40
  · rw [if_pos h1] at h
    refine ⟨h1.1, h1.2, ?_⟩
    by_cases h2 : a.all inH = true
    · exact h2
    · rw [if_neg h2] at h; cases h
  · rw [if_neg h1] at h; cases h
theorem wearE_zero {n : Nat} {b : List Int} (h : wearE n b = 0) : b.length = n ∧ b.all inW = true := by
  unfold wearE at h
  by_cases h1 : b.length = n
  · rw [if_pos h1] at h
    refine ⟨h1, ?_⟩
    by_cases h2 : b.all inW = true
    · exact h2
    · rw [if_neg h2] at h; cases h
  · rw [if_neg h1] at h; cases h

def remS (n : Nat) : List (List Int) → List Int → Sum Int (List Int)
  | [], x => .inr x
  | b :: ws, x => if wearE n b = 0 then remS n ws (List.zipWith subW x b) else .inl (wearE n b)
def sessS (n : Nat) (w : List Int) : List (List Int) → Int → List Int → Sum (Int × Int) Unit
  | [], _, _ => .inr ()
  | b :: ws, i, x => if wearE n b = 0 then (if belowB (List.zipWith subW x b) w then .inl (i, 26) else sessS n w ws (i + 1) (List.zipWith subW x b)) else .inl (i, wearE n b)
theorem rem_l (k : Nat) (a : List Int) (b : List (List Int)) (hl : a.length < k) (hk : k ≤ 1000000000) (hb : b.length < 1000000000) : ∀ (d fuel i : Nat) (x : List Int), b.length = i + d → d < fuel → x.length = a.length →
    nfigure_Remaining_l0_0 k a b fuel (i : Int) x = some (remS a.length (b.drop i) x) := by
  intro d
  induction d with
  | zero =>
    intro fuel i x h hf hx
    obtain ⟨g, rfl⟩ : ∃ g, fuel = g + 1 := ⟨fuel - 1, by omega⟩
    rw [nfigure_Remaining_l0_0.eq_2, if_neg (by omega), List.drop_eq_nil_of_le (by omega)]; rfl
  | succ d ih =>
    intro fuel i x h hf hx
    obtain ⟨g, rfl⟩ : ∃ g, fuel = g + 1 := ⟨fuel - 1, by omega⟩
    rw [nfigure_Remaining_l0_0.eq_2, if_pos (by omega), if_pos (by omega), checkWear_any k a _ hl hk, Option.bind_some, drop_get (y := b) (i := i) (by omega) default, remS, Int.toNat_natCast]
    by_cases he : wearE a.length (b.getD i default) = 0
    · have hq := wearE_zero he
      rw [if_pos he, if_pos he, worn_any k x _ (by rw [hq.1, hx]) (by omega) hk, Option.bind_some, w64_succ (by omega)]
      exact ih g (i + 1) _ (by omega) (by omega) (by rw [List.length_zipWith, hq.1, hx]; omega)
    · rw [if_neg he, if_neg he]
theorem sess_l (k : Nat) (a w : List Int) (b : List (List Int)) (hw : w.length = a.length) (hl : a.length < k) (hk : k ≤ 1000000000) (hb : b.length < 1000000000) : ∀ (d fuel i : Nat) (x : List Int), b.length = i + d → d < fuel → x.length = a.length →
    nfigure_CheckSessions_l0_0 k a w b fuel (i : Int) x = some (sessS a.length w (b.drop i) i x) ∧ nspeculumref06_CheckSessions_l0_0 k a w b fuel (i : Int) x = some (sessS a.length w (b.drop i) i x) := by
  intro d
  induction d with
  | zero =>
    intro fuel i x h hf hx
    obtain ⟨g, rfl⟩ : ∃ g, fuel = g + 1 := ⟨fuel - 1, by omega⟩
    rw [nfigure_CheckSessions_l0_0.eq_2, nspeculumref06_CheckSessions_l0_0.eq_2, if_neg (by omega), if_neg (by omega), List.drop_eq_nil_of_le (by omega)]; exact ⟨rfl, rfl⟩
  | succ d ih =>
    intro fuel i x h hf hx
    obtain ⟨g, rfl⟩ : ∃ g, fuel = g + 1 := ⟨fuel - 1, by omega⟩
    rw [nfigure_CheckSessions_l0_0.eq_2, nspeculumref06_CheckSessions_l0_0.eq_2, if_pos (by omega), if_pos (by omega), if_pos (by omega), if_pos (by omega), checkWear_any k a _ hl hk, wearErr_any k a.length _ hl hk, Option.bind_some, Option.bind_some, drop_get (y := b) (i := i) (by omega) default, sessS, Int.toNat_natCast]
    by_cases he : wearE a.length (b.getD i default) = 0
    · have hq := wearE_zero he
      have hz : (List.zipWith subW x (b.getD i default)).length = a.length := by rw [List.length_zipWith, hq.1, hx]; omega
      rw [if_pos he, if_pos he, if_pos he, worn_any k x _ (by rw [hq.1, hx]) (by omega) hk, less_any k x _ (by rw [hq.1, hx]) hq.2 (by omega) hk, Option.bind_some, Option.bind_some, isBelow_any k _ w (by omega) (by omega) hk, below_any k _ w (by omega) (by omega) hk, Option.bind_some, Option.bind_some]
      by_cases h2 : belowB (List.zipWith subW x (b.getD i default)) w = true
      · rw [if_pos h2, if_pos h2, if_pos h2]; exact ⟨rfl, rfl⟩
      · rw [if_neg h2, if_neg h2, if_neg h2, w64_succ (by omega)]
        exact ih g (i + 1) _ (by omega) (by omega) hz
    · rw [if_neg he, if_neg he, if_neg he]; exact ⟨rfl, rfl⟩
def outS (r : Sum (Int × Int) Unit) : Int × Int := match r with | .inl e => e | .inr _ => (0, 0)
/-- What CheckSessions answers. -/
def checkS (a w : List Int) (b : List (List Int)) : Int × Int :=
  if twoE a w = 0 then (if (100 : Int) < (b.length : Int) then (0, 8) else (if belowB a w then (-1, 26) else outS (sessS a.length w b 0 a))) else (0, twoE a w)
theorem checkSessions_any (k : Nat) (a w : List Int) (b : List (List Int)) (hl : a.length < k) (hk : k ≤ 1000000000) (hb : b.length < k) :
    nfigure_CheckSessions k a w b = some (checkS a w b) ∧ nspeculumref06_CheckSessions k a w b = some (checkS a w b) := by
  unfold nfigure_CheckSessions nspeculumref06_CheckSessions checkS
  rw [checkWanted_any k a w hl hk, twoErr_any k a w hl hk, Option.bind_some, Option.bind_some]
  by_cases h0 : twoE a w = 0
  · rw [if_pos h0, if_pos h0, if_pos h0]
    have hw := (twoE_zero h0).2.1
    by_cases h1 : (100 : Int) < (b.length : Int)
    · rw [if_pos h1, if_pos h1, if_pos h1]; exact ⟨rfl, rfl⟩
    · rw [if_neg h1, if_neg h1, if_neg h1, isBelow_any k a w hw hl hk, below_any k a w hw hl hk, Option.bind_some, Option.bind_some]
      by_cases h2 : belowB a w = true
      · rw [if_pos h2, if_pos h2, if_pos h2]; exact ⟨rfl, rfl⟩
      · rw [if_neg h2, if_neg h2, if_neg h2, copyInts_any k a (by omega), Option.bind_some]
        obtain ⟨e1, e2⟩ := sess_l k a w b hw hl hk (by omega) b.length k 0 a (by omega) hb rfl
        have e1' : nfigure_CheckSessions_l0_0 k a w b k 0 a = some (sessS a.length w b 0 a) := e1
        have e2' : nspeculumref06_CheckSessions_l0_0 k a w b k 0 a = some (sessS a.length w b 0 a) := e2
        rw [e1', e2', Option.bind_some]
        cases sessS a.length w b 0 a <;> exact ⟨rfl, rfl⟩
  · rw [if_neg h0, if_neg h0, if_neg h0]; exact ⟨rfl, rfl⟩
def outR (r : Sum Int (List Int)) : List Int × Int := match r with | .inl e => ([], e) | .inr l => (l, 0)
theorem remaining_holds (k : Nat) (a : List Int) (b : List (List Int)) (hl : a.length < k) (hk : k ≤ 1000000000) (hb : b.length < k) (h0 : hE a = 0) (h1 : b.length ≤ 100) :
    nfigure_Remaining k a b = some (outR (remS a.length b a)) := by
  unfold nfigure_Remaining
  have hh := hE_zero h0
  rw [checkHeights_any k a hl hk, Option.bind_some]
  change (if hE a = 0 then _ else some ([], hE a)) = _
  have hc : nslices_Clone_int_int_ k a = some a := by
    unfold nslices_Clone_int_int_
    rw [if_pos (by omega), if_pos (by simp; omega)]; rfl
  have e1 : nfigure_Remaining_l0_0 k a b k 0 a = some (remS a.length b a) := rem_l k a b hl hk (by omega) b.length k 0 a (by omega) hb rfl
  rw [if_pos h0, if_neg (by omega), hc, Option.bind_some, e1, Option.bind_some]
  cases remS a.length b a <;> rfl
/-- What passes leaves heights that are not below. -/
theorem sess_rem (n : Nat) (w : List Int) : ∀ (ws : List (List Int)) (i : Int) (x : List Int), x.length = n → belowB x w = false → sessS n w ws i x = .inr () → ∃ y, remS n ws x = .inr y ∧ belowB y w = false ∧ y.length = n := by
  intro ws
  induction ws with
  | nil => intro i x hx hb _; exact ⟨x, rfl, hb, hx⟩
  | cons b ws ih =>
    intro i x hx hb h
    rw [sessS] at h
    rw [remS]
    by_cases he : wearE n b = 0
    · rw [if_pos he] at h ⊢
      have hq := wearE_zero he
      by_cases h2 : belowB (List.zipWith subW x b) w = true
      · rw [if_pos h2] at h; cases h
      · rw [if_neg h2] at h
        exact ih _ _ (by rw [List.length_zipWith, hq.1, hx]; omega) (by simpa using h2) h
    · rw [if_neg he] at h; cases h
theorem sessS_err (n : Nat) (w : List Int) : ∀ (ws : List (List Int)) (i : Int) (x : List Int) (e : Int × Int), sessS n w ws i x = .inl e → e.2 ≠ 0 := by
  intro ws
  induction ws with
  | nil => intro i x e h; cases h
  | cons b ws ih =>
    intro i x e h
    rw [sessS] at h
    by_cases he : wearE n b = 0
    · rw [if_pos he] at h
      by_cases h2 : belowB (List.zipWith subW x b) w = true
      · rw [if_pos h2] at h; injection h with h; subst h; exact (by decide : (26 : Int) ≠ 0)
      · rw [if_neg h2] at h; exact ih _ _ _ h
    · rw [if_neg he] at h; injection h with h; subst h; exact he
theorem checkS_zero {a w : List Int} {b : List (List Int)} (h : (checkS a w b).2 = 0) : hE a = 0 ∧ w.length = a.length ∧ b.length ≤ 100 ∧ ∃ y, remS a.length b a = .inr y ∧ belowB y w = false ∧ y.length = a.length := by
  unfold checkS at h
  by_cases h0 : twoE a w = 0
  · rw [if_pos h0] at h
    have hz := twoE_zero h0
    by_cases h1 : (100 : Int) < (b.length : Int)
    · rw [if_pos h1] at h; cases h
    · rw [if_neg h1] at h
      by_cases h2 : belowB a w = true
      · rw [if_pos h2] at h; cases h
      · rw [if_neg h2] at h
        refine ⟨hz.1, hz.2.1, by omega, ?_⟩
        cases hs : sessS a.length w b 0 a with
        | inl e => rw [hs] at h; exact absurd h (sessS_err _ _ _ _ _ _ hs)
        | inr u => exact sess_rem _ _ _ _ _ rfl (by simpa using h2) hs
  · rw [if_neg h0] at h; exact absurd h h0

theorem law_sessions (a w : List Int) (b : List (List Int)) : nspeculumlaw06_FigureSessions 1000 a w b = some true := by
  unfold nspeculumlaw06_FigureSessions nawake
  rw [Option.bind_some, if_pos rfl]
  by_cases h : (45 : Int) < (a.length : Int)
  · rw [if_pos h]
  rw [if_neg h]
  by_cases h' : (45 : Int) < (w.length : Int)
  · rw [if_pos h']
  rw [if_neg h']
  obtain ⟨r, e1, e2⟩ := lists_any 1000 b (by omega)
  rw [e1, Option.bind_some]
  cases r with
  | false => rfl
  | true =>
    obtain ⟨h1, h2⟩ := e2 rfl
    obtain ⟨f1, f2⟩ := checkSessions_any 1000 a w b (by omega) (by omega) (by omega)
    rw [if_pos rfl, copyInts_any 1000 a (by omega), Option.bind_some, copyInts_any 1000 w (by omega), Option.bind_some, copyLists_any 1000 b h2 (by omega) (by omega), Option.bind_some, f1, f2, Option.bind_some, Option.bind_some, if_pos rfl, if_pos rfl]
    by_cases h0 : (checkS a w b).2 = 0
    · obtain ⟨g1, g2, g3, y, g4, g5, g6⟩ := checkS_zero h0
      have hr := remaining_holds 1000 a b (by omega) (by omega) (by omega) g1 g3
      rw [g4] at hr
      have hr' : nfigure_Remaining 1000 a b = some (y, 0) := hr
      have hb : nspeculumlaw06_FigureSessions_l0_0 1000 w (y, 0) 1000 0 = some (sumN (belowB y w)) := by
        rw [lawBelow_l]
        exact isBelow_l 1000 y w (by omega) (by omega) y.length 1000 0 (by omega) (by omega)
      rw [if_pos h0, hr', Option.bind_some, if_pos rfl, if_pos (by show (y.length : Int) = _; omega), hb, g5]; rfl
    · rw [if_neg h0]
theorem vc_sessions (a w : List Int) (b : List (List Int)) : VC Go.Proofs.Try.prog 5 [.tr (a.map vi) a.length, .tr (w.map vi) w.length, .tr (b.map v_22) b.length] (vb true) :=
  nspeculumlaw06_FigureSessions_ok 1000 a w b true (law_sessions a w b)
end Go.Proofs.Yteicfenmfnpmgaa.Vg
