/- BlankTimes, plain. -/
import Derived.Test.YtejannnafdcgoaaAK
set_option linter.unusedVariables false
set_option linter.unusedSimpArgs false
namespace Go.Proofs.Ytejannnafdcgoaa.Vg
open Go Go.Proofs.Ytejannnafdcgoaa.Ev Go.Proofs.Ytejannnafdcgoaa.Vv
def sumO {α : Type} (r : Option α) : Sum α Unit := match r with | some x => .inl x | none => .inr ()
def mnW (t : List Int) (i : Nat) : Int := w64 (t.getD (i + 1) 0 - t.getD i 0)
def bad0 : List Int → Nat → Option Int
  | [], _ => none
  | t :: l, i => if inR 0 10000000 t = true then bad0 l (i + 1) else some i
def bad1 (a : SAnnealing) (t : List Int) : Nat → Nat → Option (Int × Int)
  | 0, _ => none
  | d + 1, i => if mnW t i < leastM a i then some (i, 19) else if (a.Steps.getD i default).Most < mnW t i then some (i, 18) else bad1 a t d (i + 1)
def bad2 (t : List Int) : List SCoolWindow → Nat → Option Int
  | [], _ => none
  | w :: l, i => if inR w.From w.To (t.getD w.Level.toNat 0) = true then bad2 t l (i + 1) else some i
def timesE (a : SAnnealing) (t : List Int) : Int × Int := if t.length = a.Steps.length + 1 then (match bad0 t 0 with
  | some i => (i, 2)
  | none => match bad1 a t a.Steps.length 0 with
    | some r => r
    | none => match bad2 t a.Windows 0 with
      | some i => (i, 26)
      | none => (0, 0)) else (0, 10)
section
variable {a : SAnnealing} {t : List Int}
theorem bad0_b (k : Nat) (ht : t.length ≤ 1000) : ∀ (d fuel i : Nat), t.length = i + d → d < fuel → nblank_CheckTimes_l0_0 k a t fuel (i : Int) = some (sumO (bad0 (t.drop i) i)) := by
  intro d
  induction d with
  | zero =>
    intro fuel i he hf
    obtain ⟨f, rfl⟩ : ∃ f, fuel = f + 1 := ⟨fuel - 1, by omega⟩
    rw [nblank_CheckTimes_l0_0.eq_2, if_neg (by omega), List.drop_of_length_le (by omega)]; rfl
  | succ d ih =>
    intro fuel i he hf
    obtain ⟨f, rfl⟩ : ∃ f, fuel = f + 1 := ⟨fuel - 1, by omega⟩
    rw [nblank_CheckTimes_l0_0.eq_2, if_pos (by omega), if_pos (by omega), isWithin_b, Option.bind_some, drop_get (show i < t.length by omega) 0, Int.toNat_natCast]
    unfold bad0
    cases e : inR 0 10000000 (t.getD i 0) with
    | false => rfl
    | true =>
      rw [if_pos rfl, if_pos rfl, w64_succ (by omega)]
      exact ih f (i + 1) (by omega) (by omega)
theorem bad1_b (k : Nat) (hA : Ann a) (ht : t.length = a.Steps.length + 1) : ∀ (d fuel i : Nat), a.Steps.length = i + d → d < fuel → nblank_CheckTimes_l1_0 k a t fuel (i : Int) = some (sumO (bad1 a t d i)) := by
  have hn := hA.ns
  intro d
  induction d with
  | zero =>
    intro fuel i he hf
    obtain ⟨f, rfl⟩ : ∃ f, fuel = f + 1 := ⟨fuel - 1, by omega⟩
    rw [nblank_CheckTimes_l1_0.eq_2, if_neg (by omega)]; rfl
  | succ d ih =>
    intro fuel i he hf
    obtain ⟨f, rfl⟩ : ∃ f, fuel = f + 1 := ⟨fuel - 1, by omega⟩
    rw [nblank_CheckTimes_l1_0.eq_2, if_pos (by omega), if_pos (by omega), w64_succ (by omega), if_pos (by omega), if_pos (by omega), least_b hA k (by omega), Option.bind_some, Int.toNat_natCast, Int.toNat_natCast, show w64 (t.getD (i + 1) 0 - t.getD i 0) = mnW t i from rfl]
    unfold bad1
    by_cases c1 : mnW t i < leastM a i
    · rw [if_pos c1, if_pos c1]; rfl
    · rw [if_neg c1, if_neg c1]
      by_cases c2 : (a.Steps.getD i default).Most < mnW t i
      · rw [if_pos c2, if_pos c2]; rfl
      · rw [if_neg c2, if_neg c2]
        exact ih f (i + 1) (by omega) (by omega)
theorem bad2_b (k : Nat) (hA : Ann a) (ht : t.length = a.Steps.length + 1) : ∀ (d fuel i : Nat), a.Windows.length = i + d → d < fuel → nblank_CheckTimes_l2_0 k a t fuel (i : Int) = some (sumO (bad2 t (a.Windows.drop i) i)) := by
  have hn := hA.nw
  intro d
  induction d with
  | zero =>
    intro fuel i he hf
    obtain ⟨f, rfl⟩ : ∃ f, fuel = f + 1 := ⟨fuel - 1, by omega⟩
    rw [nblank_CheckTimes_l2_0.eq_2, if_neg (by omega), List.drop_of_length_le (by omega)]; rfl
  | succ d ih =>
    intro fuel i he hf
    obtain ⟨f, rfl⟩ : ∃ f, fuel = f + 1 := ⟨fuel - 1, by omega⟩
    have hw := hA.wi _ (mem_getD (l := a.Windows) (i := i) (by omega))
    rw [nblank_CheckTimes_l2_0.eq_2, if_pos (by omega), if_pos (by omega), Int.toNat_natCast, if_pos (by omega), isWithin_b, Option.bind_some, drop_get (show i < a.Windows.length by omega) default]
    unfold bad2
    cases e : inR (a.Windows.getD i default).From (a.Windows.getD i default).To (t.getD (a.Windows.getD i default).Level.toNat 0) with
    | false => rfl
    | true =>
      rw [if_pos rfl, if_pos rfl, w64_succ (by omega)]
      exact ih f (i + 1) (by omega) (by omega)
theorem times_b {k : Nat} (hl : Lg a k) (ht : t.length ≤ 12) : nblank_CheckTimes k a t = some (if annE a = 0 then timesE a t else (0, annE a)) := by
  have hk := hl.hk
  unfold nblank_CheckTimes
  rw [hl.b, Option.bind_some]
  by_cases c0 : annE a = 0
  · have hA := Ann.of c0
    have hn := hA.ns
    have hw := hA.nw
    rw [if_pos c0, if_pos c0, w64_id (n := (a.Steps.length : Int) + 1) (by omega) (by omega)]
    unfold timesE
    by_cases c1 : t.length = a.Steps.length + 1
    · rw [if_pos (by omega), if_pos c1, show nblank_CheckTimes_l0_0 k a t k 0 = _ from bad0_b k (by omega) t.length k 0 (by omega) (by omega), Option.bind_some, List.drop_zero]
      cases bad0 t 0 with
      | some i => rfl
      | none =>
        dsimp only [sumO]
        rw [show nblank_CheckTimes_l1_0 k a t k 0 = _ from bad1_b k hA c1 a.Steps.length k 0 (by omega) (by omega), Option.bind_some]
        cases bad1 a t a.Steps.length 0 with
        | some r => rfl
        | none =>
          dsimp only [sumO]
          rw [show nblank_CheckTimes_l2_0 k a t k 0 = _ from bad2_b k hA c1 a.Windows.length k 0 (by omega) (by omega), Option.bind_some, List.drop_zero]
          cases bad2 t a.Windows 0 <;> rfl
    · rw [if_neg (by omega), if_neg c1]
  · rw [if_neg c0, if_neg c0]
theorem bad0_ok : ∀ (l : List Int) (i : Nat), bad0 l i = none → ∀ x ∈ l, 0 ≤ x ∧ x ≤ 10000000
  | [], _, _, x, hx => by cases hx
  | y :: l, i, h, x, hx => by
    unfold bad0 at h
    split at h
    case isFalse => cases h
    rename_i e
    rcases List.mem_cons.1 hx with e2 | e2
    · subst e2; have := inR_t.1 e; omega
    · exact bad0_ok l _ h x e2
theorem bad1_ok : ∀ (d i : Nat), bad1 a t d i = none → ∀ j, i ≤ j → j < i + d → leastM a j ≤ mnW t j ∧ mnW t j ≤ (a.Steps.getD j default).Most
  | 0, i, _, j, h1, h2 => by omega
  | d + 1, i, h, j, h1, h2 => by
    unfold bad1 at h
    split at h
    · cases h
    split at h
    · cases h
    by_cases e : j = i
    · subst e; omega
    · exact bad1_ok d (i + 1) h j (by omega) (by omega)
theorem bad2_ok : ∀ (l : List SCoolWindow) (i : Nat), bad2 t l i = none → ∀ w ∈ l, w.From ≤ t.getD w.Level.toNat 0 ∧ t.getD w.Level.toNat 0 ≤ w.To
  | [], _, _, w, hw => by cases hw
  | v :: l, i, h, w, hw => by
    unfold bad2 at h
    split at h
    case isFalse => cases h
    rename_i e
    rcases List.mem_cons.1 hw with e2 | e2
    · subst e2; exact inR_t.1 e
    · exact bad2_ok l _ h w e2
structure Kept (a : SAnnealing) (t : List Int) : Prop where
  len : t.length = a.Steps.length + 1
  pos : ∀ j, 0 ≤ t.getD j 0 ∧ t.getD j 0 ≤ 10000000
  st : ∀ j, j < a.Steps.length → leastM a j ≤ mnW t j ∧ mnW t j ≤ (a.Steps.getD j default).Most
  wi : ∀ w ∈ a.Windows, w.From ≤ t.getD w.Level.toNat 0 ∧ t.getD w.Level.toNat 0 ≤ w.To
theorem kept_of (h : (timesE a t).2 = 0) : Kept a t ∧ (timesE a t).1 = 0 := by
  unfold timesE at h ⊢
  split at h
  case isFalse => cases h
  rename_i c1
  rw [if_pos c1]
  split at h
  · cases h
  rename_i h0
  try rw [h0]
  try dsimp only
  cases h1 : bad1 a t a.Steps.length 0 with
  | some r =>
    exfalso
    rw [h1] at h
    have h : r.2 = 0 := h
    have key : ∀ (d i : Nat), bad1 a t d i = some r → r.2 ≠ 0 := by
      intro d
      induction d with
      | zero => intro i h; cases h
      | succ d ih =>
        intro i h
        unfold bad1 at h
        split at h
        · injection h with h; subst h; exact (by decide : (19 : Int) ≠ 0)
        split at h
        · injection h with h; subst h; exact (by decide : (18 : Int) ≠ 0)
        · exact ih _ h
    exact key _ _ h1 h
  | none =>
    rw [h1] at h
    dsimp only at h ⊢
    split at h
    · cases h
    rename_i h2
    try rw [h2]
    refine ⟨⟨c1, fun j => ?_, fun j hj => bad1_ok _ _ h1 j (Nat.zero_le _) (by omega), bad2_ok _ _ h2⟩, rfl⟩
    rw [List.getD_eq_getElem?_getD]
    cases e : t[j]? with
    | none => exact ⟨Int.le_refl _, by decide⟩
    | some x => exact bad0_ok _ _ h0 x (List.mem_of_getElem? e)
theorem Kept.mn (h : Kept a t) (j : Nat) : mnW t j = t.getD (j + 1) 0 - t.getD j 0 := by
  have h1 := h.pos j
  have h2 := h.pos (j + 1)
  unfold mnW
  exact w64_id (by omega) (by omega)
theorem kept_feas (hA : Ann a) (h : Kept a t) : Feas (a.Steps.length + 2) (sysB a) (gx (0 :: t)) := by
  have hp : ∀ j, 0 ≤ gx (0 :: t) j := fun j => by
    cases j with
    | zero => exact Int.le_refl _
    | succ j => exact (h.pos j).1
  refine ⟨hp, fun b hb => ?_⟩
  have hB := sysB_ok hA b hb
  unfold sysB at hb
  have lv : ∀ (d i : Nat), ∀ b ∈ lvlB i d, gx (0 :: t) (tB b) - b.Most ≤ gx (0 :: t) (fB b) := by
    intro d
    induction d with
    | zero => intro i b h; cases h
    | succ d ih =>
      intro i b h
      rcases List.mem_cons.1 h with e | e
      · subst e
        have := hp (fB ⟨(i : Int), -1, 0⟩)
        show (0 : Int) - 0 ≤ _
        omega
      · exact ih (i + 1) b e
  have sp : ∀ (d i : Nat), i + d = a.Steps.length → ∀ b ∈ stpB a i d, gx (0 :: t) (tB b) - b.Most ≤ gx (0 :: t) (fB b) := by
    intro d
    induction d with
    | zero => intro i _ b h; cases h
    | succ d ih =>
      intro i hi b hm
      have h1 := h.st i (by omega)
      rw [h.mn] at h1
      have e1 : gx (0 :: t) (i + 1) = t.getD i 0 := rfl
      have e2 : gx (0 :: t) (i + 1 + 1) = t.getD (i + 1) 0 := rfl
      rcases List.mem_cons.1 hm with e | e
      · subst e
        have u1 : tB ⟨(i : Int), (i : Int) + 1, (a.Steps.getD i default).Most⟩ = i + 1 + 1 := by unfold tB; dsimp only; omega
        have u2 : fB ⟨(i : Int), (i : Int) + 1, (a.Steps.getD i default).Most⟩ = i + 1 := by unfold fB; dsimp only; omega
        rw [u1, u2, e1, e2]
        dsimp only
        omega
      · rcases List.mem_cons.1 e with e | e
        · subst e
          have u1 : tB ⟨(i : Int) + 1, (i : Int), -leastM a i⟩ = i + 1 := by unfold tB; dsimp only; omega
          have u2 : fB ⟨(i : Int) + 1, (i : Int), -leastM a i⟩ = i + 1 + 1 := by unfold fB; dsimp only; omega
          rw [u1, u2, e1, e2]
          dsimp only
          omega
        · exact ih (i + 1) (by omega) b e
  have wn : ∀ l : List SCoolWindow, (∀ w ∈ l, w ∈ a.Windows) → ∀ b ∈ winB l, gx (0 :: t) (tB b) - b.Most ≤ gx (0 :: t) (fB b) := by
    intro l
    induction l with
    | nil => intro _ b h; cases h
    | cons w l ih =>
      intro hl b hm
      have hw := hA.wi w (hl w (by simp))
      have h1 := h.wi w (hl w (by simp))
      have e1 : gx (0 :: t) (w.Level.toNat + 1) = t.getD w.Level.toNat 0 := rfl
      have e0 : gx (0 :: t) 0 = 0 := rfl
      rcases List.mem_cons.1 hm with e | e
      · subst e
        have u1 : tB ⟨-1, w.Level, w.To⟩ = w.Level.toNat + 1 := by unfold tB; dsimp only; omega
        have u2 : fB ⟨-1, w.Level, w.To⟩ = 0 := rfl
        rw [u1, u2, e1, e0]
        dsimp only
        omega
      · rcases List.mem_cons.1 e with e | e
        · subst e
          have u1 : tB ⟨w.Level, -1, -w.From⟩ = 0 := rfl
          have u2 : fB ⟨w.Level, -1, -w.From⟩ = w.Level.toNat + 1 := by unfold fB; dsimp only; omega
          rw [u1, u2, e1, e0]
          dsimp only
          omega
        · exact ih (fun w h => hl w (by simp [h])) b e
  rcases List.mem_append.1 hb with hb | hb
  · rcases List.mem_append.1 hb with hb | hb
    · exact lv _ _ b hb
    · exact sp _ 0 (by omega) b hb
  · exact wn _ (fun w h => h) b hb
/-- the first step of the greatest stress. -/
def wst (a : SAnnealing) (t : List Int) : Nat → Nat → Nat → Nat
  | 0, _, best => best
  | d + 1, i, best => if w64 (work a best * mnW t i) < w64 (work a i * mnW t best) then wst a t d (i + 1) i else wst a t d (i + 1) best
theorem wst_lt (n : Nat) : ∀ (d i best : Nat), i + d = n → best < n → wst a t d i best < n
  | 0, i, best, h, hb => hb
  | d + 1, i, best, h, hb => by
    unfold wst
    split
    · exact wst_lt n d (i + 1) i (by omega) (by omega)
    · exact wst_lt n d (i + 1) best (by omega) hb
theorem minutes_b (k : Nat) (hn : a.Steps.length ≤ 30) (ht : t.length = a.Steps.length + 1) {i : Nat} (hi : i < a.Steps.length) : nblank_Worst_1 k (i : Int) t = some (mnW t i) := by
  unfold nblank_Worst_1
  rw [w64_succ (by omega), if_pos (by omega), if_pos (by omega), Int.toNat_natCast, Int.toNat_natCast]; rfl
theorem worst_lb (k : Nat) (hA : Ann a) (ht : t.length = a.Steps.length + 1) : ∀ (d fuel i best : Nat), a.Steps.length = i + d → d < fuel → best < a.Steps.length → nblank_Worst_l0_0 k a t fuel (best : Int) (i : Int) = some ((wst a t d i best : Nat) : Int) := by
  have hn := hA.ns
  intro d
  induction d with
  | zero =>
    intro fuel i best he hf hb
    obtain ⟨f, rfl⟩ : ∃ f, fuel = f + 1 := ⟨fuel - 1, by omega⟩
    rw [nblank_Worst_l0_0.eq_2, if_neg (by omega)]; rfl
  | succ d ih =>
    intro fuel i best he hf hb
    obtain ⟨f, rfl⟩ : ∃ f, fuel = f + 1 := ⟨fuel - 1, by omega⟩
    rw [nblank_Worst_l0_0.eq_2, if_pos (by omega), stress_b hA k (by omega), Option.bind_some, minutes_b k (by omega) ht hb, Option.bind_some, stress_b hA k (by omega), Option.bind_some, minutes_b k (by omega) ht (by omega), Option.bind_some, w64_succ (by omega)]
    unfold wst
    by_cases c : w64 (work a best * mnW t i) < w64 (work a i * mnW t best)
    · rw [if_pos c, if_pos c]; exact ih f (i + 1) i (by omega) (by omega) (by omega)
    · rw [if_neg c, if_neg c]; exact ih f (i + 1) best (by omega) (by omega) hb
/-- the first step is no worse than itself. -/
theorem worst_b {k : Nat} (hl : Lg a k) (ht : t.length ≤ 12) : nblank_Worst k a t = some (if annE a = 0 then (if (timesE a t).2 = 0 then (((wst a t a.Steps.length 0 0 : Nat) : Int), rnd (work a (wst a t a.Steps.length 0 0)) (mnW t (wst a t a.Steps.length 0 0)), 0) else (0, ⟨0, 0⟩, (timesE a t).2)) else (0, ⟨0, 0⟩, annE a)) := by
  have hk := hl.hk
  unfold nblank_Worst
  rw [times_b hl ht, Option.bind_some]
  by_cases c0 : annE a = 0
  · have hA := Ann.of c0
    have hn := hA.ns
    rw [if_pos c0, if_pos c0]
    by_cases c1 : (timesE a t).2 = 0
    · have hK := (kept_of c1).1
      have hlt := wst_lt (a := a) (t := t) a.Steps.length a.Steps.length 0 0 (by omega) (by omega)
      have hst := hK.st _ hlt
      have hbd := leastM_bd hA (i := ((wst a t a.Steps.length 0 0 : Nat) : Int)) (by omega)
      obtain ⟨_, _, f3, _⟩ := hA.wk (i := ((wst a t a.Steps.length 0 0 : Nat) : Int)) (by omega)
      rw [if_pos c1, if_pos c1, show nblank_Worst_l0_0 k a t k 0 0 = _ from worst_lb k hA hK.len a.Steps.length k 0 0 (by omega) (by omega) (by omega), Option.bind_some, stress_b hA k (by omega), Option.bind_some, minutes_b k (by omega) hK.len hlt, Option.bind_some, enclose_any k (by omega) (by omega)]; rfl
    · rw [if_neg c1, if_neg c1]
  · rw [if_neg c0, if_neg c0, if_neg c0]
end
end Go.Proofs.Ytejannnafdcgoaa.Vg
