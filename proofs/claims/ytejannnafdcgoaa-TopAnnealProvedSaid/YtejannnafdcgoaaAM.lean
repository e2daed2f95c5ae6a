/- TopAnnealProved, plain. -/
import Derived.Test.YtejannnafdcgoaaAI
set_option linter.unusedVariables false
set_option linter.unusedSimpArgs false
namespace Go.Proofs.Ytejannnafdcgoaa.Vg
open Go Go.Proofs.Ytejannnafdcgoaa.Ev Go.Proofs.Ytejannnafdcgoaa.Vv
/-- sums of the most minutes. -/
def mostS (a : SAnnealing) : Nat → Int
  | 0 => 0
  | n + 1 => mostS a n + (a.Steps.getD n default).Most
theorem mostS_bd {a : SAnnealing} (hA : Ann a) : ∀ n, n ≤ a.Steps.length → 0 ≤ mostS a n ∧ mostS a n ≤ (n : Int) * 100000
  | 0, _ => ⟨Int.le_refl _, by show (0 : Int) ≤ ((0 : Nat) : Int) * 100000; omega⟩
  | n + 1, h => by
    have h1 := mostS_bd hA n (by omega)
    have h2 := hA.st _ (mem_getD (l := a.Steps) (i := n) (by omega))
    simp only [mostS]
    omega
theorem mostS_nn {a : SAnnealing} (hA : Ann a) : ∀ n, 0 ≤ mostS a n
  | 0 => Int.le_refl _
  | n + 1 => by
    have h1 := mostS_nn hA n
    have h2 : 0 ≤ (a.Steps.getD n default).Most := by
      by_cases c : n < a.Steps.length
      · have := hA.st _ (mem_getD (l := a.Steps) (i := n) c); omega
      · rw [List.getD_eq_getElem?_getD, List.getElem?_eq_none (by omega)]; exact Int.le_refl _
    simp only [mostS]
    omega
section
variable {a : SAnnealing} {x : List Int}
theorem lv_mem : ∀ (d i j : Nat), i ≤ j → j < i + d → (⟨(j : Int), -1, 0⟩ : SCoolBound) ∈ lvlB i d := by
  intro d
  induction d with
  | zero => intro i j h1 h2; omega
  | succ d ih =>
    intro i j h1 h2
    by_cases e : j = i
    · subst e; exact List.mem_cons_self
    · exact List.mem_cons_of_mem _ (ih (i + 1) j (by omega) (by omega))
theorem sys_lv (j : Nat) (hj : j ≤ a.Steps.length) : (⟨(j : Int), -1, 0⟩ : SCoolBound) ∈ sysB a := by
  unfold sysB
  exact List.mem_append_left _ (List.mem_append_left _ (lv_mem _ 0 j (Nat.zero_le _) (by omega)))
theorem st_mem : ∀ (d i j : Nat), i ≤ j → j < i + d → (⟨(j : Int), (j : Int) + 1, (a.Steps.getD j default).Most⟩ : SCoolBound) ∈ stpB a i d ∧ (⟨(j : Int) + 1, (j : Int), -leastM a j⟩ : SCoolBound) ∈ stpB a i d := by
  intro d
  induction d with
  | zero => intro i j h1 h2; omega
  | succ d ih =>
    intro i j h1 h2
    by_cases e : j = i
    · subst e; exact ⟨List.mem_cons_self, List.mem_cons_of_mem _ List.mem_cons_self⟩
    · obtain ⟨g1, g2⟩ := ih (i + 1) j (by omega) (by omega)
      exact ⟨List.mem_cons_of_mem _ (List.mem_cons_of_mem _ g1), List.mem_cons_of_mem _ (List.mem_cons_of_mem _ g2)⟩
theorem sys_st (j : Nat) (hj : j < a.Steps.length) : (⟨(j : Int), (j : Int) + 1, (a.Steps.getD j default).Most⟩ : SCoolBound) ∈ sysB a ∧ (⟨(j : Int) + 1, (j : Int), -leastM a j⟩ : SCoolBound) ∈ sysB a := by
  obtain ⟨g1, g2⟩ := st_mem (a := a) a.Steps.length 0 j (Nat.zero_le _) (by omega)
  unfold sysB
  exact ⟨List.mem_append_left _ (List.mem_append_right _ g1), List.mem_append_left _ (List.mem_append_right _ g2)⟩
theorem wi_mem : ∀ (l : List SCoolWindow), ∀ w ∈ l, (⟨-1, w.Level, w.To⟩ : SCoolBound) ∈ winB l ∧ (⟨w.Level, -1, -w.From⟩ : SCoolBound) ∈ winB l
  | [], w, h => by cases h
  | v :: l, w, h => by
    rcases List.mem_cons.1 h with e | e
    · subst e; exact ⟨List.mem_cons_self, List.mem_cons_of_mem _ List.mem_cons_self⟩
    · obtain ⟨g1, g2⟩ := wi_mem l w e
      exact ⟨List.mem_cons_of_mem _ (List.mem_cons_of_mem _ g1), List.mem_cons_of_mem _ (List.mem_cons_of_mem _ g2)⟩
theorem sys_wi (w : SCoolWindow) (hw : w ∈ a.Windows) : (⟨-1, w.Level, w.To⟩ : SCoolBound) ∈ sysB a ∧ (⟨w.Level, -1, -w.From⟩ : SCoolBound) ∈ sysB a := by
  obtain ⟨g1, g2⟩ := wi_mem a.Windows w hw
  unfold sysB
  exact ⟨List.mem_append_right _ g1, List.mem_append_right _ g2⟩
theorem ft1 (j : Nat) (m : Int) : fB ⟨(j : Int), (j : Int) + 1, m⟩ = j + 1 ∧ tB ⟨(j : Int), (j : Int) + 1, m⟩ = j + 1 + 1 := by unfold fB tB; dsimp only; omega
theorem ft2 (j : Nat) (m : Int) : fB ⟨(j : Int) + 1, (j : Int), m⟩ = j + 1 + 1 ∧ tB ⟨(j : Int) + 1, (j : Int), m⟩ = j + 1 := by unfold fB tB; dsimp only; omega
/-- the earliest times begin at 0 and end in time. -/
theorem least_x0 (hA : Ann a) (hx : x.length = a.Steps.length + 2) (fx : Feas (a.Steps.length + 2) (sysB a) (gx x)) (hle : ∀ d, Feas (a.Steps.length + 2) (sysB a) d → ∀ j, gx x j ≤ d j) : gx x 0 = 0 := by
  have hb := sysB_ok hA
  have h1 := hle (fun j => if j < a.Steps.length + 2 then gx x j - gx x 0 else 0) ⟨fun j => ?_, fun b hbm => ?_⟩ 0
  · have h1 : gx x 0 ≤ (if 0 < a.Steps.length + 2 then gx x 0 - gx x 0 else 0) := h1
    rw [if_pos (by omega)] at h1
    have := fx.pos 0
    omega
  · show 0 ≤ (if j < a.Steps.length + 2 then gx x j - gx x 0 else 0)
    split
    · cases j with
      | zero => omega
      | succ j =>
        have h := fx.kept _ (sys_lv j (by omega))
        have e1 : tB ⟨(j : Int), -1, 0⟩ = 0 := rfl
        have e2 : fB ⟨(j : Int), -1, 0⟩ = j + 1 := by unfold fB; dsimp only; omega
        rw [e1, e2] at h
        dsimp only at h
        omega
    · exact Int.le_refl _
  · have hB := hb b hbm
    have := fx.kept b hbm
    show (if tB b < a.Steps.length + 2 then gx x (tB b) - gx x 0 else 0) - b.Most ≤ (if fB b < a.Steps.length + 2 then gx x (fB b) - gx x 0 else 0)
    rw [if_pos hB.tN.1, if_pos hB.fN.1]
    omega
def capD (a : SAnnealing) (x : List Int) (j : Nat) : Int := match j with
  | 0 => 0
  | j + 1 => if gx x (j + 1) ≤ 1000000 + mostS a j then gx x (j + 1) else 1000000 + mostS a j
theorem capD_feas (hA : Ann a) (hx : x.length = a.Steps.length + 2) (fx : Feas (a.Steps.length + 2) (sysB a) (gx x)) (h0 : gx x 0 = 0) : Feas (a.Steps.length + 2) (sysB a) (capD a x) := by
  have hb := sysB_ok hA
  have hpos : ∀ j, 0 ≤ capD a x j := fun j => by
    cases j with
    | zero => exact Int.le_refl _
    | succ j =>
      have := fx.pos (j + 1)
      show 0 ≤ (if gx x (j + 1) ≤ 1000000 + mostS a j then gx x (j + 1) else 1000000 + mostS a j)
      split
      · exact this
      · have := mostS_nn hA j; omega
  have hle : ∀ j, capD a x j ≤ gx x j := fun j => by
    cases j with
    | zero => rw [h0]; exact Int.le_refl _
    | succ j =>
      show (if gx x (j + 1) ≤ 1000000 + mostS a j then gx x (j + 1) else 1000000 + mostS a j) ≤ _
      split <;> omega
  have hcap : ∀ j, capD a x (j + 1) ≤ 1000000 + mostS a j := fun j => by
    show (if gx x (j + 1) ≤ 1000000 + mostS a j then gx x (j + 1) else 1000000 + mostS a j) ≤ _
    split <;> omega
  have hor : ∀ j, capD a x (j + 1) = gx x (j + 1) ∨ capD a x (j + 1) = 1000000 + mostS a j := fun j => by
    show (if gx x (j + 1) ≤ 1000000 + mostS a j then gx x (j + 1) else 1000000 + mostS a j) = _ ∨ (if gx x (j + 1) ≤ 1000000 + mostS a j then gx x (j + 1) else 1000000 + mostS a j) = _
    split
    · exact .inl rfl
    · exact .inr rfl
  refine ⟨hpos, fun b hbm => ?_⟩
  have hB := hb b hbm
  have hk := fx.kept b hbm
  -- where the place raised is as in x
  have same : capD a x (fB b) = gx x (fB b) → capD a x (tB b) - b.Most ≤ capD a x (fB b) := fun e => by
    have := hle (tB b); omega
  have hbm' := hbm
  unfold sysB at hbm'
  have lv : ∀ (d i : Nat), ∀ b ∈ lvlB i d, b.To = -1 ∧ b.Most = 0 := by
    intro d
    induction d with
    | zero => intro i b h; cases h
    | succ d ih =>
      intro i b h
      rcases List.mem_cons.1 h with e | e
      · subst e; exact ⟨rfl, rfl⟩
      · exact ih (i + 1) b e
  have sp : ∀ (d i : Nat), i + d = a.Steps.length → ∀ b ∈ stpB a i d, ∃ j, j < a.Steps.length ∧ (b = ⟨(j : Int), (j : Int) + 1, (a.Steps.getD j default).Most⟩ ∨ b = ⟨(j : Int) + 1, (j : Int), -leastM a j⟩) := by
    intro d
    induction d with
    | zero => intro i _ b h; cases h
    | succ d ih =>
      intro i hi b h
      rcases List.mem_cons.1 h with e | e
      · exact ⟨i, by omega, .inl e⟩
      · rcases List.mem_cons.1 e with e | e
        · exact ⟨i, by omega, .inr e⟩
        · exact ih (i + 1) (by omega) b e
  have wn : ∀ l : List SCoolWindow, ∀ b ∈ winB l, ∃ w ∈ l, b = ⟨-1, w.Level, w.To⟩ ∨ b = ⟨w.Level, -1, -w.From⟩ := by
    intro l
    induction l with
    | nil => intro b h; cases h
    | cons w l ih =>
      intro b h
      rcases List.mem_cons.1 h with e | e
      · exact ⟨w, by simp, .inl e⟩
      · rcases List.mem_cons.1 e with e | e
        · exact ⟨w, by simp, .inr e⟩
        · obtain ⟨w', h1, h2⟩ := ih b e
          exact ⟨w', by simp [h1], h2⟩
  rcases List.mem_append.1 hbm' with h | h
  · rcases List.mem_append.1 h with h | h
    · obtain ⟨e1, e2⟩ := lv _ _ b h
      have ht : tB b = 0 := by unfold tB; rw [e1]; rfl
      have := hpos (fB b)
      rw [ht, e2]
      show (0 : Int) - 0 ≤ _
      omega
    · obtain ⟨j, hj, e | e⟩ := sp _ 0 (by omega) b h
      · subst e
        rcases hor j with c | c
        · exact same (by rw [(ft1 j _).1]; exact c)
        · have := hcap (j + 1)
          rw [(ft1 j _).1, (ft1 j _).2, c]
          simp only [mostS] at this
          dsimp only
          omega
      · subst e
        obtain ⟨k1, k2⟩ := sys_st (a := a) j hj
        have k1 := fx.kept _ k1
        rw [(ft1 j _).1, (ft1 j _).2] at k1
        rw [(ft2 j _).1, (ft2 j _).2] at hk
        dsimp only at k1 hk
        rcases hor (j + 1) with c | c
        · exact same (by rw [(ft2 j _).1]; exact c)
        · have := hcap j
          rw [(ft2 j _).1, (ft2 j _).2, c]
          simp only [mostS]
          omega
  · obtain ⟨w, hw, e | e⟩ := wn _ b h
    · subst e
      have e1 : fB ⟨-1, w.Level, w.To⟩ = 0 := rfl
      exact same (by rw [e1, h0]; rfl)
    · subst e
      have hwi := hA.wi w hw
      have e1 : fB ⟨w.Level, -1, -w.From⟩ = w.Level.toNat + 1 := by unfold fB; dsimp only; omega
      have e2 : tB ⟨w.Level, -1, -w.From⟩ = 0 := rfl
      rcases hor w.Level.toNat with c | c
      · exact same (by rw [e1]; exact c)
      · have := mostS_bd hA w.Level.toNat (by omega)
        rw [e1, e2, c]
        show (0 : Int) - -w.From ≤ _
        omega
theorem drop_gxM (x : List Int) (i : Nat) : (x.drop 1).getD i 0 = gx x (i + 1) := by
  unfold gx
  rw [List.getD_eq_getElem?_getD, List.getD_eq_getElem?_getD, List.getElem?_drop, Nat.add_comm]
/-- the earliest times are accepted. -/
theorem least_kept (hA : Ann a) (hx : x.length = a.Steps.length + 2) (fx : Feas (a.Steps.length + 2) (sysB a) (gx x)) (hle : ∀ d, Feas (a.Steps.length + 2) (sysB a) d → ∀ j, gx x j ≤ d j) : Kept a (x.drop 1) := by
  have hn := hA.ns
  have h0 := least_x0 hA hx fx hle
  have hc := hle _ (capD_feas hA hx fx h0)
  have hpos : ∀ j, 0 ≤ (x.drop 1).getD j 0 ∧ (x.drop 1).getD j 0 ≤ 10000000 := fun j => by
    rw [drop_gxM]
    refine ⟨fx.pos _, ?_⟩
    by_cases c : j ≤ a.Steps.length
    · have h1 := hc (j + 1)
      have h2 : capD a x (j + 1) ≤ 1000000 + mostS a j := by
        show (if gx x (j + 1) ≤ 1000000 + mostS a j then gx x (j + 1) else 1000000 + mostS a j) ≤ _
        split <;> omega
      have := mostS_bd hA j c
      omega
    · unfold gx
      rw [List.getD_eq_getElem?_getD, List.getElem?_eq_none (by omega)]
      decide
  have hmn : ∀ j, mnW (x.drop 1) j = (x.drop 1).getD (j + 1) 0 - (x.drop 1).getD j 0 := fun j => by
    have h1 := hpos j
    have h2 := hpos (j + 1)
    unfold mnW
    exact w64_id (by omega) (by omega)
  refine ⟨by simp [hx], hpos, fun j hj => ?_, fun w hw => ?_⟩
  · obtain ⟨k1, k2⟩ := sys_st (a := a) j hj
    have k1 := fx.kept _ k1
    have k2 := fx.kept _ k2
    rw [(ft1 j _).1, (ft1 j _).2] at k1
    rw [(ft2 j _).1, (ft2 j _).2] at k2
    dsimp only at k1 k2
    rw [hmn, drop_gxM, drop_gxM]
    omega
  · obtain ⟨k1, k2⟩ := sys_wi (a := a) w hw
    have hwi := hA.wi w hw
    have k1 := fx.kept _ k1
    have k2 := fx.kept _ k2
    have e1 : fB ⟨-1, w.Level, w.To⟩ = 0 := rfl
    have e2 : tB ⟨-1, w.Level, w.To⟩ = w.Level.toNat + 1 := by unfold tB; dsimp only; omega
    have e3 : fB ⟨w.Level, -1, -w.From⟩ = w.Level.toNat + 1 := by unfold fB; dsimp only; omega
    have e4 : tB ⟨w.Level, -1, -w.From⟩ = 0 := rfl
    rw [e1, e2, h0] at k1
    rw [e3, e4, h0] at k2
    dsimp only at k1 k2
    rw [drop_gxM]
    omega
end
theorem bad0_no : ∀ (l : List Int) (i : Nat), (∀ x ∈ l, 0 ≤ x ∧ x ≤ 10000000) → bad0 l i = none
  | [], _, _ => rfl
  | y :: l, i, h => by
    unfold bad0
    rw [if_pos (inR_t.2 (h y (by simp)))]
    exact bad0_no l _ (fun x hx => h x (by simp [hx]))
theorem bad1_no {a : SAnnealing} {t : List Int} : ∀ (d i : Nat), (∀ j, i ≤ j → j < i + d → leastM a j ≤ mnW t j ∧ mnW t j ≤ (a.Steps.getD j default).Most) → bad1 a t d i = none
  | 0, i, _ => rfl
  | d + 1, i, h => by
    have := h i (Nat.le_refl _) (by omega)
    unfold bad1
    rw [if_neg (by omega), if_neg (by omega)]
    exact bad1_no d (i + 1) (fun j h1 h2 => h j (by omega) (by omega))
theorem bad2_no {t : List Int} : ∀ (l : List SCoolWindow) (i : Nat), (∀ w ∈ l, w.From ≤ t.getD w.Level.toNat 0 ∧ t.getD w.Level.toNat 0 ≤ w.To) → bad2 t l i = none
  | [], _, _ => rfl
  | w :: l, i, h => by
    unfold bad2
    rw [if_pos (inR_t.2 (h w (by simp)))]
    exact bad2_no l _ (fun x hx => h x (by simp [hx]))
theorem kept_ok {a : SAnnealing} {t : List Int} (h : Kept a t) : timesE a t = (0, 0) := by
  unfold timesE
  rw [if_pos h.len, bad0_no t 0 (fun x hx => by
    obtain ⟨j, hj⟩ := List.mem_iff_getElem?.1 hx
    have := h.pos j
    rw [List.getD_eq_getElem?_getD, hj] at this
    exact this), bad1_no _ _ (fun j h1 h2 => h.st j (by omega)), bad2_no _ _ h.wi]
theorem circ_lt {l : List SCoolBound} {c : List Int} (h : (circE l c).2 = 0) : (circE l c).1 < 0 := by
  unfold circE at h ⊢
  split at h
  case isFalse => cases h
  rename_i e1
  split at h
  case isFalse => cases h
  rename_i e2
  rw [if_pos e1, if_pos e2]
  split at h
  · cases h
  rename_i s hs
  split at h
  · cases h
  rename_i hlt
  try rw [hs]
  try dsimp only
  try rw [if_neg hlt]
  omega
/-- no step is worse than the worst. -/
theorem wst_max {a : SAnnealing} {t : List Int} (hA : Ann a) (hK : Kept a t) : ∀ (d i best : Nat), i + d = a.Steps.length → best < a.Steps.length → (∀ j, j < i → work a j * mnW t best ≤ work a best * mnW t j) → ∀ j, j < a.Steps.length → work a j * mnW t (wst a t d i best) ≤ work a (wst a t d i best) * mnW t j
  | 0, i, best, h, hb, hm, j, hj => hm j (by omega)
  | d + 1, i, best, h, hb, hm, j, hj => by
    have bd : ∀ p q : Nat, p < a.Steps.length → q < a.Steps.length → 0 ≤ work a p * mnW t q ∧ work a p * mnW t q ≤ (1000 * 500 * 500 * 1000) * 100000 := fun p q hp hq => by
      have h1 := (hA.wk (i := (p : Int)) (by omega)).f3
      have h2 := hK.st q hq
      have h3 := leastM_bd hA (i := (q : Int)) (by omega)
      have h4 := hA.st _ (mem_getD (l := a.Steps) (i := q) hq)
      exact mul_bd h1 (by omega)
    have hp : ∀ p, p < a.Steps.length → 1 ≤ mnW t p := fun p hp => by
      have h2 := hK.st p hp
      have h3 := leastM_bd hA (i := (p : Int)) (by omega)
      omega
    have b1 := bd best i hb (by omega)
    have b2 := bd i best (by omega) hb
    unfold wst
    rw [w64_id (n := work a best * mnW t i) (by omega) (by omega), w64_id (n := work a i * mnW t best) (by omega) (by omega)]
    by_cases c : work a best * mnW t i < work a i * mnW t best
    · rw [if_pos c]
      refine wst_max hA hK d (i + 1) i (by omega) (by omega) (fun j hj => ?_) j hj
      by_cases e : j = i
      · subst e; exact Int.le_refl _
      · have h1 := hm j (by omega)
        have p1 := hp best hb
        have p2 := hp i (by omega)
        have p3 := hp j (by omega)
        -- work j / mn j <= work best / mn best < work i / mn i
        have e1 : work a j * mnW t best * mnW t i ≤ work a best * mnW t j * mnW t i := Int.mul_le_mul_of_nonneg_right h1 (by omega)
        have e2 : work a best * mnW t i * mnW t j ≤ work a i * mnW t best * mnW t j := Int.mul_le_mul_of_nonneg_right (by omega) (by omega)
        have e3 : (work a j * mnW t i) * mnW t best ≤ (work a i * mnW t j) * mnW t best := by
          have a1 : work a j * mnW t best * mnW t i = (work a j * mnW t i) * mnW t best := Int.mul_right_comm _ _ _
          have a2 : work a best * mnW t j * mnW t i = work a best * mnW t i * mnW t j := Int.mul_right_comm _ _ _
          have a3 : work a i * mnW t best * mnW t j = (work a i * mnW t j) * mnW t best := Int.mul_right_comm _ _ _
          omega
        exact Int.le_of_mul_le_mul_right e3 (by omega)
    · rw [if_neg c]
      refine wst_max hA hK d (i + 1) best (by omega) hb (fun j hj => ?_) j hj
      by_cases e : j = i
      · subst e; omega
      · exact hm j (by omega)
theorem stressOf_k {a : SAnnealing} {k : Nat} (hA : Ann a) (c0 : annE a = 0) (h : Lg a k) {i : Nat} (hi : i < a.Steps.length) {m : Int} (hm : 1 ≤ m ∧ m ≤ 10000000) : nblank_StressOf k a (i : Int) m = some (rnd (work a i) m, 0) := by
  have hs : stE a (i : Int) = 0 := by unfold stE; rw [if_pos c0, inR_t.2 (by omega)]; rfl
  obtain ⟨_, _, f3, _⟩ := hA.wk (i := (i : Int)) (by omega)
  unfold nblank_StressOf
  rw [step_any h, Option.bind_some, if_pos hs, isWithin_b, Option.bind_some, inR_t.2 hm, if_pos rfl, stress_b hA k (by omega), Option.bind_some, enclose_any k (by omega) (by omega)]; rfl
/-- the greatest of the first steps' stresses. -/
def topS (a : SAnnealing) (t : List Int) : Nat → Int
  | 0 => 0
  | n + 1 => maxI (topS a t n) (cdiv (work a n) (mnW t n))
theorem maxI_le {x y z : Int} (h1 : x ≤ z) (h2 : y ≤ z) : maxI x y ≤ z := by unfold maxI; split <;> omega
theorem le_maxI (x y : Int) : x ≤ maxI x y ∧ y ≤ maxI x y := by unfold maxI; split <;> omega
section
variable {a : SAnnealing} {t : List Int}
theorem Kept.st1 (hA : Ann a) (h : Kept a t) {i : Nat} (hi : i < a.Steps.length) : 1 ≤ mnW t i ∧ mnW t i ≤ 100000 ∧ cdiv (work a i) (mnW t i) ≤ (a.Steps.getD i default).Limit ∧ 0 ≤ cdiv (work a i) (mnW t i) := by
  have h1 := h.st i hi
  have h2 := leastM_bd hA (i := (i : Int)) (by omega)
  have h3 := hA.st _ (mem_getD (l := a.Steps) (i := i) hi)
  obtain ⟨_, _, f3, _⟩ := hA.wk (i := (i : Int)) (by omega)
  have h4 : cdiv (work a i) (a.Steps.getD (i : Int).toNat default).Limit ≤ leastM a i := by
    unfold leastM maxI; split <;> omega
  rw [Int.toNat_natCast] at h4
  refine ⟨by omega, by omega, ?_, ?_⟩
  · rw [cdiv_le (by omega)]
    have h5 := (cdiv_le (by omega)).1 h4
    have h6 : leastM a i * (a.Steps.getD i default).Limit ≤ mnW t i * (a.Steps.getD i default).Limit := Int.mul_le_mul_of_nonneg_right h1.1 (by omega)
    rw [Int.mul_comm (a.Steps.getD i default).Limit]
    omega
  · rcases Int.lt_or_le (cdiv (work a i) (mnW t i)) 0 with h | h
    · exfalso
      have h7 : cdiv (work a i) (mnW t i) ≤ -1 := by omega
      rw [cdiv_le (by omega)] at h7
      omega
    · exact h
theorem top_eq (hA : Ann a) (h : Kept a t) : topS a t a.Steps.length = cdiv (work a (wst a t a.Steps.length 0 0)) (mnW t (wst a t a.Steps.length 0 0)) := by
  have hn := hA.ns
  have hlt := wst_lt (a := a) (t := t) a.Steps.length a.Steps.length 0 0 (by omega) (by omega)
  have hm := wst_max hA h a.Steps.length 0 0 (by omega) (by omega) (fun j hj => by omega)
  generalize wst a t a.Steps.length 0 0 = b at hlt hm
  have hb := h.st1 hA hlt
  have hle : ∀ n, n ≤ a.Steps.length → topS a t n ≤ cdiv (work a b) (mnW t b) := by
    intro n
    induction n with
    | zero => intro _; exact hb.2.2.2
    | succ n ih =>
      intro hn
      refine maxI_le (ih (by omega)) ?_
      have h1 := h.st1 hA (i := n) (by omega)
      rw [cdiv_le (by omega)]
      have h2 := (cdiv_le (n := work a b) (c := cdiv (work a b) (mnW t b)) (show 0 < mnW t b by omega)).1 (Int.le_refl _)
      have h3 := hm n (by omega)
      have h4 : work a b * mnW t n ≤ cdiv (work a b) (mnW t b) * mnW t b * mnW t n := Int.mul_le_mul_of_nonneg_right h2 (by omega)
      have h5 : cdiv (work a b) (mnW t b) * mnW t b * mnW t n = cdiv (work a b) (mnW t b) * mnW t n * mnW t b := Int.mul_right_comm _ _ _
      exact Int.le_of_mul_le_mul_right (show work a n * mnW t b ≤ cdiv (work a b) (mnW t b) * mnW t n * mnW t b by omega) (by omega)
  have hge : ∀ n, b < n → n ≤ a.Steps.length → cdiv (work a b) (mnW t b) ≤ topS a t n := by
    intro n
    induction n with
    | zero => intro h; omega
    | succ n ih =>
      intro h1 h2
      have := le_maxI (topS a t n) (cdiv (work a n) (mnW t n))
      show _ ≤ maxI (topS a t n) (cdiv (work a n) (mnW t n))
      by_cases e : b = n
      · subst e; exact this.2
      · exact Int.le_trans (ih (by omega) (by omega)) this.1
  have h1 := hle _ (Nat.le_refl _)
  have h2 := hge _ hlt (Nat.le_refl _)
  omega
end
section
variable {a : SAnnealing} {x : List Int} {c : List Int} {e : Int} {r : Int × SRange × Int}
theorem loop_0 {k : Nat} (hA : Ann a) (c0 : annE a = 0) (hl : Lg a k) (h : Kept a x) : ∀ (d fuel i : Nat), a.Steps.length = i + d → d < fuel → nspeculumtop_TopAnnealProved_l0_0 k a (x, c, e) r fuel (topS a x i) (i : Int) = some (.inr (topS a x a.Steps.length)) := by
  have hn := hA.ns
  have hlen := h.len
  intro d
  induction d with
  | zero =>
    intro fuel i he hf
    obtain ⟨f, rfl⟩ : ∃ f, fuel = f + 1 := ⟨fuel - 1, by omega⟩
    rw [nspeculumtop_TopAnnealProved_l0_0.eq_2, if_neg (by omega), show a.Steps.length = i by omega]
  | succ d ih =>
    intro fuel i he hf
    obtain ⟨f, rfl⟩ : ∃ f, fuel = f + 1 := ⟨fuel - 1, by omega⟩
    have h1 := h.st1 hA (i := i) (by omega)
    rw [nspeculumtop_TopAnnealProved_l0_0.eq_2, if_pos (by omega), w64_succ (by omega)]
    dsimp only
    rw [if_pos (by omega), if_pos (by omega), Int.toNat_natCast, Int.toNat_natCast, show w64 (x.getD (i + 1) 0 - x.getD i 0) = mnW x i from rfl, stressOf_k hA c0 hl (by omega) (by omega), Option.bind_some]
    dsimp only
    rw [if_pos rfl, if_pos (by omega), if_neg (show ¬ (a.Steps.getD i default).Limit < (rnd (work a i) (mnW x i)).Hi from (by show ¬ _ < cdiv (work a i) (mnW x i); omega))]
    exact ih f (i + 1) (by omega) (by omega)
theorem loop_1 {k : Nat} (hA : Ann a) (c0 : annE a = 0) (hl : Lg a k) (h : Kept a x) : ∀ (d fuel i : Nat), a.Steps.length = i + d → d < fuel → nspeculumtop_TopAnnealProved_l0_1 k a (x, c, e) r fuel (topS a x i) (i : Int) = some (.inr (topS a x a.Steps.length)) := by
  have hn := hA.ns
  have hlen := h.len
  intro d
  induction d with
  | zero =>
    intro fuel i he hf
    obtain ⟨f, rfl⟩ : ∃ f, fuel = f + 1 := ⟨fuel - 1, by omega⟩
    rw [nspeculumtop_TopAnnealProved_l0_1.eq_2, if_neg (by omega), show a.Steps.length = i by omega]
  | succ d ih =>
    intro fuel i he hf
    obtain ⟨f, rfl⟩ : ∃ f, fuel = f + 1 := ⟨fuel - 1, by omega⟩
    have h1 := h.st1 hA (i := i) (by omega)
    rw [nspeculumtop_TopAnnealProved_l0_1.eq_2, if_pos (by omega), w64_succ (by omega)]
    dsimp only
    rw [if_pos (by omega), if_pos (by omega), Int.toNat_natCast, Int.toNat_natCast, show w64 (x.getD (i + 1) 0 - x.getD i 0) = mnW x i from rfl, stressOf_k hA c0 hl (by omega) (by omega), Option.bind_some]
    dsimp only
    rw [if_pos rfl, if_pos (by omega), if_neg (show ¬ (a.Steps.getD i default).Limit < (rnd (work a i) (mnW x i)).Hi from (by show ¬ _ < cdiv (work a i) (mnW x i); omega))]
    exact ih f (i + 1) (by omega) (by omega)
end
theorem no_circle {N : Nat} {l : List SCoolBound} (hb : ∀ b ∈ l, BOK N b) {c : List Int} (h : (circE l c).2 = 0) : ∀ d, ¬ Feas N l d := by
  have walk_sum : ∀ {d : Nat → Int}, Feas N l d → ∀ (c : List Int) (s at_ r : Int), (∀ n ∈ c, 0 ≤ n ∧ n < (l.length : Int)) → -1 ≤ at_ → walkC l c s at_ = some r → d ((c.getLast?.elim at_ (fun n => (l.getD n.toNat default).To) + 1).toNat) - d (at_ + 1).toNat ≤ r - s := by
    intro d hd c
    induction c with
    | nil =>
      intro s at_ r hn ha h
      injection h with h; subst h
      show d (at_ + 1).toNat - _ ≤ _
      omega
    | cons n c ih =>
      intro s at_ r hn ha h
      have h1 := hn n (by simp)
      have hm := mem_getD (l := l) (i := n.toNat) (by omega)
      have hB := hb _ hm
      have hk := hd.kept _ hm
      unfold walkC at h
      split at h
      case isFalse => cases h
      rename_i e
      have ih := ih _ _ r (fun m hm => hn m (by simp [hm])) hB.t.1 h
      have e1 : (List.getLast? (n :: c)).elim at_ (fun n => (l.getD n.toNat default).To) = c.getLast?.elim (l.getD n.toNat default).To (fun n => (l.getD n.toNat default).To) := by
        cases c with
        | nil => rfl
        | cons m c => rw [List.getLast?_cons_cons]; cases h : (m :: c).getLast? with
          | none => simp at h
          | some x => rfl
      rw [e1]
      unfold fB tB at hk
      rw [e] at hk
      omega
  intro d hd
  unfold circE at h
  split at h
  case isFalse => cases h
  rename_i e1
  have e1 := inR_t.1 e1
  split at h
  case isFalse => cases h
  rename_i e2
  split at h
  · cases h
  rename_i s hs
  split at h
  · cases h
  have hn : ∀ n ∈ c, 0 ≤ n ∧ n < (l.length : Int) := fun n hn => by
    have := inR_t.1 (List.all_eq_true.1 e2 n hn); omega
  have hg := inL_get e2 (i := c.length - 1) (by omega)
  have hB := hb _ (mem_getD (l := l) (i := (c.getD (c.length - 1) 0).toNat) (by omega))
  have := walk_sum hd c 0 (endC l c) s hn hB.t.1 hs
  have e3 : c.getLast?.elim (endC l c) (fun n => (l.getD n.toNat default).To) = endC l c := by
    unfold endC
    rw [List.getLast?_eq_getElem?]
    cases h : c[c.length - 1]? with
    | none => rfl
    | some x =>
      have e : c.getD (c.length - 1) 0 = x := by rw [List.getD_eq_getElem?_getD, h]; rfl
      rw [e]; rfl
  rw [e3] at this
  omega
theorem anneal (k : Nat) (hk : 1000 < k) (a : SAnnealing) (t c : List Int) : nspeculumtop_TopAnnealProved k a t c = some true := by
  unfold nspeculumtop_TopAnnealProved
  rw [show nawake k = some true from rfl, Option.bind_some, if_pos rfl, light_any, Option.bind_some]
  cases hL : lightB a with
  | false => rfl
  | true =>
  have hl := Lg.of hL hk
  rw [if_pos rfl]
  by_cases c1 : 12 < (t.length : Int)
  · rw [if_pos c1]
  rw [if_neg c1]
  by_cases c2 : 30 < (c.length : Int)
  · rw [if_pos c2]
  rw [if_neg c2, hl.r, Option.bind_some]
  by_cases c0 : annE a = 0
  · have hA := Ann.of c0
    have hn := hA.ns
    have hb := sysB_ok hA
    have h8 : a.Steps.length ≤ 8 := by
      unfold lightB at hL
      have := of_decide_eq_true hL
      omega
    rw [if_pos c0]
    have hfk : (timesE a t).2 = 0 → Feas (a.Steps.length + 2) (sysB a) (gx (0 :: t)) := fun h => kept_feas hA (kept_of h).1
    rcases earliest_c hA c0 hl with ⟨x, ex, hx, fx, hle⟩ | ⟨y, ec, hc1, hc2, hno⟩
    · have hK := least_kept hA hx fx hle
      have hlen := hK.len
      have hg : (circE (sysB a) c).2 ≠ 0 := fun h => no_circle hb h _ fx
      have e0 : ∀ r, nspeculumtop_TopAnnealProved_l0_0 k a (x.drop 1, [], 0) r k 0 0 = some (.inr (topS a (x.drop 1) a.Steps.length)) := fun r => loop_0 hA c0 hl hK a.Steps.length k 0 (by omega) (by omega)
      have e1 : ∀ r, nspeculumtop_TopAnnealProved_l0_1 k a (x.drop 1, [], 0) r k 0 0 = some (.inr (topS a (x.drop 1) a.Steps.length)) := fun r => loop_1 hA c0 hl hK a.Steps.length k 0 (by omega) (by omega)
      have ew : nblank_Worst k a (x.drop 1) = some (((wst a (x.drop 1) a.Steps.length 0 0 : Nat) : Int), rnd (work a (wst a (x.drop 1) a.Steps.length 0 0)) (mnW (x.drop 1) (wst a (x.drop 1) a.Steps.length 0 0)), 0) := by
        rw [worst_b hl (by omega), if_pos c0, if_pos (by rw [kept_ok hK])]
      have et : nblank_CheckTimes k a (x.drop 1) = some (0, 0) := by rw [times_b hl (by omega), if_pos c0, kept_ok hK]
      have hmax : (rnd (work a (wst a (x.drop 1) a.Steps.length 0 0)) (mnW (x.drop 1) (wst a (x.drop 1) a.Steps.length 0 0))).Hi = topS a (x.drop 1) a.Steps.length := (top_eq hA hK).symm
      rw [ex, Option.bind_some, times_b hl (by omega), Option.bind_some, circle_b hA c0 hl c (by omega), Option.bind_some, if_pos c0, w64_id (n := (a.Steps.length : Int) + 1) (by omega) (by omega)]
      have hl1 : ((x.drop 1).length : Int) = (a.Steps.length : Int) + 1 := by omega
      by_cases c3 : (timesE a t).2 = 0
      · rw [if_pos c3, if_neg hg]
        dsimp only
        rw [if_pos rfl, et, Option.bind_some]
        dsimp only
        rw [if_pos rfl, if_pos hl1, ew, Option.bind_some]
        dsimp only
        rw [if_pos rfl, e0, Option.bind_some]
        dsimp only
        rw [hmax]; simp
      · rw [if_neg c3]
        dsimp only
        rw [if_pos rfl, et, Option.bind_some]
        dsimp only
        rw [if_pos rfl, if_neg hg, if_pos hl1, ew, Option.bind_some]
        dsimp only
        rw [if_pos rfl, e1, Option.bind_some]
        dsimp only
        rw [hmax]; simp
    · have c3 : ¬ (timesE a t).2 = 0 := fun h => hno _ (hfk h)
      have hlt := circ_lt hc2
      rw [ec, Option.bind_some, times_b hl (by omega), Option.bind_some, circle_b hA c0 hl c (by omega), Option.bind_some, if_pos c0, if_neg c3]
      dsimp only
      rw [if_neg (by decide), circle_b hA c0 hl y (by omega), Option.bind_some, if_pos rfl, if_pos (show (([] : List Int).length : Int) = 0 from rfl), if_pos hc2]
      congr 1
      exact decide_eq_true hlt
  · rw [if_neg c0]
theorem vc_anneal (a : SAnnealing) (t c : List Int) : VC Try.prog 3 [VV.ag (c_SAnnealing a), VV.tr (List.map vi t) t.length, VV.tr (List.map vi c) c.length] (vb true) :=
  nspeculumtop_TopAnnealProved_ok 10000 a t c true (anneal 10000 (by decide) a t c)
end Go.Proofs.Ytejannnafdcgoaa.Vg
