/- Chapter 2, plain: focal lengths, and two mirrors. -/
import Derived.Test.YtgaopkhkabbcfaaOWb
import Derived.Test.YtgaopkhkabbcfaaV3
import Derived.Test.YtgaopkhkabbcfaaWF
set_option linter.unusedVariables false
set_option linter.unusedSimpArgs false
namespace Go.Proofs.Ytgaopkhkabbcfaa.Vg
open Go Go.Proofs.Ytgaopkhkabbcfaa.Ev Go.Proofs.Ytgaopkhkabbcfaa.Vv
theorem fcE_cons {f : SFrac} {l : List SFrac} (h : fcE (f :: l) = 0) : ckE f = 0 ∧ fcE l = 0 := by
  simp only [fcE] at h
  split at h
  · exact ⟨by assumption, h⟩
  · exact absurd h (by assumption)
theorem over_zero (k : Nat) (hk : 100000000000000000000 ≤ k) {a b : SFrac} (ha : Sm a) (hb : Sm b) (h : b.Num = 0) : n_optics_way_over k ⟨0⟩ a b = some (⟨0, 0⟩, ⟨11⟩) := by
  unfold n_optics_way_over n_optics_way_step_c1_number_Quo nnumber_Quo
  rw [if_pos rfl, ck_pair k hk ha hb, Option.bind_some, if_pos rfl, if_pos h]; rfl
def elE (x : SElement) : Int := if x.Kind = 1 ∨ x.Kind = 2 ∨ x.Kind = 3 then (if inR (-10000000) 10000000 x.Size = true ∧ (x.Kind = 1 → 0 ≤ x.Size) ∧ (x.Kind ≠ 1 → x.Size ≠ 0) then 0 else 2) else 15
theorem element_opt (k : Nat) (x : SElement) : noptics_checkElement k x = some (elE x) := by
  unfold noptics_checkElement elE
  rw [sized_any k _ (by decide) (by decide), Option.bind_some]
  by_cases h1 : x.Kind = 1
  · rw [if_pos h1, if_pos (show x.Kind = 1 ∨ x.Kind = 2 ∨ x.Kind = 3 from .inl h1)]
    by_cases h : inR (-10000000) 10000000 x.Size = true
    · rw [if_pos h]
      by_cases h2 : 0 ≤ x.Size
      · rw [if_pos h2, if_pos ⟨h, fun _ => h2, fun h => absurd h1 h⟩]
      · rw [if_neg h2, if_neg (fun hh => h2 (hh.2.1 h1))]
    · rw [if_neg h, if_neg (fun hh => h hh.1)]
  · rw [if_neg h1]
    have key : (if inR (-10000000) 10000000 x.Size = true then (if x.Size = 0 then (some 2) else (some 0)) else (some 2)) = some (if inR (-10000000) 10000000 x.Size = true ∧ (x.Kind = 1 → 0 ≤ x.Size) ∧ (x.Kind ≠ 1 → x.Size ≠ 0) then (0 : Int) else 2) := by
      by_cases h : inR (-10000000) 10000000 x.Size = true
      · rw [if_pos h]
        by_cases h2 : x.Size = 0
        · rw [if_pos h2, if_neg (fun hh => hh.2.2 h1 h2)]
        · rw [if_neg h2, if_pos ⟨h, fun h => absurd h h1, fun _ => h2⟩]
      · rw [if_neg h, if_neg (fun hh => h hh.1)]
    by_cases h2 : x.Kind = 2
    · rw [if_pos h2, if_pos (show x.Kind = 1 ∨ x.Kind = 2 ∨ x.Kind = 3 from .inr (.inl h2))]; exact key
    · rw [if_neg h2]
      by_cases h3 : x.Kind = 3
      · rw [if_pos h3, if_pos (show x.Kind = 1 ∨ x.Kind = 2 ∨ x.Kind = 3 from .inr (.inr h3))]; exact key
      · rw [if_neg h3, if_neg (show ¬ (x.Kind = 1 ∨ x.Kind = 2 ∨ x.Kind = 3) by omega)]
def elL : List SElement → Int
  | [] => 0
  | x :: l => if elE x = 0 then elL l else elE x
theorem elements_opt_l (k : Nat) (xs : List SElement) (hl : xs.length < 1000000000000) : ∀ (d fuel i : Nat), xs.length = i + d → d < fuel → noptics_CheckElements_l0_0 k xs fuel (i : Int) = some (sumE (elL (xs.drop i))) := by
  intro d
  induction d with
  | zero =>
    intro fuel i h hf
    obtain ⟨g, rfl⟩ : ∃ g, fuel = g + 1 := ⟨fuel - 1, by omega⟩
    rw [noptics_CheckElements_l0_0.eq_2, if_neg (by omega), List.drop_eq_nil_of_le (by omega)]; rfl
  | succ d ih =>
    intro fuel i h hf
    obtain ⟨g, rfl⟩ : ∃ g, fuel = g + 1 := ⟨fuel - 1, by omega⟩
    have hi : i < xs.length := by omega
    rw [noptics_CheckElements_l0_0.eq_2, if_pos (by omega), if_pos (by omega), w64_succ (by omega), ih g (i + 1) (by omega) (by omega), List.drop_eq_getElem_cons hi]
    simp only [Int.toNat_natCast]
    rw [show xs.getD i default = xs[i] by rw [List.getD_eq_getElem?_getD, List.getElem?_eq_getElem hi]; rfl, element_opt, Option.bind_some]
    unfold sumE
    by_cases c : elE xs[i] = 0
    · rw [if_pos c]; simp only [elL, if_pos c]
    · rw [if_neg c]; simp only [elL, if_neg c]
theorem elements_ref_l (k : Nat) (xs : List SElement) (hl : xs.length < 1000000000000) : ∀ (d fuel i : Nat), xs.length = i + d → d < fuel → nspeculumref02_CheckElements_l0_0 k xs fuel (i : Int) = some (sumE (elL (xs.drop i))) := by
  intro d
  induction d with
  | zero =>
    intro fuel i h hf
    obtain ⟨g, rfl⟩ : ∃ g, fuel = g + 1 := ⟨fuel - 1, by omega⟩
    rw [nspeculumref02_CheckElements_l0_0.eq_2, if_neg (by omega), List.drop_eq_nil_of_le (by omega)]; rfl
  | succ d ih =>
    intro fuel i h hf
    obtain ⟨g, rfl⟩ : ∃ g, fuel = g + 1 := ⟨fuel - 1, by omega⟩
    have hi : i < xs.length := by omega
    rw [nspeculumref02_CheckElements_l0_0.eq_2, if_pos (by omega), if_pos (by omega), w64_succ (by omega), ih g (i + 1) (by omega) (by omega), List.drop_eq_getElem_cons hi]
    rw [show xs[i] = xs.getD ((i : Int).toNat) default by rw [Int.toNat_natCast, List.getD_eq_getElem?_getD, List.getElem?_eq_getElem hi]; rfl, within_base, Option.bind_some, within_base, Option.bind_some]
    generalize xs.getD ((i : Int).toNat) default = x
    have e : sumE (elL (x :: xs.drop (i + 1))) = if elE x = 0 then sumE (elL (xs.drop (i + 1))) else .inl (elE x) := by
      unfold sumE
      by_cases c : elE x = 0
      · rw [if_pos c]; simp only [elL, if_pos c]
      · rw [if_neg c]; simp only [elL, if_neg c]
    rw [e]
    by_cases hk : inR 1 3 x.Kind = true
    · have hk' := inR_t.1 hk
      have k3 : x.Kind = 1 ∨ x.Kind = 2 ∨ x.Kind = 3 := by omega
      have good : (inR (-10000000) 10000000 x.Size = true ∧ (x.Kind = 1 → 0 ≤ x.Size) ∧ (x.Kind ≠ 1 → x.Size ≠ 0)) → elE x = 0 := fun hh => by unfold elE; rw [if_pos k3, if_pos hh]
      have bad : ¬ (inR (-10000000) 10000000 x.Size = true ∧ (x.Kind = 1 → 0 ≤ x.Size) ∧ (x.Kind ≠ 1 → x.Size ≠ 0)) → elE x = 2 := fun hh => by unfold elE; rw [if_pos k3, if_neg hh]
      rw [if_pos hk]
      by_cases h : inR (-10000000) 10000000 x.Size = true
      · rw [if_pos h]
        by_cases h1 : x.Kind = 1
        · rw [if_pos h1]
          by_cases h2 : x.Size < 0
          · rw [if_pos h2, bad (fun hh => by have := hh.2.1 h1; omega), if_neg (by decide)]
          · rw [if_neg h2, good ⟨h, fun _ => by omega, fun hh => absurd h1 hh⟩, if_pos rfl]
        · rw [if_neg h1]
          by_cases h2 : x.Size = 0
          · rw [if_pos h2, bad (fun hh => hh.2.2 h1 h2), if_neg (by decide)]
          · rw [if_neg h2, good ⟨h, fun hh => absurd hh h1, fun _ => h2⟩, if_pos rfl]
      · rw [if_neg h, bad (fun hh => h hh.1), if_neg (by decide)]
    · have hk' : ¬ (1 ≤ x.Kind ∧ x.Kind ≤ 3) := fun hh => hk (inR_t.2 hh)
      have ez : elE x = 15 := by unfold elE; rw [if_neg (show ¬ (x.Kind = 1 ∨ x.Kind = 2 ∨ x.Kind = 3) by omega)]
      rw [if_neg hk, ez, if_neg (by decide)]
def elsE (xs : List SElement) : Int := if 20 < (xs.length : Int) then 8 else elL xs
theorem elements_opt (k : Nat) (hk : 100000000000000000000 ≤ k) (xs : List SElement) : noptics_CheckElements k xs = some (elsE xs) := by
  unfold noptics_CheckElements elsE
  by_cases c : 20 < (xs.length : Int)
  · rw [if_pos c, if_pos c]
  · rw [if_neg c, if_neg c, show noptics_CheckElements_l0_0 k xs k 0 = _ from elements_opt_l k xs (by omega) xs.length k 0 (by omega) (by omega), Option.bind_some]
    unfold sumE
    rw [List.drop_zero]
    by_cases h : elL xs = 0
    · rw [if_pos h, h]
    · rw [if_neg h]
theorem elements_ref (k : Nat) (hk : 100000000000000000000 ≤ k) (xs : List SElement) : nspeculumref02_CheckElements k xs = some (elsE xs) := by
  unfold nspeculumref02_CheckElements elsE
  by_cases c : 20 < (xs.length : Int)
  · rw [if_pos c, if_pos c]
  · rw [if_neg c, if_neg c, show nspeculumref02_CheckElements_l0_0 k xs k 0 = _ from elements_ref_l k xs (by omega) xs.length k 0 (by omega) (by omega), Option.bind_some]
    unfold sumE
    rw [List.drop_zero]
    by_cases h : elL xs = 0
    · rw [if_pos h, h]
    · rw [if_neg h]
theorem elL_at : ∀ {xs : List SElement}, elL xs = 0 → ∀ i, i < xs.length → elE (xs.getD i default) = 0
  | x :: l, h, 0, _ => by
    simp only [elL] at h
    split at h
    · assumption
    · exact absurd h (by assumption)
  | x :: l, h, i + 1, hi => by
    simp only [elL] at h
    split at h
    · exact elL_at (xs := l) h i (by simpa using hi)
    · exact absurd h (by assumption)
/-- a right element. -/
theorem elE_zero {x : SElement} (h : elE x = 0) : (-10000000 ≤ x.Size ∧ x.Size ≤ 10000000) ∧ (x.Kind = 1 ∨ (x.Kind = 2 ∧ x.Size ≠ 0) ∨ (x.Kind = 3 ∧ x.Size ≠ 0)) := by
  unfold elE at h
  split at h
  · rename_i hk
    split at h
    · rename_i hh
      refine ⟨inR_t.1 hh.1, ?_⟩
      rcases hk with hk | hk | hk
      · exact .inl hk
      · exact .inr (.inl ⟨hk, hh.2.2 (by omega)⟩)
      · exact .inr (.inr ⟨hk, hh.2.2 (by omega)⟩)
    · cases h
  · cases h
structure SM (m : SMatrix) : Prop where
  a : Sm m.A
  b : Sm m.B
  c : Sm m.C
  d : Sm m.D
theorem sm_size {n : Int} (h : -10000000 ≤ n ∧ n ≤ 10000000) : Sm ⟨n, 1⟩ := sm_whole (by omega)
/-- what a matrix does, as numbers. -/
def det (m : SMatrix) : Rat := val m.A * val m.D - val m.B * val m.C
/-- a space behind a system. -/
theorem spaced_step (k : Nat) (hk : 100000000000000000000 ≤ k) {q : SWay} {m' m : SMatrix} {s' s : SFrac} (hm : q.Large = false → m' = m) (hs : q.Large = false → s' = s) (M : SM m) (S : Sm s) :
    ∃ v w1 q1 a q2 w2 q3 b q', n_optics_way_spaced k (fl q) m' s' = some (v, fl q') ∧ n_speculumref02_Way_Mul k q s m.C = some (w1, q1) ∧ n_speculumref02_Way_Add k q1 m.A w1 = some (a, q2) ∧ n_speculumref02_Way_Mul k q2 s m.D = some (w2, q3) ∧ n_speculumref02_Way_Add k q3 m.B w2 = some (b, q') ∧
      (q'.Large = false → q.Large = false) ∧ (q'.Large = false → v = ⟨a, b, m.C, m.D⟩) ∧ SM ⟨a, b, m.C, m.D⟩ ∧ (q'.Large = false → val a = val m.A + val s * val m.C ∧ val b = val m.B + val s * val m.D) := by
  obtain ⟨v1, w1, q1, e1, f1, S1⟩ := mul_step k hk hs (fun h => by rw [hm h]) S M.c (q := q) (b' := m'.C)
  obtain ⟨v2, a, q2, e2, f2, S2⟩ := add_step k hk (q := q1) (a' := m'.A) (fun h => by rw [hm (S1.keep h)]) S1.same M.a S1.sm
  obtain ⟨v3, w2, q3, e3, f3, S3⟩ := mul_step k hk (q := q2) (b' := m'.D) (fun h => hs (S1.keep (S2.keep h))) (fun h => by rw [hm (S1.keep (S2.keep h))]) S M.d
  obtain ⟨v4, b, q', e4, f4, S4⟩ := add_step k hk (q := q3) (a' := m'.B) (fun h => by rw [hm (S1.keep (S2.keep (S3.keep h)))]) S3.same M.b S3.sm
  refine ⟨⟨v2, v4, m'.C, m'.D⟩, w1, q1, a, q2, w2, q3, b, q', ?_, f1, f2, f3, f4, fun h => S1.keep (S2.keep (S3.keep (S4.keep h))), fun h => ?_, ⟨S2.sm, S4.sm, M.c, M.d⟩, fun h => ⟨?_, ?_⟩⟩
  · unfold n_optics_way_spaced
    rw [e1, Option.bind_some, e2, Option.bind_some, e3, Option.bind_some, e4, Option.bind_some]
  · have h3 := S4.keep h; have h2 := S3.keep h3; have h1 := S2.keep h2
    rw [S2.same h2, S4.same h, hm (S1.keep h1)]
  · have h3 := S4.keep h; have h2 := S3.keep h3; have h1 := S2.keep h2
    rw [val_add S2.sm.d0 M.a.d0 S1.sm.d0 (S2.val h2), val_mul S1.sm.d0 S.d0 M.c.d0 (S1.val h1)]
  · have h3 := S4.keep h
    rw [val_add S4.sm.d0 M.b.d0 S3.sm.d0 (S4.val h), val_mul S3.sm.d0 S.d0 M.d.d0 (S3.val h3)]
/-- a mirror or a lens behind a system. -/
theorem bent_step (k : Nat) (hk : 100000000000000000000 ≤ k) {q : SWay} {m' m : SMatrix} {s' s : SFrac} (hm : q.Large = false → m' = m) (hs : q.Large = false → s' = s) (M : SM m) (S : Sm s) :
    ∃ v w1 q1 a q2 w2 q3 b q', n_optics_way_bent k (fl q) m' s' = some (v, fl q') ∧ n_speculumref02_Way_Mul k q s m.A = some (w1, q1) ∧ n_speculumref02_Way_Sub k q1 m.C w1 = some (a, q2) ∧ n_speculumref02_Way_Mul k q2 s m.B = some (w2, q3) ∧ n_speculumref02_Way_Sub k q3 m.D w2 = some (b, q') ∧
      (q'.Large = false → q.Large = false) ∧ (q'.Large = false → v = ⟨m.A, m.B, a, b⟩) ∧ SM ⟨m.A, m.B, a, b⟩ ∧ (q'.Large = false → val a = val m.C - val s * val m.A ∧ val b = val m.D - val s * val m.B) := by
  obtain ⟨v1, w1, q1, e1, f1, S1⟩ := mul_step k hk hs (fun h => by rw [hm h]) S M.a (q := q) (b' := m'.A)
  obtain ⟨v2, a, q2, e2, f2, S2⟩ := sub_step k hk (q := q1) (a' := m'.C) (fun h => by rw [hm (S1.keep h)]) S1.same M.c S1.sm
  obtain ⟨v3, w2, q3, e3, f3, S3⟩ := mul_step k hk (q := q2) (b' := m'.B) (fun h => hs (S1.keep (S2.keep h))) (fun h => by rw [hm (S1.keep (S2.keep h))]) S M.b
  obtain ⟨v4, b, q', e4, f4, S4⟩ := sub_step k hk (q := q3) (a' := m'.D) (fun h => by rw [hm (S1.keep (S2.keep (S3.keep h)))]) S3.same M.d S3.sm
  refine ⟨⟨m'.A, m'.B, v2, v4⟩, w1, q1, a, q2, w2, q3, b, q', ?_, f1, f2, f3, f4, fun h => S1.keep (S2.keep (S3.keep (S4.keep h))), fun h => ?_, ⟨M.a, M.b, S2.sm, S4.sm⟩, fun h => ⟨?_, ?_⟩⟩
  · unfold n_optics_way_bent
    rw [e1, Option.bind_some, e2, Option.bind_some, e3, Option.bind_some, e4, Option.bind_some]
  · have h3 := S4.keep h; have h2 := S3.keep h3; have h1 := S2.keep h2
    rw [S2.same h2, S4.same h, hm (S1.keep h1)]
  · have h3 := S4.keep h; have h2 := S3.keep h3; have h1 := S2.keep h2
    rw [val_sub S2.sm.d0 M.c.d0 S1.sm.d0 (S2.val h2), val_mul S1.sm.d0 S.d0 M.a.d0 (S1.val h1)]
  · have h3 := S4.keep h
    rw [val_sub S4.sm.d0 M.d.d0 S3.sm.d0 (S4.val h), val_mul S3.sm.d0 S.d0 M.b.d0 (S3.val h3)]
/-- the tuple of a matrix with the error. -/
def tp (e : Int) (m : SMatrix) : Int × Int × Int × Int × Int × Int × Int × Int × Int := (e, m.A.Num, m.A.Den, m.B.Num, m.B.Den, m.C.Num, m.C.Den, m.D.Num, m.D.Den)
def tb (e : Bool) (m : SMatrix) : Bool × Int × Int × Int × Int × Int × Int × Int × Int := (e, m.A.Num, m.A.Den, m.B.Num, m.B.Den, m.C.Num, m.C.Den, m.D.Num, m.D.Den)
theorem matrix_l (k : Nat) (hk : 100000000000000000000 ≤ k) (xs : List SElement) (hx : elL xs = 0) (hl : xs.length < 1000000) : ∀ (d fuel i : Nat) (q : SWay) (m' m : SMatrix), xs.length = i + d → d < fuel → (q.Large = false → m' = m) → SM m → (q.Large = false → det m = 1) →
    ∃ q' v w, noptics_MatrixOf_l0_0 k xs fuel (fl q).failed m'.A.Num m'.A.Den m'.B.Num m'.B.Den m'.C.Num m'.C.Den m'.D.Num m'.D.Den (i : Int) = some (tp (fl q').failed v) ∧
      nspeculumref02_MatrixOf_l0_0 k xs fuel q.Large m.A.Num m.A.Den m.B.Num m.B.Den m.C.Num m.C.Den m.D.Num m.D.Den (i : Int) = some (tb q'.Large w) ∧ (q'.Large = false → v = w) ∧ SM w ∧ (q'.Large = false → det w = 1) := by
  intro d
  induction d with
  | zero =>
    intro fuel i q m' m h hf hm M D
    obtain ⟨g, rfl⟩ : ∃ g, fuel = g + 1 := ⟨fuel - 1, by omega⟩
    rw [noptics_MatrixOf_l0_0.eq_2, if_neg (by omega), nspeculumref02_MatrixOf_l0_0.eq_2, if_neg (by omega)]
    exact ⟨q, m', m, rfl, rfl, hm, M, D⟩
  | succ d ih =>
    intro fuel i q m' m h hf hm M D
    obtain ⟨g, rfl⟩ : ∃ g, fuel = g + 1 := ⟨fuel - 1, by omega⟩
    obtain ⟨hs, hk3⟩ := elE_zero (elL_at hx i (by omega))
    rw [noptics_MatrixOf_l0_0.eq_2, if_pos (show (i : Int) < xs.length by omega), if_pos (show (0 : Int) ≤ (i : Int) ∧ (i : Int) < xs.length by omega), nspeculumref02_MatrixOf_l0_0.eq_2, if_pos (show (i : Int) < xs.length by omega), if_pos (show (0 : Int) ≤ (i : Int) ∧ (i : Int) < xs.length by omega), w64_succ (by omega)]
    rw [show xs.getD i default = xs.getD ((i : Int).toNat) default by rw [Int.toNat_natCast]] at hs hk3
    generalize xs.getD ((i : Int).toNat) default = x at hs hk3 ⊢
    have eta : ∀ m : SMatrix, (⟨⟨m.A.Num, m.A.Den⟩, ⟨m.B.Num, m.B.Den⟩, ⟨m.C.Num, m.C.Den⟩, ⟨m.D.Num, m.D.Den⟩⟩ : SMatrix) = m := fun _ => rfl
    have bend : ∀ {p' p : SFrac} {q1 : SWay}, (q1.Large = false → q.Large = false) → (q1.Large = false → p' = p) → Sm p → ∃ v w1 q2 a q3 w2 q4 b q5, n_optics_way_bent k (fl q1) m' p' = some (v, fl q5) ∧ n_speculumref02_Way_Mul k q1 p m.A = some (w1, q2) ∧ n_speculumref02_Way_Sub k q2 m.C w1 = some (a, q3) ∧ n_speculumref02_Way_Mul k q3 p m.B = some (w2, q4) ∧ n_speculumref02_Way_Sub k q4 m.D w2 = some (b, q5) ∧
        ∃ q' v' w, noptics_MatrixOf_l0_0 k xs g (fl q5).failed v.A.Num v.A.Den v.B.Num v.B.Den v.C.Num v.C.Den v.D.Num v.D.Den ((i + 1 : Nat) : Int) = some (tp (fl q').failed v') ∧
      nspeculumref02_MatrixOf_l0_0 k xs g q5.Large m.A.Num m.A.Den m.B.Num m.B.Den a.Num a.Den b.Num b.Den ((i + 1 : Nat) : Int) = some (tb q'.Large w) ∧ (q'.Large = false → v' = w) ∧ SM w ∧ (q'.Large = false → det w = 1) := by
      intro p' p q1 hq hp P
      obtain ⟨v, w1, q2, a, q3, w2, q4, b, q5, e1, f1, f2, f3, f4, k1, k2, k3, k4⟩ := bent_step k hk (fun h => hm (hq h)) hp M P
      obtain ⟨q', v', w, r1, r2, r3, r4, r5⟩ := ih g (i + 1) q5 v ⟨m.A, m.B, a, b⟩ (by omega) (by omega) k2 k3 (fun h => by
        have d1 := D (hq (k1 h))
        obtain ⟨x1, x2⟩ := k4 h
        unfold det at d1 ⊢
        dsimp only
        rw [x1, x2]; grind)
      exact ⟨v, w1, q2, a, q3, w2, q4, b, q5, e1, f1, f2, f3, f4, q', v', w, r1, r2, r3, r4, r5⟩
    rcases hk3 with h1 | ⟨h2, h0⟩ | ⟨h3, h0⟩
    · obtain ⟨v, w1, q1, a, q2, w2, q3, b, q4, e1, f1, f2, f3, f4, k1, k2, k3, k4⟩ := spaced_step k hk (s' := ⟨x.Size, 1⟩) hm (fun _ => rfl) M (sm_size hs)
      obtain ⟨q', v', w, r1, r2, r3, r4, r5⟩ := ih g (i + 1) q4 v ⟨a, b, m.C, m.D⟩ (by omega) (by omega) k2 k3 (fun h => by
        have d1 := D (k1 h)
        obtain ⟨x1, x2⟩ := k4 h
        unfold det at d1 ⊢
        dsimp only
        rw [x1, x2]; grind)
      refine ⟨q', v', w, ?_, ?_, r3, r4, r5⟩
      · rw [if_pos h1]
        unfold noptics_whole
        rw [Option.bind_some, eta, show (⟨(fl q).failed⟩ : Sway) = fl q from rfl, e1, Option.bind_some]
        exact r1
      · rw [if_pos h1]
        unfold nspeculumref02_Whole
        rw [Option.bind_some, show (⟨q.Large⟩ : SWay) = q from rfl, show (⟨m.C.Num, m.C.Den⟩ : SFrac) = m.C from rfl, f1, Option.bind_some, show (⟨m.A.Num, m.A.Den⟩ : SFrac) = m.A from rfl, f2, Option.bind_some, show (⟨m.D.Num, m.D.Den⟩ : SFrac) = m.D from rfl, f3, Option.bind_some, show (⟨m.B.Num, m.B.Den⟩ : SFrac) = m.B from rfl, f4, Option.bind_some]
        exact r2
    · obtain ⟨u, u1, u2⟩ := quo_small k hk (q := q) (n := 1) (d := x.Size) (by decide) hs h0
      obtain ⟨p', p, qp, e0, f0, S0⟩ := quo_step k hk (q := q) (a' := ⟨2, 1⟩) (b' := ⟨x.Size, 1⟩) (a := ⟨2, 1⟩) (b := ⟨x.Size, 1⟩) (fun _ => rfl) (fun _ => rfl) (sm_whole (by decide)) (sm_size hs) (fun _ => h0)
      obtain ⟨v, w1, q2, a, q3, w2, q4, b, q5, e1, f1, f2, f3, f4, q', v', w, r1, r2, r3, r4, r5⟩ := bend S0.keep S0.same S0.sm
      refine ⟨q', v', w, ?_, ?_, r3, r4, r5⟩
      · rw [if_neg (by omega), if_pos h2]
        unfold noptics_whole
        rw [Option.bind_some, Option.bind_some, eta, show (⟨(fl q).failed⟩ : Sway) = fl q from rfl, e0, Option.bind_some, e1, Option.bind_some]
        exact r1
      · rw [if_neg (by omega)]
        unfold nspeculumref02_Whole
        rw [Option.bind_some, Option.bind_some, show (⟨q.Large⟩ : SWay) = q from rfl, u1, Option.bind_some, if_pos h2, Option.bind_some, f0, Option.bind_some, show (⟨m.A.Num, m.A.Den⟩ : SFrac) = m.A from rfl, f1, Option.bind_some, show (⟨m.C.Num, m.C.Den⟩ : SFrac) = m.C from rfl, f2, Option.bind_some, show (⟨m.B.Num, m.B.Den⟩ : SFrac) = m.B from rfl, f3, Option.bind_some, show (⟨m.D.Num, m.D.Den⟩ : SFrac) = m.D from rfl, f4, Option.bind_some]
        exact r2
    · obtain ⟨p', p, qp, e0, f0, S0⟩ := quo_step k hk (q := q) (a' := ⟨1, 1⟩) (b' := ⟨x.Size, 1⟩) (a := ⟨1, 1⟩) (b := ⟨x.Size, 1⟩) (fun _ => rfl) (fun _ => rfl) (sm_whole (by decide)) (sm_size hs) (fun _ => h0)
      obtain ⟨v, w1, q2, a, q3, w2, q4, b, q5, e1, f1, f2, f3, f4, q', v', w, r1, r2, r3, r4, r5⟩ := bend S0.keep S0.same S0.sm
      refine ⟨q', v', w, ?_, ?_, r3, r4, r5⟩
      · rw [if_neg (by omega), if_neg (by omega), if_pos h3]
        unfold noptics_whole
        rw [Option.bind_some, Option.bind_some, eta, show (⟨(fl q).failed⟩ : Sway) = fl q from rfl, e0, Option.bind_some, e1, Option.bind_some]
        exact r1
      · rw [if_neg (by omega)]
        unfold nspeculumref02_Whole
        rw [Option.bind_some, Option.bind_some, show (⟨q.Large⟩ : SWay) = q from rfl, f0, Option.bind_some, if_neg (by omega), show (⟨m.A.Num, m.A.Den⟩ : SFrac) = m.A from rfl, f1, Option.bind_some, show (⟨m.C.Num, m.C.Den⟩ : SFrac) = m.C from rfl, f2, Option.bind_some, show (⟨m.B.Num, m.B.Den⟩ : SFrac) = m.B from rfl, f3, Option.bind_some, show (⟨m.D.Num, m.D.Den⟩ : SFrac) = m.D from rfl, f4, Option.bind_some]
        exact r2
theorem matrix_sm (k : Nat) (hk : 100000000000000000000 ≤ k) {m : SMatrix} (h : SM m) : noptics_checkMatrix k m = some 0 := by
  unfold noptics_checkMatrix
  rw [checkFracs_any k hk _ (fun f hf => by
    simp only [List.mem_cons, List.not_mem_nil, or_false] at hf
    rcases hf with rfl | rfl | rfl | rfl
    · exact h.a.f
    · exact h.b.f
    · exact h.c.f
    · exact h.d.f) (by simp)]
  simp only [fcE, h.a.ck, h.b.ck, h.c.ck, h.d.ck, if_true, Option.bind_some]
theorem matrices_both (k : Nat) (hk : 100000000000000000000 ≤ k) (xs : List SElement) (hl : xs.length ≤ 20) (hx : elL xs = 0) :
    ∃ r, noptics_MatrixOf k xs = some r ∧ nspeculumref02_MatrixOf k xs = some r ∧ (r.2 = 0 → SM r.1 ∧ det r.1 = 1) := by
  obtain ⟨q, v, w, e1, e2, e3, e4, e5⟩ := matrix_l k hk xs hx (by omega) xs.length k 0 ⟨false⟩ ⟨⟨1, 1⟩, ⟨0, 1⟩, ⟨0, 1⟩, ⟨1, 1⟩⟩ ⟨⟨1, 1⟩, ⟨0, 1⟩, ⟨0, 1⟩, ⟨1, 1⟩⟩ (by omega) (by omega) (fun _ => rfl) ⟨sm_whole (by decide), sm_whole (by decide), sm_whole (by decide), sm_whole (by decide)⟩ (fun _ => by
    unfold det; rw [val_whole, val_whole]; grind)
  have e1' : noptics_MatrixOf_l0_0 k xs k 0 1 1 0 1 0 1 1 1 0 = some (tp (fl q).failed v) := e1
  have e2' : nspeculumref02_MatrixOf_l0_0 k xs k false 1 1 0 1 0 1 1 1 0 = some (tb q.Large w) := e2
  have he : noptics_CheckElements k xs = some 0 := by
    rw [elements_opt k hk]; unfold elsE; rw [if_neg (by omega), hx]
  unfold noptics_MatrixOf nspeculumref02_MatrixOf noptics_whole nspeculumref02_Whole noptics_beside_api_Matrix_
  rw [he, Option.bind_some, if_pos rfl, Option.bind_some, Option.bind_some, Option.bind_some, Option.bind_some, e1', e2', Option.bind_some, Option.bind_some]
  unfold tp tb
  dsimp only
  rw [first_one k hk, Option.bind_some, fl_failed]
  cases hq : q.Large with
  | true => exact ⟨_, rfl, rfl, fun h => absurd h (by decide)⟩
  | false => rw [e3 hq]; exact ⟨_, rfl, rfl, fun _ => ⟨e4, e5 hq⟩⟩
theorem checkFrac_ref (k : Nat) (hk : 100000000000000000000 ≤ k) {f : SFrac} (h : IF f) : nspeculumref02_CheckFrac k f = some (ckE f) := by
  have e := ckE_sm f
  unfold nspeculumref02_CheckFrac
  rw [isLowest_any k hk h, Option.bind_some, isSmall_any k hk h, Option.bind_some]
  cases hl : lowB f with
  | false => unfold ckE; rw [hl]; rfl
  | true =>
    rw [if_pos rfl]
    by_cases s : smB f = true
    · rw [if_pos s, e.2 s]
    · rw [if_neg s]
      have : ckE f ≠ 0 := fun h => s (e.1 h)
      unfold ckE at this ⊢
      rw [hl, if_pos rfl] at this ⊢
      split
      · rfl
      · split
        · rfl
        · rename_i h1 h2; rw [if_neg h1, if_neg h2] at this; exact absurd rfl this
structure IM (m : SMatrix) : Prop where
  a : IF m.A
  b : IF m.B
  c : IF m.C
  d : IF m.D
def maE (m : SMatrix) : Int := fcE [m.A, m.B, m.C, m.D]
theorem matrix_opt (k : Nat) (hk : 100000000000000000000 ≤ k) {m : SMatrix} (h : IM m) : noptics_checkMatrix k m = some (maE m) := by
  unfold noptics_checkMatrix maE
  rw [checkFracs_any k hk _ (fun f hf => by
    simp only [List.mem_cons, List.not_mem_nil, or_false] at hf
    rcases hf with rfl | rfl | rfl | rfl
    · exact h.a
    · exact h.b
    · exact h.c
    · exact h.d) (by simp), Option.bind_some]
theorem matrix_ref (k : Nat) (hk : 100000000000000000000 ≤ k) {m : SMatrix} (h : IM m) : nspeculumref02_CheckMatrix k m = some (maE m) := by
  have main : ∀ g, nspeculumref02_CheckMatrix_l0_0 k m (g + 5) 0 = some (if maE m = 0 then .inr () else .inl (maE m)) := by
    intro g
    unfold maE
    rw [nspeculumref02_CheckMatrix_l0_0.eq_2, if_pos (by decide), if_pos rfl, checkFrac_ref k hk h.a, Option.bind_some]
    by_cases c1 : ckE m.A = 0
    · rw [if_pos c1, show w64 (0 + 1) = 1 from by decide, nspeculumref02_CheckMatrix_l0_0.eq_2, if_pos (by decide), if_neg (by decide), if_pos rfl, checkFrac_ref k hk h.b, Option.bind_some]
      by_cases c2 : ckE m.B = 0
      · rw [if_pos c2, show w64 (1 + 1) = 2 from by decide, nspeculumref02_CheckMatrix_l0_0.eq_2, if_pos (by decide), if_neg (by decide), if_neg (by decide), if_pos rfl, checkFrac_ref k hk h.c, Option.bind_some]
        by_cases c3 : ckE m.C = 0
        · rw [if_pos c3, show w64 (2 + 1) = 3 from by decide, nspeculumref02_CheckMatrix_l0_0.eq_2, if_pos (by decide), if_neg (by decide), if_neg (by decide), if_neg (by decide), if_pos rfl, checkFrac_ref k hk h.d, Option.bind_some]
          by_cases c4 : ckE m.D = 0
          · rw [if_pos c4, show w64 (3 + 1) = 4 from by decide, nspeculumref02_CheckMatrix_l0_0.eq_2, if_neg (by decide)]
            simp only [fcE, c1, c2, c3, c4, if_true]
          · rw [if_neg c4]; simp only [fcE, c1, c2, c3, c4, if_true, if_false]
        · rw [if_neg c3]; simp only [fcE, c1, c2, c3, if_true, if_false]
      · rw [if_neg c2]; simp only [fcE, c1, c2, if_true, if_false]
    · rw [if_neg c1]; simp only [fcE, c1, if_false]
  obtain ⟨g, hg⟩ : ∃ g, k = g + 5 := ⟨k - 5, by omega⟩
  have := main g
  rw [← hg] at this
  unfold nspeculumref02_CheckMatrix
  rw [this, Option.bind_some]
  by_cases c : maE m = 0
  · rw [if_pos c, c]
  · rw [if_neg c]
theorem SM.of {m : SMatrix} (h : maE m = 0) : SM m := by
  obtain ⟨h1, h⟩ := fcE_cons h
  obtain ⟨h2, h⟩ := fcE_cons h
  obtain ⟨h3, h⟩ := fcE_cons h
  obtain ⟨h4, _⟩ := fcE_cons h
  exact ⟨Sm.of ((ckE_sm _).1 h1), Sm.of ((ckE_sm _).1 h2), Sm.of ((ckE_sm _).1 h3), Sm.of ((ckE_sm _).1 h4)⟩
theorem SM.im {m : SMatrix} (h : SM m) : IM m := ⟨h.a.f, h.b.f, h.c.f, h.d.f⟩
theorem SM.z {m : SMatrix} (h : SM m) : maE m = 0 := by
  unfold maE; simp only [fcE, h.a.ck, h.b.ck, h.c.ck, h.d.ck, if_true]
theorem neg_sm {f : SFrac} (h : Sm f) : Sm ⟨-f.Num, f.Den⟩ := ⟨h.d0, h.d1, by have := h.n1; show _ ≤ -f.Num; omega, by have := h.n0; show -f.Num ≤ _; omega, by have := h.g; unfold gcF at this ⊢; rw [Int.natAbs_neg]; exact this⟩
theorem by_both (k : Nat) (hk : 100000000000000000000 ≤ k) {m : SMatrix} {f : SFrac} (M : SM m) (F : Sm f) : ∃ r, noptics_overC k f m = some r ∧ nspeculumref02_by k f m = some r ∧ (r.2 = 0 → Sm r.1) := by
  have h1 := F.n0; have h2 := F.n1
  unfold noptics_overC nspeculumref02_by nspeculumref02_opposite nspeculumref02_fraction noptics_beside_api_Frac_
  rw [matrix_opt k hk M.im, Option.bind_some, M.z, if_pos rfl, Option.bind_some, w64_id (n := 0 - f.Num) (by omega) (by omega), show 0 - f.Num = -f.Num by omega]
  by_cases z : m.C.Num = 0
  · rw [if_pos z, over_zero k hk (neg_sm F) M.c z, Option.bind_some, first_one k hk]
    exact ⟨_, rfl, rfl, fun h => absurd h (by decide)⟩
  · obtain ⟨v, w, q, e1, f1, A⟩ := quo_step k hk (q := ⟨false⟩) (a' := ⟨-f.Num, f.Den⟩) (b' := m.C) (fun _ => rfl) (fun _ => rfl) (neg_sm F) M.c (fun _ => z)
    rw [if_neg z, show (⟨0⟩ : Sway) = fl ⟨false⟩ from rfl, e1, Option.bind_some, f1, Option.bind_some, first_one k hk, Option.bind_some, fl_failed]
    dsimp only
    cases hq : q.Large with
    | true => exact ⟨_, rfl, rfl, fun h => absurd h (by decide)⟩
    | false => rw [A.same hq]; exact ⟨_, rfl, rfl, fun _ => A.sm⟩
theorem focal_both (k : Nat) (hk : 100000000000000000000 ≤ k) {m : SMatrix} (M : SM m) : ∃ r, noptics_Focal k m = some r ∧ nspeculumref02_Focal k m = some r ∧ (r.2 = 0 → Sm r.1) := by
  obtain ⟨r, r1, r2, r3⟩ := by_both k hk M (f := ⟨1, 1⟩) (sm_whole (by decide))
  unfold noptics_Focal nspeculumref02_Focal noptics_whole nspeculumref02_Whole
  rw [Option.bind_some, Option.bind_some, r1, r2]
  exact ⟨_, rfl, rfl, r3⟩
theorem back_both (k : Nat) (hk : 100000000000000000000 ≤ k) {m : SMatrix} (M : SM m) : ∃ r, noptics_BackFocus k m = some r ∧ nspeculumref02_BackFocus k m = some r ∧ (r.2 = 0 → Sm r.1) := by
  obtain ⟨r, r1, r2, r3⟩ := by_both k hk M M.a
  unfold noptics_BackFocus nspeculumref02_BackFocus
  rw [r1, r2]
  exact ⟨_, rfl, rfl, r3⟩
theorem two_both (k : Nat) (hk : 100000000000000000000 ≤ k) (a b c : Int) : ∃ r, noptics_TwoMirrors k a b c = some r ∧ nspeculumref02_TwoMirrors k a b c = some r := by
  have hE : elsE [⟨2, a⟩, ⟨1, c⟩, ⟨2, b⟩] = elL [⟨2, a⟩, ⟨1, c⟩, ⟨2, b⟩] := rfl
  by_cases h : elL [⟨2, a⟩, ⟨1, c⟩, ⟨2, b⟩] = 0
  · obtain ⟨r, r1, r2, r3⟩ := matrices_both k hk [⟨2, a⟩, ⟨1, c⟩, ⟨2, b⟩] (by simp) h
    obtain ⟨a0, a1⟩ := elE_zero (show elE ⟨2, a⟩ = 0 from elL_at h 0 (by simp))
    obtain ⟨c0, c1⟩ := elE_zero (show elE ⟨1, c⟩ = 0 from elL_at h 1 (by simp))
    dsimp only at a0 a1 c0
    have az : a ≠ 0 := by rcases a1 with h | h | h <;> omega
    unfold noptics_TwoMirrors nspeculumref02_TwoMirrors
    rw [r1, Option.bind_some, elements_ref k hk, Option.bind_some, hE, if_pos h, r2, Option.bind_some]
    by_cases e : r.2 = 0
    · obtain ⟨M, _⟩ := r3 e
      obtain ⟨f, f1, f2, f3⟩ := focal_both k hk M
      obtain ⟨g, g1, g2, g3⟩ := back_both k hk M
      rw [if_pos e, if_pos e, f1, Option.bind_some, g1, Option.bind_some, first_two k hk, Option.bind_some, f2, Option.bind_some]
      by_cases e1 : f.2 = 0
      · rw [if_pos e1, if_pos e1, g2, Option.bind_some]
        by_cases e2 : g.2 = 0
        · rw [if_pos e2, if_pos e2]
          have sa : Sm ⟨a, 1⟩ := sm_whole (by omega)
          obtain ⟨v1, w1, q1, x1, y1, A1⟩ := quo_step k hk (q := ⟨false⟩) (a' := ⟨a, 1⟩) (b' := ⟨2, 1⟩) (fun _ => rfl) (fun _ => rfl) sa (sm_whole (by decide)) (fun _ => by show (2 : Int) ≠ 0; decide)
          obtain ⟨v2, w2, q2, x2, y2, A2⟩ := quo_step k hk (q := q1) (a' := f.1) (fun _ => rfl) A1.same (f3 e1) A1.sm (fun h z => by
            have := A1.val h
            rw [z] at this
            have d := A1.sm.d0
            dsimp only at this
            rw [Int.zero_mul, Int.mul_one] at this
            rcases Int.mul_eq_zero.1 this.symm with h | h <;> omega)
          obtain ⟨v3, w3, q3, x3, y3, A3⟩ := quo_step k hk (q := q2) (a' := ⟨2 * c, 1⟩) (b' := ⟨a, 1⟩) (fun _ => rfl) (fun _ => rfl) (sm_whole (by omega)) sa (fun _ => az)
          obtain ⟨v4, w4, q4, x4, y4, A4⟩ := sub_step k hk (q := q3) (a' := ⟨1, 1⟩) (fun _ => rfl) A3.same (sm_whole (by decide)) A3.sm
          unfold noptics_whole nspeculumref02_Whole noptics_beside_api_Pair_
          rw [w64_id (n := 2 * c) (by omega) (by omega), Option.bind_some, Option.bind_some, show (⟨0⟩ : Sway) = fl ⟨false⟩ from rfl, x1, Option.bind_some, x2, Option.bind_some, Option.bind_some, Option.bind_some, x3, Option.bind_some, x4, Option.bind_some, Option.bind_some, Option.bind_some, y1, Option.bind_some, y2, Option.bind_some, Option.bind_some, Option.bind_some, y3, Option.bind_some, y4, Option.bind_some]
          dsimp only
          rw [first_one k hk, Option.bind_some, fl_failed]
          cases hq : q4.Large with
          | true => exact ⟨_, rfl, rfl⟩
          | false => rw [A4.same hq, A2.same (A3.keep (A4.keep hq))]; exact ⟨_, rfl, rfl⟩
        · rw [if_neg e2, if_neg e2]; exact ⟨_, rfl, rfl⟩
      · rw [if_neg e1, if_neg e1, if_neg e1]; exact ⟨_, rfl, rfl⟩
    · rw [if_neg e, if_neg e]; exact ⟨_, rfl, rfl⟩
  · have hm : noptics_MatrixOf k [⟨2, a⟩, ⟨1, c⟩, ⟨2, b⟩] = some (⟨⟨0, 0⟩, ⟨0, 0⟩, ⟨0, 0⟩, ⟨0, 0⟩⟩, elL [⟨2, a⟩, ⟨1, c⟩, ⟨2, b⟩]) := by
      unfold noptics_MatrixOf
      rw [elements_opt k hk, Option.bind_some, hE, if_neg h]
    unfold noptics_TwoMirrors nspeculumref02_TwoMirrors
    rw [hm, Option.bind_some, elements_ref k hk, Option.bind_some, hE, if_neg h, if_neg h]
    exact ⟨_, rfl, rfl⟩
theorem law_foci (m : SMatrix) (t : A59) (hm : IM m) : nspeculumlaw02_OpticsFoci big m t = some true := by
  have hk : 100000000000000000000 ≤ big := by decide
  obtain ⟨p, p1, p2⟩ := two_both big hk t.e0 t.e1 t.e2
  unfold nspeculumlaw02_OpticsFoci
  rw [awake_big, Option.bind_some, if_pos rfl, matrix_ref _ hk hm]
  by_cases h : maE m = 0
  · obtain ⟨f, f1, f2, _⟩ := focal_both big hk (SM.of h)
    obtain ⟨g, g1, g2, _⟩ := back_both big hk (SM.of h)
    rw [f1, Option.bind_some, g1, Option.bind_some, Option.bind_some, if_pos h, f2, Option.bind_some, g2, Option.bind_some, if_pos rfl, if_pos (by simp), if_pos rfl, if_pos (by simp), p1, p2, Option.bind_some, Option.bind_some, if_pos rfl]
    simp
  · have o : ∀ f, noptics_overC big f m = some (⟨0, 0⟩, maE m) := fun f => by
      unfold noptics_overC
      rw [matrix_opt big hk hm, Option.bind_some, if_neg h]
    have h1 : noptics_Focal big m = some (⟨0, 0⟩, maE m) := by
      unfold noptics_Focal noptics_whole; rw [Option.bind_some, o]; rfl
    have h2 : noptics_BackFocus big m = some (⟨0, 0⟩, maE m) := by
      unfold noptics_BackFocus; rw [o]; rfl
    rw [h1, h2, Option.bind_some, Option.bind_some, Option.bind_some, if_neg h, if_pos rfl, if_pos rfl, if_pos (by simp), if_pos (by simp), p1, p2, Option.bind_some, Option.bind_some, if_pos rfl]
    simp
theorem vc_foci (m : SMatrix) (t : A59) (hm : ((Vv.In64 m.A.Num) ∧ (Vv.In64 m.A.Den)) ∧ ((Vv.In64 m.B.Num) ∧ (Vv.In64 m.B.Den)) ∧ ((Vv.In64 m.C.Num) ∧ (Vv.In64 m.C.Den)) ∧ ((Vv.In64 m.D.Num) ∧ (Vv.In64 m.D.Den))) : VC Go.Proofs.Try.prog 8 [VV.ag (c_SMatrix m), VV.ag (c_A59 t)] (vb true) := nspeculumlaw02_OpticsFoci_ok _ _ _ _ (law_foci m t ⟨⟨hm.1.1, hm.1.2⟩, ⟨hm.2.1.1, hm.2.1.2⟩, ⟨hm.2.2.1.1, hm.2.2.1.2⟩, ⟨hm.2.2.2.1, hm.2.2.2.2⟩⟩)
end Go.Proofs.Ytgaopkhkabbcfaa.Vg
