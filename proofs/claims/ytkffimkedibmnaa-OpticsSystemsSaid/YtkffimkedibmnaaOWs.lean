/- Chapter 2, plain: matrices of elements. -/
import Derived.Test.YtkffimkedibmnaaOWb
import Derived.Test.YtkffimkedibmnaaWS
set_option linter.unusedVariables false
set_option linter.unusedSimpArgs false
namespace Go.Proofs.Ytkffimkedibmnaa.Vg
open Go Go.Proofs.Ytkffimkedibmnaa.Ev Go.Proofs.Ytkffimkedibmnaa.Vv
def elE (x : SElement) : Int := if x.Kind = 1 ∨ x.Kind = 2 ∨ x.Kind = 3 then (if inR (-10000000) 10000000 x.Size = true ∧ (x.Kind = 1 → 0 ≤ x.Size) ∧ (x.Kind ≠ 1 → x.Size ≠ 0) then 0 else 2) else 15
theorem element_opt (k : Nat) (x : SElement) : noptics_checkElement k x = some (elE x) := by
  unfold noptics_checkElement elE
  rw [sized_any k _ (by decide) (by decide), Option.bind_some]
  by_cases h1 : x.Kind = 1
  · rw [if_pos h1, if_pos (show x.Kind = 1 ∨ x.Kind = 2 ∨ x.Kind = 3 from .inl h1)]
    by_cases h : inR (-10000000) 10000000 x.Size = true
    · rw [if_pos h]
      by_cases h2 : 0 ≤ x.Size
      · rw [if_pos h2, if_pos ⟨h, fun _ => h2, fun h => absurd h1 h⟩]
      · rw [if_neg h2, if_neg (fun hh => h2 (hh.2.1 h1))]
    · rw [if_neg h, if_neg (fun hh => h hh.1)]
  · rw [if_neg h1]
    have key : (if inR (-10000000) 10000000 x.Size = true then (if x.Size = 0 then (some 2) else (some 0)) else (some 2)) = some (if inR (-10000000) 10000000 x.Size = true ∧ (x.Kind = 1 → 0 ≤ x.Size) ∧ (x.Kind ≠ 1 → x.Size ≠ 0) then (0 : Int) else 2) := by
      by_cases h : inR (-10000000) 10000000 x.Size = true
      · rw [if_pos h]
        by_cases h2 : x.Size = 0
        · rw [if_pos h2, if_neg (fun hh => hh.2.2 h1 h2)]
        · rw [if_neg h2, if_pos ⟨h, fun h => absurd h h1, fun _ => h2⟩]
      · rw [if_neg h, if_neg (fun hh => h hh.1)]
    by_cases h2 : x.Kind = 2
    · rw [if_pos h2, if_pos (show x.Kind = 1 ∨ x.Kind = 2 ∨ x.Kind = 3 from .inr (.inl h2))]; exact key
    · rw [if_neg h2]
      by_cases h3 : x.Kind = 3
      · rw [if_pos h3, if_pos (show x.Kind = 1 ∨ x.Kind = 2 ∨ x.Kind = 3 from .inr (.inr h3))]; exact key
      · rw [if_neg h3, if_neg (show ¬ (x.Kind = 1 ∨ x.Kind = 2 ∨ x.Kind = 3) by omega)]
def elL : List SElement → Int
  | [] => 0
  | x :: l => if elE x = 0 then elL l else elE x
theorem elements_opt_l (k : Nat) (xs : List SElement) (hl : xs.length < 1000000000000) : ∀ (d fuel i : Nat), xs.length = i + d → d < fuel → noptics_CheckElements_l0_0 k xs fuel (i : Int) = some (sumE (elL (xs.drop i))) := by
  intro d
  induction d with
  | zero =>
    intro fuel i h hf
    obtain ⟨g, rfl⟩ : ∃ g, fuel = g + 1 := ⟨fuel - 1, by omega⟩
    rw [noptics_CheckElements_l0_0.eq_2, if_neg (by omega), List.drop_eq_nil_of_le (by omega)]; rfl
  | succ d ih =>
    intro fuel i h hf
    obtain ⟨g, rfl⟩ : ∃ g, fuel = g + 1 := ⟨fuel - 1, by omega⟩
    have hi : i < xs.length := by omega
    rw [noptics_CheckElements_l0_0.eq_2, if_pos (by omega), if_pos (by omega), w64_succ (by omega), ih g (i + 1) (by omega) (by omega), List.drop_eq_getElem_cons hi]
    simp only [Int.toNat_natCast]
    rw [show xs.getD i default = xs[i] by rw [List.getD_eq_getElem?_getD, List.getElem?_eq_getElem hi]; rfl, element_opt, Option.bind_some]
    unfold sumE
    by_cases c : elE xs[i] = 0
    · rw [if_pos c]; simp only [elL, if_pos c]
    · rw [if_neg c]; simp only [elL, if_neg c]
theorem elements_ref_l (k : Nat) (xs : List SElement) (hl : xs.length < 1000000000000) : ∀ (d fuel i : Nat), xs.length = i + d → d < fuel → nspeculumref02_CheckElements_l0_0 k xs fuel (i : Int) = some (sumE (elL (xs.drop i))) := by
  intro d
  induction d with
  | zero =>
    intro fuel i h hf
    obtain ⟨g, rfl⟩ : ∃ g, fuel = g + 1 := ⟨fuel - 1, by omega⟩
    rw [nspeculumref02_CheckElements_l0_0.eq_2, if_neg (by omega), List.drop_eq_nil_of_le (by omega)]; rfl
  | succ d ih =>
    intro fuel i h hf
    obtain ⟨g, rfl⟩ : ∃ g, fuel = g + 1 := ⟨fuel - 1, by omega⟩
    have hi : i < xs.length := by omega
    rw [nspeculumref02_CheckElements_l0_0.eq_2, if_pos (by omega), if_pos (by omega), w64_succ (by omega), ih g (i + 1) (by omega) (by omega), List.drop_eq_getElem_cons hi]
    rw [show xs[i] = xs.getD ((i : Int).toNat) default by rw [Int.toNat_natCast, List.getD_eq_getElem?_getD, List.getElem?_eq_getElem hi]; rfl, within_base, Option.bind_some, within_base, Option.bind_some]
    generalize xs.getD ((i : Int).toNat) default = x
    have e : sumE (elL (x :: xs.drop (i + 1))) = if elE x = 0 then sumE (elL (xs.drop (i + 1))) else .inl (elE x) := by
      unfold sumE
      by_cases c : elE x = 0
      · rw [if_pos c]; simp only [elL, if_pos c]
      · rw [if_neg c]; simp only [elL, if_neg c]
    rw [e]
    by_cases hk : inR 1 3 x.Kind = true
    · have hk' := inR_t.1 hk
      have k3 : x.Kind = 1 ∨ x.Kind = 2 ∨ x.Kind = 3 := by omega
      have good : (inR (-10000000) 10000000 x.Size = true ∧ (x.Kind = 1 → 0 ≤ x.Size) ∧ (x.Kind ≠ 1 → x.Size ≠ 0)) → elE x = 0 := fun hh => by unfold elE; rw [if_pos k3, if_pos hh]
      have bad : ¬ (inR (-10000000) 10000000 x.Size = true ∧ (x.Kind = 1 → 0 ≤ x.Size) ∧ (x.Kind ≠ 1 → x.Size ≠ 0)) → elE x = 2 := fun hh => by unfold elE; rw [if_pos k3, if_neg hh]
      rw [if_pos hk]
      by_cases h : inR (-10000000) 10000000 x.Size = true
      · rw [if_pos h]
        by_cases h1 : x.Kind = 1
        · rw [if_pos h1]
          by_cases h2 : x.Size < 0
          · rw [if_pos h2, bad (fun hh => by have := hh.2.1 h1; omega), if_neg (by decide)]
          · rw [if_neg h2, good ⟨h, fun _ => by omega, fun hh => absurd h1 hh⟩, if_pos rfl]
        · rw [if_neg h1]
          by_cases h2 : x.Size = 0
          · rw [if_pos h2, bad (fun hh => hh.2.2 h1 h2), if_neg (by decide)]
          · rw [if_neg h2, good ⟨h, fun hh => absurd hh h1, fun _ => h2⟩, if_pos rfl]
      · rw [if_neg h, bad (fun hh => h hh.1), if_neg (by decide)]
    · have hk' : ¬ (1 ≤ x.Kind ∧ x.Kind ≤ 3) := fun hh => hk (inR_t.2 hh)
      have ez : elE x = 15 := by unfold elE; rw [if_neg (show ¬ (x.Kind = 1 ∨ x.Kind = 2 ∨ x.Kind = 3) by omega)]
      rw [if_neg hk, ez, if_neg (by decide)]
def elsE (xs : List SElement) : Int := if 20 < (xs.length : Int) then 8 else elL xs
theorem elements_opt (k : Nat) (hk : 100000000000000000000 ≤ k) (xs : List SElement) : noptics_CheckElements k xs = some (elsE xs) := by
  unfold noptics_CheckElements elsE
  by_cases c : 20 < (xs.length : Int)
  · rw [if_pos c, if_pos c]
  · rw [if_neg c, if_neg c, show noptics_CheckElements_l0_0 k xs k 0 = _ from elements_opt_l k xs (by omega) xs.length k 0 (by omega) (by omega), Option.bind_some]
    unfold sumE
    rw [List.drop_zero]
    by_cases h : elL xs = 0
    · rw [if_pos h, h]
    · rw [if_neg h]
theorem elements_ref (k : Nat) (hk : 100000000000000000000 ≤ k) (xs : List SElement) : nspeculumref02_CheckElements k xs = some (elsE xs) := by
  unfold nspeculumref02_CheckElements elsE
  by_cases c : 20 < (xs.length : Int)
  · rw [if_pos c, if_pos c]
  · rw [if_neg c, if_neg c, show nspeculumref02_CheckElements_l0_0 k xs k 0 = _ from elements_ref_l k xs (by omega) xs.length k 0 (by omega) (by omega), Option.bind_some]
    unfold sumE
    rw [List.drop_zero]
    by_cases h : elL xs = 0
    · rw [if_pos h, h]
    · rw [if_neg h]
theorem elL_at : ∀ {xs : List SElement}, elL xs = 0 → ∀ i, i < xs.length → elE (xs.getD i default) = 0
  | x :: l, h, 0, _ => by
    simp only [elL] at h
    split at h
    · assumption
    · exact absurd h (by assumption)
  | x :: l, h, i + 1, hi => by
    simp only [elL] at h
    split at h
    · exact elL_at (xs := l) h i (by simpa using hi)
    · exact absurd h (by assumption)
/-- a right element. -/
theorem elE_zero {x : SElement} (h : elE x = 0) : (-10000000 ≤ x.Size ∧ x.Size ≤ 10000000) ∧ (x.Kind = 1 ∨ (x.Kind = 2 ∧ x.Size ≠ 0) ∨ (x.Kind = 3 ∧ x.Size ≠ 0)) := by
  unfold elE at h
  split at h
  · rename_i hk
    split at h
    · rename_i hh
      refine ⟨inR_t.1 hh.1, ?_⟩
      rcases hk with hk | hk | hk
      · exact .inl hk
      · exact .inr (.inl ⟨hk, hh.2.2 (by omega)⟩)
      · exact .inr (.inr ⟨hk, hh.2.2 (by omega)⟩)
    · cases h
  · cases h
structure SM (m : SMatrix) : Prop where
  a : Sm m.A
  b : Sm m.B
  c : Sm m.C
  d : Sm m.D
theorem sm_size {n : Int} (h : -10000000 ≤ n ∧ n ≤ 10000000) : Sm ⟨n, 1⟩ := sm_whole (by omega)
/-- what a matrix does, as numbers. -/
def det (m : SMatrix) : Rat := val m.A * val m.D - val m.B * val m.C
/-- a space behind a system. -/
theorem spaced_step (k : Nat) (hk : 100000000000000000000 ≤ k) {q : SWay} {m' m : SMatrix} {s' s : SFrac} (hm : q.Large = false → m' = m) (hs : q.Large = false → s' = s) (M : SM m) (S : Sm s) :
    ∃ v w1 q1 a q2 w2 q3 b q', n_optics_way_spaced k (fl q) m' s' = some (v, fl q') ∧ n_speculumref02_Way_Mul k q s m.C = some (w1, q1) ∧ n_speculumref02_Way_Add k q1 m.A w1 = some (a, q2) ∧ n_speculumref02_Way_Mul k q2 s m.D = some (w2, q3) ∧ n_speculumref02_Way_Add k q3 m.B w2 = some (b, q') ∧
      (q'.Large = false → q.Large = false) ∧ (q'.Large = false → v = ⟨a, b, m.C, m.D⟩) ∧ SM ⟨a, b, m.C, m.D⟩ ∧ (q'.Large = false → val a = val m.A + val s * val m.C ∧ val b = val m.B + val s * val m.D) := by
  obtain ⟨v1, w1, q1, e1, f1, S1⟩ := mul_step k hk hs (fun h => by rw [hm h]) S M.c (q := q) (b' := m'.C)
  obtain ⟨v2, a, q2, e2, f2, S2⟩ := add_step k hk (q := q1) (a' := m'.A) (fun h => by rw [hm (S1.keep h)]) S1.same M.a S1.sm
  obtain ⟨v3, w2, q3, e3, f3, S3⟩ := mul_step k hk (q := q2) (b' := m'.D) (fun h => hs (S1.keep (S2.keep h))) (fun h => by rw [hm (S1.keep (S2.keep h))]) S M.d
  obtain ⟨v4, b, q', e4, f4, S4⟩ := add_step k hk (q := q3) (a' := m'.B) (fun h => by rw [hm (S1.keep (S2.keep (S3.keep h)))]) S3.same M.b S3.sm
  refine ⟨⟨v2, v4, m'.C, m'.D⟩, w1, q1, a, q2, w2, q3, b, q', ?_, f1, f2, f3, f4, fun h => S1.keep (S2.keep (S3.keep (S4.keep h))), fun h => ?_, ⟨S2.sm, S4.sm, M.c, M.d⟩, fun h => ⟨?_, ?_⟩⟩
  · unfold n_optics_way_spaced
    rw [e1, Option.bind_some, e2, Option.bind_some, e3, Option.bind_some, e4, Option.bind_some]
  · have h3 := S4.keep h; have h2 := S3.keep h3; have h1 := S2.keep h2
    rw [S2.same h2, S4.same h, hm (S1.keep h1)]
  · have h3 := S4.keep h; have h2 := S3.keep h3; have h1 := S2.keep h2
    rw [val_add S2.sm.d0 M.a.d0 S1.sm.d0 (S2.val h2), val_mul S1.sm.d0 S.d0 M.c.d0 (S1.val h1)]
  · have h3 := S4.keep h
    rw [val_add S4.sm.d0 M.b.d0 S3.sm.d0 (S4.val h), val_mul S3.sm.d0 S.d0 M.d.d0 (S3.val h3)]
/-- a mirror or a lens behind a system. -/
theorem bent_step (k : Nat) (hk : 100000000000000000000 ≤ k) {q : SWay} {m' m : SMatrix} {s' s : SFrac} (hm : q.Large = false → m' = m) (hs : q.Large = false → s' = s) (M : SM m) (S : Sm s) :
    ∃ v w1 q1 a q2 w2 q3 b q', n_optics_way_bent k (fl q) m' s' = some (v, fl q') ∧ n_speculumref02_Way_Mul k q s m.A = some (w1, q1) ∧ n_speculumref02_Way_Sub k q1 m.C w1 = some (a, q2) ∧ n_speculumref02_Way_Mul k q2 s m.B = some (w2, q3) ∧ n_speculumref02_Way_Sub k q3 m.D w2 = some (b, q') ∧
      (q'.Large = false → q.Large = false) ∧ (q'.Large = false → v = ⟨m.A, m.B, a, b⟩) ∧ SM ⟨m.A, m.B, a, b⟩ ∧ (q'.Large = false → val a = val m.C - val s * val m.A ∧ val b = val m.D - val s * val m.B) := by
  obtain ⟨v1, w1, q1, e1, f1, S1⟩ := mul_step k hk hs (fun h => by rw [hm h]) S M.a (q := q) (b' := m'.A)
  obtain ⟨v2, a, q2, e2, f2, S2⟩ := sub_step k hk (q := q1) (a' := m'.C) (fun h => by rw [hm (S1.keep h)]) S1.same M.c S1.sm
  obtain ⟨v3, w2, q3, e3, f3, S3⟩ := mul_step k hk (q := q2) (b' := m'.B) (fun h => hs (S1.keep (S2.keep h))) (fun h => by rw [hm (S1.keep (S2.keep h))]) S M.b
  obtain ⟨v4, b, q', e4, f4, S4⟩ := sub_step k hk (q := q3) (a' := m'.D) (fun h => by rw [hm (S1.keep (S2.keep (S3.keep h)))]) S3.same M.d S3.sm
  refine ⟨⟨m'.A, m'.B, v2, v4⟩, w1, q1, a, q2, w2, q3, b, q', ?_, f1, f2, f3, f4, fun h => S1.keep (S2.keep (S3.keep (S4.keep h))), fun h => ?_, ⟨M.a, M.b, S2.sm, S4.sm⟩, fun h => ⟨?_, ?_⟩⟩
  · unfold n_optics_way_bent
    rw [e1, Option.bind_some, e2, Option.bind_some, e3, Option.bind_some, e4, Option.bind_some]
  · have h3 := S4.keep h; have h2 := S3.keep h3; have h1 := S2.keep h2
    rw [S2.same h2, S4.same h, hm (S1.keep h1)]
  · have h3 := S4.keep h; have h2 := S3.keep h3; have h1 := S2.keep h2
    rw [val_sub S2.sm.d0 M.c.d0 S1.sm.d0 (S2.val h2), val_mul S1.sm.d0 S.d0 M.a.d0 (S1.val h1)]
  · have h3 := S4.keep h
    rw [val_sub S4.sm.d0 M.d.d0 S3.sm.d0 (S4.val h), val_mul S3.sm.d0 S.d0 M.b.d0 (S3.val h3)]
/-- the tuple of a matrix with the error. -/
def tp (e : Int) (m : SMatrix) : Int × Int × Int × Int × Int × Int × Int × Int × Int := (e, m.A.Num, m.A.Den, m.B.Num, m.B.Den, m.C.Num, m.C.Den, m.D.Num, m.D.Den)
def tb (e : Bool) (m : SMatrix) : Bool × Int × Int × Int × Int × Int × Int × Int × Int := (e, m.A.Num, m.A.Den, m.B.Num, m.B.Den, m.C.Num, m.C.Den, m.D.Num, m.D.Den)
theorem matrix_l (k : Nat) (hk : 100000000000000000000 ≤ k) (xs : List SElement) (hx : elL xs = 0) (hl : xs.length < 1000000) : ∀ (d fuel i : Nat) (q : SWay) (m' m : SMatrix), xs.length = i + d → d < fuel → (q.Large = false → m' = m) → SM m → (q.Large = false → det m = 1) →
    ∃ q' v w, noptics_MatrixOf_l0_0 k xs fuel (fl q).failed m'.A.Num m'.A.Den m'.B.Num m'.B.Den m'.C.Num m'.C.Den m'.D.Num m'.D.Den (i : Int) = some (tp (fl q').failed v) ∧
      nspeculumref02_MatrixOf_l0_0 k xs fuel q.Large m.A.Num m.A.Den m.B.Num m.B.Den m.C.Num m.C.Den m.D.Num m.D.Den (i : Int) = some (tb q'.Large w) ∧ (q'.Large = false → v = w) ∧ SM w ∧ (q'.Large = false → det w = 1) := by
  intro d
  induction d with
  | zero =>
    intro fuel i q m' m h hf hm M D
    obtain ⟨g, rfl⟩ : ∃ g, fuel = g + 1 := ⟨fuel - 1, by omega⟩
    rw [noptics_MatrixOf_l0_0.eq_2, if_neg (by omega), nspeculumref02_MatrixOf_l0_0.eq_2, if_neg (by omega)]
    exact ⟨q, m', m, rfl, rfl, hm, M, D⟩
  | succ d ih =>
    intro fuel i q m' m h hf hm M D
    obtain ⟨g, rfl⟩ : ∃ g, fuel = g + 1 := ⟨fuel - 1, by omega⟩
    obtain ⟨hs, hk3⟩ := elE_zero (elL_at hx i (by omega))
    rw [noptics_MatrixOf_l0_0.eq_2, if_pos (show (i : Int) < xs.length by omega), if_pos (show (0 : Int) ≤ (i : Int) ∧ (i : Int) < xs.length by omega), nspeculumref02_MatrixOf_l0_0.eq_2, if_pos (show (i : Int) < xs.length by omega), if_pos (show (0 : Int) ≤ (i : Int) ∧ (i : Int) < xs.length by omega), w64_succ (by omega)]
    rw [show xs.getD i default = xs.getD ((i : Int).toNat) default by rw [Int.toNat_natCast]] at hs hk3
    generalize xs.getD ((i : Int).toNat) default = x at hs hk3 ⊢
    have eta : ∀ m : SMatrix, (⟨⟨m.A.Num, m.A.Den⟩, ⟨m.B.Num, m.B.Den⟩, ⟨m.C.Num, m.C.Den⟩, ⟨m.D.Num, m.D.Den⟩⟩ : SMatrix) = m := fun _ => rfl
    have bend : ∀ {p' p : SFrac} {q1 : SWay}, (q1.Large = false → q.Large = false) → (q1.Large = false → p' = p) → Sm p → ∃ v w1 q2 a q3 w2 q4 b q5, n_optics_way_bent k (fl q1) m' p' = some (v, fl q5) ∧ n_speculumref02_Way_Mul k q1 p m.A = some (w1, q2) ∧ n_speculumref02_Way_Sub k q2 m.C w1 = some (a, q3) ∧ n_speculumref02_Way_Mul k q3 p m.B = some (w2, q4) ∧ n_speculumref02_Way_Sub k q4 m.D w2 = some (b, q5) ∧
        ∃ q' v' w, noptics_MatrixOf_l0_0 k xs g (fl q5).failed v.A.Num v.A.Den v.B.Num v.B.Den v.C.Num v.C.Den v.D.Num v.D.Den ((i + 1 : Nat) : Int) = some (tp (fl q').failed v') ∧
      nspeculumref02_MatrixOf_l0_0 k xs g q5.Large m.A.Num m.A.Den m.B.Num m.B.Den a.Num a.Den b.Num b.Den ((i + 1 : Nat) : Int) = some (tb q'.Large w) ∧ (q'.Large = false → v' = w) ∧ SM w ∧ (q'.Large = false → det w = 1) := by
      intro p' p q1 hq hp P
      obtain ⟨v, w1, q2, a, q3, w2, q4, b, q5, e1, f1, f2, f3, f4, k1, k2, k3, k4⟩ := bent_step k hk (fun h => hm (hq h)) hp M P
      obtain ⟨q', v', w, r1, r2, r3, r4, r5⟩ := ih g (i + 1) q5 v ⟨m.A, m.B, a, b⟩ (by omega) (by omega) k2 k3 (fun h => by
        have d1 := D (hq (k1 h))
        obtain ⟨x1, x2⟩ := k4 h
        unfold det at d1 ⊢
        dsimp only
        rw [x1, x2]; grind)
      exact ⟨v, w1, q2, a, q3, w2, q4, b, q5, e1, f1, f2, f3, f4, q', v', w, r1, r2, r3, r4, r5⟩
    rcases hk3 with h1 | ⟨h2, h0⟩ | ⟨h3, h0⟩
    · obtain ⟨v, w1, q1, a, q2, w2, q3, b, q4, e1, f1, f2, f3, f4, k1, k2, k3, k4⟩ := spaced_step k hk (s' := ⟨x.Size, 1⟩) hm (fun _ => rfl) M (sm_size hs)
      obtain ⟨q', v', w, r1, r2, r3, r4, r5⟩ := ih g (i + 1) q4 v ⟨a, b, m.C, m.D⟩ (by omega) (by omega) k2 k3 (fun h => by
        have d1 := D (k1 h)
        obtain ⟨x1, x2⟩ := k4 h
        unfold det at d1 ⊢
        dsimp only
        rw [x1, x2]; grind)
      refine ⟨q', v', w, ?_, ?_, r3, r4, r5⟩
      · rw [if_pos h1]
        unfold noptics_whole
        rw [Option.bind_some, eta, show (⟨(fl q).failed⟩ : Sway) = fl q from rfl, e1, Option.bind_some]
        exact r1
      · rw [if_pos h1]
        unfold nspeculumref02_Whole
        rw [Option.bind_some, show (⟨q.Large⟩ : SWay) = q from rfl, show (⟨m.C.Num, m.C.Den⟩ : SFrac) = m.C from rfl, f1, Option.bind_some, show (⟨m.A.Num, m.A.Den⟩ : SFrac) = m.A from rfl, f2, Option.bind_some, show (⟨m.D.Num, m.D.Den⟩ : SFrac) = m.D from rfl, f3, Option.bind_some, show (⟨m.B.Num, m.B.Den⟩ : SFrac) = m.B from rfl, f4, Option.bind_some]
        exact r2
    · obtain ⟨u, u1, u2⟩ := quo_small k hk (q := q) (n := 1) (d := x.Size) (by decide) hs h0
      obtain ⟨p', p, qp, e0, f0, S0⟩ := quo_step k hk (q := q) (a' := ⟨2, 1⟩) (b' := ⟨x.Size, 1⟩) (a := ⟨2, 1⟩) (b := ⟨x.Size, 1⟩) (fun _ => rfl) (fun _ => rfl) (sm_whole (by decide)) (sm_size hs) (fun _ => h0)
      obtain ⟨v, w1, q2, a, q3, w2, q4, b, q5, e1, f1, f2, f3, f4, q', v', w, r1, r2, r3, r4, r5⟩ := bend S0.keep S0.same S0.sm
      refine ⟨q', v', w, ?_, ?_, r3, r4, r5⟩
      · rw [if_neg (by omega), if_pos h2]
        unfold noptics_whole
        rw [Option.bind_some, Option.bind_some, eta, show (⟨(fl q).failed⟩ : Sway) = fl q from rfl, e0, Option.bind_some, e1, Option.bind_some]
        exact r1
      · rw [if_neg (by omega)]
        unfold nspeculumref02_Whole
        rw [Option.bind_some, Option.bind_some, show (⟨q.Large⟩ : SWay) = q from rfl, u1, Option.bind_some, if_pos h2, Option.bind_some, f0, Option.bind_some, show (⟨m.A.Num, m.A.Den⟩ : SFrac) = m.A from rfl, f1, Option.bind_some, show (⟨m.C.Num, m.C.Den⟩ : SFrac) = m.C from rfl, f2, Option.bind_some, show (⟨m.B.Num, m.B.Den⟩ : SFrac) = m.B from rfl, f3, Option.bind_some, show (⟨m.D.Num, m.D.Den⟩ : SFrac) = m.D from rfl, f4, Option.bind_some]
        exact r2
    · obtain ⟨p', p, qp, e0, f0, S0⟩ := quo_step k hk (q := q) (a' := ⟨1, 1⟩) (b' := ⟨x.Size, 1⟩) (a := ⟨1, 1⟩) (b := ⟨x.Size, 1⟩) (fun _ => rfl) (fun _ => rfl) (sm_whole (by decide)) (sm_size hs) (fun _ => h0)
      obtain ⟨v, w1, q2, a, q3, w2, q4, b, q5, e1, f1, f2, f3, f4, q', v', w, r1, r2, r3, r4, r5⟩ := bend S0.keep S0.same S0.sm
      refine ⟨q', v', w, ?_, ?_, r3, r4, r5⟩
      · rw [if_neg (by omega), if_neg (by omega), if_pos h3]
        unfold noptics_whole
        rw [Option.bind_some, Option.bind_some, eta, show (⟨(fl q).failed⟩ : Sway) = fl q from rfl, e0, Option.bind_some, e1, Option.bind_some]
        exact r1
      · rw [if_neg (by omega)]
        unfold nspeculumref02_Whole
        rw [Option.bind_some, Option.bind_some, show (⟨q.Large⟩ : SWay) = q from rfl, f0, Option.bind_some, if_neg (by omega), show (⟨m.A.Num, m.A.Den⟩ : SFrac) = m.A from rfl, f1, Option.bind_some, show (⟨m.C.Num, m.C.Den⟩ : SFrac) = m.C from rfl, f2, Option.bind_some, show (⟨m.B.Num, m.B.Den⟩ : SFrac) = m.B from rfl, f3, Option.bind_some, show (⟨m.D.Num, m.D.Den⟩ : SFrac) = m.D from rfl, f4, Option.bind_some]
        exact r2
theorem matrix_sm (k : Nat) (hk : 100000000000000000000 ≤ k) {m : SMatrix} (h : SM m) : noptics_checkMatrix k m = some 0 := by
  unfold noptics_checkMatrix
  rw [checkFracs_any k hk _ (fun f hf => by
    simp only [List.mem_cons, List.not_mem_nil, or_false] at hf
    rcases hf with rfl | rfl | rfl | rfl
    · exact h.a.f
    · exact h.b.f
    · exact h.c.f
    · exact h.d.f) (by simp)]
  simp only [fcE, h.a.ck, h.b.ck, h.c.ck, h.d.ck, if_true, Option.bind_some]
theorem det_one (k : Nat) (hk : 100000000000000000000 ≤ k) {m : SMatrix} (S : SM m) (D : det m = 1) : noptics_Determinant k m = some (⟨0, 0⟩, 8) ∨ noptics_Determinant k m = some (⟨1, 1⟩, 0) := by
  obtain ⟨v1, w1, q1, e1, f1, S1⟩ := mul_step k hk (q := ⟨false⟩) (a' := m.A) (b' := m.D) (fun _ => rfl) (fun _ => rfl) S.a S.d
  obtain ⟨v2, w2, q2, e2, f2, S2⟩ := mul_step k hk (q := q1) (a' := m.B) (b' := m.C) (fun _ => rfl) (fun _ => rfl) S.b S.c
  obtain ⟨v3, w3, q3, e3, f3, S3⟩ := sub_step k hk (q := q2) (fun h => S1.same (S2.keep h)) (fun h => S2.same h) S1.sm S2.sm
  unfold noptics_Determinant noptics_beside_api_Frac_
  rw [matrix_sm k hk S, Option.bind_some, if_pos rfl, show (⟨0⟩ : Sway) = fl ⟨false⟩ from rfl, e1, Option.bind_some, e2, Option.bind_some, e3, Option.bind_some]
  dsimp only
  rw [first_one k hk, Option.bind_some, fl_failed]
  cases hq : q3.Large with
  | true => exact .inl rfl
  | false =>
    rw [S3.same hq]
    have h2 := S3.keep hq; have h1 := S2.keep h2
    have e : val w3 = val (⟨1, 1⟩ : SFrac) := by
      rw [val_sub S3.sm.d0 S1.sm.d0 S2.sm.d0 (S3.val hq), val_mul S1.sm.d0 S.a.d0 S.d.d0 (S1.val h1), val_mul S2.sm.d0 S.b.d0 S.c.d0 (S2.val h2), val_whole]
      exact D
    rw [val_inj S3.sm (sm_whole (by decide)) e]
    exact .inr rfl
theorem matrices_both (k : Nat) (hk : 100000000000000000000 ≤ k) (xs : List SElement) (hl : xs.length ≤ 20) (hx : elL xs = 0) :
    ∃ r, noptics_MatrixOf k xs = some r ∧ nspeculumref02_MatrixOf k xs = some r ∧ (r.2 = 0 → SM r.1 ∧ det r.1 = 1) := by
  obtain ⟨q, v, w, e1, e2, e3, e4, e5⟩ := matrix_l k hk xs hx (by omega) xs.length k 0 ⟨false⟩ ⟨⟨1, 1⟩, ⟨0, 1⟩, ⟨0, 1⟩, ⟨1, 1⟩⟩ ⟨⟨1, 1⟩, ⟨0, 1⟩, ⟨0, 1⟩, ⟨1, 1⟩⟩ (by omega) (by omega) (fun _ => rfl) ⟨sm_whole (by decide), sm_whole (by decide), sm_whole (by decide), sm_whole (by decide)⟩ (fun _ => by
    unfold det; rw [val_whole, val_whole]; grind)
  have e1' : noptics_MatrixOf_l0_0 k xs k 0 1 1 0 1 0 1 1 1 0 = some (tp (fl q).failed v) := e1
  have e2' : nspeculumref02_MatrixOf_l0_0 k xs k false 1 1 0 1 0 1 1 1 0 = some (tb q.Large w) := e2
  have he : noptics_CheckElements k xs = some 0 := by
    rw [elements_opt k hk]; unfold elsE; rw [if_neg (by omega), hx]
  unfold noptics_MatrixOf nspeculumref02_MatrixOf noptics_whole nspeculumref02_Whole noptics_beside_api_Matrix_
  rw [he, Option.bind_some, if_pos rfl, Option.bind_some, Option.bind_some, Option.bind_some, Option.bind_some, e1', e2', Option.bind_some, Option.bind_some]
  unfold tp tb
  dsimp only
  rw [first_one k hk, Option.bind_some, fl_failed]
  cases hq : q.Large with
  | true => exact ⟨_, rfl, rfl, fun h => absurd h (by decide)⟩
  | false => rw [e3 hq]; exact ⟨_, rfl, rfl, fun _ => ⟨e4, e5 hq⟩⟩
theorem law_systems (xs : List SElement) (hl : xs.length ≤ 8) : nspeculumlaw02_OpticsSystems big xs = some true := by
  unfold nspeculumlaw02_OpticsSystems
  have hf : nspeculumlaw02_few big xs = some true := by
    unfold nspeculumlaw02_few; rw [if_pos (by omega)]
  rw [awake_big, Option.bind_some, if_pos rfl, hf, Option.bind_some, if_pos rfl, if_pos (by simp; omega), List.nil_append, elements_ref _ (by decide), elements_opt _ (by decide)]
  have he : elsE xs = elL xs := by unfold elsE; rw [if_neg (by omega)]
  rw [he]
  by_cases h : elL xs = 0
  · obtain ⟨r, r1, r2, r3⟩ := matrices_both big (by decide) xs (by omega) h
    rw [r1, Option.bind_some, Option.bind_some, Option.bind_some, if_pos rfl, if_pos h, r2, Option.bind_some, if_pos rfl, if_pos (by simp)]
    by_cases h2 : r.2 = 0
    · rw [if_pos h2]
      obtain ⟨S, D⟩ := r3 h2
      rcases det_one big (by decide) S D with hd | hd
      · rw [hd]; rfl
      · rw [hd]; rfl
    · rw [if_neg h2]
  · have hm : noptics_MatrixOf big xs = some (⟨⟨0, 0⟩, ⟨0, 0⟩, ⟨0, 0⟩, ⟨0, 0⟩⟩, elL xs) := by
      unfold noptics_MatrixOf
      rw [elements_opt _ (by decide), Option.bind_some, he, if_neg h]
    rw [hm, Option.bind_some, Option.bind_some, Option.bind_some, if_pos rfl, if_neg h, if_pos rfl]
    rfl
theorem law_systems_many (xs : List SElement) (hl : 8 < xs.length) : nspeculumlaw02_OpticsSystems big xs = some true := by
  unfold nspeculumlaw02_OpticsSystems
  rw [awake_big, Option.bind_some, if_pos rfl]
  have hf : ∃ b, nspeculumlaw02_few big xs = some b ∧ (b = true → 20 < xs.length ∧ xs.length ≤ 23) := by
    unfold nspeculumlaw02_few
    rw [if_neg (by omega)]
    by_cases c : 20 < (xs.length : Int)
    · rw [if_pos c]; exact ⟨_, rfl, fun h => by have := of_decide_eq_true h; omega⟩
    · rw [if_neg c]; exact ⟨_, rfl, fun h => by cases h⟩
  obtain ⟨b, hb, hb2⟩ := hf
  rw [hb, Option.bind_some]
  by_cases c : b = true
  · obtain ⟨c2, c3⟩ := hb2 c
    have he : elsE xs = 8 := by unfold elsE; rw [if_pos (by omega)]
    have hm : noptics_MatrixOf big xs = some (⟨⟨0, 0⟩, ⟨0, 0⟩, ⟨0, 0⟩, ⟨0, 0⟩⟩, 8) := by
      unfold noptics_MatrixOf
      rw [elements_opt _ (by decide), Option.bind_some, he, if_neg (by decide)]
    rw [if_pos c, if_pos (by simp; omega), List.nil_append, elements_ref _ (by decide), elements_opt _ (by decide), he, hm]
    rfl
  · rw [if_neg c]
theorem vc_systems (xs : List SElement) : VC Go.Proofs.Try.prog 3 [VV.tr (List.flatMap c_SElement xs) xs.length] (vb true) := nspeculumlaw02_OpticsSystems_ok _ _ _ (by
  by_cases c : xs.length ≤ 8
  · exact law_systems xs c
  · exact law_systems_many xs (by omega))
end Go.Proofs.Ytkffimkedibmnaa.Vg
