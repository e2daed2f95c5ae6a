/- Chapter 2, plain: a list of elements in two parts. -/
import Derived.Test.YtkffimkedibmnaaOWc
import Derived.Test.YtkffimkedibmnaaWP
set_option linter.unusedVariables false
set_option linter.unusedSimpArgs false
namespace Go.Proofs.Ytkffimkedibmnaa.Vg
open Go Go.Proofs.Ytkffimkedibmnaa.Ev Go.Proofs.Ytkffimkedibmnaa.Vv
def elE (x : SElement) : Int := if x.Kind = 1 ∨ x.Kind = 2 ∨ x.Kind = 3 then (if inR (-10000000) 10000000 x.Size = true ∧ (x.Kind = 1 → 0 ≤ x.Size) ∧ (x.Kind ≠ 1 → x.Size ≠ 0) then 0 else 2) else 15
theorem element_opt (k : Nat) (x : SElement) : noptics_checkElement k x = some (elE x) := by
  unfold noptics_checkElement elE
  rw [sized_any k _ (by decide) (by decide), Option.bind_some]
  by_cases h1 : x.Kind = 1
  · rw [if_pos h1, if_pos (show x.Kind = 1 ∨ x.Kind = 2 ∨ x.Kind = 3 from .inl h1)]
    by_cases h : inR (-10000000) 10000000 x.Size = true
    · rw [if_pos h]
      by_cases h2 : 0 ≤ x.Size
      · rw [if_pos h2, if_pos ⟨h, fun _ => h2, fun h => absurd h1 h⟩]
      · rw [if_neg h2, if_neg (fun hh => h2 (hh.2.1 h1))]
    · rw [if_neg h, if_neg (fun hh => h hh.1)]
  · rw [if_neg h1]
    have key : (if inR (-10000000) 10000000 x.Size = true then (if x.Size = 0 then (some 2) else (some 0)) else (some 2)) = some (if inR (-10000000) 10000000 x.Size = true ∧ (x.Kind = 1 → 0 ≤ x.Size) ∧ (x.Kind ≠ 1 → x.Size ≠ 0) then (0 : Int) else 2) := by
      by_cases h : inR (-10000000) 10000000 x.Size = true
      · rw [if_pos h]
        by_cases h2 : x.Size = 0
        · rw [if_pos h2, if_neg (fun hh => hh.2.2 h1 h2)]
        · rw [if_neg h2, if_pos ⟨h, fun h => absurd h h1, fun _ => h2⟩]
      · rw [if_neg h, if_neg (fun hh => h hh.1)]
    by_cases h2 : x.Kind = 2
    · rw [if_pos h2, if_pos (show x.Kind = 1 ∨ x.Kind = 2 ∨ x.Kind = 3 from .inr (.inl h2))]; exact key
    · rw [if_neg h2]
      by_cases h3 : x.Kind = 3
      · rw [if_pos h3, if_pos (show x.Kind = 1 ∨ x.Kind = 2 ∨ x.Kind = 3 from .inr (.inr h3))]; exact key
      · rw [if_neg h3, if_neg (show ¬ (x.Kind = 1 ∨ x.Kind = 2 ∨ x.Kind = 3) by omega)]
def elL : List SElement → Int
  | [] => 0
  | x :: l => if elE x = 0 then elL l else elE x
theorem elements_opt_l (k : Nat) (xs : List SElement) (hl : xs.length < 1000000000000) : ∀ (d fuel i : Nat), xs.length = i + d → d < fuel → noptics_CheckElements_l0_0 k xs fuel (i : Int) = some (sumE (elL (xs.drop i))) := by
  intro d
  induction d with
  | zero =>
    intro fuel i h hf
    obtain ⟨g, rfl⟩ : ∃ g, fuel = g + 1 := ⟨fuel - 1, by omega⟩
    rw [noptics_CheckElements_l0_0.eq_2, if_neg (by omega), List.drop_eq_nil_of_le (by omega)]; rfl
  | succ d ih =>
    intro fuel i h hf
    obtain ⟨g, rfl⟩ : ∃ g, fuel = g + 1 := ⟨fuel - 1, by omega⟩
    have hi : i < xs.length := by omega
    rw [noptics_CheckElements_l0_0.eq_2, if_pos (by omega), if_pos (by omega), w64_succ (by omega), ih g (i + 1) (by omega) (by omega), List.drop_eq_getElem_cons hi]
    simp only [Int.toNat_natCast]
    rw [show xs.getD i default = xs[i] by rw [List.getD_eq_getElem?_getD, List.getElem?_eq_getElem hi]; rfl, element_opt, Option.bind_some]
    unfold sumE
    by_cases c : elE xs[i] = 0
    · rw [if_pos c]; simp only [elL, if_pos c]
    · rw [if_neg c]; simp only [elL, if_neg c]
def elsE (xs : List SElement) : Int := if 20 < (xs.length : Int) then 8 else elL xs
theorem elements_opt (k : Nat) (hk : 100000000000000000000 ≤ k) (xs : List SElement) : noptics_CheckElements k xs = some (elsE xs) := by
  unfold noptics_CheckElements elsE
  by_cases c : 20 < (xs.length : Int)
  · rw [if_pos c, if_pos c]
  · rw [if_neg c, if_neg c, show noptics_CheckElements_l0_0 k xs k 0 = _ from elements_opt_l k xs (by omega) xs.length k 0 (by omega) (by omega), Option.bind_some]
    unfold sumE
    rw [List.drop_zero]
    by_cases h : elL xs = 0
    · rw [if_pos h, h]
    · rw [if_neg h]
theorem elL_at : ∀ {xs : List SElement}, elL xs = 0 → ∀ i, i < xs.length → elE (xs.getD i default) = 0
  | x :: l, h, 0, _ => by
    simp only [elL] at h
    split at h
    · assumption
    · exact absurd h (by assumption)
  | x :: l, h, i + 1, hi => by
    simp only [elL] at h
    split at h
    · exact elL_at (xs := l) h i (by simpa using hi)
    · exact absurd h (by assumption)
theorem elE_zero {x : SElement} (h : elE x = 0) : (-10000000 ≤ x.Size ∧ x.Size ≤ 10000000) ∧ (x.Kind = 1 ∨ (x.Kind = 2 ∧ x.Size ≠ 0) ∨ (x.Kind = 3 ∧ x.Size ≠ 0)) := by
  unfold elE at h
  split at h
  · rename_i hk
    split at h
    · rename_i hh
      refine ⟨inR_t.1 hh.1, ?_⟩
      rcases hk with hk | hk | hk
      · exact .inl hk
      · exact .inr (.inl ⟨hk, hh.2.2 (by omega)⟩)
      · exact .inr (.inr ⟨hk, hh.2.2 (by omega)⟩)
    · cases h
  · cases h
structure SM (m : SMatrix) : Prop where
  a : Sm m.A
  b : Sm m.B
  c : Sm m.C
  d : Sm m.D
theorem sm_size {n : Int} (h : -10000000 ≤ n ∧ n ≤ 10000000) : Sm ⟨n, 1⟩ := sm_whole (by omega)
theorem spaced_step (k : Nat) (hk : 100000000000000000000 ≤ k) {q : SWay} {m' m : SMatrix} {s' s : SFrac} (hm : q.Large = false → m' = m) (hs : q.Large = false → s' = s) (M : SM m) (S : Sm s) :
    ∃ v w1 q1 a q2 w2 q3 b q', n_optics_way_spaced k (fl q) m' s' = some (v, fl q') ∧ n_speculumref02_Way_Mul k q s m.C = some (w1, q1) ∧ n_speculumref02_Way_Add k q1 m.A w1 = some (a, q2) ∧ n_speculumref02_Way_Mul k q2 s m.D = some (w2, q3) ∧ n_speculumref02_Way_Add k q3 m.B w2 = some (b, q') ∧
      (q'.Large = false → q.Large = false) ∧ (q'.Large = false → v = ⟨a, b, m.C, m.D⟩) ∧ SM ⟨a, b, m.C, m.D⟩ ∧ (q'.Large = false → val a = val m.A + val s * val m.C ∧ val b = val m.B + val s * val m.D) := by
  obtain ⟨v1, w1, q1, e1, f1, S1⟩ := mul_step k hk hs (fun h => by rw [hm h]) S M.c (q := q) (b' := m'.C)
  obtain ⟨v2, a, q2, e2, f2, S2⟩ := add_step k hk (q := q1) (a' := m'.A) (fun h => by rw [hm (S1.keep h)]) S1.same M.a S1.sm
  obtain ⟨v3, w2, q3, e3, f3, S3⟩ := mul_step k hk (q := q2) (b' := m'.D) (fun h => hs (S1.keep (S2.keep h))) (fun h => by rw [hm (S1.keep (S2.keep h))]) S M.d
  obtain ⟨v4, b, q', e4, f4, S4⟩ := add_step k hk (q := q3) (a' := m'.B) (fun h => by rw [hm (S1.keep (S2.keep (S3.keep h)))]) S3.same M.b S3.sm
  refine ⟨⟨v2, v4, m'.C, m'.D⟩, w1, q1, a, q2, w2, q3, b, q', ?_, f1, f2, f3, f4, fun h => S1.keep (S2.keep (S3.keep (S4.keep h))), fun h => ?_, ⟨S2.sm, S4.sm, M.c, M.d⟩, fun h => ⟨?_, ?_⟩⟩
  · unfold n_optics_way_spaced
    rw [e1, Option.bind_some, e2, Option.bind_some, e3, Option.bind_some, e4, Option.bind_some]
  · have h3 := S4.keep h; have h2 := S3.keep h3; have h1 := S2.keep h2
    rw [S2.same h2, S4.same h, hm (S1.keep h1)]
  · have h3 := S4.keep h; have h2 := S3.keep h3; have h1 := S2.keep h2
    rw [val_add S2.sm.d0 M.a.d0 S1.sm.d0 (S2.val h2), val_mul S1.sm.d0 S.d0 M.c.d0 (S1.val h1)]
  · have h3 := S4.keep h
    rw [val_add S4.sm.d0 M.b.d0 S3.sm.d0 (S4.val h), val_mul S3.sm.d0 S.d0 M.d.d0 (S3.val h3)]
theorem bent_step (k : Nat) (hk : 100000000000000000000 ≤ k) {q : SWay} {m' m : SMatrix} {s' s : SFrac} (hm : q.Large = false → m' = m) (hs : q.Large = false → s' = s) (M : SM m) (S : Sm s) :
    ∃ v w1 q1 a q2 w2 q3 b q', n_optics_way_bent k (fl q) m' s' = some (v, fl q') ∧ n_speculumref02_Way_Mul k q s m.A = some (w1, q1) ∧ n_speculumref02_Way_Sub k q1 m.C w1 = some (a, q2) ∧ n_speculumref02_Way_Mul k q2 s m.B = some (w2, q3) ∧ n_speculumref02_Way_Sub k q3 m.D w2 = some (b, q') ∧
      (q'.Large = false → q.Large = false) ∧ (q'.Large = false → v = ⟨m.A, m.B, a, b⟩) ∧ SM ⟨m.A, m.B, a, b⟩ ∧ (q'.Large = false → val a = val m.C - val s * val m.A ∧ val b = val m.D - val s * val m.B) := by
  obtain ⟨v1, w1, q1, e1, f1, S1⟩ := mul_step k hk hs (fun h => by rw [hm h]) S M.a (q := q) (b' := m'.A)
  obtain ⟨v2, a, q2, e2, f2, S2⟩ := sub_step k hk (q := q1) (a' := m'.C) (fun h => by rw [hm (S1.keep h)]) S1.same M.c S1.sm
  obtain ⟨v3, w2, q3, e3, f3, S3⟩ := mul_step k hk (q := q2) (b' := m'.B) (fun h => hs (S1.keep (S2.keep h))) (fun h => by rw [hm (S1.keep (S2.keep h))]) S M.b
  obtain ⟨v4, b, q', e4, f4, S4⟩ := sub_step k hk (q := q3) (a' := m'.D) (fun h => by rw [hm (S1.keep (S2.keep (S3.keep h)))]) S3.same M.d S3.sm
  refine ⟨⟨m'.A, m'.B, v2, v4⟩, w1, q1, a, q2, w2, q3, b, q', ?_, f1, f2, f3, f4, fun h => S1.keep (S2.keep (S3.keep (S4.keep h))), fun h => ?_, ⟨M.a, M.b, S2.sm, S4.sm⟩, fun h => ⟨?_, ?_⟩⟩
  · unfold n_optics_way_bent
    rw [e1, Option.bind_some, e2, Option.bind_some, e3, Option.bind_some, e4, Option.bind_some]
  · have h3 := S4.keep h; have h2 := S3.keep h3; have h1 := S2.keep h2
    rw [S2.same h2, S4.same h, hm (S1.keep h1)]
  · have h3 := S4.keep h; have h2 := S3.keep h3; have h1 := S2.keep h2
    rw [val_sub S2.sm.d0 M.c.d0 S1.sm.d0 (S2.val h2), val_mul S1.sm.d0 S.d0 M.a.d0 (S1.val h1)]
  · have h3 := S4.keep h
    rw [val_sub S4.sm.d0 M.d.d0 S3.sm.d0 (S4.val h), val_mul S3.sm.d0 S.d0 M.b.d0 (S3.val h3)]
def tp (e : Int) (m : SMatrix) : Int × Int × Int × Int × Int × Int × Int × Int × Int := (e, m.A.Num, m.A.Den, m.B.Num, m.B.Den, m.C.Num, m.C.Den, m.D.Num, m.D.Den)
theorem matrix_sm (k : Nat) (hk : 100000000000000000000 ≤ k) {m : SMatrix} (h : SM m) : noptics_checkMatrix k m = some 0 := by
  unfold noptics_checkMatrix
  rw [checkFracs_any k hk _ (fun f hf => by
    simp only [List.mem_cons, List.not_mem_nil, or_false] at hf
    rcases hf with rfl | rfl | rfl | rfl
    · exact h.a.f
    · exact h.b.f
    · exact h.c.f
    · exact h.d.f) (by simp)]
  simp only [fcE, h.a.ck, h.b.ck, h.c.ck, h.d.ck, if_true, Option.bind_some]
/-- matrices of exact numbers. -/
structure RM where
  a : Rat
  b : Rat
  c : Rat
  d : Rat
def vm (m : SMatrix) : RM := ⟨val m.A, val m.B, val m.C, val m.D⟩
def one : RM := ⟨1, 0, 0, 1⟩
def spR (s : Rat) (m : RM) : RM := ⟨m.a + s * m.c, m.b + s * m.d, m.c, m.d⟩
def beR (s : Rat) (m : RM) : RM := ⟨m.a, m.b, m.c - s * m.a, m.d - s * m.b⟩
def stR (x : SElement) (m : RM) : RM := if x.Kind = 1 then spR (x.Size : Rat) m else if x.Kind = 2 then beR (2 / (x.Size : Rat)) m else beR (1 / (x.Size : Rat)) m
def foR : List SElement → RM → RM
  | [], m => m
  | x :: l, m => foR l (stR x m)
def muR (n m : RM) : RM := ⟨n.a * m.a + n.b * m.c, n.a * m.b + n.b * m.d, n.c * m.a + n.d * m.c, n.c * m.b + n.d * m.d⟩
theorem stR_mu (x : SElement) (n m : RM) : stR x (muR n m) = muR (stR x n) m := by
  unfold stR
  split
  · unfold spR muR; dsimp only; congr 1 <;> grind
  · split
    · unfold beR muR; dsimp only; congr 1 <;> grind
    · unfold beR muR; dsimp only; congr 1 <;> grind
theorem foR_mu : ∀ (l : List SElement) (n m : RM), foR l (muR n m) = muR (foR l n) m
  | [], _, _ => rfl
  | x :: l, n, m => by simp only [foR]; rw [stR_mu, foR_mu l]
theorem mu_one (m : RM) : muR one m = m := by
  unfold muR one
  cases m
  dsimp only; congr 1 <;> grind
theorem foR_app : ∀ (l1 l2 : List SElement) (m : RM), foR (l1 ++ l2) m = foR l2 (foR l1 m)
  | [], _, _ => rfl
  | x :: l, l2, m => by simp only [List.cons_append, foR]; exact foR_app l l2 _
theorem foR_parts (l1 l2 : List SElement) : foR (l1 ++ l2) one = muR (foR l2 one) (foR l1 one) := by
  rw [foR_app, ← foR_mu, mu_one]
theorem matrixV_l (k : Nat) (hk : 100000000000000000000 ≤ k) (xs : List SElement) (hx : elL xs = 0) (hl : xs.length < 1000000) : ∀ (d fuel i : Nat) (q : SWay) (m' m : SMatrix), xs.length = i + d → d < fuel → (q.Large = false → m' = m) → SM m →
    ∃ q' v w, noptics_MatrixOf_l0_0 k xs fuel (fl q).failed m'.A.Num m'.A.Den m'.B.Num m'.B.Den m'.C.Num m'.C.Den m'.D.Num m'.D.Den (i : Int) = some (tp (fl q').failed v) ∧
      (q'.Large = false → q.Large = false) ∧ (q'.Large = false → v = w) ∧ SM w ∧ (q'.Large = false → vm w = foR (xs.drop i) (vm m)) := by
  intro d
  induction d with
  | zero =>
    intro fuel i q m' m h hf hm M
    obtain ⟨g, rfl⟩ : ∃ g, fuel = g + 1 := ⟨fuel - 1, by omega⟩
    rw [noptics_MatrixOf_l0_0.eq_2, if_neg (by omega), List.drop_eq_nil_of_le (by omega)]
    exact ⟨q, m', m, rfl, fun h => h, hm, M, fun _ => rfl⟩
  | succ d ih =>
    intro fuel i q m' m h hf hm M
    obtain ⟨g, rfl⟩ : ∃ g, fuel = g + 1 := ⟨fuel - 1, by omega⟩
    have hi : i < xs.length := by omega
    obtain ⟨hs, hk3⟩ := elE_zero (elL_at hx i (by omega))
    have hd : xs.drop i = xs.getD ((i : Int).toNat) default :: xs.drop (i + 1) := by
      rw [List.drop_eq_getElem_cons hi, Int.toNat_natCast, List.getD_eq_getElem?_getD, List.getElem?_eq_getElem hi]; rfl
    rw [hd]
    simp only [foR]
    rw [noptics_MatrixOf_l0_0.eq_2, if_pos (show (i : Int) < xs.length by omega), if_pos (show (0 : Int) ≤ (i : Int) ∧ (i : Int) < xs.length by omega), w64_succ (by omega)]
    rw [show xs.getD i default = xs.getD ((i : Int).toNat) default by rw [Int.toNat_natCast]] at hs hk3
    generalize xs.getD ((i : Int).toNat) default = x at hs hk3 ⊢
    have eta : ∀ m : SMatrix, (⟨⟨m.A.Num, m.A.Den⟩, ⟨m.B.Num, m.B.Den⟩, ⟨m.C.Num, m.C.Den⟩, ⟨m.D.Num, m.D.Den⟩⟩ : SMatrix) = m := fun _ => rfl
    rcases hk3 with h1 | ⟨h2, h0⟩ | ⟨h3, h0⟩
    · obtain ⟨v, w1, q1, a, q2, w2, q3, b, q4, e1, f1, f2, f3, f4, k1, k2, k3, k4⟩ := spaced_step k hk (s' := ⟨x.Size, 1⟩) hm (fun _ => rfl) M (sm_size hs)
      obtain ⟨q', v', w, r1, r2, r3, r4, r5⟩ := ih g (i + 1) q4 v ⟨a, b, m.C, m.D⟩ (by omega) (by omega) k2 k3
      refine ⟨q', v', w, ?_, fun h => k1 (r2 h), r3, r4, fun h => ?_⟩
      · rw [if_pos h1]
        unfold noptics_whole
        rw [Option.bind_some, eta, show (⟨(fl q).failed⟩ : Sway) = fl q from rfl, e1, Option.bind_some]
        exact r1
      · obtain ⟨x1, x2⟩ := k4 (r2 h)
        rw [r5 h]
        unfold stR
        rw [if_pos h1]
        unfold vm spR
        dsimp only
        rw [x1, x2, val_whole]
    · obtain ⟨p', p, qp, e0, f0, S0⟩ := quo_step k hk (q := q) (a' := ⟨2, 1⟩) (b' := ⟨x.Size, 1⟩) (a := ⟨2, 1⟩) (b := ⟨x.Size, 1⟩) (fun _ => rfl) (fun _ => rfl) (sm_whole (by decide)) (sm_size hs) (fun _ => h0)
      obtain ⟨v, w1, q2, a, q3, w2, q4, b, q5, e1, f1, f2, f3, f4, k1, k2, k3, k4⟩ := bent_step k hk (fun h => hm (S0.keep h)) S0.same M S0.sm
      obtain ⟨q', v', w, r1, r2, r3, r4, r5⟩ := ih g (i + 1) q5 v ⟨m.A, m.B, a, b⟩ (by omega) (by omega) k2 k3
      refine ⟨q', v', w, ?_, fun h => S0.keep (k1 (r2 h)), r3, r4, fun h => ?_⟩
      · rw [if_neg (by omega), if_pos h2]
        unfold noptics_whole
        rw [Option.bind_some, Option.bind_some, eta, show (⟨(fl q).failed⟩ : Sway) = fl q from rfl, e0, Option.bind_some, e1, Option.bind_some]
        exact r1
      · obtain ⟨x1, x2⟩ := k4 (r2 h)
        rw [r5 h]
        unfold stR
        rw [if_neg (by omega), if_pos h2]
        unfold vm beR
        dsimp only
        rw [x1, x2, val_quo S0.sm.d0 (by decide) (show (0 : Int) < 1 by decide) h0 (S0.val (k1 (r2 h))), val_whole, val_whole]
        rfl
    · obtain ⟨p', p, qp, e0, f0, S0⟩ := quo_step k hk (q := q) (a' := ⟨1, 1⟩) (b' := ⟨x.Size, 1⟩) (a := ⟨1, 1⟩) (b := ⟨x.Size, 1⟩) (fun _ => rfl) (fun _ => rfl) (sm_whole (by decide)) (sm_size hs) (fun _ => h0)
      obtain ⟨v, w1, q2, a, q3, w2, q4, b, q5, e1, f1, f2, f3, f4, k1, k2, k3, k4⟩ := bent_step k hk (fun h => hm (S0.keep h)) S0.same M S0.sm
      obtain ⟨q', v', w, r1, r2, r3, r4, r5⟩ := ih g (i + 1) q5 v ⟨m.A, m.B, a, b⟩ (by omega) (by omega) k2 k3
      refine ⟨q', v', w, ?_, fun h => S0.keep (k1 (r2 h)), r3, r4, fun h => ?_⟩
      · rw [if_neg (by omega), if_neg (by omega), if_pos h3]
        unfold noptics_whole
        rw [Option.bind_some, Option.bind_some, eta, show (⟨(fl q).failed⟩ : Sway) = fl q from rfl, e0, Option.bind_some, e1, Option.bind_some]
        exact r1
      · obtain ⟨x1, x2⟩ := k4 (r2 h)
        rw [r5 h]
        unfold stR
        rw [if_neg (by omega), if_neg (by omega)]
        unfold vm beR
        dsimp only
        rw [x1, x2, val_quo S0.sm.d0 (by decide) (show (0 : Int) < 1 by decide) h0 (S0.val (k1 (r2 h))), val_whole, val_whole]
        rfl
theorem matrixV (k : Nat) (hk : 100000000000000000000 ≤ k) (xs : List SElement) (hl : xs.length ≤ 8) : ∃ r, noptics_MatrixOf k xs = some r ∧ (r.2 = 0 → SM r.1 ∧ vm r.1 = foR xs one) := by
  unfold noptics_MatrixOf
  rw [elements_opt k hk, Option.bind_some]
  have he : elsE xs = elL xs := by unfold elsE; rw [if_neg (by omega)]
  rw [he]
  by_cases h : elL xs = 0
  · rw [if_pos h]
    obtain ⟨q, v, w, e1, _, e3, e4, e5⟩ := matrixV_l k hk xs h (by omega) xs.length k 0 ⟨false⟩ ⟨⟨1, 1⟩, ⟨0, 1⟩, ⟨0, 1⟩, ⟨1, 1⟩⟩ ⟨⟨1, 1⟩, ⟨0, 1⟩, ⟨0, 1⟩, ⟨1, 1⟩⟩ (by omega) (by omega) (fun _ => rfl) ⟨sm_whole (by decide), sm_whole (by decide), sm_whole (by decide), sm_whole (by decide)⟩
    have e1' : noptics_MatrixOf_l0_0 k xs k 0 1 1 0 1 0 1 1 1 0 = some (tp (fl q).failed v) := e1
    have o : vm ⟨⟨1, 1⟩, ⟨0, 1⟩, ⟨0, 1⟩, ⟨1, 1⟩⟩ = one := by
      unfold vm one; dsimp only; rw [val_whole, val_whole]; rfl
    rw [o, List.drop_zero] at e5
    unfold noptics_whole noptics_beside_api_Matrix_
    rw [Option.bind_some, Option.bind_some, e1', Option.bind_some]
    unfold tp
    dsimp only
    rw [first_one k hk, Option.bind_some, fl_failed]
    cases hq : q.Large with
    | true => exact ⟨_, rfl, fun h => absurd h (by decide)⟩
    | false => rw [e3 hq]; exact ⟨_, rfl, fun _ => ⟨e4, e5 hq⟩⟩
  · rw [if_neg h]; exact ⟨_, rfl, fun h' => absurd h' h⟩
theorem val_prod {a b c d w1 w2 w : SFrac} (sa : Sm a) (sb : Sm b) (sc : Sm c) (sd : Sm d) (sw : Sm w) (h : w1.Num * (a.Den * b.Den) = a.Num * b.Num * w1.Den ∧ w2.Num * (c.Den * d.Den) = c.Num * d.Num * w2.Den ∧ w.Num * (w1.Den * w2.Den) = (w1.Num * w2.Den + w2.Num * w1.Den) * w.Den ∧ Sm w1 ∧ Sm w2) : val w = val a * val b + val c * val d := by
  obtain ⟨h1, h2, h3, s1, s2⟩ := h
  rw [val_add sw.d0 s1.d0 s2.d0 h3, val_mul s1.d0 sa.d0 sb.d0 h1, val_mul s2.d0 sc.d0 sd.d0 h2]
theorem joinV (k : Nat) (hk : 100000000000000000000 ≤ k) {m n : SMatrix} (S : SM m) (T : SM n) : noptics_Join k m n = some (⟨⟨0, 0⟩, ⟨0, 0⟩, ⟨0, 0⟩, ⟨0, 0⟩⟩, 8) ∨ ∃ x, noptics_Join k m n = some (x, 0) ∧ SM x ∧ vm x = muR (vm n) (vm m) := by
  obtain ⟨a, _, _, _, _, a', q1, e1, f1, f2, f3, k1, s1, m1, v1⟩ := prod_step k hk (q := ⟨false⟩) (a' := n.A) (b' := m.A) (c' := n.B) (d' := m.C) (fun _ => rfl) (fun _ => rfl) (fun _ => rfl) (fun _ => rfl) T.a S.a T.b S.c
  obtain ⟨b, _, _, _, _, b', q2, e2, f4, f5, f6, k2, s2, m2, v2⟩ := prod_step k hk (q := q1) (a' := n.A) (b' := m.B) (c' := n.B) (d' := m.D) (fun _ => rfl) (fun _ => rfl) (fun _ => rfl) (fun _ => rfl) T.a S.b T.b S.d
  obtain ⟨c, _, _, _, _, c', q3, e3, f7, f8, f9, k3, s3, m3, v3⟩ := prod_step k hk (q := q2) (a' := n.C) (b' := m.A) (c' := n.D) (d' := m.C) (fun _ => rfl) (fun _ => rfl) (fun _ => rfl) (fun _ => rfl) T.c S.a T.d S.c
  obtain ⟨d, _, _, _, _, d', q4, e4, g1, g2, g3, k4, s4, m4, v4⟩ := prod_step k hk (q := q3) (a' := n.C) (b' := m.B) (c' := n.D) (d' := m.D) (fun _ => rfl) (fun _ => rfl) (fun _ => rfl) (fun _ => rfl) T.c S.b T.d S.d
  unfold noptics_Join noptics_beside_api_Matrix_
  rw [matrix_sm k hk S, Option.bind_some, matrix_sm k hk T, Option.bind_some, first_two k hk, Option.bind_some, if_pos rfl, if_pos rfl, show (⟨0⟩ : Sway) = fl ⟨false⟩ from rfl, e1, Option.bind_some, e2, Option.bind_some, e3, Option.bind_some, e4, Option.bind_some]
  dsimp only
  rw [first_one k hk, Option.bind_some, fl_failed]
  cases hq : q4.Large with
  | true => exact .inl rfl
  | false =>
    have h3 := k4 hq; have h2 := k3 h3; have h1 := k2 h2
    rw [s1 h1, s2 h2, s3 h3, s4 hq]
    refine .inr ⟨⟨a', b', c', d'⟩, rfl, ⟨m1, m2, m3, m4⟩, ?_⟩
    unfold vm muR
    dsimp only
    rw [val_prod T.a S.a T.b S.c m1 (v1 h1), val_prod T.a S.b T.b S.d m2 (v2 h2), val_prod T.c S.a T.d S.c m3 (v3 h3), val_prod T.c S.b T.d S.d m4 (v4 hq)]
theorem vm_inj {m n : SMatrix} (S : SM m) (T : SM n) (h : vm m = vm n) : m = n := by
  unfold vm at h
  injection h with h1 h2 h3 h4
  have e1 := val_inj S.a T.a h1
  have e2 := val_inj S.b T.b h2
  have e3 := val_inj S.c T.c h3
  have e4 := val_inj S.d T.d h4
  cases m; cases n
  simp only at e1 e2 e3 e4
  rw [e1, e2, e3, e4]
theorem mod_any (k : Nat) (a : Int) {n : Int} (h0 : 0 < n) (h1 : n ≤ 1000000000) : ∃ r, nspeculumbase_Mod k a n = some r ∧ 0 ≤ r ∧ r < n := by
  have t1 := Int.tmod_lt_of_pos a h0
  have t2 : -n < a.tmod n := by
    have := Int.tmod_lt_of_pos (-a) h0
    rw [Int.neg_tmod] at this; omega
  unfold nspeculumbase_Mod
  rw [if_pos (by omega)]
  by_cases c : a.tmod n < 0
  · rw [if_pos c, w64_id (by omega) (by omega)]; exact ⟨_, rfl, by omega, by omega⟩
  · rw [if_neg c]; exact ⟨_, rfl, by omega, by omega⟩
theorem law_parts (xs : List SElement) (at_ : Int) : nspeculumlaw02_OpticsParts big xs at_ = some true := by
  have hk : 100000000000000000000 ≤ big := by decide
  unfold nspeculumlaw02_OpticsParts
  rw [awake_big, Option.bind_some, if_pos rfl]
  by_cases c : 8 < (xs.length : Int)
  · rw [if_pos c]
  · rw [if_neg c, w64_id (by omega) (by omega)]
    obtain ⟨r, r1, r2, r3⟩ := mod_any big at_ (n := (xs.length : Int) + 1) (by omega) (by omega)
    have t1 : sl xs 0 r.toNat = xs.take r.toNat := by unfold sl; rw [List.drop_zero]; rfl
    have t2 : sl xs r.toNat xs.length = xs.drop r.toNat := by unfold sl; rw [List.take_of_length_le (by rw [List.length_drop]; omega)]
    have l1 : (xs.take r.toNat).length ≤ 8 := by rw [List.length_take]; omega
    have l2 : (xs.drop r.toNat).length ≤ 8 := by rw [List.length_drop]; omega
    obtain ⟨m, m1, m2⟩ := matrixV big hk xs (by omega)
    obtain ⟨a, a1, a2⟩ := matrixV big hk (xs.take r.toNat) l1
    obtain ⟨b, b1, b2⟩ := matrixV big hk (xs.drop r.toNat) l2
    have hz : ([] : List SElement).length = 0 := rfl
    rw [r1, Option.bind_some, if_pos (by omega), List.nil_append, m1, Option.bind_some, if_pos (by omega), t1, if_pos (by omega), List.nil_append, a1, Option.bind_some, if_pos (by omega), t2, if_pos (by omega), List.nil_append, b1, Option.bind_some]
    by_cases h1 : m.2 = 0
    · by_cases h2 : a.2 = 0
      · by_cases h3 : b.2 = 0
        · rw [if_pos h1, if_pos h2, if_pos h3]
          obtain ⟨M, M2⟩ := m2 h1
          obtain ⟨A, A2⟩ := a2 h2
          obtain ⟨B, B2⟩ := b2 h3
          rcases joinV big hk A B with hj | ⟨x, hj, X, X2⟩
          · rw [hj, Option.bind_some, if_pos rfl]
          · have e : x = m.1 := vm_inj X M (by rw [X2, M2, A2, B2, ← foR_parts, List.take_append_drop])
            rw [hj, Option.bind_some, if_neg (show ¬ (0 : Int) = 8 by decide), if_pos rfl, e]
            simp
        · rw [if_pos h1, if_pos h2, if_neg h3]
      · rw [if_pos h1, if_neg h2]
    · rw [if_neg h1]
theorem vc_parts (xs : List SElement) (i : Int) : VC Go.Proofs.Try.prog 5 [VV.tr (List.flatMap c_SElement xs) xs.length, vi i] (vb true) := nspeculumlaw02_OpticsParts_ok _ _ _ _ (law_parts xs i)
end Go.Proofs.Ytkffimkedibmnaa.Vg
