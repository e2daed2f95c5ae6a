/- Chapter 2, plain: points on a conic and rays behind a reflection. -/
import Derived.Test.YtkffimkedibmnaaOWb
import Derived.Test.YtkffimkedibmnaaWR
set_option linter.unusedVariables false
set_option linter.unusedSimpArgs false
namespace Go.Proofs.Ytkffimkedibmnaa.Vg
open Go Go.Proofs.Ytkffimkedibmnaa.Ev Go.Proofs.Ytkffimkedibmnaa.Vv
theorem checkFrac_ref (k : Nat) (hk : 100000000000000000000 ≤ k) {f : SFrac} (h : IF f) : nspeculumref02_CheckFrac k f = some (ckE f) := by
  have e := ckE_sm f
  unfold nspeculumref02_CheckFrac
  rw [isLowest_any k hk h, Option.bind_some, isSmall_any k hk h, Option.bind_some]
  cases hl : lowB f with
  | false => unfold ckE; rw [hl]; rfl
  | true =>
    rw [if_pos rfl]
    by_cases s : smB f = true
    · rw [if_pos s, e.2 s]
    · rw [if_neg s]
      have : ckE f ≠ 0 := fun h => s (e.1 h)
      unfold ckE at this ⊢
      rw [hl, if_pos rfl] at this ⊢
      split
      · rfl
      · split
        · rfl
        · rename_i h1 h2; rw [if_neg h1, if_neg h2] at this; exact absurd rfl this
def rayE (c : SConic) : Int := if conE c = 0 then (if inR (-200000) 200000 c.Radius = true ∧ inR (-10) 10 c.K.Num = true ∧ c.K.Den ≤ 10 then 0 else 2) else conE c
theorem ray_opt (k : Nat) (hk : 100000000000000000000 ≤ k) {c : SConic} (h : IC c) : noptics_checkRayConic k c = some (rayE c) := by
  unfold noptics_checkRayConic rayE
  rw [conic_opt k hk h, Option.bind_some]
  by_cases c0 : conE c = 0
  · rw [if_pos c0, if_pos c0, sized_any k _ (by decide) (by decide), Option.bind_some]
    by_cases h1 : inR (-200000) 200000 c.Radius = true
    · rw [if_pos h1, sized_any k _ (by decide) (by decide), Option.bind_some]
      by_cases h2 : inR (-10) 10 c.K.Num = true
      · rw [if_pos h2]
        by_cases h3 : 10 < c.K.Den
        · rw [if_pos h3, if_neg (fun hh => by have := hh.2.2; omega)]
        · rw [if_neg h3, if_pos ⟨h1, h2, by omega⟩]
      · rw [if_neg h2, if_neg (fun hh => h2 hh.2.1)]
    · rw [if_neg h1, if_neg (fun hh => h1 hh.1)]
  · rw [if_neg c0, if_neg c0]
theorem ray_ref (k : Nat) (hk : 100000000000000000000 ≤ k) {c : SConic} (h : IC c) : nspeculumref02_CheckRays k c = some (rayE c) := by
  unfold nspeculumref02_CheckRays rayE
  rw [conic_ref k hk h, Option.bind_some]
  by_cases c0 : conE c = 0
  · rw [if_pos c0, if_pos c0, within_base, Option.bind_some]
    by_cases h1 : inR (-200000) 200000 c.Radius = true
    · rw [if_pos h1, within_base, Option.bind_some]
      by_cases h2 : inR (-10) 10 c.K.Num = true
      · rw [if_pos h2]
        by_cases h3 : 10 < c.K.Den
        · rw [if_pos h3, if_neg (fun hh => by have := hh.2.2; omega)]
        · rw [if_neg h3, if_pos ⟨h1, h2, by omega⟩]
      · rw [if_neg h2, if_neg (fun hh => h2 hh.2.1)]
    · rw [if_neg h1, if_neg (fun hh => h1 hh.1)]
  · rw [if_neg c0, if_neg c0]
/-- a conic for rays. -/
structure RY (c : SConic) : Prop where
  r : -200000 ≤ c.Radius ∧ c.Radius ≤ 200000
  n : -10 ≤ c.K.Num ∧ c.K.Num ≤ 10
  d : 0 < c.K.Den ∧ c.K.Den ≤ 10
  g : gcF c.K = 1
theorem RY.of {c : SConic} (h : rayE c = 0) : RY c := by
  unfold rayE at h
  split at h
  · rename_i h0
    split at h
    · rename_i hh
      unfold conE at h0
      split at h0
      · cases h0
      · split at h0
        · cases h0
        · rename_i hl
          have hl : lowB c.K = true := by cases e : lowB c.K with
            | true => rfl
            | false => exact absurd e hl
          unfold lowB at hl
          simp only [Bool.and_eq_true, decide_eq_true_eq] at hl
          exact ⟨inR_t.1 hh.1, inR_t.1 hh.2.1, ⟨hl.1, hh.2.2⟩, hl.2⟩
    · cases h
  · rename_i h0; exact absurd h h0
/-- 1 + K. -/
def oneF (c : SConic) : SFrac := ⟨c.K.Num + c.K.Den, c.K.Den⟩
theorem oneF_sm {c : SConic} (h : RY c) : Sm (oneF c) := by
  have := h.n; have := h.d
  refine ⟨h.d.1, by show c.K.Den ≤ _; omega, by show _ ≤ c.K.Num + c.K.Den; omega, by show c.K.Num + c.K.Den ≤ _; omega, ?_⟩
  have g := h.g
  unfold gcF at g ⊢
  have e : Int.gcd (c.K.Num + c.K.Den) c.K.Den = Int.gcd c.K.Num c.K.Den := by simp
  exact e.trans g
theorem low_self (k : Nat) (hk : 100000000000000000000 ≤ k) {f : SFrac} (h : Sm f) : nspeculumbase_Lowest k f.Num f.Den = some f := by
  have h1 := h.n0; have h2 := h.n1; have h3 := h.d0; have h4 := h.d1
  obtain ⟨g, _, e, _, g1, g2, g3, g4, g5⟩ := low_any k hk (n := f.Num) (d := f.Den) (by omega) (by omega) (by omega)
  have sg : Sm g := Sm.of (by unfold smB; rw [g3, inR_t.2 ⟨by omega, by omega⟩, decide_eq_true (by omega)]; rfl)
  rw [e, val_inj sg h]
  have c2 := cast_ne (x := g.Den) (by omega)
  have c3 := cast_ne (x := f.Den) (by omega)
  have c4 : (g.Num : Rat) * f.Den = f.Num * g.Den := by exact_mod_cast g2
  unfold val; grind
theorem one_ref (k : Nat) (hk : 100000000000000000000 ≤ k) {c : SConic} (h : RY c) : nspeculumref02_one k c = some (oneF c) := by
  have := h.n; have := h.d
  unfold nspeculumref02_one nspeculumref02_OnePlus
  rw [Option.bind_some]
  dsimp only
  rw [w64_id (by omega) (by omega), show nspeculumbase_Lowest k (c.K.Num + c.K.Den) c.K.Den = _ from low_self k hk (oneF_sm h), Option.bind_some]
theorem one_opt (k : Nat) {c : SConic} (h : RY c) : noptics_onePlusK k c = some (oneF c) := by
  have := h.n; have := h.d
  unfold noptics_onePlusK noptics_shape
  rw [Option.bind_some]
  dsimp only
  rw [w64_id (by omega) (by omega)]; rfl
theorem sm_zero {f : SFrac} (h : Sm f) (h0 : f.Num = 0) : f = ⟨0, 1⟩ := by
  have g := h.g; have := h.d0
  unfold gcF at g
  rw [h0] at g
  have : f.Den = 1 := by
    have e : Nat.gcd 0 f.Den.natAbs = f.Den.natAbs := Nat.gcd_zero_left _
    have e2 : Nat.gcd (0 : Int).natAbs f.Den.natAbs = Nat.gcd 0 f.Den.natAbs := rfl
    omega
  cases f; simp at h0 this; rw [h0, this]
def spE (s : SSpot) : Int := fcE [s.R, s.Z]
theorem spot_opt (k : Nat) (hk : 100000000000000000000 ≤ k) {s : SSpot} (h1 : IF s.R) (h2 : IF s.Z) : noptics_checkFracs k [s.R, s.Z] = some (spE s) := checkFracs_any k hk _ (fun f hf => by
    simp only [List.mem_cons, List.not_mem_nil, or_false] at hf
    rcases hf with rfl | rfl
    · exact h1
    · exact h2) (by simp)
theorem spot_ref (k : Nat) (hk : 100000000000000000000 ≤ k) {s : SSpot} (h1 : IF s.R) (h2 : IF s.Z) : nspeculumref02_CheckSpot k s = some (spE s) := by
  unfold nspeculumref02_CheckSpot spE
  rw [checkFrac_ref k hk h1, Option.bind_some]
  simp only [fcE]
  by_cases c : ckE s.R = 0
  · rw [if_pos c, if_pos c, checkFrac_ref k hk h2, Option.bind_some]
    by_cases c2 : ckE s.Z = 0
    · rw [if_pos c2, c2]
    · rw [if_neg c2]
  · rw [if_neg c, if_neg c]
theorem fcE_cons {f : SFrac} {l : List SFrac} (h : fcE (f :: l) = 0) : ckE f = 0 ∧ fcE l = 0 := by
  simp only [fcE] at h
  split at h
  · exact ⟨by assumption, h⟩
  · exact absurd h (by assumption)
theorem spE_sm {s : SSpot} (h : spE s = 0) : Sm s.R ∧ Sm s.Z := by
  obtain ⟨h1, h⟩ := fcE_cons h
  obtain ⟨h2, _⟩ := fcE_cons h
  exact ⟨Sm.of ((ckE_sm _).1 h1), Sm.of ((ckE_sm _).1 h2)⟩
theorem mul_swap (k : Nat) (q : SWay) (a b : SFrac) : n_speculumref02_Way_Mul k q a b = n_speculumref02_Way_Mul k q b a := by
  unfold n_speculumref02_Way_Mul
  rw [Int.mul_comm a.Num, Int.mul_comm a.Den]
/-- a step of the reference says the same in every state. -/
def st (s : Bool) (q : SWay) : SWay := if s = true then q else ⟨true⟩
theorem fit_at {k : Nat} {q q' : SWay} {n d : Int} {w : SFrac} (h : n_speculumref02_Way_fit k q n d = some (w, q')) : ∃ s, q' = st s q ∧ ∀ p, n_speculumref02_Way_fit k p n d = some (w, st s p) := by
  unfold n_speculumref02_Way_fit at h ⊢
  cases e : nspeculumbase_Lowest k n d with
  | none => rw [e] at h; cases h
  | some f =>
    rw [e, Option.bind_some] at h
    cases e2 : nspeculumbase_IsSmall k f with
    | none => rw [e2] at h; cases h
    | some b =>
      rw [e2, Option.bind_some] at h
      cases b with
      | true => rw [if_pos rfl] at h; cases h; exact ⟨true, rfl, fun p => by rw [Option.bind_some, e2, Option.bind_some]; rfl⟩
      | false => rw [if_neg (by decide)] at h; cases h; exact ⟨false, rfl, fun p => by rw [Option.bind_some, e2, Option.bind_some]; rfl⟩
theorem mul_at {k : Nat} {q q' : SWay} {a b w : SFrac} (h : n_speculumref02_Way_Mul k q a b = some (w, q')) : ∃ s, q' = st s q ∧ ∀ p, n_speculumref02_Way_Mul k p a b = some (w, st s p) := by
  unfold n_speculumref02_Way_Mul at h ⊢
  cases e : n_speculumref02_Way_fit k q (w64 (a.Num * b.Num)) (w64 (a.Den * b.Den)) with
  | none => rw [e] at h; cases h
  | some x =>
    rw [e, Option.bind_some] at h
    cases h
    obtain ⟨s, s1, s2⟩ := fit_at e
    exact ⟨s, s1, fun p => by rw [s2]; rfl⟩
theorem add_at {k : Nat} {q q' : SWay} {a b w : SFrac} (h : n_speculumref02_Way_Add k q a b = some (w, q')) : ∃ s, q' = st s q ∧ ∀ p, n_speculumref02_Way_Add k p a b = some (w, st s p) := by
  unfold n_speculumref02_Way_Add at h ⊢
  cases e : n_speculumref02_Way_fit k q (w64 ((w64 (a.Num * b.Den)) + (w64 (b.Num * a.Den)))) (w64 (a.Den * b.Den)) with
  | none => rw [e] at h; cases h
  | some x =>
    rw [e, Option.bind_some] at h
    cases h
    obtain ⟨s, s1, s2⟩ := fit_at e
    exact ⟨s, s1, fun p => by rw [s2]; rfl⟩
theorem st_swap (s1 s2 : Bool) (q : SWay) : st s1 (st s2 q) = st s2 (st s1 q) := by
  unfold st; cases s1 <;> cases s2 <;> rfl
theorem onConic_both (k : Nat) (hk : 100000000000000000000 ≤ k) {c : SConic} {s : SSpot} (hc : IC c) (h1 : IF s.R) (h2 : IF s.Z) (hr : rayE c = 0) (hs : spE s = 0) : ∃ r, noptics_OnConic k c s = some r ∧ nspeculumref02_OnConic k c s = some r := by
  have Y := RY.of hr
  obtain ⟨S1, S2⟩ := spE_sm hs
  have sr : Sm ⟨2 * c.Radius, 1⟩ := sm_whole (by have := Y.r; omega)
  obtain ⟨a', a, q1, e1, f1, A1⟩ := mul_step k hk (q := ⟨false⟩) (a' := s.R) (b' := s.R) (fun _ => rfl) (fun _ => rfl) S1 S1
  obtain ⟨b', b, q2, e2, f2, A2⟩ := mul_step k hk (q := q1) (a' := s.Z) (b' := s.Z) (fun _ => rfl) (fun _ => rfl) S2 S2
  obtain ⟨d', d, q3, e3, f3, A3⟩ := mul_step k hk (q := q2) (a' := oneF c) (fun _ => rfl) A2.same (oneF_sm Y) A2.sm
  obtain ⟨x', x, q4, e4, f4, A4⟩ := add_step k hk (q := q3) (fun h => A1.same (A2.keep (A3.keep h))) A3.same A1.sm A3.sm
  obtain ⟨y', y, q5, e5, f5, A5⟩ := mul_step k hk (q := q4) (a' := ⟨2 * c.Radius, 1⟩) (b' := s.Z) (fun _ => rfl) (fun _ => rfl) sr S2
  obtain ⟨z', z, q6, e6, f6, A6⟩ := sub_step k hk (q := q5) (fun h => A4.same (A5.keep h)) A5.same A4.sm A5.sm
  unfold noptics_OnConic nspeculumref02_OnConic noptics_whole nspeculumref02_Whole noptics_beside_bool_
  rw [ray_opt k hk hc, Option.bind_some, spot_opt k hk h1 h2, Option.bind_some, hr, hs, first_two k hk, Option.bind_some, if_pos rfl, if_pos rfl, show (⟨0⟩ : Sway) = fl ⟨false⟩ from rfl, e1, Option.bind_some, one_opt k Y, Option.bind_some, e2, Option.bind_some, e3, Option.bind_some, e4, Option.bind_some, Option.bind_some, w64_id (n := 2 * c.Radius) (by have := Y.r; omega) (by have := Y.r; omega), e5, Option.bind_some, e6, Option.bind_some, Option.bind_some, f1, Option.bind_some, one_ref k hk Y, Option.bind_some, f2, Option.bind_some, f3, Option.bind_some, f4, Option.bind_some, Option.bind_some, f5, Option.bind_some, f6, Option.bind_some]
  dsimp only
  rw [first_one k hk, Option.bind_some, fl_failed]
  cases hq : q6.Large with
  | true => exact ⟨_, rfl, rfl⟩
  | false =>
    rw [A6.same hq, show (if false = true then (8 : Int) else 0) = 0 from rfl, if_pos rfl, if_neg Bool.false_ne_true, Option.bind_some]
    refine ⟨_, rfl, ?_⟩
    congr 2
    by_cases h0 : z.Num = 0
    · rw [sm_zero A6.sm h0]; rfl
    · rw [decide_eq_false h0, beq_eq_false_iff_ne.2 h0]; rfl
/-- a right direction. -/
def towE (t : A63) : Int := if inR (-1000) 1000 t.e0 = true ∧ inR (-1000) 1000 t.e1 = true then (if t.e0 = 0 ∧ t.e1 = 0 then 11 else 0) else 2
theorem tow_opt (k : Nat) (t : A63) : noptics_checkToward k t = some (towE t) := by
  unfold noptics_checkToward
  rw [sized_any k _ (by decide) (by decide), Option.bind_some]
  by_cases h1 : inR (-1000) 1000 t.e0 = true
  · rw [if_pos h1, sized_any k _ (by decide) (by decide), Option.bind_some]
    by_cases h2 : inR (-1000) 1000 t.e1 = true
    · rw [if_pos h2, show towE t = (if t.e0 = 0 ∧ t.e1 = 0 then 11 else 0) from if_pos ⟨h1, h2⟩]
      by_cases h3 : t.e0 = 0 ∧ t.e1 = 0
      · rw [if_pos h3, h3.1, h3.2]; rfl
      · rw [if_neg h3, if_neg (fun hh => by
          simp only [Bool.and_eq_true, beq_iff_eq] at hh
          exact h3 ⟨hh.1, hh.2.1⟩)]
    · rw [if_neg h2, show towE t = 2 from if_neg (fun hh => h2 hh.2)]
  · rw [if_neg h1, show towE t = 2 from if_neg (fun hh => h1 hh.1)]
theorem tow_ref (k : Nat) (t : A63) : nspeculumref02_CheckToward k t = some (towE t) := by
  unfold nspeculumref02_CheckToward
  rw [within_base, Option.bind_some]
  by_cases h1 : inR (-1000) 1000 t.e0 = true
  · rw [if_pos h1, within_base, Option.bind_some]
    by_cases h2 : inR (-1000) 1000 t.e1 = true
    · rw [if_pos h2, show towE t = (if t.e0 = 0 ∧ t.e1 = 0 then 11 else 0) from if_pos ⟨h1, h2⟩]
      by_cases h3 : t.e0 = 0
      · rw [if_pos h3]
        by_cases h4 : t.e1 = 0
        · rw [if_pos h4, show (if t.e0 = 0 ∧ t.e1 = 0 then (11 : Int) else 0) = 11 from if_pos ⟨h3, h4⟩]
        · rw [if_neg h4, show (if t.e0 = 0 ∧ t.e1 = 0 then (11 : Int) else 0) = 0 from if_neg (fun hh => h4 hh.2)]
      · rw [if_neg h3, show (if t.e0 = 0 ∧ t.e1 = 0 then (11 : Int) else 0) = 0 from if_neg (fun hh => h3 hh.1)]
    · rw [if_neg h2, show towE t = 2 from if_neg (fun hh => h2 hh.2)]
  · rw [if_neg h1, show towE t = 2 from if_neg (fun hh => h1 hh.1)]
theorem sqnn (x : Int) : 0 ≤ x * x := by
  rcases Int.le_total 0 x with h | h
  · exact Int.mul_nonneg h h
  · have := Int.mul_nonneg (show 0 ≤ -x by omega) (show 0 ≤ -x by omega)
    rwa [Int.neg_mul_neg] at this
/-- a mirrored ray. -/
theorem mirror_step (k : Nat) (hk : 100000000000000000000 ≤ k) {q : SWay} {t0 t1 R n' n : SFrac} (s0 : Sm t0) (s1 : Sm t1) (sr : Sm R) (sn : Sm n) (hn : q.Large = false → n' = n) (nz : R.Num ≠ 0 ∨ n.Num ≠ 0) :
    ∃ v q' p1 q1 p2 q2 s q3 r1 q4 r2 q5 r q6 m q7 u q8 a q9 c0 q10 b q11 c1, n_optics_way_mirrored k (fl q) ⟨t0, t1⟩ ⟨R, n'⟩ = some (v, fl q') ∧
      n_speculumref02_Way_Mul k q t0 R = some (p1, q1) ∧ n_speculumref02_Way_Mul k q1 t1 n = some (p2, q2) ∧ n_speculumref02_Way_Add k q2 p1 p2 = some (s, q3) ∧ n_speculumref02_Way_Mul k q3 R R = some (r1, q4) ∧ n_speculumref02_Way_Mul k q4 n n = some (r2, q5) ∧ n_speculumref02_Way_Add k q5 r1 r2 = some (r, q6) ∧ n_speculumref02_Way_Mul k q6 ⟨2, 1⟩ s = some (m, q7) ∧ n_speculumref02_Way_Quo k q7 m r = some (u, q8) ∧ n_speculumref02_Way_Mul k q8 u R = some (a, q9) ∧ n_speculumref02_Way_Sub k q9 t0 a = some (c0, q10) ∧ n_speculumref02_Way_Mul k q10 u n = some (b, q11) ∧ n_speculumref02_Way_Sub k q11 t1 b = some (c1, q') ∧ (q'.Large = false → v = ⟨c0, c1⟩) := by
  have s2 : Sm ⟨2, 1⟩ := sm_whole (by decide)
  obtain ⟨v1, p1, q1, p2, q2, s, q3, e1, f1, f2, f3, k3, m3, S3, _⟩ := prod_step k hk (q := q) (a' := t0) (b' := R) (c' := t1) (fun _ => rfl) (fun _ => rfl) (fun _ => rfl) hn s0 sr s1 sn
  obtain ⟨v2, m, p4, e2, f4, M⟩ := mul_step k hk (q := q3) (b' := ⟨2, 1⟩) m3 (fun _ => rfl) S3 s2
  have kn : p4.Large = false → n' = n := fun h => hn (k3 (M.keep h))
  obtain ⟨v3, r1, p5, r2, p6, r, p7, e3, f5, f6, f7, k7, m7, S7, V7⟩ := prod_step k hk (q := p4) (a' := R) (b' := R) (fun _ => rfl) (fun _ => rfl) kn kn sr sr sn sn
  have rz : p7.Large = false → r.Num ≠ 0 := by
    intro h h0
    obtain ⟨a1, a2, a3, b1, b2⟩ := V7 h
    rw [h0, Int.zero_mul] at a3
    have w1 := b1.d0; have w2 := b2.d0; have wr := S7.d0; have dr := sr.d0; have dn := sn.d0
    have z : r1.Num * r2.Den + r2.Num * r1.Den = 0 := by
      rcases Int.mul_eq_zero.1 a3.symm with h | h
      · exact h
      · omega
    have n1 : 0 ≤ r1.Num := by
      have := Int.mul_nonneg (sqnn R.Num) (show 0 ≤ r1.Den by omega)
      rcases Int.lt_or_le r1.Num 0 with h | h
      · have := Int.mul_lt_mul_of_pos_right h (Int.mul_pos dr dr); omega
      · exact h
    have n2 : 0 ≤ r2.Num := by
      have := Int.mul_nonneg (sqnn n.Num) (show 0 ≤ r2.Den by omega)
      rcases Int.lt_or_le r2.Num 0 with h | h
      · have := Int.mul_lt_mul_of_pos_right h (Int.mul_pos dn dn); omega
      · exact h
    have y1 := Int.mul_nonneg n1 (show 0 ≤ r2.Den by omega)
    have y2 := Int.mul_nonneg n2 (show 0 ≤ r1.Den by omega)
    have z1 : r1.Num = 0 := by
      rcases Int.mul_eq_zero.1 (show r1.Num * r2.Den = 0 by omega) with h | h
      · exact h
      · omega
    have z2 : r2.Num = 0 := by
      rcases Int.mul_eq_zero.1 (show r2.Num * r1.Den = 0 by omega) with h | h
      · exact h
      · omega
    rw [z1, Int.zero_mul] at a1
    rw [z2, Int.zero_mul] at a2
    rcases nz with h | h
    · rcases Int.mul_eq_zero.1 a1.symm with h' | h'
      · rcases Int.mul_eq_zero.1 h' with h' | h' <;> exact h h'
      · omega
    · rcases Int.mul_eq_zero.1 a2.symm with h' | h'
      · rcases Int.mul_eq_zero.1 h' with h' | h' <;> exact h h'
      · omega
  obtain ⟨v4, u, q8, e4, f8, U⟩ := quo_step k hk (q := p7) (fun h => M.same (k7 h)) m7 M.sm S7 rz
  obtain ⟨v5, a, q9, e5, f9, A⟩ := mul_step k hk (q := q8) (b' := R) U.same (fun _ => rfl) U.sm sr
  obtain ⟨v6, c0, q10, e6, f10, C0⟩ := sub_step k hk (q := q9) (a' := t0) (fun _ => rfl) A.same s0 A.sm
  obtain ⟨v7, b, q11, e7, f11, B⟩ := mul_step k hk (q := q10) (fun h => U.same (A.keep (C0.keep h))) (fun h => kn (k7 (U.keep (A.keep (C0.keep h))))) U.sm sn
  obtain ⟨v8, c1, q12, e8, f12, C1⟩ := sub_step k hk (q := q11) (a' := t1) (fun _ => rfl) B.same s1 B.sm
  -- the other order
  obtain ⟨g4, g4a, g4b⟩ := mul_at f4
  obtain ⟨g5, g5a, g5b⟩ := mul_at f5
  obtain ⟨g6, g6a, g6b⟩ := mul_at f6
  obtain ⟨g7, g7a, g7b⟩ := add_at f7
  have eq7 : p7 = st g4 (st g7 (st g6 (st g5 q3))) := by
    rw [g7a, g6a, g5a, g4a, st_swap g5 g4, st_swap g6 g4, st_swap g7 g4]
  refine ⟨⟨v6, v8⟩, q12, p1, q1, p2, q2, s, q3, r1, _, r2, _, r, _, m, p7, u, q8, a, q9, c0, q10, b, q11, c1, ?_, f1, f2, f3, g5b q3, g6b _, g7b _, ?_, f8, f9, f10, f11, f12, fun h => ?_⟩
  · unfold n_optics_way_mirrored noptics_whole
    dsimp only
    rw [e1, Option.bind_some, Option.bind_some, e2, Option.bind_some, e3, Option.bind_some, e4, Option.bind_some, e5, Option.bind_some, e6, Option.bind_some, e7, Option.bind_some, e8, Option.bind_some]
  · rw [mul_swap, g4b, eq7]
  · rw [C0.same (B.keep (C1.keep h)), C1.same h]
theorem times_zero (k : Nat) (hk : 100000000000000000000 ≤ k) {t : Int} (ht : -1000 ≤ t ∧ t ≤ 1000) : n_optics_way_times k ⟨0⟩ ⟨t, 1⟩ ⟨0, 1⟩ = some (⟨0, 1⟩, ⟨0⟩) := by
  obtain ⟨v, w, q, e1, f1, S⟩ := mul_step k hk (q := ⟨false⟩) (a' := ⟨t, 1⟩) (b' := ⟨0, 1⟩) (fun _ => rfl) (fun _ => rfl) (sm_whole (by omega)) one_small
  obtain ⟨w', q', g1, _, _, _, _, g6⟩ := fit_any k hk (n := t * 0) (d := 1 * 1) (by omega) (by omega) (by omega) ⟨false⟩
  have f1' := f1
  unfold n_speculumref02_Way_Mul at f1'
  dsimp only at f1'
  rw [w64_id (n := t * 0) (by omega) (by omega), w64_id (n := 1 * 1) (by omega) (by omega), g1, Option.bind_some] at f1'
  cases f1'
  rw [g6 (by omega) (by omega)] at e1 S
  have hv := S.val rfl
  have h0 : w'.Num = 0 := by dsimp only at hv; omega
  rw [show (⟨0⟩ : Sway) = fl ⟨false⟩ from rfl, e1, S.same rfl, sm_zero S.sm h0]
theorem mirror_zero (t0 t1 : Int) (h0 : -1000 ≤ t0 ∧ t0 ≤ 1000) (h1 : -1000 ≤ t1 ∧ t1 ≤ 1000) : ∃ v, n_optics_way_mirrored big ⟨0⟩ ⟨⟨t0, 1⟩, ⟨t1, 1⟩⟩ ⟨⟨0, 1⟩, ⟨0, 1⟩⟩ = some (v, ⟨11⟩) := by
  have p1 : n_optics_way_plus big ⟨0⟩ ⟨0, 1⟩ ⟨0, 1⟩ = some (⟨0, 1⟩, ⟨0⟩) := by kernel_rfl
  have p2 : n_optics_way_times big ⟨0⟩ ⟨0, 1⟩ ⟨2, 1⟩ = some (⟨0, 1⟩, ⟨0⟩) := by kernel_rfl
  have p3 : n_optics_way_products big ⟨0⟩ ⟨0, 1⟩ ⟨0, 1⟩ ⟨0, 1⟩ ⟨0, 1⟩ = some (⟨0, 1⟩, ⟨0⟩) := by kernel_rfl
  have p4 : n_optics_way_over big ⟨0⟩ ⟨0, 1⟩ ⟨0, 1⟩ = some (⟨0, 0⟩, ⟨11⟩) := by kernel_rfl
  have p5 : ∀ a b, n_optics_way_times big ⟨11⟩ a b = some (⟨0, 0⟩, ⟨11⟩) := fun _ _ => rfl
  have p6 : ∀ a b, n_optics_way_minus big ⟨11⟩ a b = some (⟨0, 0⟩, ⟨11⟩) := fun _ _ => rfl
  have p7 : n_optics_way_products big ⟨0⟩ ⟨t0, 1⟩ ⟨0, 1⟩ ⟨t1, 1⟩ ⟨0, 1⟩ = some (⟨0, 1⟩, ⟨0⟩) := by
    unfold n_optics_way_products
    rw [times_zero big (by decide) h0, Option.bind_some, times_zero big (by decide) h1, Option.bind_some, p1, Option.bind_some]
  unfold n_optics_way_mirrored noptics_whole
  dsimp only
  rw [p7, Option.bind_some, Option.bind_some, p2, Option.bind_some, p3, Option.bind_some, p4, Option.bind_some, p5, Option.bind_some, p6, Option.bind_some, p5, Option.bind_some, p6, Option.bind_some]
  exact ⟨_, rfl⟩
theorem tow_in {t : A63} (h : towE t = 0) : (-1000 ≤ t.e0 ∧ t.e0 ≤ 1000) ∧ (-1000 ≤ t.e1 ∧ t.e1 ≤ 1000) := by
  unfold towE at h
  split at h
  · rename_i hh; exact ⟨inR_t.1 hh.1, inR_t.1 hh.2⟩
  · cases h
theorem reflect_both {c : SConic} {s : SSpot} {t : A63} (hc : IC c) (h1 : IF s.R) (h2 : IF s.Z) (hr : rayE c = 0) (hs : spE s = 0) (ht : towE t = 0) : ∃ r, noptics_Reflect big c s t = some r ∧ nspeculumref02_Reflect big c s t = some r := by
  have hk : 100000000000000000000 ≤ big := by decide
  have Y := RY.of hr
  obtain ⟨S1, S2⟩ := spE_sm hs
  obtain ⟨T0, T1⟩ := tow_in ht
  obtain ⟨o, o1, o2⟩ := onConic_both big hk hc h1 h2 hr hs
  have srad : Sm ⟨c.Radius, 1⟩ := sm_whole (by have := Y.r; omega)
  obtain ⟨a', a, q1, e1, f1, A1⟩ := mul_step big hk (q := ⟨false⟩) (a' := oneF c) (b' := s.Z) (fun _ => rfl) (fun _ => rfl) (oneF_sm Y) S2
  obtain ⟨b', b, q2, e2, f2, A2⟩ := sub_step big hk (q := q1) (b' := ⟨c.Radius, 1⟩) A1.same (fun _ => rfl) A1.sm srad
  unfold noptics_Reflect nspeculumref02_Reflect noptics_whole nspeculumref02_Whole noptics_beside_2_api_Frac_
  rw [ray_opt big hk hc, Option.bind_some, spot_opt big hk h1 h2, Option.bind_some, tow_opt, Option.bind_some, hr, hs, ht, first_three big hk, Option.bind_some, if_pos rfl, if_pos rfl, if_pos rfl, o1, o2, Option.bind_some, Option.bind_some]
  by_cases c1 : o.2 = 0
  · rw [if_pos c1, if_pos c1]
    by_cases c2 : o.1 = true
    · rw [if_pos c2, if_pos c2, one_opt big Y, one_ref big hk Y, Option.bind_some, Option.bind_some, show (⟨0⟩ : Sway) = fl ⟨false⟩ from rfl, e1, Option.bind_some, Option.bind_some, e2, Option.bind_some, Option.bind_some, Option.bind_some, f1, Option.bind_some, Option.bind_some, f2, Option.bind_some]
      dsimp only
      cases hq : q2.Large with
      | true =>
        rw [if_pos rfl]
        have nz : ∀ v q', n_optics_way_mirrored big ⟨8⟩ v q' = some (⟨⟨0, 0⟩, ⟨0, 0⟩⟩, ⟨8⟩) := fun _ _ => rfl
        rw [fl_t hq, nz, Option.bind_some, first_one big hk]
        exact ⟨_, rfl, rfl⟩
      | false =>
        rw [if_neg (by decide)]
        by_cases z : s.R.Num = 0 ∧ b.Num = 0
        · rw [if_pos z.1, if_pos z.2]
          obtain ⟨v, hv⟩ := mirror_zero t.e0 t.e1 T0 T1
          rw [fl_f hq, A2.same hq, sm_zero S1 z.1, sm_zero A2.sm z.2, hv, Option.bind_some, first_one big hk]
          exact ⟨_, rfl, rfl⟩
        · obtain ⟨v, q', p1, g1, p2, g2, x, g3, r1, g4, r2, g5, r, g6, m, g7, u, g8, a, g9, c0, g10, b2, g11, c1, m0, m1, m2, m3, m4, m5, m6, m7, m8, m9, m10, m11, m12, m13⟩ := mirror_step big hk (q := q2) (t0 := ⟨t.e0, 1⟩) (t1 := ⟨t.e1, 1⟩) (R := s.R) (n' := b') (n := b) (sm_whole (by omega)) (sm_whole (by omega)) S1 A2.sm A2.same (by
            by_cases y : s.R.Num = 0
            · exact .inr (fun h => z ⟨y, h⟩)
            · exact .inl y)
          have fin : ∃ y, ((noptics_firstError big [(fl q').failed]).bind fun r1550 => (if r1550 = 0 then (some (v, 0)) else (some ((⟨(⟨0, 0⟩ : SFrac), (⟨0, 0⟩ : SFrac)⟩ : A66), r1550)))) = some y ∧ (if q'.Large = true then (some ((⟨(⟨0, 0⟩ : SFrac), (⟨0, 0⟩ : SFrac)⟩ : A66), 8)) else (some ((⟨c0, c1⟩ : A66), 0))) = some y := by
            rw [first_one big hk, Option.bind_some, fl_failed]
            cases hq' : q'.Large with
            | true => exact ⟨_, rfl, rfl⟩
            | false => rw [m13 hq']; exact ⟨_, rfl, rfl⟩
          obtain ⟨y, y1, y2⟩ := fin
          rw [m0, Option.bind_some]
          dsimp only
          rw [y1, Option.bind_some]
          refine ⟨_, rfl, ?_⟩
          by_cases y : s.R.Num = 0
          · rw [if_pos y, if_neg (fun h => z ⟨y, h⟩), Option.bind_some, Option.bind_some, m1, Option.bind_some, m2, Option.bind_some, m3, Option.bind_some, m4, Option.bind_some, m5, Option.bind_some, m6, Option.bind_some, Option.bind_some, m7, Option.bind_some, m8, Option.bind_some, m9, Option.bind_some, m10, Option.bind_some, m11, Option.bind_some, m12, Option.bind_some]
            exact y2
          · rw [if_neg y, Option.bind_some, Option.bind_some, m1, Option.bind_some, m2, Option.bind_some, m3, Option.bind_some, m4, Option.bind_some, m5, Option.bind_some, m6, Option.bind_some, Option.bind_some, m7, Option.bind_some, m8, Option.bind_some, m9, Option.bind_some, m10, Option.bind_some, m11, Option.bind_some, m12, Option.bind_some]
            exact y2
    · rw [if_neg c2, if_neg c2]; exact ⟨_, rfl, rfl⟩
  · rw [if_neg c1, if_neg c1]; exact ⟨_, rfl, rfl⟩
theorem law_reflects (c : SConic) (s : SSpot) (t : A63) (hc : IC c) (h1 : IF s.R) (h2 : IF s.Z) : nspeculumlaw02_OpticsReflects big c s t = some true := by
  have hk : 100000000000000000000 ≤ big := by decide
  unfold nspeculumlaw02_OpticsReflects
  rw [awake_big, Option.bind_some, if_pos rfl, ray_ref _ hk hc]
  have bad : ∀ e : Int, (if rayE c = 0 then (if spE s = 0 then towE t else spE s) else rayE c) = e → e ≠ 0 → noptics_Reflect big c s t = some (⟨⟨0, 0⟩, ⟨0, 0⟩⟩, e) := by
    intro e h h0
    unfold noptics_Reflect
    rw [ray_opt big hk hc, Option.bind_some, spot_opt big hk h1 h2, Option.bind_some, tow_opt, Option.bind_some, first_three big hk, Option.bind_some, h, if_neg h0]
  have bad2 : ∀ e : Int, (if rayE c = 0 then spE s else rayE c) = e → e ≠ 0 → noptics_OnConic big c s = some (false, e) := by
    intro e h h0
    unfold noptics_OnConic
    rw [ray_opt big hk hc, Option.bind_some, spot_opt big hk h1 h2, Option.bind_some, first_two big hk, Option.bind_some, h, if_neg h0]
  by_cases c1 : rayE c = 0
  · by_cases c2 : spE s = 0
    · obtain ⟨o, o1, o2⟩ := onConic_both big hk hc h1 h2 c1 c2
      by_cases c3 : towE t = 0
      · obtain ⟨r, r1, r2⟩ := reflect_both hc h1 h2 c1 c2 c3
        rw [o1, Option.bind_some, r1, Option.bind_some, Option.bind_some, if_pos c1, spot_ref _ hk h1 h2, Option.bind_some, if_pos c2, o2, Option.bind_some, if_pos rfl, if_pos (by simp), tow_ref, Option.bind_some, if_pos c3, r2, Option.bind_some, if_pos rfl]
        simp
      · rw [o1, Option.bind_some, bad (towE t) (by rw [if_pos c1, if_pos c2]) c3, Option.bind_some, Option.bind_some, if_pos c1, spot_ref _ hk h1 h2, Option.bind_some, if_pos c2, o2, Option.bind_some, if_pos rfl, if_pos (by simp), tow_ref, Option.bind_some, if_neg c3, if_pos rfl]
        rfl
    · rw [bad2 (spE s) (by rw [if_pos c1]) c2, bad (spE s) (by rw [if_pos c1, if_neg c2]) c2, Option.bind_some, Option.bind_some, Option.bind_some, if_pos c1, spot_ref _ hk h1 h2, Option.bind_some, if_neg c2, if_pos rfl, if_pos rfl]
      rfl
  · rw [bad2 (rayE c) (by rw [if_neg c1]) c1, bad (rayE c) (by rw [if_neg c1]) c1, Option.bind_some, Option.bind_some, Option.bind_some, if_neg c1, if_pos rfl, if_pos rfl]
    rfl
theorem vc_reflects (c : SConic) (s : SSpot) (t : A63) (hc : ((Vv.In64 c.Radius) ∧ ((Vv.In64 c.K.Num) ∧ (Vv.In64 c.K.Den)))) (hs : (((Vv.In64 s.R.Num) ∧ (Vv.In64 s.R.Den)) ∧ ((Vv.In64 s.Z.Num) ∧ (Vv.In64 s.Z.Den)))) : VC Go.Proofs.Try.prog 7 [VV.ag (c_SConic c), VV.ag (c_SSpot s), VV.ag (c_A63 t)] (vb true) := nspeculumlaw02_OpticsReflects_ok _ _ _ _ _ (law_reflects c s t ⟨hc.1, hc.2.1, hc.2.2⟩ ⟨hs.1.1, hs.1.2⟩ ⟨hs.2.1, hs.2.2⟩)
end Go.Proofs.Ytkffimkedibmnaa.Vg
