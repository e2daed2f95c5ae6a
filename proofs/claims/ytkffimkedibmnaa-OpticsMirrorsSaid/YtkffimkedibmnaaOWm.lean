/- Chapter 2, plain: light that comes the other way. -/
import Derived.Test.YtkffimkedibmnaaOWc
import Derived.Test.YtkffimkedibmnaaWM
set_option linter.unusedVariables false
set_option linter.unusedSimpArgs false
namespace Go.Proofs.Ytkffimkedibmnaa.Vg
open Go Go.Proofs.Ytkffimkedibmnaa.Ev Go.Proofs.Ytkffimkedibmnaa.Vv
theorem checkFrac_ref (k : Nat) (hk : 100000000000000000000 ≤ k) {f : SFrac} (h : IF f) : nspeculumref02_CheckFrac k f = some (ckE f) := by
  have e := ckE_sm f
  unfold nspeculumref02_CheckFrac
  rw [isLowest_any k hk h, Option.bind_some, isSmall_any k hk h, Option.bind_some]
  cases hl : lowB f with
  | false => unfold ckE; rw [hl]; rfl
  | true =>
    rw [if_pos rfl]
    by_cases s : smB f = true
    · rw [if_pos s, e.2 s]
    · rw [if_neg s]
      have : ckE f ≠ 0 := fun h => s (e.1 h)
      unfold ckE at this ⊢
      rw [hl, if_pos rfl] at this ⊢
      split
      · rfl
      · split
        · rfl
        · rename_i h1 h2; rw [if_neg h1, if_neg h2] at this; exact absurd rfl this
def rayE (c : SConic) : Int := if conE c = 0 then (if inR (-200000) 200000 c.Radius = true ∧ inR (-10) 10 c.K.Num = true ∧ c.K.Den ≤ 10 then 0 else 2) else conE c
theorem ray_opt (k : Nat) (hk : 100000000000000000000 ≤ k) {c : SConic} (h : IC c) : noptics_checkRayConic k c = some (rayE c) := by
  unfold noptics_checkRayConic rayE
  rw [conic_opt k hk h, Option.bind_some]
  by_cases c0 : conE c = 0
  · rw [if_pos c0, if_pos c0, sized_any k _ (by decide) (by decide), Option.bind_some]
    by_cases h1 : inR (-200000) 200000 c.Radius = true
    · rw [if_pos h1, sized_any k _ (by decide) (by decide), Option.bind_some]
      by_cases h2 : inR (-10) 10 c.K.Num = true
      · rw [if_pos h2]
        by_cases h3 : 10 < c.K.Den
        · rw [if_pos h3, if_neg (fun hh => by have := hh.2.2; omega)]
        · rw [if_neg h3, if_pos ⟨h1, h2, by omega⟩]
      · rw [if_neg h2, if_neg (fun hh => h2 hh.2.1)]
    · rw [if_neg h1, if_neg (fun hh => h1 hh.1)]
  · rw [if_neg c0, if_neg c0]
structure RY (c : SConic) : Prop where
  r : -200000 ≤ c.Radius ∧ c.Radius ≤ 200000
  n : -10 ≤ c.K.Num ∧ c.K.Num ≤ 10
  d : 0 < c.K.Den ∧ c.K.Den ≤ 10
  g : gcF c.K = 1
theorem RY.of {c : SConic} (h : rayE c = 0) : RY c := by
  unfold rayE at h
  split at h
  · rename_i h0
    split at h
    · rename_i hh
      unfold conE at h0
      split at h0
      · cases h0
      · split at h0
        · cases h0
        · rename_i hl
          have hl : lowB c.K = true := by cases e : lowB c.K with
            | true => rfl
            | false => exact absurd e hl
          unfold lowB at hl
          simp only [Bool.and_eq_true, decide_eq_true_eq] at hl
          exact ⟨inR_t.1 hh.1, inR_t.1 hh.2.1, ⟨hl.1, hh.2.2⟩, hl.2⟩
    · cases h
  · rename_i h0; exact absurd h h0
def oneF (c : SConic) : SFrac := ⟨c.K.Num + c.K.Den, c.K.Den⟩
theorem oneF_sm {c : SConic} (h : RY c) : Sm (oneF c) := by
  have := h.n; have := h.d
  refine ⟨h.d.1, by show c.K.Den ≤ _; omega, by show _ ≤ c.K.Num + c.K.Den; omega, by show c.K.Num + c.K.Den ≤ _; omega, ?_⟩
  have g := h.g
  unfold gcF at g ⊢
  have e : Int.gcd (c.K.Num + c.K.Den) c.K.Den = Int.gcd c.K.Num c.K.Den := by simp
  exact e.trans g
theorem one_opt (k : Nat) {c : SConic} (h : RY c) : noptics_onePlusK k c = some (oneF c) := by
  have := h.n; have := h.d
  unfold noptics_onePlusK noptics_shape
  rw [Option.bind_some]
  dsimp only
  rw [w64_id (by omega) (by omega)]; rfl
def spE (s : SSpot) : Int := fcE [s.R, s.Z]
theorem spot_opt (k : Nat) (hk : 100000000000000000000 ≤ k) {s : SSpot} (h1 : IF s.R) (h2 : IF s.Z) : noptics_checkFracs k [s.R, s.Z] = some (spE s) := checkFracs_any k hk _ (fun f hf => by
    simp only [List.mem_cons, List.not_mem_nil, or_false] at hf
    rcases hf with rfl | rfl
    · exact h1
    · exact h2) (by simp)
theorem spE_sm {s : SSpot} (h : spE s = 0) : Sm s.R ∧ Sm s.Z := by
  obtain ⟨h1, h⟩ := fcE_cons h
  obtain ⟨h2, _⟩ := fcE_cons h
  exact ⟨Sm.of ((ckE_sm _).1 h1), Sm.of ((ckE_sm _).1 h2)⟩
theorem onConic_opt (k : Nat) (hk : 100000000000000000000 ≤ k) {c : SConic} {s : SSpot} (hc : IC c) (h1 : IF s.R) (h2 : IF s.Z) (hr : rayE c = 0) (hs : spE s = 0) : ∃ r, noptics_OnConic k c s = some r := by
  have Y := RY.of hr
  obtain ⟨S1, S2⟩ := spE_sm hs
  have sr : Sm ⟨2 * c.Radius, 1⟩ := sm_whole (by have := Y.r; omega)
  obtain ⟨a', a, q1, e1, f1, A1⟩ := mul_step k hk (q := ⟨false⟩) (a' := s.R) (b' := s.R) (fun _ => rfl) (fun _ => rfl) S1 S1
  obtain ⟨b', b, q2, e2, f2, A2⟩ := mul_step k hk (q := q1) (a' := s.Z) (b' := s.Z) (fun _ => rfl) (fun _ => rfl) S2 S2
  obtain ⟨d', d, q3, e3, f3, A3⟩ := mul_step k hk (q := q2) (a' := oneF c) (fun _ => rfl) A2.same (oneF_sm Y) A2.sm
  obtain ⟨x', x, q4, e4, f4, A4⟩ := add_step k hk (q := q3) (fun h => A1.same (A2.keep (A3.keep h))) A3.same A1.sm A3.sm
  obtain ⟨y', y, q5, e5, f5, A5⟩ := mul_step k hk (q := q4) (a' := ⟨2 * c.Radius, 1⟩) (b' := s.Z) (fun _ => rfl) (fun _ => rfl) sr S2
  obtain ⟨z', z, q6, e6, f6, A6⟩ := sub_step k hk (q := q5) (fun h => A4.same (A5.keep h)) A5.same A4.sm A5.sm
  unfold noptics_OnConic noptics_whole noptics_beside_bool_
  rw [ray_opt k hk hc, Option.bind_some, spot_opt k hk h1 h2, Option.bind_some, hr, hs, first_two k hk, Option.bind_some, if_pos rfl, if_pos rfl, show (⟨0⟩ : Sway) = fl ⟨false⟩ from rfl, e1, Option.bind_some, one_opt k Y, Option.bind_some, e2, Option.bind_some, e3, Option.bind_some, e4, Option.bind_some, Option.bind_some, w64_id (n := 2 * c.Radius) (by have := Y.r; omega) (by have := Y.r; omega), e5, Option.bind_some, e6, Option.bind_some, Option.bind_some]
  dsimp only
  rw [first_one k hk, Option.bind_some, fl_failed]
  cases hq : q6.Large with
  | true => exact ⟨_, rfl⟩
  | false => exact ⟨_, rfl⟩
def towE (t : A63) : Int := if inR (-1000) 1000 t.e0 = true ∧ inR (-1000) 1000 t.e1 = true then (if t.e0 = 0 ∧ t.e1 = 0 then 11 else 0) else 2
theorem tow_opt (k : Nat) (t : A63) : noptics_checkToward k t = some (towE t) := by
  unfold noptics_checkToward
  rw [sized_any k _ (by decide) (by decide), Option.bind_some]
  by_cases h1 : inR (-1000) 1000 t.e0 = true
  · rw [if_pos h1, sized_any k _ (by decide) (by decide), Option.bind_some]
    by_cases h2 : inR (-1000) 1000 t.e1 = true
    · rw [if_pos h2, show towE t = (if t.e0 = 0 ∧ t.e1 = 0 then 11 else 0) from if_pos ⟨h1, h2⟩]
      by_cases h3 : t.e0 = 0 ∧ t.e1 = 0
      · rw [if_pos h3, h3.1, h3.2]; rfl
      · rw [if_neg h3, if_neg (fun hh => by
          simp only [Bool.and_eq_true, beq_iff_eq] at hh
          exact h3 ⟨hh.1, hh.2.1⟩)]
    · rw [if_neg h2, show towE t = 2 from if_neg (fun hh => h2 hh.2)]
  · rw [if_neg h1, show towE t = 2 from if_neg (fun hh => h1 hh.1)]
theorem tow_ref (k : Nat) (t : A63) : nspeculumref02_CheckToward k t = some (towE t) := by
  unfold nspeculumref02_CheckToward
  rw [within_base, Option.bind_some]
  by_cases h1 : inR (-1000) 1000 t.e0 = true
  · rw [if_pos h1, within_base, Option.bind_some]
    by_cases h2 : inR (-1000) 1000 t.e1 = true
    · rw [if_pos h2, show towE t = (if t.e0 = 0 ∧ t.e1 = 0 then 11 else 0) from if_pos ⟨h1, h2⟩]
      by_cases h3 : t.e0 = 0
      · rw [if_pos h3]
        by_cases h4 : t.e1 = 0
        · rw [if_pos h4, show (if t.e0 = 0 ∧ t.e1 = 0 then (11 : Int) else 0) = 11 from if_pos ⟨h3, h4⟩]
        · rw [if_neg h4, show (if t.e0 = 0 ∧ t.e1 = 0 then (11 : Int) else 0) = 0 from if_neg (fun hh => h4 hh.2)]
      · rw [if_neg h3, show (if t.e0 = 0 ∧ t.e1 = 0 then (11 : Int) else 0) = 0 from if_neg (fun hh => h3 hh.1)]
    · rw [if_neg h2, show towE t = 2 from if_neg (fun hh => h2 hh.2)]
  · rw [if_neg h1, show towE t = 2 from if_neg (fun hh => h1 hh.1)]
theorem tow_in {t : A63} (h : towE t = 0) : (-1000 ≤ t.e0 ∧ t.e0 ≤ 1000) ∧ (-1000 ≤ t.e1 ∧ t.e1 ≤ 1000) := by
  unfold towE at h
  split at h
  · rename_i hh; exact ⟨inR_t.1 hh.1, inR_t.1 hh.2⟩
  · cases h
theorem times_zero (k : Nat) (hk : 100000000000000000000 ≤ k) {t : Int} (ht : -1000 ≤ t ∧ t ≤ 1000) : n_optics_way_times k ⟨0⟩ ⟨t, 1⟩ ⟨0, 1⟩ = some (⟨0, 1⟩, ⟨0⟩) := by
  obtain ⟨v, w, q, e1, f1, S⟩ := mul_step k hk (q := ⟨false⟩) (a' := ⟨t, 1⟩) (b' := ⟨0, 1⟩) (fun _ => rfl) (fun _ => rfl) (sm_whole (by omega)) one_small
  obtain ⟨w', q', g1, _, _, _, _, g6⟩ := fit_any k hk (n := t * 0) (d := 1 * 1) (by omega) (by omega) (by omega) ⟨false⟩
  have f1' := f1
  unfold n_speculumref02_Way_Mul at f1'
  dsimp only at f1'
  rw [w64_id (n := t * 0) (by omega) (by omega), w64_id (n := 1 * 1) (by omega) (by omega), g1, Option.bind_some] at f1'
  cases f1'
  rw [g6 (by omega) (by omega)] at e1 S
  have hv := S.val rfl
  have h0 : w'.Num = 0 := by dsimp only at hv; omega
  rw [show (⟨0⟩ : Sway) = fl ⟨false⟩ from rfl, e1, S.same rfl, sm_zero S.sm h0]
theorem mirror_zero (t0 t1 : Int) (h0 : -1000 ≤ t0 ∧ t0 ≤ 1000) (h1 : -1000 ≤ t1 ∧ t1 ≤ 1000) : ∃ v, n_optics_way_mirrored big ⟨0⟩ ⟨⟨t0, 1⟩, ⟨t1, 1⟩⟩ ⟨⟨0, 1⟩, ⟨0, 1⟩⟩ = some (v, ⟨11⟩) := by
  have p1 : n_optics_way_plus big ⟨0⟩ ⟨0, 1⟩ ⟨0, 1⟩ = some (⟨0, 1⟩, ⟨0⟩) := by kernel_rfl
  have p2 : n_optics_way_times big ⟨0⟩ ⟨0, 1⟩ ⟨2, 1⟩ = some (⟨0, 1⟩, ⟨0⟩) := by kernel_rfl
  have p3 : n_optics_way_products big ⟨0⟩ ⟨0, 1⟩ ⟨0, 1⟩ ⟨0, 1⟩ ⟨0, 1⟩ = some (⟨0, 1⟩, ⟨0⟩) := by kernel_rfl
  have p4 : n_optics_way_over big ⟨0⟩ ⟨0, 1⟩ ⟨0, 1⟩ = some (⟨0, 0⟩, ⟨11⟩) := by kernel_rfl
  have p5 : ∀ a b, n_optics_way_times big ⟨11⟩ a b = some (⟨0, 0⟩, ⟨11⟩) := fun _ _ => rfl
  have p6 : ∀ a b, n_optics_way_minus big ⟨11⟩ a b = some (⟨0, 0⟩, ⟨11⟩) := fun _ _ => rfl
  have p7 : n_optics_way_products big ⟨0⟩ ⟨t0, 1⟩ ⟨0, 1⟩ ⟨t1, 1⟩ ⟨0, 1⟩ = some (⟨0, 1⟩, ⟨0⟩) := by
    unfold n_optics_way_products
    rw [times_zero big (by decide) h0, Option.bind_some, times_zero big (by decide) h1, Option.bind_some, p1, Option.bind_some]
  unfold n_optics_way_mirrored noptics_whole
  dsimp only
  rw [p7, Option.bind_some, Option.bind_some, p2, Option.bind_some, p3, Option.bind_some, p4, Option.bind_some, p5, Option.bind_some, p6, Option.bind_some, p5, Option.bind_some, p6, Option.bind_some]
  exact ⟨_, rfl⟩
theorem val_prod {a b c d w1 w2 w : SFrac} (sa : Sm a) (sb : Sm b) (sc : Sm c) (sd : Sm d) (sw : Sm w) (h : w1.Num * (a.Den * b.Den) = a.Num * b.Num * w1.Den ∧ w2.Num * (c.Den * d.Den) = c.Num * d.Num * w2.Den ∧ w.Num * (w1.Den * w2.Den) = (w1.Num * w2.Den + w2.Num * w1.Den) * w.Den ∧ Sm w1 ∧ Sm w2) : val w = val a * val b + val c * val d := by
  obtain ⟨h1, h2, h3, s1, s2⟩ := h
  rw [val_add sw.d0 s1.d0 s2.d0 h3, val_mul s1.d0 sa.d0 sb.d0 h1, val_mul s2.d0 sc.d0 sd.d0 h2]
/-- a mirrored ray, as numbers. -/
theorem mirrorV (k : Nat) (hk : 100000000000000000000 ≤ k) {q : SWay} {t0 t1 R n' n : SFrac} (s0 : Sm t0) (s1 : Sm t1) (sr : Sm R) (sn : Sm n) (hn : q.Large = false → n' = n) (nz : R.Num ≠ 0 ∨ n.Num ≠ 0) :
    ∃ v q' c0 c1, n_optics_way_mirrored k (fl q) ⟨t0, t1⟩ ⟨R, n'⟩ = some (v, fl q') ∧ Sm c0 ∧ Sm c1 ∧ (q'.Large = false → v = ⟨c0, c1⟩ ∧ val R * val R + val n * val n ≠ 0 ∧
      val c0 = val t0 - (val t0 * val R + val t1 * val n) * 2 / (val R * val R + val n * val n) * val R ∧ val c1 = val t1 - (val t0 * val R + val t1 * val n) * 2 / (val R * val R + val n * val n) * val n) := by
  have s2 : Sm ⟨2, 1⟩ := sm_whole (by decide)
  obtain ⟨v1, p1, q1, p2, q2, s, q3, e1, f1, f2, f3, k3, m3, S3, V3⟩ := prod_step k hk (q := q) (a' := t0) (b' := R) (c' := t1) (fun _ => rfl) (fun _ => rfl) (fun _ => rfl) hn s0 sr s1 sn
  obtain ⟨v2, m, p4, e2, f4, M⟩ := mul_step k hk (q := q3) (b' := ⟨2, 1⟩) m3 (fun _ => rfl) S3 s2
  have kn : p4.Large = false → n' = n := fun h => hn (k3 (M.keep h))
  obtain ⟨v3, r1, p5, r2, p6, r, p7, e3, f5, f6, f7, k7, m7, S7, V7⟩ := prod_step k hk (q := p4) (a' := R) (b' := R) (fun _ => rfl) (fun _ => rfl) kn kn sr sr sn sn
  have rz : p7.Large = false → r.Num ≠ 0 := by
    intro h h0
    obtain ⟨a1, a2, a3, b1, b2⟩ := V7 h
    rw [h0, Int.zero_mul] at a3
    have w1 := b1.d0; have w2 := b2.d0; have wr := S7.d0; have dr := sr.d0; have dn := sn.d0
    have z : r1.Num * r2.Den + r2.Num * r1.Den = 0 := by
      rcases Int.mul_eq_zero.1 a3.symm with h | h
      · exact h
      · omega
    have n1 : 0 ≤ r1.Num := by
      have := Int.mul_nonneg (sqnn R.Num) (show 0 ≤ r1.Den by omega)
      rcases Int.lt_or_le r1.Num 0 with h | h
      · have := Int.mul_lt_mul_of_pos_right h (Int.mul_pos dr dr); omega
      · exact h
    have n2 : 0 ≤ r2.Num := by
      have := Int.mul_nonneg (sqnn n.Num) (show 0 ≤ r2.Den by omega)
      rcases Int.lt_or_le r2.Num 0 with h | h
      · have := Int.mul_lt_mul_of_pos_right h (Int.mul_pos dn dn); omega
      · exact h
    have y1 := Int.mul_nonneg n1 (show 0 ≤ r2.Den by omega)
    have y2 := Int.mul_nonneg n2 (show 0 ≤ r1.Den by omega)
    have z1 : r1.Num = 0 := by
      rcases Int.mul_eq_zero.1 (show r1.Num * r2.Den = 0 by omega) with h | h
      · exact h
      · omega
    have z2 : r2.Num = 0 := by
      rcases Int.mul_eq_zero.1 (show r2.Num * r1.Den = 0 by omega) with h | h
      · exact h
      · omega
    rw [z1, Int.zero_mul] at a1
    rw [z2, Int.zero_mul] at a2
    rcases nz with h | h
    · rcases Int.mul_eq_zero.1 a1.symm with h' | h'
      · rcases Int.mul_eq_zero.1 h' with h' | h' <;> exact h h'
      · omega
    · rcases Int.mul_eq_zero.1 a2.symm with h' | h'
      · rcases Int.mul_eq_zero.1 h' with h' | h' <;> exact h h'
      · omega
  obtain ⟨v4, u, q8, e4, f8, U⟩ := quo_step k hk (q := p7) (fun h => M.same (k7 h)) m7 M.sm S7 rz
  obtain ⟨v5, a, q9, e5, f9, A⟩ := mul_step k hk (q := q8) (b' := R) U.same (fun _ => rfl) U.sm sr
  obtain ⟨v6, c0, q10, e6, f10, C0⟩ := sub_step k hk (q := q9) (a' := t0) (fun _ => rfl) A.same s0 A.sm
  obtain ⟨v7, b, q11, e7, f11, B⟩ := mul_step k hk (q := q10) (fun h => U.same (A.keep (C0.keep h))) (fun h => kn (k7 (U.keep (A.keep (C0.keep h))))) U.sm sn
  obtain ⟨v8, c1, q12, e8, f12, C1⟩ := sub_step k hk (q := q11) (a' := t1) (fun _ => rfl) B.same s1 B.sm
  refine ⟨⟨v6, v8⟩, q12, c0, c1, ?_, C0.sm, C1.sm, fun h => ?_⟩
  · unfold n_optics_way_mirrored noptics_whole
    dsimp only
    rw [e1, Option.bind_some, Option.bind_some, e2, Option.bind_some, e3, Option.bind_some, e4, Option.bind_some, e5, Option.bind_some, e6, Option.bind_some, e7, Option.bind_some, e8, Option.bind_some]
  · have h11 := C1.keep h; have h10 := B.keep h11; have h9 := C0.keep h10; have h8 := A.keep h9; have h7 := U.keep h8; have h4 := k7 h7; have h3 := M.keep h4
    have vs : val s = val t0 * val R + val t1 * val n := val_prod s0 sr s1 sn S3 (V3 h3)
    have vr : val r = val R * val R + val n * val n := val_prod sr sr sn sn S7 (V7 h7)
    have vm : val m = val s * 2 := by rw [val_mul M.sm.d0 S3.d0 (by decide) (M.val h4), val_whole]; rfl
    have vu : val u = val m / val r := val_quo U.sm.d0 M.sm.d0 S7.d0 (rz h7) (U.val h8)
    have va : val a = val u * val R := val_mul A.sm.d0 U.sm.d0 sr.d0 (A.val h9)
    have vb : val b = val u * val n := val_mul B.sm.d0 U.sm.d0 sn.d0 (B.val h11)
    have v0 : val c0 = val t0 - val a := val_sub C0.sm.d0 s0.d0 A.sm.d0 (C0.val h10)
    have v1 : val c1 = val t1 - val b := val_sub C1.sm.d0 s1.d0 B.sm.d0 (C1.val h)
    refine ⟨by rw [C0.same h10, C1.same h], ?_, by rw [v0, va, vu, vm, vs, vr], by rw [v1, vb, vu, vm, vs, vr]⟩
    rw [← vr]
    have z := cast_ne (rz h7)
    have d := cast_ne (x := r.Den) (by have := S7.d0; omega)
    unfold val
    intro h
    grind
theorem reflV {c : SConic} {s : SSpot} (hc : IC c) (h1 : IF s.R) (h2 : IF s.Z) (hr : rayE c = 0) (hs : spE s = 0) : (∀ t, towE t = 0 → ∃ x e, noptics_Reflect big c s t = some (x, e) ∧ e ≠ 0) ∨
    ∃ N : Rat, ∀ t, towE t = 0 → ∃ x e, noptics_Reflect big c s t = some (x, e) ∧ (e = 8 ∨ e = 0) ∧ (e = 0 → Sm x.e0 ∧ Sm x.e1 ∧ val s.R * val s.R + N * N ≠ 0 ∧
      val x.e0 = (t.e0 : Rat) - ((t.e0 : Rat) * val s.R + (t.e1 : Rat) * N) * 2 / (val s.R * val s.R + N * N) * val s.R ∧ val x.e1 = (t.e1 : Rat) - ((t.e0 : Rat) * val s.R + (t.e1 : Rat) * N) * 2 / (val s.R * val s.R + N * N) * N) := by
  have hk : 100000000000000000000 ≤ big := by decide
  have Y := RY.of hr
  obtain ⟨S1, S2⟩ := spE_sm hs
  obtain ⟨o, o1⟩ := onConic_opt big hk hc h1 h2 hr hs
  have srad : Sm ⟨c.Radius, 1⟩ := sm_whole (by have := Y.r; omega)
  obtain ⟨a', a, q1, e1, f1, A1⟩ := mul_step big hk (q := ⟨false⟩) (a' := oneF c) (b' := s.Z) (fun _ => rfl) (fun _ => rfl) (oneF_sm Y) S2
  obtain ⟨b', b, q2, e2, f2, A2⟩ := sub_step big hk (q := q1) (b' := ⟨c.Radius, 1⟩) A1.same (fun _ => rfl) A1.sm srad
  have e2' : n_optics_way_minus big (fl q1) a' ⟨c.Radius, 1⟩ = some (b', fl q2) := e2
  have start : ∀ t, towE t = 0 → noptics_Reflect big c s t = if o.2 = 0 then (if o.1 = true then ((n_optics_way_mirrored big (fl q2) ⟨⟨t.e0, 1⟩, ⟨t.e1, 1⟩⟩ ⟨s.R, b'⟩).bind fun r1592 => ((noptics_beside_2_api_Frac_ big r1592.1 ([r1592.2.failed] : List Int)).bind fun r1596 => (some (r1596.1, r1596.2)))) else (some ((⟨(⟨0, 0⟩ : SFrac), (⟨0, 0⟩ : SFrac)⟩ : A66), 24))) else (some ((⟨(⟨0, 0⟩ : SFrac), (⟨0, 0⟩ : SFrac)⟩ : A66), o.2)) := by
    intro t ht
    unfold noptics_Reflect noptics_whole
    rw [ray_opt big hk hc, Option.bind_some, spot_opt big hk h1 h2, Option.bind_some, tow_opt, Option.bind_some, hr, hs, ht, first_three big hk, Option.bind_some, if_pos rfl, if_pos rfl, if_pos rfl, o1, Option.bind_some, one_opt big Y, Option.bind_some, show (⟨0⟩ : Sway) = fl ⟨false⟩ from rfl, e1, Option.bind_some, Option.bind_some, e2', Option.bind_some]
    rfl
  by_cases c1 : o.2 = 0
  · by_cases c2 : o.1 = true
    · by_cases hq : q2.Large = true
      · refine .inl fun t ht => ⟨⟨⟨0, 0⟩, ⟨0, 0⟩⟩, 8, ?_, by decide⟩
        have nz : ∀ v q', n_optics_way_mirrored big ⟨8⟩ v q' = some (⟨⟨0, 0⟩, ⟨0, 0⟩⟩, ⟨8⟩) := fun _ _ => rfl
        rw [start t ht, if_pos c1, if_pos c2, fl_t hq, nz, Option.bind_some]
        unfold noptics_beside_2_api_Frac_
        rw [first_one big hk]
        rfl
      · have hq' : q2.Large = false := by cases h : q2.Large with
          | true => exact absurd h hq
          | false => rfl
        by_cases z : s.R.Num = 0 ∧ b.Num = 0
        · refine .inl fun t ht => ⟨⟨⟨0, 0⟩, ⟨0, 0⟩⟩, 11, ?_, by decide⟩
          obtain ⟨T0, T1⟩ := tow_in ht
          obtain ⟨v, hv⟩ := mirror_zero t.e0 t.e1 T0 T1
          rw [start t ht, if_pos c1, if_pos c2, fl_f hq', A2.same hq', sm_zero S1 z.1, sm_zero A2.sm z.2, hv, Option.bind_some]
          unfold noptics_beside_2_api_Frac_
          rw [first_one big hk]
          rfl
        · refine .inr ⟨val b, fun t ht => ?_⟩
          obtain ⟨T0, T1⟩ := tow_in ht
          obtain ⟨v, q', x0, x1, m0, X0, X1, mv⟩ := mirrorV big hk (q := q2) (t0 := ⟨t.e0, 1⟩) (t1 := ⟨t.e1, 1⟩) (R := s.R) (n' := b') (n := b) (sm_whole (by omega)) (sm_whole (by omega)) S1 A2.sm A2.same (by
            by_cases y : s.R.Num = 0
            · exact .inr (fun h => z ⟨y, h⟩)
            · exact .inl y)
          rw [start t ht, if_pos c1, if_pos c2, m0, Option.bind_some]
          unfold noptics_beside_2_api_Frac_
          rw [first_one big hk, Option.bind_some, fl_failed]
          cases hq : q'.Large with
          | true => exact ⟨_, _, rfl, .inl rfl, fun h => absurd h (by decide)⟩
          | false =>
            obtain ⟨w1, w2, w3, w4⟩ := mv hq
            rw [w1]
            refine ⟨_, _, rfl, .inr rfl, fun _ => ⟨X0, X1, w2, ?_, ?_⟩⟩
            · rw [w3, val_whole, val_whole]
            · rw [w4, val_whole, val_whole]
    · exact .inl fun t ht => ⟨_, 24, by rw [start t ht, if_pos c1, if_neg c2], by decide⟩
  · exact .inl fun t ht => ⟨_, o.2, by rw [start t ht, if_neg c1], c1⟩
/-- a small fraction that is a whole number. -/
theorem sm_int {f : SFrac} (h : Sm f) {m : Int} (e : val f = (m : Rat)) : f = ⟨m, 1⟩ := by
  have d0 := h.d0
  have h2 := cast_ne (x := f.Den) (by omega)
  have h4 : (f.Num : Rat) = m * f.Den := by unfold val at e; grind
  have h5 : f.Num = m * f.Den := by exact_mod_cast h4
  have g := h.g
  unfold gcF at g
  rw [h5, Int.natAbs_mul, Nat.gcd_mul_left_left] at g
  have hd : f.Den = 1 := by omega
  rw [hd, Int.mul_one] at h5
  cases f; simp only at hd h5; rw [hd, h5]
theorem nat_quo {d g : Int} (hg : 1 ≤ g) {u : Int} (h : d = g * u) : d.tdiv g = u := by
  rw [h]; exact Int.mul_tdiv_cancel_left u (by omega)
theorem tail_mirrors {c : SConic} {s : SSpot} {t : A63} {x : A66} {R N : Rat} (T : (-1000 ≤ t.e0 ∧ t.e0 ≤ 1000) ∧ (-1000 ≤ t.e1 ∧ t.e1 ≤ 1000)) (X0 : Sm x.e0) (X1 : Sm x.e1) (nz : R * R + N * N ≠ 0)
    (v0 : val x.e0 = (t.e0 : Rat) - ((t.e0 : Rat) * R + (t.e1 : Rat) * N) * 2 / (R * R + N * N) * R) (v1 : val x.e1 = (t.e1 : Rat) - ((t.e0 : Rat) * R + (t.e1 : Rat) * N) * 2 / (R * R + N * N) * N)
    (H : ∀ t, towE t = 0 → ∃ x e, noptics_Reflect big c s t = some (x, e) ∧ (e = 8 ∨ e = 0) ∧ (e = 0 → Sm x.e0 ∧ Sm x.e1 ∧ R * R + N * N ≠ 0 ∧
      val x.e0 = (t.e0 : Rat) - ((t.e0 : Rat) * R + (t.e1 : Rat) * N) * 2 / (R * R + N * N) * R ∧ val x.e1 = (t.e1 : Rat) - ((t.e0 : Rat) * R + (t.e1 : Rat) * N) * 2 / (R * R + N * N) * N)) :
    ((nspeculumbase_Gcd big x.e0.Den x.e1.Den).bind fun r2063 => (if r2063 ≠ 0 then (if 1000000000 < (w64 ((w64 (x.e0.Den.tdiv r2063)) * x.e1.Den)) then (some true) else (if x.e0.Den ≠ 0 then (if x.e1.Den ≠ 0 then ((nspeculumref02_CheckToward big (⟨w64 (x.e0.Num * (w64 ((w64 ((w64 (x.e0.Den.tdiv r2063)) * x.e1.Den)).tdiv x.e0.Den))), w64 (x.e1.Num * (w64 ((w64 ((w64 (x.e0.Den.tdiv r2063)) * x.e1.Den)).tdiv x.e1.Den)))⟩ : A63)).bind fun r2077 => (if r2077 = 0 then ((noptics_Reflect big c s (⟨w64 (x.e0.Num * (w64 ((w64 ((w64 (x.e0.Den.tdiv r2063)) * x.e1.Den)).tdiv x.e0.Den))), w64 (x.e1.Num * (w64 ((w64 ((w64 (x.e0.Den.tdiv r2063)) * x.e1.Den)).tdiv x.e1.Den)))⟩ : A63)).bind fun r2081 => (if r2081.2 = 8 then (some true) else (if r2081.2 = 0 then ((nspeculumlaw02_whole big (w64 (t.e0 * (w64 ((w64 (x.e0.Den.tdiv r2063)) * x.e1.Den))))).bind fun r2088 => ((nspeculumlaw02_whole big (w64 (t.e1 * (w64 ((w64 (x.e0.Den.tdiv r2063)) * x.e1.Den))))).bind fun r2092 => (some ((r2081.1.e0.Num : Int) == r2088.Num && ((r2081.1.e0.Den : Int) == r2088.Den && ((r2081.1.e1.Num : Int) == r2092.Num && ((r2081.1.e1.Den : Int) == r2092.Den && true))))))) else (some false)))) else (some true))) else none) else none)) else none)) = some true := by
  have hk : 100000000000000000000 ≤ big := by decide
  have a0 := X0.d0; have a1 := X0.d1; have b0 := X1.d0; have b1 := X1.d1
  have hgp : 0 < Nat.gcd x.e0.Den.natAbs x.e1.Den.natAbs := Nat.gcd_pos_of_pos_right _ (by omega)
  rw [gcd_any big hk x.e0.Den (y := x.e1.Den) (by omega) (by omega), Option.bind_some]
  obtain ⟨u0, h0⟩ : ((Nat.gcd x.e0.Den.natAbs x.e1.Den.natAbs : Nat) : Int) ∣ x.e0.Den := Int.ofNat_dvd_left.2 (Nat.gcd_dvd_left _ _)
  obtain ⟨u1, h1⟩ : ((Nat.gcd x.e0.Den.natAbs x.e1.Den.natAbs : Nat) : Int) ∣ x.e1.Den := Int.ofNat_dvd_left.2 (Nat.gcd_dvd_right _ _)
  generalize hg : ((Nat.gcd x.e0.Den.natAbs x.e1.Den.natAbs : Nat) : Int) = g at *
  have g1 : 1 ≤ g := by omega
  have bu0 := mul_le_of (B := 1000000000) g1 (x := u0) (by omega) (by omega)
  have bu1 := mul_le_of (B := 1000000000) g1 (x := u1) (by omega) (by omega)
  have m1 := sm_mul (x := u0) (y := x.e1.Den) bu0 (by omega)
  have e0 : u0 * x.e1.Den = x.e0.Den * u1 := by rw [h1, h0]; grind
  have e1 : u0 * x.e1.Den = x.e1.Den * u0 := Int.mul_comm _ _
  have q0 : x.e0.Den.tdiv g = u0 := nat_quo g1 h0
  have z0 : (u0 * x.e1.Den).tdiv x.e0.Den = u1 := nat_quo (by omega) e0
  have z1 : (u0 * x.e1.Den).tdiv x.e1.Den = u0 := nat_quo (by omega) e1
  rw [if_pos (by omega), q0, w64_id (n := u0) (by omega) (by omega), w64_id (n := u0 * x.e1.Den) (by omega) (by omega), z0, z1, w64_id (n := u1) (by omega) (by omega), w64_id (n := u0) (by omega) (by omega)]
  have n0 := X0.n0; have n0' := X0.n1; have n1 := X1.n0; have n1' := X1.n1
  have m2 := sm_mul (x := x.e0.Num) (y := u1) ⟨n0, n0'⟩ bu1
  have m3 := sm_mul (x := x.e1.Num) (y := u0) ⟨n1, n1'⟩ bu0
  rw [w64_id (n := x.e0.Num * u1) (by omega) (by omega), w64_id (n := x.e1.Num * u0) (by omega) (by omega)]
  by_cases c1 : 1000000000 < u0 * x.e1.Den
  · rw [if_pos c1]
  · rw [if_neg c1, if_pos (by omega), if_pos (by omega), tow_ref, Option.bind_some]
    by_cases c2 : towE ⟨x.e0.Num * u1, x.e1.Num * u0⟩ = 0
    · rw [if_pos c2]
      obtain ⟨y, e, y1, y2, y3⟩ := H _ c2
      rw [y1, Option.bind_some]
      dsimp only
      rcases y2 with y2 | y2
      · rw [if_pos y2]
      · obtain ⟨Y0, Y1, _, w0, w1⟩ := y3 y2
        have D0 : 0 ≤ u0 * x.e1.Den := by
          rcases Int.lt_or_le u0 0 with h | h
          · have := Int.mul_lt_mul_of_pos_left h (show 0 < g by omega)
            rw [Int.mul_zero, ← h0] at this; omega
          · exact Int.mul_nonneg h (by omega)
        have t0 := sm_mul (x := t.e0) (y := u0 * x.e1.Den) (by omega) (by omega)
        have t1 := sm_mul (x := t.e1) (y := u0 * x.e1.Den) (by omega) (by omega)
        have r0 : ((x.e0.Num * u1 : Int) : Rat) = ((u0 * x.e1.Den : Int) : Rat) * val x.e0 := by
          have d := cast_ne (x := x.e0.Den) (by omega)
          rw [e0]; unfold val; push_cast; grind
        have r1 : ((x.e1.Num * u0 : Int) : Rat) = ((u0 * x.e1.Den : Int) : Rat) * val x.e1 := by
          have d := cast_ne (x := x.e1.Den) (by omega)
          rw [e1]; unfold val; push_cast; grind
        dsimp only at w0 w1
        rw [r0, r1, v0, v1] at w0 w1
        have i0 : val y.e0 = ((t.e0 * (u0 * x.e1.Den) : Int) : Rat) := by
          rw [w0, show ((t.e0 * (u0 * x.e1.Den) : Int) : Rat) = (t.e0 : Rat) * ((u0 * x.e1.Den : Int) : Rat) from Rat.intCast_mul _ _]
          generalize ((u0 * x.e1.Den : Int) : Rat) = D
          generalize (t.e0 : Rat) = p
          generalize (t.e1 : Rat) = q
          grind
        have i1 : val y.e1 = ((t.e1 * (u0 * x.e1.Den) : Int) : Rat) := by
          rw [w1, show ((t.e1 * (u0 * x.e1.Den) : Int) : Rat) = (t.e1 : Rat) * ((u0 * x.e1.Den : Int) : Rat) from Rat.intCast_mul _ _]
          generalize ((u0 * x.e1.Den : Int) : Rat) = D
          generalize (t.e0 : Rat) = p
          generalize (t.e1 : Rat) = q
          grind
        unfold nspeculumlaw02_whole
        rw [if_neg (by omega), if_pos y2, Option.bind_some, Option.bind_some, w64_id (n := t.e0 * (u0 * x.e1.Den)) (by omega) (by omega), w64_id (n := t.e1 * (u0 * x.e1.Den)) (by omega) (by omega), sm_int Y0 i0, sm_int Y1 i1]
        simp
    · rw [if_neg c2]
theorem law_mirrors (c : SConic) (s : SSpot) (t : A63) (hc : IC c) (h1 : IF s.R) (h2 : IF s.Z) : nspeculumlaw02_OpticsMirrors big c s t = some true := by
  have hk : 100000000000000000000 ≤ big := by decide
  have bad : ∀ e : Int, (if rayE c = 0 then (if spE s = 0 then towE t else spE s) else rayE c) = e → e ≠ 0 → noptics_Reflect big c s t = some (⟨⟨0, 0⟩, ⟨0, 0⟩⟩, e) := by
    intro e h h0
    unfold noptics_Reflect
    rw [ray_opt big hk hc, Option.bind_some, spot_opt big hk h1 h2, Option.bind_some, tow_opt, Option.bind_some, first_three big hk, Option.bind_some, h, if_neg h0]
  unfold nspeculumlaw02_OpticsMirrors
  rw [awake_big, Option.bind_some, if_pos rfl]
  by_cases c0 : (if rayE c = 0 then (if spE s = 0 then towE t else spE s) else rayE c) = 0
  · have hr : rayE c = 0 := by
      by_cases h : rayE c = 0
      · exact h
      · rw [if_neg h] at c0; exact c0
    rw [if_pos hr] at c0
    have hs : spE s = 0 := by
      by_cases h : spE s = 0
      · exact h
      · rw [if_neg h] at c0; exact c0
    rw [if_pos hs] at c0
    rcases reflV hc h1 h2 hr hs with A | ⟨N, H⟩
    · obtain ⟨x, e, x1, x2⟩ := A t c0
      rw [x1, Option.bind_some, if_neg x2]
    · obtain ⟨x, e, x1, x2, x3⟩ := H t c0
      rw [x1, Option.bind_some]
      dsimp only
      by_cases c1 : e = 0
      · obtain ⟨X0, X1, nz, v0, v1⟩ := x3 c1
        have T := tow_in c0
        have tl := tail_mirrors T X0 X1 nz v0 v1 H
        rw [if_pos c1, checkFrac_ref big hk X0.f, X0.ck, Option.bind_some, if_pos rfl, checkFrac_ref big hk X1.f, X1.ck, Option.bind_some, if_pos rfl, tow_ref, c0, Option.bind_some, if_pos rfl]
        obtain ⟨_, w1, q1, _, f1, A1⟩ := mul_step big hk (q := ⟨false⟩) (a' := x.e0) (b' := x.e0) (fun _ => rfl) (fun _ => rfl) X0 X0
        obtain ⟨_, w2, q2, _, f2, A2⟩ := mul_step big hk (q := q1) (a' := x.e1) (b' := x.e1) (fun _ => rfl) (fun _ => rfl) X1 X1
        obtain ⟨_, w3, q3, _, f3, A3⟩ := add_step big hk (q := q2) (fun h => A1.same (A2.keep h)) A2.same A1.sm A2.sm
        rw [f1, Option.bind_some, f2, Option.bind_some, f3, Option.bind_some, tl]
        dsimp only
        cases hq : q3.Large with
        | true => rw [if_pos rfl]
        | false =>
          have k2 := A3.keep hq; have k1 := A2.keep k2
          have vw : val w3 = ((t.e0 * t.e0 + t.e1 * t.e1 : Int) : Rat) := by
            rw [val_add A3.sm.d0 A1.sm.d0 A2.sm.d0 (A3.val hq), val_mul A1.sm.d0 X0.d0 X0.d0 (A1.val k1), val_mul A2.sm.d0 X1.d0 X1.d0 (A2.val k2), v0, v1]
            push_cast
            generalize (t.e0 : Rat) = p
            generalize (t.e1 : Rat) = q
            grind
          have p0 := sm_mul (x := t.e0) (y := t.e0) (by omega) (by omega)
          have p1 := sm_mul (x := t.e1) (y := t.e1) (by omega) (by omega)
          unfold nspeculumlaw02_whole
          rw [if_neg (by decide), Option.bind_some, w64_id (n := t.e0 * t.e0) (by omega) (by omega), w64_id (n := t.e1 * t.e1) (by omega) (by omega), w64_id (n := t.e0 * t.e0 + t.e1 * t.e1) (by omega) (by omega), sm_int A3.sm vw, if_pos (by simp)]
      · rw [if_neg c1]
  · rw [bad _ rfl c0, Option.bind_some, if_neg c0]
theorem vc_mirrors (c : SConic) (s : SSpot) (t : A63) (hc : ((Vv.In64 c.Radius) ∧ ((Vv.In64 c.K.Num) ∧ (Vv.In64 c.K.Den)))) (hs : (((Vv.In64 s.R.Num) ∧ (Vv.In64 s.R.Den)) ∧ ((Vv.In64 s.Z.Num) ∧ (Vv.In64 s.Z.Den)))) : VC Go.Proofs.Try.prog 8 [VV.ag (c_SConic c), VV.ag (c_SSpot s), VV.ag (c_A63 t)] (vb true) := nspeculumlaw02_OpticsMirrors_ok _ _ _ _ _ (law_mirrors c s t ⟨hc.1, hc.2.1, hc.2.2⟩ ⟨hs.1.1, hs.1.2⟩ ⟨hs.2.1, hs.2.2⟩)
end Go.Proofs.Ytkffimkedibmnaa.Vg
