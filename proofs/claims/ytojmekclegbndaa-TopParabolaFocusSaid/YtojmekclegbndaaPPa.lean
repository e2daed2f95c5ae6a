/- Parallel rays meet at the focus, plain. -/
import Derived.Test.YtojmekclegbndaaOWc
import Derived.Test.YtojmekclegbndaaPP
set_option linter.unusedVariables false
set_option linter.unusedSimpArgs false
namespace Go.Proofs.Ytojmekclegbndaa.Vg
open Go Go.Proofs.Ytojmekclegbndaa.Ev Go.Proofs.Ytojmekclegbndaa.Vv
def rayE (c : SConic) : Int := if conE c = 0 then (if inR (-200000) 200000 c.Radius = true ∧ inR (-10) 10 c.K.Num = true ∧ c.K.Den ≤ 10 then 0 else 2) else conE c
theorem ray_opt (k : Nat) (hk : 100000000000000000000 ≤ k) {c : SConic} (h : IC c) : noptics_checkRayConic k c = some (rayE c) := by
  unfold noptics_checkRayConic rayE
  rw [conic_opt k hk h, Option.bind_some]
  by_cases c0 : conE c = 0
  · rw [if_pos c0, if_pos c0, sized_any k _ (by decide) (by decide), Option.bind_some]
    by_cases h1 : inR (-200000) 200000 c.Radius = true
    · rw [if_pos h1, sized_any k _ (by decide) (by decide), Option.bind_some]
      by_cases h2 : inR (-10) 10 c.K.Num = true
      · rw [if_pos h2]
        by_cases h3 : 10 < c.K.Den
        · rw [if_pos h3, if_neg (fun hh => by have := hh.2.2; omega)]
        · rw [if_neg h3, if_pos ⟨h1, h2, by omega⟩]
      · rw [if_neg h2, if_neg (fun hh => h2 hh.2.1)]
    · rw [if_neg h1, if_neg (fun hh => h1 hh.1)]
  · rw [if_neg c0, if_neg c0]
structure RY (c : SConic) : Prop where
  r : -200000 ≤ c.Radius ∧ c.Radius ≤ 200000
  n : -10 ≤ c.K.Num ∧ c.K.Num ≤ 10
  d : 0 < c.K.Den ∧ c.K.Den ≤ 10
  g : gcF c.K = 1
theorem RY.of {c : SConic} (h : rayE c = 0) : RY c := by
  unfold rayE at h
  split at h
  · rename_i h0
    split at h
    · rename_i hh
      unfold conE at h0
      split at h0
      · cases h0
      · split at h0
        · cases h0
        · rename_i hl
          have hl : lowB c.K = true := by cases e : lowB c.K with
            | true => rfl
            | false => exact absurd e hl
          unfold lowB at hl
          simp only [Bool.and_eq_true, decide_eq_true_eq] at hl
          exact ⟨inR_t.1 hh.1, inR_t.1 hh.2.1, ⟨hl.1, hh.2.2⟩, hl.2⟩
    · cases h
  · rename_i h0; exact absurd h h0
def oneF (c : SConic) : SFrac := ⟨c.K.Num + c.K.Den, c.K.Den⟩
theorem oneF_sm {c : SConic} (h : RY c) : Sm (oneF c) := by
  have := h.n; have := h.d
  refine ⟨h.d.1, by show c.K.Den ≤ _; omega, by show _ ≤ c.K.Num + c.K.Den; omega, by show c.K.Num + c.K.Den ≤ _; omega, ?_⟩
  have g := h.g
  unfold gcF at g ⊢
  have e : Int.gcd (c.K.Num + c.K.Den) c.K.Den = Int.gcd c.K.Num c.K.Den := by simp
  exact e.trans g
theorem one_opt (k : Nat) {c : SConic} (h : RY c) : noptics_onePlusK k c = some (oneF c) := by
  have := h.n; have := h.d
  unfold noptics_onePlusK noptics_shape
  rw [Option.bind_some]
  dsimp only
  rw [w64_id (by omega) (by omega)]; rfl
def spE (s : SSpot) : Int := fcE [s.R, s.Z]
theorem spot_opt (k : Nat) (hk : 100000000000000000000 ≤ k) {s : SSpot} (h1 : IF s.R) (h2 : IF s.Z) : noptics_checkFracs k [s.R, s.Z] = some (spE s) := checkFracs_any k hk _ (fun f hf => by
    simp only [List.mem_cons, List.not_mem_nil, or_false] at hf
    rcases hf with rfl | rfl
    · exact h1
    · exact h2) (by simp)
theorem spE_sm {s : SSpot} (h : spE s = 0) : Sm s.R ∧ Sm s.Z := by
  obtain ⟨h1, h⟩ := fcE_cons h
  obtain ⟨h2, _⟩ := fcE_cons h
  exact ⟨Sm.of ((ckE_sm _).1 h1), Sm.of ((ckE_sm _).1 h2)⟩
def towE (t : A47) : Int := if inR (-1000) 1000 t.e0 = true ∧ inR (-1000) 1000 t.e1 = true then (if t.e0 = 0 ∧ t.e1 = 0 then 11 else 0) else 2
theorem tow_opt (k : Nat) (t : A47) : noptics_checkToward k t = some (towE t) := by
  unfold noptics_checkToward
  rw [sized_any k _ (by decide) (by decide), Option.bind_some]
  by_cases h1 : inR (-1000) 1000 t.e0 = true
  · rw [if_pos h1, sized_any k _ (by decide) (by decide), Option.bind_some]
    by_cases h2 : inR (-1000) 1000 t.e1 = true
    · rw [if_pos h2, show towE t = (if t.e0 = 0 ∧ t.e1 = 0 then 11 else 0) from if_pos ⟨h1, h2⟩]
      by_cases h3 : t.e0 = 0 ∧ t.e1 = 0
      · rw [if_pos h3, h3.1, h3.2]; rfl
      · rw [if_neg h3, if_neg (fun hh => by
          simp only [Bool.and_eq_true, beq_iff_eq] at hh
          exact h3 ⟨hh.1, hh.2.1⟩)]
    · rw [if_neg h2, show towE t = 2 from if_neg (fun hh => h2 hh.2)]
  · rw [if_neg h1, show towE t = 2 from if_neg (fun hh => h1 hh.1)]
theorem tow_in {t : A47} (h : towE t = 0) : (-1000 ≤ t.e0 ∧ t.e0 ≤ 1000) ∧ (-1000 ≤ t.e1 ∧ t.e1 ≤ 1000) := by
  unfold towE at h
  split at h
  · rename_i hh; exact ⟨inR_t.1 hh.1, inR_t.1 hh.2⟩
  · cases h
theorem val_prod {a b c d w1 w2 w : SFrac} (sa : Sm a) (sb : Sm b) (sc : Sm c) (sd : Sm d) (sw : Sm w) (h : w1.Num * (a.Den * b.Den) = a.Num * b.Num * w1.Den ∧ w2.Num * (c.Den * d.Den) = c.Num * d.Num * w2.Den ∧ w.Num * (w1.Den * w2.Den) = (w1.Num * w2.Den + w2.Num * w1.Den) * w.Den ∧ Sm w1 ∧ Sm w2) : val w = val a * val b + val c * val d := by
  obtain ⟨h1, h2, h3, s1, s2⟩ := h
  rw [val_add sw.d0 s1.d0 s2.d0 h3, val_mul s1.d0 sa.d0 sb.d0 h1, val_mul s2.d0 sc.d0 sd.d0 h2]
theorem mirrorV (k : Nat) (hk : 100000000000000000000 ≤ k) {q : SWay} {t0 t1 R n' n : SFrac} (s0 : Sm t0) (s1 : Sm t1) (sr : Sm R) (sn : Sm n) (hn : q.Large = false → n' = n) (nz : R.Num ≠ 0 ∨ n.Num ≠ 0) :
    ∃ v q' c0 c1, n_optics_way_mirrored k (fl q) ⟨t0, t1⟩ ⟨R, n'⟩ = some (v, fl q') ∧ Sm c0 ∧ Sm c1 ∧ (q'.Large = false → v = ⟨c0, c1⟩ ∧ val R * val R + val n * val n ≠ 0 ∧
      val c0 = val t0 - (val t0 * val R + val t1 * val n) * 2 / (val R * val R + val n * val n) * val R ∧ val c1 = val t1 - (val t0 * val R + val t1 * val n) * 2 / (val R * val R + val n * val n) * val n) := by
  have s2 : Sm ⟨2, 1⟩ := sm_whole (by decide)
  obtain ⟨v1, p1, q1, p2, q2, s, q3, e1, f1, f2, f3, k3, m3, S3, V3⟩ := prod_step k hk (q := q) (a' := t0) (b' := R) (c' := t1) (fun _ => rfl) (fun _ => rfl) (fun _ => rfl) hn s0 sr s1 sn
  obtain ⟨v2, m, p4, e2, f4, M⟩ := mul_step k hk (q := q3) (b' := ⟨2, 1⟩) m3 (fun _ => rfl) S3 s2
  have kn : p4.Large = false → n' = n := fun h => hn (k3 (M.keep h))
  obtain ⟨v3, r1, p5, r2, p6, r, p7, e3, f5, f6, f7, k7, m7, S7, V7⟩ := prod_step k hk (q := p4) (a' := R) (b' := R) (fun _ => rfl) (fun _ => rfl) kn kn sr sr sn sn
  have rz : p7.Large = false → r.Num ≠ 0 := by
    intro h h0
    obtain ⟨a1, a2, a3, b1, b2⟩ := V7 h
    rw [h0, Int.zero_mul] at a3
    have w1 := b1.d0; have w2 := b2.d0; have wr := S7.d0; have dr := sr.d0; have dn := sn.d0
    have z : r1.Num * r2.Den + r2.Num * r1.Den = 0 := by
      rcases Int.mul_eq_zero.1 a3.symm with h | h
      · exact h
      · omega
    have n1 : 0 ≤ r1.Num := by
      have := Int.mul_nonneg (sqnn R.Num) (show 0 ≤ r1.Den by omega)
      rcases Int.lt_or_le r1.Num 0 with h | h
      · have := Int.mul_lt_mul_of_pos_right h (Int.mul_pos dr dr); omega
      · exact h
    have n2 : 0 ≤ r2.Num := by
      have := Int.mul_nonneg (sqnn n.Num) (show 0 ≤ r2.Den by omega)
      rcases Int.lt_or_le r2.Num 0 with h | h
      · have := Int.mul_lt_mul_of_pos_right h (Int.mul_pos dn dn); omega
      · exact h
    have y1 := Int.mul_nonneg n1 (show 0 ≤ r2.Den by omega)
    have y2 := Int.mul_nonneg n2 (show 0 ≤ r1.Den by omega)
    have z1 : r1.Num = 0 := by
      rcases Int.mul_eq_zero.1 (show r1.Num * r2.Den = 0 by omega) with h | h
      · exact h
      · omega
    have z2 : r2.Num = 0 := by
      rcases Int.mul_eq_zero.1 (show r2.Num * r1.Den = 0 by omega) with h | h
      · exact h
      · omega
    rw [z1, Int.zero_mul] at a1
    rw [z2, Int.zero_mul] at a2
    rcases nz with h | h
    · rcases Int.mul_eq_zero.1 a1.symm with h' | h'
      · rcases Int.mul_eq_zero.1 h' with h' | h' <;> exact h h'
      · omega
    · rcases Int.mul_eq_zero.1 a2.symm with h' | h'
      · rcases Int.mul_eq_zero.1 h' with h' | h' <;> exact h h'
      · omega
  obtain ⟨v4, u, q8, e4, f8, U⟩ := quo_step k hk (q := p7) (fun h => M.same (k7 h)) m7 M.sm S7 rz
  obtain ⟨v5, a, q9, e5, f9, A⟩ := mul_step k hk (q := q8) (b' := R) U.same (fun _ => rfl) U.sm sr
  obtain ⟨v6, c0, q10, e6, f10, C0⟩ := sub_step k hk (q := q9) (a' := t0) (fun _ => rfl) A.same s0 A.sm
  obtain ⟨v7, b, q11, e7, f11, B⟩ := mul_step k hk (q := q10) (fun h => U.same (A.keep (C0.keep h))) (fun h => kn (k7 (U.keep (A.keep (C0.keep h))))) U.sm sn
  obtain ⟨v8, c1, q12, e8, f12, C1⟩ := sub_step k hk (q := q11) (a' := t1) (fun _ => rfl) B.same s1 B.sm
  refine ⟨⟨v6, v8⟩, q12, c0, c1, ?_, C0.sm, C1.sm, fun h => ?_⟩
  · unfold n_optics_way_mirrored noptics_whole
    dsimp only
    rw [e1, Option.bind_some, Option.bind_some, e2, Option.bind_some, e3, Option.bind_some, e4, Option.bind_some, e5, Option.bind_some, e6, Option.bind_some, e7, Option.bind_some, e8, Option.bind_some]
  · have h11 := C1.keep h; have h10 := B.keep h11; have h9 := C0.keep h10; have h8 := A.keep h9; have h7 := U.keep h8; have h4 := k7 h7; have h3 := M.keep h4
    have vs : val s = val t0 * val R + val t1 * val n := val_prod s0 sr s1 sn S3 (V3 h3)
    have vr : val r = val R * val R + val n * val n := val_prod sr sr sn sn S7 (V7 h7)
    have vm : val m = val s * 2 := by rw [val_mul M.sm.d0 S3.d0 (by decide) (M.val h4), val_whole]; rfl
    have vu : val u = val m / val r := val_quo U.sm.d0 M.sm.d0 S7.d0 (rz h7) (U.val h8)
    have va : val a = val u * val R := val_mul A.sm.d0 U.sm.d0 sr.d0 (A.val h9)
    have vb : val b = val u * val n := val_mul B.sm.d0 U.sm.d0 sn.d0 (B.val h11)
    have v0 : val c0 = val t0 - val a := val_sub C0.sm.d0 s0.d0 A.sm.d0 (C0.val h10)
    have v1 : val c1 = val t1 - val b := val_sub C1.sm.d0 s1.d0 B.sm.d0 (C1.val h)
    refine ⟨by rw [C0.same h10, C1.same h], ?_, by rw [v0, va, vu, vm, vs, vr], by rw [v1, vb, vu, vm, vs, vr]⟩
    rw [← vr]
    have z := cast_ne (rz h7)
    have d := cast_ne (x := r.Den) (by have := S7.d0; omega)
    unfold val
    intro h
    grind
/-- a paraboloid. -/
def parC (R : Int) : SConic := ⟨R, ⟨-1, 1⟩⟩
theorem par_ic {R : Int} (h : 1 ≤ R ∧ R ≤ 400) : IC (parC R) := ⟨by unfold parC Vv.In64; dsimp only; omega, ⟨by unfold parC Vv.In64; dsimp only; omega, by unfold parC Vv.In64; dsimp only; omega⟩⟩
theorem par_ray {R : Int} (h : 1 ≤ R ∧ R ≤ 400) : rayE (parC R) = 0 := by
  have c : conE (parC R) = 0 := by
    unfold conE parC
    dsimp only
    rw [if_neg, if_neg (by decide), if_pos (by decide)]
    rw [inR_f]; omega
  unfold rayE
  rw [if_pos c]
  unfold parC
  exact if_pos ⟨inR_t.2 (by dsimp only; omega), show inR (-10) 10 (-1) = true by decide, show (1 : Int) ≤ 10 by decide⟩
theorem par_one {R : Int} : val (oneF (parC R)) = 0 := by
  unfold oneF parC; dsimp only; exact val_whole 0
theorem sm_zero' {f : SFrac} (h : Sm f) (e : val f = 0) : f = ⟨0, 1⟩ := by
  refine val_inj h one_small ?_
  rw [e]; exact (val_whole 0).symm
theorem num_zero {f : SFrac} (h : Sm f) (e : val f = 0) : f.Num = 0 := by
  have := sm_zero' h e
  rw [this]
theorem on_par {R h : Int} (hR : 1 ≤ R ∧ R ≤ 400) (hh : -200 ≤ h ∧ h ≤ 200) {Z : SFrac} (sz : Sm Z) (hz : 2 * (R : Rat) * val Z = (h : Rat) * h) :
    noptics_OnConic big (parC R) ⟨⟨h, 1⟩, Z⟩ = some (false, 8) ∨ noptics_OnConic big (parC R) ⟨⟨h, 1⟩, Z⟩ = some (true, 0) := by
  have hk : 100000000000000000000 ≤ big := by decide
  have hc := par_ic hR
  have hr := par_ray hR
  have Y := RY.of hr
  have S1 : Sm ⟨h, 1⟩ := sm_whole (by omega)
  have hs : spE ⟨⟨h, 1⟩, Z⟩ = 0 := by unfold spE; simp only [fcE, S1.ck, sz.ck, if_true]
  have sr : Sm ⟨2 * R, 1⟩ := sm_whole (by omega)
  obtain ⟨a', a, q1, e1, f1, A1⟩ := mul_step big hk (q := ⟨false⟩) (a' := ⟨h, 1⟩) (b' := ⟨h, 1⟩) (fun _ => rfl) (fun _ => rfl) S1 S1
  obtain ⟨b', b, q2, e2, f2, A2⟩ := mul_step big hk (q := q1) (a' := Z) (b' := Z) (fun _ => rfl) (fun _ => rfl) sz sz
  obtain ⟨d', d, q3, e3, f3, A3⟩ := mul_step big hk (q := q2) (a' := oneF (parC R)) (fun _ => rfl) A2.same (oneF_sm Y) A2.sm
  obtain ⟨x', x, q4, e4, f4, A4⟩ := add_step big hk (q := q3) (fun h => A1.same (A2.keep (A3.keep h))) A3.same A1.sm A3.sm
  obtain ⟨y', y, q5, e5, f5, A5⟩ := mul_step big hk (q := q4) (a' := ⟨2 * R, 1⟩) (b' := Z) (fun _ => rfl) (fun _ => rfl) sr sz
  obtain ⟨z', z, q6, e6, f6, A6⟩ := sub_step big hk (q := q5) (fun h => A4.same (A5.keep h)) A5.same A4.sm A5.sm
  unfold noptics_OnConic noptics_whole noptics_beside_bool_
  rw [ray_opt big hk hc, Option.bind_some, spot_opt big hk S1.f sz.f, Option.bind_some, hr, hs, first_two big hk, Option.bind_some, if_pos rfl, if_pos rfl, show (⟨0⟩ : Sway) = fl ⟨false⟩ from rfl]
  dsimp only
  rw [e1, Option.bind_some, one_opt big Y, Option.bind_some, e2, Option.bind_some, e3, Option.bind_some, e4, Option.bind_some, Option.bind_some, show w64 (2 * (parC R).Radius) = 2 * R from w64_id (by unfold parC; dsimp only; omega) (by unfold parC; dsimp only; omega), e5, Option.bind_some, e6, Option.bind_some, Option.bind_some]
  dsimp only
  rw [first_one big hk, Option.bind_some, fl_failed]
  cases hq : q6.Large with
  | true => exact .inl rfl
  | false =>
    right
    have h5 := A6.keep hq; have h4 := A5.keep h5; have h3 := A4.keep h4; have h2 := A3.keep h3; have h1 := A2.keep h2
    have vz : val z = 0 := by
      rw [val_sub A6.sm.d0 A4.sm.d0 A5.sm.d0 (A6.val hq), val_add A4.sm.d0 A1.sm.d0 A3.sm.d0 (A4.val h4), val_mul A5.sm.d0 sr.d0 sz.d0 (A5.val h5), val_mul A3.sm.d0 (oneF_sm Y).d0 A2.sm.d0 (A3.val h3), val_mul A1.sm.d0 S1.d0 S1.d0 (A1.val h1), par_one, val_whole, val_whole]
      push_cast
      grind
    rw [A6.same hq, sm_zero A6.sm (num_zero A6.sm vz)]
    rfl
theorem reflect_par {R h : Int} (hR : 1 ≤ R ∧ R ≤ 400) (hh : -200 ≤ h ∧ h ≤ 200) {Z : SFrac} (sz : Sm Z) (on : noptics_OnConic big (parC R) ⟨⟨h, 1⟩, Z⟩ = some (true, 0)) :
    ∃ x e, noptics_Reflect big (parC R) ⟨⟨h, 1⟩, Z⟩ ⟨0, -1⟩ = some (x, e) ∧ (e = 8 ∨ e = 0) ∧ (e = 0 → Sm x.e0 ∧ Sm x.e1 ∧ (h : Rat) * h + (R : Rat) * R ≠ 0 ∧
      val x.e0 = - ((R : Rat) * 2 / ((h : Rat) * h + (R : Rat) * R) * h) ∧ val x.e1 = -1 + (R : Rat) * 2 / ((h : Rat) * h + (R : Rat) * R) * R) := by
  have hk : 100000000000000000000 ≤ big := by decide
  have hc := par_ic hR
  have hr := par_ray hR
  have Y := RY.of hr
  have S1 : Sm ⟨h, 1⟩ := sm_whole (by omega)
  have hs : spE ⟨⟨h, 1⟩, Z⟩ = 0 := by unfold spE; simp only [fcE, S1.ck, sz.ck, if_true]
  have srad : Sm ⟨R, 1⟩ := sm_whole (by omega)
  have ht : towE ⟨0, -1⟩ = 0 := by decide
  obtain ⟨a', a, q1, e1, f1, A1⟩ := mul_step big hk (q := ⟨false⟩) (a' := oneF (parC R)) (b' := Z) (fun _ => rfl) (fun _ => rfl) (oneF_sm Y) sz
  obtain ⟨b', b, q2, e2, f2, A2⟩ := sub_step big hk (q := q1) (b' := ⟨R, 1⟩) A1.same (fun _ => rfl) A1.sm srad
  have e2' : n_optics_way_minus big (fl q1) a' ⟨(parC R).Radius, 1⟩ = some (b', fl q2) := e2
  unfold noptics_Reflect noptics_whole
  rw [ray_opt big hk hc, Option.bind_some, spot_opt big hk S1.f sz.f, Option.bind_some, tow_opt, Option.bind_some, hr, hs, ht, first_three big hk, Option.bind_some, if_pos rfl, if_pos rfl, if_pos rfl, on, Option.bind_some, one_opt big Y, Option.bind_some, show (⟨0⟩ : Sway) = fl ⟨false⟩ from rfl]
  dsimp only
  rw [if_pos rfl, if_pos rfl, e1, Option.bind_some, Option.bind_some, e2', Option.bind_some, Option.bind_some, Option.bind_some]
  dsimp only
  by_cases hq : q2.Large = true
  · have nz : ∀ v q', n_optics_way_mirrored big ⟨8⟩ v q' = some (⟨⟨0, 0⟩, ⟨0, 0⟩⟩, ⟨8⟩) := fun _ _ => rfl
    rw [fl_t hq, nz, Option.bind_some]
    unfold noptics_beside_2_api_Frac_
    rw [first_one big hk]
    exact ⟨_, _, rfl, .inl rfl, fun h => absurd h (by decide)⟩
  · have hq' : q2.Large = false := by cases h : q2.Large with
      | true => exact absurd h hq
      | false => rfl
    have vb : val b = -(R : Rat) := by
      rw [val_sub A2.sm.d0 A1.sm.d0 srad.d0 (A2.val hq'), val_mul A1.sm.d0 (oneF_sm Y).d0 sz.d0 (A1.val (A2.keep hq')), par_one, val_whole]
      grind
    have bz : b.Num ≠ 0 := by
      intro z
      have : val b = 0 := by rw [sm_zero A2.sm z]; exact val_whole 0
      have hR0 := cast_ne (x := R) (by omega)
      rw [vb] at this
      exact hR0 (by grind)
    obtain ⟨v, q', x0, x1, m0, X0, X1, mv⟩ := mirrorV big hk (q := q2) (t0 := ⟨0, 1⟩) (t1 := ⟨-1, 1⟩) (R := ⟨h, 1⟩) (n' := b') (n := b) (sm_whole (by decide)) (sm_whole (by decide)) S1 A2.sm A2.same (.inr bz)
    rw [m0, Option.bind_some]
    unfold noptics_beside_2_api_Frac_
    rw [first_one big hk, Option.bind_some, fl_failed]
    cases hl : q'.Large with
    | true => exact ⟨_, _, rfl, .inl rfl, fun h => absurd h (by decide)⟩
    | false =>
      obtain ⟨w1, w2, w3, w4⟩ := mv hl
      rw [val_whole, vb] at w2
      have z0 : val (⟨0, 1⟩ : SFrac) = 0 := val_whole 0
      have z1 : val (⟨-1, 1⟩ : SFrac) = -1 := val_whole (-1)
      rw [z0, z1, val_whole, vb] at w3
      rw [z0, z1, val_whole, vb] at w4
      have nn : (h : Rat) * h + -(R : Rat) * -(R : Rat) = (h : Rat) * h + (R : Rat) * R := by grind
      rw [nn] at w2 w3 w4
      rw [w1]
      refine ⟨_, _, rfl, .inr rfl, fun _ => ⟨X0, X1, w2, ?_, ?_⟩⟩
      · rw [w3]; grind
      · rw [w4]; grind
theorem height_par {h : Int} (hh : -200 ≤ h ∧ h ≤ 200) {Z f : SFrac} {x : A44} (sz : Sm Z) (sf : Sm f) (X0 : Sm x.e0) (X1 : Sm x.e1) (z : x.e1.Num ≠ 0) (e : (h : Rat) + (val f - val Z) * (val x.e0 / val x.e1) = 0) :
    ∃ y e, noptics_HeightAt big ⟨⟨h, 1⟩, Z⟩ x f = some (y, e) ∧ (e = 8 ∨ (e = 0 ∧ y.Num = 0)) := by
  have hk : 100000000000000000000 ≤ big := by decide
  have S1 : Sm ⟨h, 1⟩ := sm_whole (by omega)
  unfold noptics_HeightAt noptics_beside_api_Frac_
  rw [checkFracs_any big hk _ (fun f hf => by
    simp only [List.mem_cons, List.not_mem_nil, or_false] at hf
    rcases hf with rfl | rfl | rfl | rfl | rfl
    · exact S1.f
    · exact sz.f
    · exact X0.f
    · exact X1.f
    · exact sf.f) (by simp), Option.bind_some]
  simp only [fcE, S1.ck, sz.ck, X0.ck, X1.ck, sf.ck, if_true]
  obtain ⟨v1, w1, q1, e1, f1, A1⟩ := quo_step big hk (q := ⟨false⟩) (a' := x.e0) (b' := x.e1) (fun _ => rfl) (fun _ => rfl) X0 X1 (fun _ => z)
  obtain ⟨v2, w2, q2, e2, f2, A2⟩ := sub_step big hk (q := q1) (a' := f) (b' := Z) (fun _ => rfl) (fun _ => rfl) sf sz
  obtain ⟨v3, w3, q3, e3, f3, A3⟩ := mul_step big hk (q := q2) A2.same (fun h => A1.same (A2.keep h)) A2.sm A1.sm
  obtain ⟨v4, w4, q4, e4, f4, A4⟩ := add_step big hk (q := q3) (a' := ⟨h, 1⟩) (fun _ => rfl) A3.same S1 A3.sm
  rw [show (⟨0⟩ : Sway) = fl ⟨false⟩ from rfl, e1, Option.bind_some, e2, Option.bind_some, e3, Option.bind_some, e4, Option.bind_some]
  dsimp only
  rw [first_one big hk, Option.bind_some, fl_failed]
  cases hq : q4.Large with
  | true => exact ⟨_, _, rfl, .inl rfl⟩
  | false =>
    have h3 := A4.keep hq; have h2 := A3.keep h3; have h1 := A2.keep h2
    rw [A4.same hq]
    refine ⟨_, _, rfl, .inr ⟨rfl, num_zero A4.sm ?_⟩⟩
    rw [val_add A4.sm.d0 S1.d0 A3.sm.d0 (A4.val hq), val_mul A3.sm.d0 A2.sm.d0 A1.sm.d0 (A3.val h3), val_sub A2.sm.d0 sf.d0 sz.d0 (A2.val h2), val_quo A1.sm.d0 X0.d0 X1.d0 z (A1.val h1), val_whole]
    exact e
def checkF (R : Int) : Bool := match noptics_MatrixOf big [⟨2, R⟩] with
  | some (m, 0) => (match noptics_Focal big m, nspeculumbase_Lowest big R 2 with
    | some (f, 0), some g => f.Num == g.Num && f.Den == g.Den
    | _, _ => false)
  | _ => false
set_option maxRecDepth 100000 in
theorem checkF_all : ∀ i : Fin 400, checkF ((i.1 : Int) + 1) = true := by decide +kernel
theorem focal_par {R : Int} (h : 1 ≤ R ∧ R ≤ 400) : ∃ m f, noptics_MatrixOf big [⟨2, R⟩] = some (m, 0) ∧ noptics_Focal big m = some (f, 0) ∧ nspeculumbase_Lowest big R 2 = some f := by
  have e := checkF_all ⟨(R - 1).toNat, by omega⟩
  have e1 : (((R - 1).toNat : Nat) : Int) + 1 = R := by omega
  dsimp only at e
  rw [e1] at e
  unfold checkF at e
  split at e
  · rename_i m hm
    split at e
    · rename_i f g hf hg
      simp only [Bool.and_eq_true, beq_iff_eq] at e
      have : f = g := by cases f; cases g; simp only at e; rw [e.1, e.2]
      exact ⟨m, f, hm, hf, by rw [hg, this]⟩
    · cases e
  · cases e
theorem low_sm {n d : Int} (hn : -1000000000 ≤ n ∧ n ≤ 1000000000) (hd : 0 < d ∧ d ≤ 1000000000) : ∃ f, nspeculumbase_Lowest big n d = some f ∧ Sm f ∧ val f = (n : Rat) / d := by
  obtain ⟨g, _, e, _, g1, g2, g3, g4, g5⟩ := low_any big (by decide) (n := n) (d := d) (by omega) (by omega) (by omega)
  have sg : Sm g := Sm.of (by unfold smB; rw [g3, inR_t.2 ⟨by omega, by omega⟩, decide_eq_true (by omega)]; rfl)
  have c2 := cast_ne (x := g.Den) (by omega)
  have c3 := cast_ne (x := d) (by omega)
  have c4 : (g.Num : Rat) * d = n * g.Den := by exact_mod_cast g2
  exact ⟨g, e, sg, by unfold val; grind⟩
theorem law_parabola (R h : Int) : nspeculumtop_TopParabolaFocus big R h = some true := by
  have hk : 100000000000000000000 ≤ big := by decide
  unfold nspeculumtop_TopParabolaFocus
  rw [seen_big, Option.bind_some, if_pos rfl, within_base, Option.bind_some]
  by_cases c : inR 1 400 R = true
  · rw [if_pos c, within_base, Option.bind_some]
    by_cases c2 : inR (-200) 200 h = true
    · have hR := inR_t.1 c
      have hh := inR_t.1 c2
      have sq : 0 ≤ h * h ∧ h * h ≤ 40000 := by
        have := sqnn h
        have h1 : h.natAbs * h.natAbs ≤ 200 * 200 := Nat.mul_le_mul (by omega) (by omega)
        have h2 : (h * h).natAbs = h.natAbs * h.natAbs := Int.natAbs_mul h h
        omega
      obtain ⟨Z, z1, sz, vz⟩ := low_sm (n := h * h) (d := 2 * R) (by omega) (by omega)
      obtain ⟨m, f, m1, f1, f2⟩ := focal_par hR
      obtain ⟨f', f3, sf, vf⟩ := low_sm (n := R) (d := 2) (by omega) (by decide)
      rw [f2] at f3
      cases f3
      have R0 := cast_ne (x := R) (by omega)
      have vz' : 2 * (R : Rat) * val Z = (h : Rat) * h := by
        rw [vz]; push_cast; grind
      unfold nspeculumtop_whole
      rw [if_pos c2, Option.bind_some, Option.bind_some, w64_id (n := h * h) (by omega) (by omega), w64_id (n := 2 * R) (by omega) (by omega), z1, Option.bind_some, m1]
      have vf' : val f = (R : Rat) / 2 := by rw [vf]; rfl
      rcases on_par hR hh sz vz' with on | on
      · rw [show noptics_OnConic big ⟨R, ⟨-1, 1⟩⟩ ⟨⟨h, 1⟩, Z⟩ = _ from on, Option.bind_some, Option.bind_some, f1, Option.bind_some]
        rfl
      · obtain ⟨x, e, x1, x2, x3⟩ := reflect_par hR hh sz on
        rw [show noptics_OnConic big ⟨R, ⟨-1, 1⟩⟩ ⟨⟨h, 1⟩, Z⟩ = _ from on, Option.bind_some, Option.bind_some, f1, Option.bind_some]
        dsimp only
        rw [if_neg (by decide), if_pos rfl, if_pos rfl, if_pos rfl, if_pos rfl, f2, Option.bind_some, if_pos (by simp), show noptics_Reflect big ⟨R, ⟨-1, 1⟩⟩ ⟨⟨h, 1⟩, Z⟩ ⟨0, -1⟩ = _ from x1, Option.bind_some]
        dsimp only
        rcases x2 with x2 | x2
        · rw [if_pos x2]
        · obtain ⟨X0, X1, nn, v0, v1⟩ := x3 x2
          rw [if_neg (by omega), if_pos x2]
          by_cases y : x.e1.Num = 0
          · have w : val x.e1 = 0 := by rw [sm_zero X1 y]; exact val_whole 0
            have : Z = f := val_inj sz sf (by
              rw [vf']
              rw [v1] at w
              have q : (R : Rat) * R = (h : Rat) * h := by grind
              grind)
            rw [if_pos y, this]; simp
          · have y0 : val x.e1 ≠ 0 := by
              have n0 := cast_ne y
              have d0 := cast_ne (x := x.e1.Den) (by have := X1.d0; omega)
              unfold val; intro h; grind
            obtain ⟨t, e2, t1, t2⟩ := height_par hh sz sf X0 X1 y (by
              have k : (h : Rat) * val x.e1 + (val f - val Z) * val x.e0 = 0 := by
                rw [v0, v1, vf']
                generalize val Z = zz at *
                generalize hw : (R : Rat) * 2 / ((h : Rat) * h + (R : Rat) * R) = w at *
                have hw2 : w * ((h : Rat) * h + (R : Rat) * R) = (R : Rat) * 2 := by rw [← hw]; grind
                grind
              grind)
            rw [if_neg y, t1, Option.bind_some]
            dsimp only
            rcases t2 with t2 | ⟨t2, t3⟩
            · rw [if_pos t2]
            · rw [if_neg (by omega), if_pos t2, decide_eq_true t3]
    · rw [if_neg c2]
  · rw [if_neg c]
theorem vc_parabola (a b : Int) : VC Go.Proofs.Try.prog 3 [vi a, vi b] (vb true) := nspeculumtop_TopParabolaFocus_ok _ _ _ _ (law_parabola a b)
end Go.Proofs.Ytojmekclegbndaa.Vg
