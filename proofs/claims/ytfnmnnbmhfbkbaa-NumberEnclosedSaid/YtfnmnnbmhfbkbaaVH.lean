/- Walks: the reference's RootIn. -/
import Derived.Test.YtfnmnnbmhfbkbaaVG
import Derived.Test.YtfnmnnbmhfbkbaaVE
set_option linter.unusedVariables false
set_option linter.unusedSimpArgs false
namespace Go.Proofs.Ytfnmnnbmhfbkbaa
open Go.RowKit

set_option maxRecDepth 100000 in
set_option maxHeartbeats 8000000 in
theorem rinR_none (A : Option Addr) (n cc : Nat) (p : Row) (a b c d t c0 c1  : Int) (w : World) (HA : Bx (IS w A n p)) (HTP : Bx (p (n - 1) ≠ 0)) (HSZ : Bx (∀ i, i < n → sz (p i) ≤ 1000000)) (HTT : Bx (∀ x, x ∈ sturmR n p → TopP x)) (n1 : 1 ≤ n) (n7 : n ≤ 7)
    (a1 : -1000000000 ≤ a) (a2 : a ≤ 1000000000) (b1 : 1 ≤ b) (b2 : b ≤ 1000000000) (d1 : -1000000000 ≤ c) (d2 : c ≤ 1000000000) (e1 : 1 ≤ d) (e2 : d ≤ 1000000000) (t1 : 1 ≤ t) (t2 : t ≤ 1000000)
    (HC0 : Bx (chgR a b (sturmR n p) = c0)) (HC1 : Bx (chgR c d (sturmR n p) = c1)) (k0 : 0 ≤ c0) (k1 : c0 ≤ 8) (k2 : 0 ≤ c1) (k3 : c1 ≤ 8)
    (h1 : c0 - c1 < 1) :
    Calls Try.prog 79 #[.slice A n cc, .agg #[.int .i64 a, .int .i64 b], .agg #[.int .i64 c, .int .i64 d], .int .i64 t] w fun e w' => e = .returned (.tuple #[.agg #[.int .i64 (0), .int .i64 (0)], .int .i64 (12)]) ∧ Below w.heap.size w w' := by
  have R0 := Bx.mk (RS.new w a b c d)
  have hpos : 0 < (sturmR n p).length := by simp [sturmR]
  have hposI : (0 : Int) < ((sturmR n p).length : Int) := by omega
  go_enter Try.func79, Try.ntmps79
  go_wp2_with (first
    | (go_at_call 108; (with_reducible refine (chainW_any A n cc p _ (HA.out.below (Nat.le_refl _) R0.out.B) n1 n7 HTP.out HSZ.out).mono ?_); rintro e w1 ⟨g, cg, rfl, Q1, hlen, B1⟩; have R1 := Bx.mk (R0.out.call B1); have ST1 := Bx.mk Q1; clear Q1; obtain ⟨⟨_, la1, lb1⟩, ⟨_, ha1, hb1⟩, ⟨rz1, ra1, rb1⟩, fa1, fb1, _⟩ := R1.out)
    | (go_at_call 112; (with_reducible refine (changesW_any (some ⟨g, 0, none⟩) (sturmR n p) _ cg 1835006 a b _ ST1.out HTT.out rfl (by omega) (by omega) (by omega) (by omega) (by omega) (by omega)).mono ?_); rw [HC0.out]; rintro e w2 ⟨rfl, B2⟩; have R2 := Bx.mk (R1.out.call B2); have ST2 := Bx.mk (ST1.out.below (Nat.le_refl _) B2); obtain ⟨⟨_, la2, lb2⟩, ⟨_, ha2, hb2⟩, ⟨rz2, ra2, rb2⟩, fa2, fb2, _⟩ := R2.out)
    | (go_at_call 112; (with_reducible refine (changesW_any (some ⟨g, 0, none⟩) (sturmR n p) _ cg 1835006 c d _ ST2.out HTT.out rfl (by omega) (by omega) (by omega) (by omega) (by omega) (by omega)).mono ?_); rw [HC1.out]; rintro e w3 ⟨rfl, B3⟩; have R3 := Bx.mk (R2.out.call B3); have ST3 := Bx.mk (ST2.out.below (Nat.le_refl _) B3); obtain ⟨⟨_, la3, lb3⟩, ⟨_, ha3, hb3⟩, ⟨rz3, ra3, rb3⟩, fa3, fb3, _⟩ := R3.out))
  obtain ⟨j0, j1⟩ := set2 (b := w.heap.size + 1 + 1) (x := .int .i64 0) (y := .int .i64 0) (.int .i64 (0)) (.int .i64 (0)) ra3 rb3
  exact bodyPost_ret (ret_range rfl _ _ _ _ _ _ rfl rfl j0 j1) rfl ⟨rfl, (R3.out.B.setCell (by show w.heap.size ≤ w.heap.size + 1 + 1; omega) _).setCell (by show w.heap.size ≤ w.heap.size + 1 + 1; omega) _⟩

set_option maxRecDepth 100000 in
set_option maxHeartbeats 8000000 in
theorem rinR_many (A : Option Addr) (n cc : Nat) (p : Row) (a b c d t c0 c1  : Int) (w : World) (HA : Bx (IS w A n p)) (HTP : Bx (p (n - 1) ≠ 0)) (HSZ : Bx (∀ i, i < n → sz (p i) ≤ 1000000)) (HTT : Bx (∀ x, x ∈ sturmR n p → TopP x)) (n1 : 1 ≤ n) (n7 : n ≤ 7)
    (a1 : -1000000000 ≤ a) (a2 : a ≤ 1000000000) (b1 : 1 ≤ b) (b2 : b ≤ 1000000000) (d1 : -1000000000 ≤ c) (d2 : c ≤ 1000000000) (e1 : 1 ≤ d) (e2 : d ≤ 1000000000) (t1 : 1 ≤ t) (t2 : t ≤ 1000000)
    (HC0 : Bx (chgR a b (sturmR n p) = c0)) (HC1 : Bx (chgR c d (sturmR n p) = c1)) (k0 : 0 ≤ c0) (k1 : c0 ≤ 8) (k2 : 0 ≤ c1) (k3 : c1 ≤ 8)
    (h1 : 1 < c0 - c1) :
    Calls Try.prog 79 #[.slice A n cc, .agg #[.int .i64 a, .int .i64 b], .agg #[.int .i64 c, .int .i64 d], .int .i64 t] w fun e w' => e = .returned (.tuple #[.agg #[.int .i64 (0), .int .i64 (0)], .int .i64 (13)]) ∧ Below w.heap.size w w' := by
  have R0 := Bx.mk (RS.new w a b c d)
  have hpos : 0 < (sturmR n p).length := by simp [sturmR]
  have hposI : (0 : Int) < ((sturmR n p).length : Int) := by omega
  have h2 : ¬ c0 - c1 < 1 := by omega
  go_enter Try.func79, Try.ntmps79
  go_wp2_with (first
    | (go_at_call 108; (with_reducible refine (chainW_any A n cc p _ (HA.out.below (Nat.le_refl _) R0.out.B) n1 n7 HTP.out HSZ.out).mono ?_); rintro e w1 ⟨g, cg, rfl, Q1, hlen, B1⟩; have R1 := Bx.mk (R0.out.call B1); have ST1 := Bx.mk Q1; clear Q1; obtain ⟨⟨_, la1, lb1⟩, ⟨_, ha1, hb1⟩, ⟨rz1, ra1, rb1⟩, fa1, fb1, _⟩ := R1.out)
    | (go_at_call 112; (with_reducible refine (changesW_any (some ⟨g, 0, none⟩) (sturmR n p) _ cg 1835006 a b _ ST1.out HTT.out rfl (by omega) (by omega) (by omega) (by omega) (by omega) (by omega)).mono ?_); rw [HC0.out]; rintro e w2 ⟨rfl, B2⟩; have R2 := Bx.mk (R1.out.call B2); have ST2 := Bx.mk (ST1.out.below (Nat.le_refl _) B2); obtain ⟨⟨_, la2, lb2⟩, ⟨_, ha2, hb2⟩, ⟨rz2, ra2, rb2⟩, fa2, fb2, _⟩ := R2.out)
    | (go_at_call 112; (with_reducible refine (changesW_any (some ⟨g, 0, none⟩) (sturmR n p) _ cg 1835006 c d _ ST2.out HTT.out rfl (by omega) (by omega) (by omega) (by omega) (by omega) (by omega)).mono ?_); rw [HC1.out]; rintro e w3 ⟨rfl, B3⟩; have R3 := Bx.mk (R2.out.call B3); have ST3 := Bx.mk (ST2.out.below (Nat.le_refl _) B3); obtain ⟨⟨_, la3, lb3⟩, ⟨_, ha3, hb3⟩, ⟨rz3, ra3, rb3⟩, fa3, fb3, _⟩ := R3.out))
  obtain ⟨j0, j1⟩ := set2 (b := w.heap.size + 1 + 1) (x := .int .i64 0) (y := .int .i64 0) (.int .i64 (0)) (.int .i64 (0)) ra3 rb3
  exact bodyPost_ret (ret_range rfl _ _ _ _ _ _ rfl rfl j0 j1) rfl ⟨rfl, (R3.out.B.setCell (by show w.heap.size ≤ w.heap.size + 1 + 1; omega) _).setCell (by show w.heap.size ≤ w.heap.size + 1 + 1; omega) _⟩

set_option maxRecDepth 100000 in
set_option maxHeartbeats 8000000 in
theorem rinR_at (A : Option Addr) (n cc : Nat) (p : Row) (a b c d t c0 c1 fl th tl r : Int) (w : World) (HA : Bx (IS w A n p)) (HTP : Bx (p (n - 1) ≠ 0)) (HSZ : Bx (∀ i, i < n → sz (p i) ≤ 1000000)) (HTT : Bx (∀ x, x ∈ sturmR n p → TopP x)) (n1 : 1 ≤ n) (n7 : n ≤ 7)
    (a1 : -1000000000 ≤ a) (a2 : a ≤ 1000000000) (b1 : 1 ≤ b) (b2 : b ≤ 1000000000) (d1 : -1000000000 ≤ c) (d2 : c ≤ 1000000000) (e1 : 1 ≤ d) (e2 : d ≤ 1000000000) (t1 : 1 ≤ t) (t2 : t ≤ 1000000)
    (HC0 : Bx (chgR a b (sturmR n p) = c0)) (HC1 : Bx (chgR c d (sturmR n p) = c1)) (k0 : 0 ≤ c0) (k1 : c0 ≤ 8) (k2 : 0 ≤ c1) (k3 : c1 ≤ 8)
    (h1 : c0 - c1 = 1) (HFL : Bx (a * t / b = fl)) (HTH : Bx (-(-(c * t) / d) = th)) (HTL : Bx (c * t / d = tl)) (HU : Bx (bisU (sturmR n p) c0 t (th - fl).toNat fl th = r)) (q1 : -10000000000000000 ≤ fl) (q2 : fl ≤ 10000000000000000) (q3 : -10000000000000000 ≤ th) (q4 : th ≤ 10000000000000000) (HS : Bx (sgAt n p r t = 0)) (h4 : r ≤ tl) :
    Calls Try.prog 79 #[.slice A n cc, .agg #[.int .i64 a, .int .i64 b], .agg #[.int .i64 c, .int .i64 d], .int .i64 t] w fun e w' => e = .returned (.tuple #[.agg #[.int .i64 (r), .int .i64 (r)], .int .i64 (0)]) ∧ Below w.heap.size w w' := by
  have R0 := Bx.mk (RS.new w a b c d)
  have hpos : 0 < (sturmR n p).length := by simp [sturmR]
  have hposI : (0 : Int) < ((sturmR n p).length : Int) := by omega
  have m1 := mul_b9 (x := a) (y := t) a1 a2 (by omega) (by omega)
  have m2 := mul_b9 (x := c) (y := t) d1 d2 (by omega) (by omega)
  have hw1 : IntKind.i64.wrap (a * t) = a * t := IntWalk.i64_in _ (by omega)
  have hw2 : IntKind.i64.wrap (c * t) = c * t := IntWalk.i64_in _ (by omega)
  have h2 : ¬ c0 - c1 < 1 := by omega
  have h3 : ¬ 1 < c0 - c1 := by omega
  go_enter Try.func79, Try.ntmps79
  go_wp2_with (first
    | (go_at_call 108; (with_reducible refine (chainW_any A n cc p _ (HA.out.below (Nat.le_refl _) R0.out.B) n1 n7 HTP.out HSZ.out).mono ?_); rintro e w1 ⟨g, cg, rfl, Q1, hlen, B1⟩; have R1 := Bx.mk (R0.out.call B1); have ST1 := Bx.mk Q1; clear Q1; obtain ⟨⟨_, la1, lb1⟩, ⟨_, ha1, hb1⟩, ⟨rz1, ra1, rb1⟩, fa1, fb1, _⟩ := R1.out)
    | (go_at_call 112; (with_reducible refine (changesW_any (some ⟨g, 0, none⟩) (sturmR n p) _ cg 1835006 a b _ ST1.out HTT.out rfl (by omega) (by omega) (by omega) (by omega) (by omega) (by omega)).mono ?_); rw [HC0.out]; rintro e w2 ⟨rfl, B2⟩; have R2 := Bx.mk (R1.out.call B2); have ST2 := Bx.mk (ST1.out.below (Nat.le_refl _) B2); obtain ⟨⟨_, la2, lb2⟩, ⟨_, ha2, hb2⟩, ⟨rz2, ra2, rb2⟩, fa2, fb2, _⟩ := R2.out)
    | (go_at_call 112; (with_reducible refine (changesW_any (some ⟨g, 0, none⟩) (sturmR n p) _ cg 1835006 c d _ ST2.out HTT.out rfl (by omega) (by omega) (by omega) (by omega) (by omega) (by omega)).mono ?_); rw [HC1.out]; rintro e w3 ⟨rfl, B3⟩; have R3 := Bx.mk (R2.out.call B3); have ST3 := Bx.mk (ST2.out.below (Nat.le_refl _) B3); obtain ⟨⟨_, la3, lb3⟩, ⟨_, ha3, hb3⟩, ⟨rz3, ra3, rb3⟩, fa3, fb3, _⟩ := R3.out))
  go_quiet ((first | (go_at_call 91; exact Calls.quiet_of_same ((floorB_any (a * t) b _ (by omega) (by omega) (by omega) (by omega)).mono fun _ _ hh => ⟨hh.1, hh.2.symm⟩)) | (go_at_call 92; exact Calls.quiet_of_same ((ceilB_any (c * t) d _ (by omega) (by omega) (by omega) (by omega)).mono fun _ _ hh => ⟨hh.1, hh.2.symm⟩))))
  rw [HFL.out, HTH.out]
  go_wp2
  have R4 := Bx.mk (R3.out.call (below_drewN (Below.refl _ _) nq))
  have ST4 := Bx.mk (show WT (w3.drewN nq) (some ⟨g, 0, none⟩) (sturmR n p) 1835006 from ST3.out.below (Nat.le_refl _) (below_drewN (Below.refl _ _) nq))
  clear R1 R2 R3 ST1 ST2 ST3 la1 lb1 ha1 hb1 rz1 ra1 rb1 fa1 fb1 la2 lb2 ha2 hb2 rz2 ra2 rb2 fa2 fb2 la3 lb3 ha3 hb3 rz3 ra3 rb3 fa3 fb3 B1 B2 B3 h1
  generalize w3.drewN nq = w4 at *
  go_loopw [13, 14] (fun x y wr => ∃ u v : Int, x = .int .i64 u ∧ y = .int .i64 v ∧ -10000000000000000 ≤ u ∧ u ≤ 10000000000000000 ∧ -10000000000000000 ≤ v ∧ v ≤ 10000000000000000 ∧ Bx (bisU (sturmR n p) c0 t (v - u).toNat u v = r) ∧ Bx (Below w4.heap.size w4 wr)) (fun x y _ => (intOf y - intOf x).toNat)
  case atStart => exact ⟨fl, th, rfl, rfl, q1, q2, q3, q4, HU, ⟨Below.refl _ _⟩⟩
  case round =>
    obtain ⟨u, v, rfl, rfl, u1, u2, v1, v2, HR, HB⟩ := hrel
    by_cases hc : 1 < v - u
    · have hc' : u + 1 < v := by omega
      have hm0 : 0 ≤ (v - u) / 2 := by omega
      have hm1 : u < u + (v - u) / 2 := by omega
      have hm2 : u + (v - u) / 2 < v := by omega
      have STr := Bx.mk (ST4.out.below (Nat.le_refl _) HB.out)
      have HBL := Bx.mk (bisU_lt (l := sturmR n p) (c0 := c0) (t := t) hc)
      have HBG := Bx.mk (bisU_ge (l := sturmR n p) (c0 := c0) (t := t) hc)
      obtain ⟨cm, hcm⟩ : ∃ cm, chgR (u + (v - u) / 2) t (sturmR n p) = cm := ⟨_, rfl⟩
      obtain ⟨j1, j2⟩ := chgR_bd (u + (v - u) / 2) t (sturmR n p)
      rw [hcm] at j1 j2
      have HCM := Bx.mk hcm
      clear hcm
      by_cases hlt : cm < c0
      · have HN := Bx.mk ((HBL.out (by rw [HCM.out]; exact hlt)).symm.trans HR.out)
        have hlt' : 0 < c0 - cm := by omega
        go_wp2_with (go_at_call 112; (with_reducible refine (changesW_any (some ⟨g, 0, none⟩) (sturmR n p) _ cg 1835006 (u + (v - u) / 2) t _ STr.out HTT.out rfl (by omega) (by omega) (by omega) (by omega) (by omega) (by omega)).mono ?_); rw [HCM.out]; rintro e w5 ⟨rfl, B5⟩; have HB5 := Bx.mk B5; clear B5)
        go_roundw
        case rel => exact ⟨u, u + (v - u) / 2, rfl, rfl, u1, u2, by omega, by omega, HN, ⟨HB.out.trans (HB5.out.mono HB.out.size)⟩⟩
        case measure => simp [intOf]; omega
      · have HN := Bx.mk ((HBG.out (by rw [HCM.out]; exact hlt)).symm.trans HR.out)
        have hlt' : ¬ 0 < c0 - cm := by omega
        go_wp2_with (go_at_call 112; (with_reducible refine (changesW_any (some ⟨g, 0, none⟩) (sturmR n p) _ cg 1835006 (u + (v - u) / 2) t _ STr.out HTT.out rfl (by omega) (by omega) (by omega) (by omega) (by omega) (by omega)).mono ?_); rw [HCM.out]; rintro e w5 ⟨rfl, B5⟩; have HB5 := Bx.mk B5; clear B5)
        go_roundw
        case rel => exact ⟨u + (v - u) / 2, v, rfl, rfl, by omega, by omega, v1, v2, HN, ⟨HB.out.trans (HB5.out.mono HB.out.size)⟩⟩
        case measure => simp [intOf]; omega
    · have hc' : ¬ u + 1 < v := by omega
      have hvr : v = r := (bisU_end (l := sturmR n p) (c0 := c0) (t := t) hc (v - u).toNat).symm.trans HR.out
      subst hvr
      have R5 := Bx.mk (R4.out.call HB.out)
      obtain ⟨⟨_, la5, lb5⟩, ⟨_, ha5, hb5⟩, ⟨rz5, ra5, rb5⟩, fa5, fb5, _⟩ := R5.out
      obtain ⟨g', eg, hgl, hge⟩ := (ST4.out.below (Nat.le_refl _) HB.out) (by simp [sturmR])
      obtain ⟨Ai, ci, sp0, P0, _⟩ := hge 0 (n, p) rfl
      injection eg with eg
      injection eg with eg
      subst eg
      have HP0 := Bx.mk P0
      clear P0 hge HR
      dsimp only at sp0
      go_wp2_with (first
        | (go_at_call 107; (with_reducible refine (signW_any Ai n ci p 1835006 v t _ HP0.out (by omega) (by omega) (by omega) (by omega) (by omega) (by omega)).mono ?_); rw [HS.out]; rintro e w6 ⟨rfl, B6⟩; have R6 := Bx.mk (R5.out.call B6); obtain ⟨⟨_, la6, lb6⟩, ⟨_, ha6, hb6⟩, ⟨rz6, ra6, rb6⟩, fa6, fb6, _⟩ := R6.out)
        | (go_at_call 91; (with_reducible refine (floorB_any (c * t) d _ (by omega) (by omega) (by omega) (by omega)).mono ?_); rw [HTL.out]; rintro e wx ⟨rfl, rfl⟩))
      obtain ⟨j0, j1⟩ := set2 (b := w.heap.size + 1 + 1) (x := .int .i64 0) (y := .int .i64 0) (.int .i64 (v)) (.int .i64 (v)) ra6 rb6
      exact bodyPost_ret (ret_range rfl _ _ _ _ _ _ rfl rfl j0 j1) rfl ⟨rfl, (R6.out.B.setCell (by show w.heap.size ≤ w.heap.size + 1 + 1; omega) _).setCell (by show w.heap.size ≤ w.heap.size + 1 + 1; omega) _⟩

set_option maxRecDepth 100000 in
set_option maxHeartbeats 8000000 in
theorem rinR_off (A : Option Addr) (n cc : Nat) (p : Row) (a b c d t c0 c1 fl th tl r : Int) (w : World) (HA : Bx (IS w A n p)) (HTP : Bx (p (n - 1) ≠ 0)) (HSZ : Bx (∀ i, i < n → sz (p i) ≤ 1000000)) (HTT : Bx (∀ x, x ∈ sturmR n p → TopP x)) (n1 : 1 ≤ n) (n7 : n ≤ 7)
    (a1 : -1000000000 ≤ a) (a2 : a ≤ 1000000000) (b1 : 1 ≤ b) (b2 : b ≤ 1000000000) (d1 : -1000000000 ≤ c) (d2 : c ≤ 1000000000) (e1 : 1 ≤ d) (e2 : d ≤ 1000000000) (t1 : 1 ≤ t) (t2 : t ≤ 1000000)
    (HC0 : Bx (chgR a b (sturmR n p) = c0)) (HC1 : Bx (chgR c d (sturmR n p) = c1)) (k0 : 0 ≤ c0) (k1 : c0 ≤ 8) (k2 : 0 ≤ c1) (k3 : c1 ≤ 8)
    (h1 : c0 - c1 = 1) (HFL : Bx (a * t / b = fl)) (HTH : Bx (-(-(c * t) / d) = th)) (HTL : Bx (c * t / d = tl)) (HU : Bx (bisU (sturmR n p) c0 t (th - fl).toNat fl th = r)) (q1 : -10000000000000000 ≤ fl) (q2 : fl ≤ 10000000000000000) (q3 : -10000000000000000 ≤ th) (q4 : th ≤ 10000000000000000) (HS : Bx (sgAt n p r t = 0)) (h4 : ¬ r ≤ tl) :
    Calls Try.prog 79 #[.slice A n cc, .agg #[.int .i64 a, .int .i64 b], .agg #[.int .i64 c, .int .i64 d], .int .i64 t] w fun e w' => e = .returned (.tuple #[.agg #[.int .i64 (r - 1), .int .i64 (r)], .int .i64 (0)]) ∧ Below w.heap.size w w' := by
  have R0 := Bx.mk (RS.new w a b c d)
  have hpos : 0 < (sturmR n p).length := by simp [sturmR]
  have hposI : (0 : Int) < ((sturmR n p).length : Int) := by omega
  have m1 := mul_b9 (x := a) (y := t) a1 a2 (by omega) (by omega)
  have m2 := mul_b9 (x := c) (y := t) d1 d2 (by omega) (by omega)
  have hw1 : IntKind.i64.wrap (a * t) = a * t := IntWalk.i64_in _ (by omega)
  have hw2 : IntKind.i64.wrap (c * t) = c * t := IntWalk.i64_in _ (by omega)
  have h2 : ¬ c0 - c1 < 1 := by omega
  have h3 : ¬ 1 < c0 - c1 := by omega
  go_enter Try.func79, Try.ntmps79
  go_wp2_with (first
    | (go_at_call 108; (with_reducible refine (chainW_any A n cc p _ (HA.out.below (Nat.le_refl _) R0.out.B) n1 n7 HTP.out HSZ.out).mono ?_); rintro e w1 ⟨g, cg, rfl, Q1, hlen, B1⟩; have R1 := Bx.mk (R0.out.call B1); have ST1 := Bx.mk Q1; clear Q1; obtain ⟨⟨_, la1, lb1⟩, ⟨_, ha1, hb1⟩, ⟨rz1, ra1, rb1⟩, fa1, fb1, _⟩ := R1.out)
    | (go_at_call 112; (with_reducible refine (changesW_any (some ⟨g, 0, none⟩) (sturmR n p) _ cg 1835006 a b _ ST1.out HTT.out rfl (by omega) (by omega) (by omega) (by omega) (by omega) (by omega)).mono ?_); rw [HC0.out]; rintro e w2 ⟨rfl, B2⟩; have R2 := Bx.mk (R1.out.call B2); have ST2 := Bx.mk (ST1.out.below (Nat.le_refl _) B2); obtain ⟨⟨_, la2, lb2⟩, ⟨_, ha2, hb2⟩, ⟨rz2, ra2, rb2⟩, fa2, fb2, _⟩ := R2.out)
    | (go_at_call 112; (with_reducible refine (changesW_any (some ⟨g, 0, none⟩) (sturmR n p) _ cg 1835006 c d _ ST2.out HTT.out rfl (by omega) (by omega) (by omega) (by omega) (by omega) (by omega)).mono ?_); rw [HC1.out]; rintro e w3 ⟨rfl, B3⟩; have R3 := Bx.mk (R2.out.call B3); have ST3 := Bx.mk (ST2.out.below (Nat.le_refl _) B3); obtain ⟨⟨_, la3, lb3⟩, ⟨_, ha3, hb3⟩, ⟨rz3, ra3, rb3⟩, fa3, fb3, _⟩ := R3.out))
  go_quiet ((first | (go_at_call 91; exact Calls.quiet_of_same ((floorB_any (a * t) b _ (by omega) (by omega) (by omega) (by omega)).mono fun _ _ hh => ⟨hh.1, hh.2.symm⟩)) | (go_at_call 92; exact Calls.quiet_of_same ((ceilB_any (c * t) d _ (by omega) (by omega) (by omega) (by omega)).mono fun _ _ hh => ⟨hh.1, hh.2.symm⟩))))
  rw [HFL.out, HTH.out]
  go_wp2
  have R4 := Bx.mk (R3.out.call (below_drewN (Below.refl _ _) nq))
  have ST4 := Bx.mk (show WT (w3.drewN nq) (some ⟨g, 0, none⟩) (sturmR n p) 1835006 from ST3.out.below (Nat.le_refl _) (below_drewN (Below.refl _ _) nq))
  clear R1 R2 R3 ST1 ST2 ST3 la1 lb1 ha1 hb1 rz1 ra1 rb1 fa1 fb1 la2 lb2 ha2 hb2 rz2 ra2 rb2 fa2 fb2 la3 lb3 ha3 hb3 rz3 ra3 rb3 fa3 fb3 B1 B2 B3 h1
  generalize w3.drewN nq = w4 at *
  go_loopw [13, 14] (fun x y wr => ∃ u v : Int, x = .int .i64 u ∧ y = .int .i64 v ∧ -10000000000000000 ≤ u ∧ u ≤ 10000000000000000 ∧ -10000000000000000 ≤ v ∧ v ≤ 10000000000000000 ∧ Bx (bisU (sturmR n p) c0 t (v - u).toNat u v = r) ∧ Bx (Below w4.heap.size w4 wr)) (fun x y _ => (intOf y - intOf x).toNat)
  case atStart => exact ⟨fl, th, rfl, rfl, q1, q2, q3, q4, HU, ⟨Below.refl _ _⟩⟩
  case round =>
    obtain ⟨u, v, rfl, rfl, u1, u2, v1, v2, HR, HB⟩ := hrel
    by_cases hc : 1 < v - u
    · have hc' : u + 1 < v := by omega
      have hm0 : 0 ≤ (v - u) / 2 := by omega
      have hm1 : u < u + (v - u) / 2 := by omega
      have hm2 : u + (v - u) / 2 < v := by omega
      have STr := Bx.mk (ST4.out.below (Nat.le_refl _) HB.out)
      have HBL := Bx.mk (bisU_lt (l := sturmR n p) (c0 := c0) (t := t) hc)
      have HBG := Bx.mk (bisU_ge (l := sturmR n p) (c0 := c0) (t := t) hc)
      obtain ⟨cm, hcm⟩ : ∃ cm, chgR (u + (v - u) / 2) t (sturmR n p) = cm := ⟨_, rfl⟩
      obtain ⟨j1, j2⟩ := chgR_bd (u + (v - u) / 2) t (sturmR n p)
      rw [hcm] at j1 j2
      have HCM := Bx.mk hcm
      clear hcm
      by_cases hlt : cm < c0
      · have HN := Bx.mk ((HBL.out (by rw [HCM.out]; exact hlt)).symm.trans HR.out)
        have hlt' : 0 < c0 - cm := by omega
        go_wp2_with (go_at_call 112; (with_reducible refine (changesW_any (some ⟨g, 0, none⟩) (sturmR n p) _ cg 1835006 (u + (v - u) / 2) t _ STr.out HTT.out rfl (by omega) (by omega) (by omega) (by omega) (by omega) (by omega)).mono ?_); rw [HCM.out]; rintro e w5 ⟨rfl, B5⟩; have HB5 := Bx.mk B5; clear B5)
        go_roundw
        case rel => exact ⟨u, u + (v - u) / 2, rfl, rfl, u1, u2, by omega, by omega, HN, ⟨HB.out.trans (HB5.out.mono HB.out.size)⟩⟩
        case measure => simp [intOf]; omega
      · have HN := Bx.mk ((HBG.out (by rw [HCM.out]; exact hlt)).symm.trans HR.out)
        have hlt' : ¬ 0 < c0 - cm := by omega
        go_wp2_with (go_at_call 112; (with_reducible refine (changesW_any (some ⟨g, 0, none⟩) (sturmR n p) _ cg 1835006 (u + (v - u) / 2) t _ STr.out HTT.out rfl (by omega) (by omega) (by omega) (by omega) (by omega) (by omega)).mono ?_); rw [HCM.out]; rintro e w5 ⟨rfl, B5⟩; have HB5 := Bx.mk B5; clear B5)
        go_roundw
        case rel => exact ⟨u + (v - u) / 2, v, rfl, rfl, by omega, by omega, v1, v2, HN, ⟨HB.out.trans (HB5.out.mono HB.out.size)⟩⟩
        case measure => simp [intOf]; omega
    · have hc' : ¬ u + 1 < v := by omega
      have hvr : v = r := (bisU_end (l := sturmR n p) (c0 := c0) (t := t) hc (v - u).toNat).symm.trans HR.out
      subst hvr
      have R5 := Bx.mk (R4.out.call HB.out)
      obtain ⟨⟨_, la5, lb5⟩, ⟨_, ha5, hb5⟩, ⟨rz5, ra5, rb5⟩, fa5, fb5, _⟩ := R5.out
      obtain ⟨g', eg, hgl, hge⟩ := (ST4.out.below (Nat.le_refl _) HB.out) (by simp [sturmR])
      obtain ⟨Ai, ci, sp0, P0, _⟩ := hge 0 (n, p) rfl
      injection eg with eg
      injection eg with eg
      subst eg
      have HP0 := Bx.mk P0
      clear P0 hge HR
      dsimp only at sp0
      go_wp2_with (first
        | (go_at_call 107; (with_reducible refine (signW_any Ai n ci p 1835006 v t _ HP0.out (by omega) (by omega) (by omega) (by omega) (by omega) (by omega)).mono ?_); rw [HS.out]; rintro e w6 ⟨rfl, B6⟩; have R6 := Bx.mk (R5.out.call B6); obtain ⟨⟨_, la6, lb6⟩, ⟨_, ha6, hb6⟩, ⟨rz6, ra6, rb6⟩, fa6, fb6, _⟩ := R6.out)
        | (go_at_call 91; (with_reducible refine (floorB_any (c * t) d _ (by omega) (by omega) (by omega) (by omega)).mono ?_); rw [HTL.out]; rintro e wx ⟨rfl, rfl⟩))
      obtain ⟨j0, j1⟩ := set2 (b := w.heap.size + 1 + 1) (x := .int .i64 0) (y := .int .i64 0) (.int .i64 (v - 1)) (.int .i64 (v)) ra6 rb6
      exact bodyPost_ret (ret_range rfl _ _ _ _ _ _ rfl rfl j0 j1) rfl ⟨rfl, (R6.out.B.setCell (by show w.heap.size ≤ w.heap.size + 1 + 1; omega) _).setCell (by show w.heap.size ≤ w.heap.size + 1 + 1; omega) _⟩

set_option maxRecDepth 100000 in
set_option maxHeartbeats 8000000 in
theorem rinR_not (A : Option Addr) (n cc : Nat) (p : Row) (a b c d t c0 c1 fl th tl r s : Int) (w : World) (HA : Bx (IS w A n p)) (HTP : Bx (p (n - 1) ≠ 0)) (HSZ : Bx (∀ i, i < n → sz (p i) ≤ 1000000)) (HTT : Bx (∀ x, x ∈ sturmR n p → TopP x)) (n1 : 1 ≤ n) (n7 : n ≤ 7)
    (a1 : -1000000000 ≤ a) (a2 : a ≤ 1000000000) (b1 : 1 ≤ b) (b2 : b ≤ 1000000000) (d1 : -1000000000 ≤ c) (d2 : c ≤ 1000000000) (e1 : 1 ≤ d) (e2 : d ≤ 1000000000) (t1 : 1 ≤ t) (t2 : t ≤ 1000000)
    (HC0 : Bx (chgR a b (sturmR n p) = c0)) (HC1 : Bx (chgR c d (sturmR n p) = c1)) (k0 : 0 ≤ c0) (k1 : c0 ≤ 8) (k2 : 0 ≤ c1) (k3 : c1 ≤ 8)
    (h1 : c0 - c1 = 1) (HFL : Bx (a * t / b = fl)) (HTH : Bx (-(-(c * t) / d) = th)) (HTL : Bx (c * t / d = tl)) (HU : Bx (bisU (sturmR n p) c0 t (th - fl).toNat fl th = r)) (q1 : -10000000000000000 ≤ fl) (q2 : fl ≤ 10000000000000000) (q3 : -10000000000000000 ≤ th) (q4 : th ≤ 10000000000000000) (HS : Bx (sgAt n p r t = s)) (h4 : (s == 0) = false) :
    Calls Try.prog 79 #[.slice A n cc, .agg #[.int .i64 a, .int .i64 b], .agg #[.int .i64 c, .int .i64 d], .int .i64 t] w fun e w' => e = .returned (.tuple #[.agg #[.int .i64 (r - 1), .int .i64 (r)], .int .i64 (0)]) ∧ Below w.heap.size w w' := by
  have R0 := Bx.mk (RS.new w a b c d)
  have hpos : 0 < (sturmR n p).length := by simp [sturmR]
  have hposI : (0 : Int) < ((sturmR n p).length : Int) := by omega
  have m1 := mul_b9 (x := a) (y := t) a1 a2 (by omega) (by omega)
  have m2 := mul_b9 (x := c) (y := t) d1 d2 (by omega) (by omega)
  have hw1 : IntKind.i64.wrap (a * t) = a * t := IntWalk.i64_in _ (by omega)
  have hw2 : IntKind.i64.wrap (c * t) = c * t := IntWalk.i64_in _ (by omega)
  have h2 : ¬ c0 - c1 < 1 := by omega
  have h3 : ¬ 1 < c0 - c1 := by omega
  go_enter Try.func79, Try.ntmps79
  go_wp2_with (first
    | (go_at_call 108; (with_reducible refine (chainW_any A n cc p _ (HA.out.below (Nat.le_refl _) R0.out.B) n1 n7 HTP.out HSZ.out).mono ?_); rintro e w1 ⟨g, cg, rfl, Q1, hlen, B1⟩; have R1 := Bx.mk (R0.out.call B1); have ST1 := Bx.mk Q1; clear Q1; obtain ⟨⟨_, la1, lb1⟩, ⟨_, ha1, hb1⟩, ⟨rz1, ra1, rb1⟩, fa1, fb1, _⟩ := R1.out)
    | (go_at_call 112; (with_reducible refine (changesW_any (some ⟨g, 0, none⟩) (sturmR n p) _ cg 1835006 a b _ ST1.out HTT.out rfl (by omega) (by omega) (by omega) (by omega) (by omega) (by omega)).mono ?_); rw [HC0.out]; rintro e w2 ⟨rfl, B2⟩; have R2 := Bx.mk (R1.out.call B2); have ST2 := Bx.mk (ST1.out.below (Nat.le_refl _) B2); obtain ⟨⟨_, la2, lb2⟩, ⟨_, ha2, hb2⟩, ⟨rz2, ra2, rb2⟩, fa2, fb2, _⟩ := R2.out)
    | (go_at_call 112; (with_reducible refine (changesW_any (some ⟨g, 0, none⟩) (sturmR n p) _ cg 1835006 c d _ ST2.out HTT.out rfl (by omega) (by omega) (by omega) (by omega) (by omega) (by omega)).mono ?_); rw [HC1.out]; rintro e w3 ⟨rfl, B3⟩; have R3 := Bx.mk (R2.out.call B3); have ST3 := Bx.mk (ST2.out.below (Nat.le_refl _) B3); obtain ⟨⟨_, la3, lb3⟩, ⟨_, ha3, hb3⟩, ⟨rz3, ra3, rb3⟩, fa3, fb3, _⟩ := R3.out))
  go_quiet ((first | (go_at_call 91; exact Calls.quiet_of_same ((floorB_any (a * t) b _ (by omega) (by omega) (by omega) (by omega)).mono fun _ _ hh => ⟨hh.1, hh.2.symm⟩)) | (go_at_call 92; exact Calls.quiet_of_same ((ceilB_any (c * t) d _ (by omega) (by omega) (by omega) (by omega)).mono fun _ _ hh => ⟨hh.1, hh.2.symm⟩))))
  rw [HFL.out, HTH.out]
  go_wp2
  have R4 := Bx.mk (R3.out.call (below_drewN (Below.refl _ _) nq))
  have ST4 := Bx.mk (show WT (w3.drewN nq) (some ⟨g, 0, none⟩) (sturmR n p) 1835006 from ST3.out.below (Nat.le_refl _) (below_drewN (Below.refl _ _) nq))
  clear R1 R2 R3 ST1 ST2 ST3 la1 lb1 ha1 hb1 rz1 ra1 rb1 fa1 fb1 la2 lb2 ha2 hb2 rz2 ra2 rb2 fa2 fb2 la3 lb3 ha3 hb3 rz3 ra3 rb3 fa3 fb3 B1 B2 B3 h1
  generalize w3.drewN nq = w4 at *
  go_loopw [13, 14] (fun x y wr => ∃ u v : Int, x = .int .i64 u ∧ y = .int .i64 v ∧ -10000000000000000 ≤ u ∧ u ≤ 10000000000000000 ∧ -10000000000000000 ≤ v ∧ v ≤ 10000000000000000 ∧ Bx (bisU (sturmR n p) c0 t (v - u).toNat u v = r) ∧ Bx (Below w4.heap.size w4 wr)) (fun x y _ => (intOf y - intOf x).toNat)
  case atStart => exact ⟨fl, th, rfl, rfl, q1, q2, q3, q4, HU, ⟨Below.refl _ _⟩⟩
  case round =>
    obtain ⟨u, v, rfl, rfl, u1, u2, v1, v2, HR, HB⟩ := hrel
    by_cases hc : 1 < v - u
    · have hc' : u + 1 < v := by omega
      have hm0 : 0 ≤ (v - u) / 2 := by omega
      have hm1 : u < u + (v - u) / 2 := by omega
      have hm2 : u + (v - u) / 2 < v := by omega
      have STr := Bx.mk (ST4.out.below (Nat.le_refl _) HB.out)
      have HBL := Bx.mk (bisU_lt (l := sturmR n p) (c0 := c0) (t := t) hc)
      have HBG := Bx.mk (bisU_ge (l := sturmR n p) (c0 := c0) (t := t) hc)
      obtain ⟨cm, hcm⟩ : ∃ cm, chgR (u + (v - u) / 2) t (sturmR n p) = cm := ⟨_, rfl⟩
      obtain ⟨j1, j2⟩ := chgR_bd (u + (v - u) / 2) t (sturmR n p)
      rw [hcm] at j1 j2
      have HCM := Bx.mk hcm
      clear hcm
      by_cases hlt : cm < c0
      · have HN := Bx.mk ((HBL.out (by rw [HCM.out]; exact hlt)).symm.trans HR.out)
        have hlt' : 0 < c0 - cm := by omega
        go_wp2_with (go_at_call 112; (with_reducible refine (changesW_any (some ⟨g, 0, none⟩) (sturmR n p) _ cg 1835006 (u + (v - u) / 2) t _ STr.out HTT.out rfl (by omega) (by omega) (by omega) (by omega) (by omega) (by omega)).mono ?_); rw [HCM.out]; rintro e w5 ⟨rfl, B5⟩; have HB5 := Bx.mk B5; clear B5)
        go_roundw
        case rel => exact ⟨u, u + (v - u) / 2, rfl, rfl, u1, u2, by omega, by omega, HN, ⟨HB.out.trans (HB5.out.mono HB.out.size)⟩⟩
        case measure => simp [intOf]; omega
      · have HN := Bx.mk ((HBG.out (by rw [HCM.out]; exact hlt)).symm.trans HR.out)
        have hlt' : ¬ 0 < c0 - cm := by omega
        go_wp2_with (go_at_call 112; (with_reducible refine (changesW_any (some ⟨g, 0, none⟩) (sturmR n p) _ cg 1835006 (u + (v - u) / 2) t _ STr.out HTT.out rfl (by omega) (by omega) (by omega) (by omega) (by omega) (by omega)).mono ?_); rw [HCM.out]; rintro e w5 ⟨rfl, B5⟩; have HB5 := Bx.mk B5; clear B5)
        go_roundw
        case rel => exact ⟨u + (v - u) / 2, v, rfl, rfl, by omega, by omega, v1, v2, HN, ⟨HB.out.trans (HB5.out.mono HB.out.size)⟩⟩
        case measure => simp [intOf]; omega
    · have hc' : ¬ u + 1 < v := by omega
      have hvr : v = r := (bisU_end (l := sturmR n p) (c0 := c0) (t := t) hc (v - u).toNat).symm.trans HR.out
      subst hvr
      have R5 := Bx.mk (R4.out.call HB.out)
      obtain ⟨⟨_, la5, lb5⟩, ⟨_, ha5, hb5⟩, ⟨rz5, ra5, rb5⟩, fa5, fb5, _⟩ := R5.out
      obtain ⟨g', eg, hgl, hge⟩ := (ST4.out.below (Nat.le_refl _) HB.out) (by simp [sturmR])
      obtain ⟨Ai, ci, sp0, P0, _⟩ := hge 0 (n, p) rfl
      injection eg with eg
      injection eg with eg
      subst eg
      have HP0 := Bx.mk P0
      clear P0 hge HR
      dsimp only at sp0
      go_wp2_with (first
        | (go_at_call 107; (with_reducible refine (signW_any Ai n ci p 1835006 v t _ HP0.out (by omega) (by omega) (by omega) (by omega) (by omega) (by omega)).mono ?_); rw [HS.out]; rintro e w6 ⟨rfl, B6⟩; have R6 := Bx.mk (R5.out.call B6); obtain ⟨⟨_, la6, lb6⟩, ⟨_, ha6, hb6⟩, ⟨rz6, ra6, rb6⟩, fa6, fb6, _⟩ := R6.out))
      obtain ⟨j0, j1⟩ := set2 (b := w.heap.size + 1 + 1) (x := .int .i64 0) (y := .int .i64 0) (.int .i64 (v - 1)) (.int .i64 (v)) ra6 rb6
      exact bodyPost_ret (ret_range rfl _ _ _ _ _ _ rfl rfl j0 j1) rfl ⟨rfl, (R6.out.B.setCell (by show w.heap.size ≤ w.heap.size + 1 + 1; omega) _).setCell (by show w.heap.size ≤ w.heap.size + 1 + 1; omega) _⟩

end Go.Proofs.Ytfnmnnbmhfbkbaa
