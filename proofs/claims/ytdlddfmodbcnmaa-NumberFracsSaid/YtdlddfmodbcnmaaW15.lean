/- Walks: the sign of a polynomial. -/
import Derived.Test.YtdlddfmodbcnmaaBackP
set_option linter.unusedVariables false
set_option linter.unusedSimpArgs false
namespace Go.Proofs.Ytdlddfmodbcnmaa
open Go.RowKit Go.Shelf
attribute [local go_sem] Oper.semAt_some

theorem vpL_take (z : Row) (N D : Int) (n : Nat) : ∀ k, k ≤ n → vpL z N D ((bk n).take k) = vpN z N D n k
  | 0, _ => by simp [vpL, vpN]
  | k + 1, h => by rw [bk_take (by omega), vpL_snoc, vpL_take z N D n k (by omega)]; rfl
theorem vpL_bk (z : Row) (N D : Int) (n : Nat) : vpL z N D (bk n) = vpN z N D n n := by
  have h := vpL_take z N D n n (Nat.le_refl _)
  rwa [List.take_of_length_le (by rw [bk_length]; omega)] at h

set_option maxRecDepth 100000 in
set_option maxHeartbeats 1000000 in
theorem signAt_any (A : Option Addr) (n c : Nat) (z : Row) (L : Nat) (N D : Int) (w : World) (hA : PA w A n z L) (hn : n ≤ 100) (hL : L ≤ 1000000000) (hN : I64 N) (hD : I64 D) :
    Calls Try.prog 106 #[.slice A n c, .int .i64 N, .int .i64 D] w fun e w' => e = .returned (.int .i64 (sgAt n z N D)) ∧ Below w.heap.size w w' := by
  refine (callsIn_wide (n := 3)).1 ?_
  refine callsIn_of_wp_marks Try.func106 rfl trivial ?_ rfl
  simp only [Try.ntmps106, List.size_toArray, List.length_cons, List.length_nil, Nat.reduceAdd, Nat.reduceSub, Array.replicate_succ, Array.replicate_zero, List.push_toArray, List.append_toArray, List.nil_append, List.cons_append]
  gi_wp2_with (fail)
  refine ⟨trivial, ?_⟩
  refine (callsIn_wide.2 (longOf_any N _ hN)).mono ?_
  rintro e w1 ⟨b1, s1, rfl, L1, B1⟩
  obtain ⟨A1, n1, c1, rfl⟩ := L1.form
  gi_wp2_with (fail)
  refine ⟨trivial, ?_⟩
  refine (callsIn_wide.2 (longOf_any D _ hD)).mono ?_
  rintro e w2 ⟨b2, s2, rfl, L2, B2⟩
  obtain ⟨A2, n2, c2, rfl⟩ := L2.form
  gi_wp2_with (fail)
  refine ⟨trivial, ?_⟩
  have o7 := (LB.new (L1.below (Nat.le_refl _) B2)).alloc (.cells #[.bool b2, .slice A2 n2 c2] 130)
  have o8 := LB.new (L2.below (Nat.le_refl _) ((Below.refl _ _).alloc (Nat.le_refl _) (.cells #[.bool b1, .slice A1 n1 c1] 130)))
  rw [World.size_alloc] at o8
  refine (callsIn_wide.2 (longOf_any 1 _ ⟨by omega, by omega⟩)).mono ?_
  rintro e w3 ⟨b3, s3, rfl, L3, B3⟩
  obtain ⟨A3, n3, c3, rfl⟩ := L3.form
  gi_wp2_with (refine ⟨trivial, ?_⟩; gi_at_call 122; refine (backPoly_in Fence.wide _ trivial rfl _ _ _ _).mono ?_; rintro e w' ⟨rfl, rfl⟩)
  have o9 := (LB.new (LG.zero w3 (0 * (L + n + 3)))).alloc (.cells #[.bool b3, .slice A3 n3 c3] 130)
  have o10 := LB.new (L3.below (Nat.le_refl _) ((Below.refl _ _).alloc (Nat.le_refl _) (.cells #[.bool false, .slice none 0 0] 130)))
  rw [World.size_alloc] at o10
  have bN := Boxed.new ((w3.alloc (.cells #[.bool false, .slice none 0 0] 130)).alloc (.cells #[.bool b3, .slice A3 n3 c3] 130)) 111 (.slice A n c)
  simp only [World.size_alloc] at bN
  have q9 := o9.alloc (.cells #[.slice A n c] 111)
  have q10 := o10.alloc (.cells #[.slice A n c] 111)
  have p7 := (((o7.below (Nat.le_refl _) B3).alloc (.cells #[.bool false, .slice none 0 0] 130)).alloc (.cells #[.bool b3, .slice A3 n3 c3] 130)).alloc (.cells #[.slice A n c] 111)
  have p8 := (((o8.below (Nat.le_refl _) B3).alloc (.cells #[.bool false, .slice none 0 0] 130)).alloc (.cells #[.bool b3, .slice A3 n3 c3] 130)).alloc (.cells #[.slice A n c] 111)
  have z1 := B1.size
  have z2 := B2.size
  have z3 := B3.size
  simp only [World.size_alloc] at z3
  have hB0 : Below w.heap.size w (((w3.alloc (.cells #[.bool false, .slice none 0 0] 130)).alloc (.cells #[.bool b3, .slice A3 n3 c3] 130)).alloc (.cells #[.slice A n c] 111)) :=
    ((((((B1.trans (B2.mono z1)).alloc (by omega) _).alloc (by simp; omega) _).trans (B3.mono (by simp; omega))).alloc (by omega) _).alloc (by simp; omega) _).alloc (by simp; omega) _
  have hsz : (((w3.alloc (.cells #[.bool false, .slice none 0 0] 130)).alloc (.cells #[.bool b3, .slice A3 n3 c3] 130)).alloc (.cells #[.slice A n c] 111)).heap.size = w3.heap.size + 3 := by simp
  generalize hWX : (((w3.alloc (.cells #[.bool false, .slice none 0 0] 130)).alloc (.cells #[.bool b3, .slice A3 n3 c3] 130)).alloc (.cells #[.slice A n c] 111)) = WX at *
  clear hWX o7 o8 o9 o10
  generalize hB7 : w2.heap.size = B7 at *
  generalize hB9 : w3.heap.size = B9 at *
  have HSZ := Lib.hid hsz
  have H7 := Lib.hid hB7
  clear hsz hB7 hB9 L1 L2 L3 B2 B3 B1
  have hPA := hA.below (Nat.le_refl _) hB0
  obtain ⟨bf, sf, hbs⟩ : ∃ (bf : Nat → Bool) (sf : Nat → Value), 0 < n → ∃ g, A = some ⟨g, 0, none⟩ ∧ g < WX.heap.size ∧ ∀ j, j < n → (WX.cell? ⟨g, j * 2, none⟩ = some (.bool (bf j)) ∧ WX.cell? ⟨g, j * 2 + 1, none⟩ = some (sf j)) ∧ LG WX (bf j) (sf j) (z j) L := by
    rcases Nat.eq_zero_or_pos n with h0 | h0
    · exact ⟨fun _ => false, fun _ => .slice none 0 0, fun h => by omega⟩
    · obtain ⟨g, e, hp⟩ := hPA h0
      have h1 : ∀ j, ∃ p : Bool × Value, j < n → (WX.cell? ⟨g, j * 2, none⟩ = some (.bool p.1) ∧ WX.cell? ⟨g, j * 2 + 1, none⟩ = some p.2) ∧ LG WX p.1 p.2 (z j) L := fun j => by
        by_cases hj : j < n
        · obtain ⟨b, sv, c1, c2, _, _, hl⟩ := hp.2 j hj
          exact ⟨(b, sv), fun _ => ⟨⟨c1, c2⟩, hl⟩⟩
        · exact ⟨(false, .slice none 0 0), fun h => absurd h hj⟩
      obtain ⟨ff, hff⟩ := Classical.skolem.1 h1
      exact ⟨fun j => (ff j).1, fun j => (ff j).2, fun _ => ⟨g, e, hp.1, fun j hj => hff j hj⟩⟩
  refine wpIn_rangeFunc_ownH rfl (by omega) (gf := 138) (lb := #[.pointer (some ⟨B9 + 1 + 1, 0, none⟩)]) rfl trivial (enters_of Try.func138 (by kernel_rfl) rfl)
    (backPoly_stops Fence.wide _ trivial rfl (by omega) (B9 + 1 + 1) w.heap.size A n c bf sf (by omega) WX (by rw [HSZ.out]; omega) (by rw [HSZ.out]; omega) bN.cell (fun h => by
      obtain ⟨g, e, hg, hcs⟩ := hbs h
      obtain ⟨g', e', hp'⟩ := hA h
      rw [e] at e'; injection e' with e'; injection e' with e'; subst e'
      exact ⟨g, e, hp'.1, fun j hj => (hcs j hj).1⟩)) KpB.t (kpB_b (by rw [HSZ.out]; omega) (by rw [HSZ.out]; omega)) (Below.refl _ _) (fun _ => rfl)
    (fun pre W => (LB W B7 N 1 ∧ LB W (B7 + 1) D 1 ∧ LB W B9 (vpL z N D pre).1 (pre.length * (L + n + 3)) ∧ LB W (B9 + 1) (vpL z N D pre).2 (1 + pre.length)) ∧ (Below w.heap.size w W ∧ B9 + 1 + 1 < W.heap.size) ∧ (∀ j, j < n → LG W (bf j) (sf j) (z j) L))
    (fun _ _ _ => False)
    (OwnFrom.and (Own.from (fun s A B row hs hg hr => ⟨PR.kept hs.1 hg hr, PR.kept hs.2.1 hg hr, PR.kept hs.2.2.1 hg hr, PR.kept hs.2.2.2 hg hr⟩) _) (OwnFrom.and (OwnFrom.and (ownFrom_below (Nat.le_refl _) (by rw [HSZ.out]; omega)) (Own.from (fun s A B row hs hg hr => Nat.lt_of_lt_of_le hs hg.size) _)) (Own.from (fun s A B row hs hg hr => fun j hj => (hs j hj).kept hg hr) _)))
    (fun _ _ _ _ _ hs _ _ => hs)
    ⟨⟨p7, p8, q9, q10⟩, ⟨hB0, by rw [HSZ.out]; omega⟩, fun j hj => by
      obtain ⟨g, e, hg, hcs⟩ := hbs (by omega)
      exact (hcs j hj).2⟩
    (fun x a' W => ∃ Bx, B9 + 1 < Bx ∧ LB W Bx (z x.1) L ∧ a' = { tmps := #[.slice A n c, .int .i64 N, .int .i64 D, undef, undef, undef, .int .i64 0, .pointer (some ⟨B7, 0, none⟩), .pointer (some ⟨B7 + 1, 0, none⟩), .pointer (some ⟨B9, 0, none⟩), .pointer (some ⟨B9 + 1, 0, none⟩), undef, .pointer (some ⟨Bx, 0, none⟩), .int .i64 N, .agg #[.bool b1, .slice A1 n1 c1], .int .i64 D, .agg #[.bool b2, .slice A2 n2 c2], .agg #[.bool false, .slice none 0 0], .agg #[.bool b3, .slice A3 n3 c3], .slice A n c, .func (.func 138) #[] #[.pointer (some ⟨B9 + 1 + 1, 0, none⟩)], .int .i64 (x.1 : Int), .agg #[.bool (bf x.1), sf x.1], undef, undef, undef, undef, undef, undef, undef, undef, undef, undef, undef, undef], defers := [] })
    (fun x a' _ X Y row hs hg hr => by obtain ⟨Bx, h1, h2, h3⟩ := hs; exact ⟨Bx, h1, PR.kept h2 hg (fun r e => (hr r e).2), h3⟩)
    ?assign ?body ?done ?stop
  case assign =>
    rintro l pre ⟨x, hx⟩ W K ⟨⟨h7, h8, h9, h10⟩, ⟨hB, hbx⟩, hlg⟩ hK
    obtain ⟨Ax, nx, cx, hsf⟩ := (hlg x hx).form
    have hlx := hlg x hx
    have HK := Lib.hid hK
    clear hK
    dsimp only
    rw [hsf] at hlx ⊢
    have HSF := Lib.hid hsf
    have HLG := Lib.hid hlg
    clear hsf hlg
    gi_wp2
    refine HK.out _ _ ((KeepsOthers.alloc _ _).from _) ⟨(Below.refl _ W).alloc hB.size _, (Below.refl W.heap.size W).alloc (Nat.le_refl _) _ |>.cell (p := ⟨B9 + 1 + 1, 0, none⟩) hbx⟩ ⟨⟨h7.alloc _, h8.alloc _, h9.alloc _, h10.alloc _⟩, ⟨hB.alloc hB.size _, by simp; omega⟩, fun j hj => (HLG.out j hj).below (Nat.le_refl _) ((Below.refl _ _).alloc (Nat.le_refl _) _)⟩ ⟨W.heap.size, by omega, LB.new hlx, ?_⟩
    rw [HSF.out]
  case body =>
    rintro l pre ⟨x, hx⟩ a' W hl ⟨r, hr⟩ ⟨⟨h7, h8, h9, h10⟩, ⟨hB, hbx⟩, hlg⟩ ⟨Bx, hBx, hX, rfl⟩ hlt
    obtain ⟨b7, A7, n7, c7, c70, c71, f70, f71, g7⟩ := h7.open
    obtain ⟨b8, A8, n8, c8, c80, c81, f80, f81, g8⟩ := h8.open
    obtain ⟨b9, A9, n9, c9, c90, c91, f90, f91, g9⟩ := h9.open
    obtain ⟨b0, A0, n0, c0, c00, c01, f00, f01, g0⟩ := h10.open
    obtain ⟨bx, AX, nx, cx, cx0, cx1, fx0, fx1, gx⟩ := hX.open
    have e7 := h7.1
    have e9 := h9.1
    have e10 := h10.1
    have eX := hX.1
    have HLG := Lib.hid hlg
    clear hlg hr
    have hd : 1 ≤ 3 - 1 - 1 := by omega
    have hmx : Try.prog.follows .mixedOrders = true := by kernel_rfl
    have hLV : pre.length * (L + n + 3) ≤ 110000000000 := Nat.le_trans (Nat.mul_le_mul (show pre.length ≤ 100 by omega) (show L + n + 3 ≤ 1000000103 by omega)) (by omega)
    have hpl : pre.length < n := hlt
    have HLen := Lib.hid (show (pre ++ [(⟨x, hx⟩ : Fin n)]).length * (L + n + 3) = pre.length * (L + n + 3) + (L + n + 3) by rw [List.length_append, List.length_singleton, Nat.add_mul, Nat.one_mul])
    generalize hLVe : pre.length * (L + n + 3) = LV at *
    clear hLVe
    have HVS := Lib.hid (vpL_snoc z N D pre ⟨x, hx⟩)
    generalize hVP : vpL z N D pre = vp at *
    clear hVP
    gi_wp2
    rename_i K hKK
    have hcont : ∀ (v23 v24 v25 v26 v27 v28 v29 : Value) (b6 : Bool) (A6 : Option Addr) (n6 c6 : Nat) (w4 w5 w6 : World), Below W.drew.heap.size W.drew w4 → Below w4.heap.size w4 w5 → Below w5.heap.size w5 w6 → LG w6 b6 (.slice A6 n6 c6) (vp.1 * N + z x * vp.2) (LV + (L + n + 3)) →
        K { tmps := #[.slice A n c, .int .i64 N, .int .i64 D, undef, undef, undef, .int .i64 0, .pointer (some ⟨B7, 0, none⟩), .pointer (some ⟨B7 + 1, 0, none⟩), .pointer (some ⟨B9, 0, none⟩), .pointer (some ⟨B9 + 1, 0, none⟩), undef, .pointer (some ⟨Bx, 0, none⟩), .int .i64 N, .agg #[.bool b1, .slice A1 n1 c1], .int .i64 D, .agg #[.bool b2, .slice A2 n2 c2], .agg #[.bool false, .slice none 0 0], .agg #[.bool b3, .slice A3 n3 c3], .slice A n c, .func (.func 138) #[] #[.pointer (some ⟨B9 + 1 + 1, 0, none⟩)], .int .i64 (x : Int), .agg #[.bool (bf x), sf x], v23, v24, v25, v26, v27, v28, v29, undef, undef, undef, undef, undef], defers := [] } ((w6.setCell ⟨B9, 0, none⟩ (.bool b6)).setCell ⟨B9, 1, none⟩ (.slice A6 n6 c6)) := by
      intro v23 v24 v25 v26 v27 v28 v29 b6 A6 n6 c6 w4 w5 w6 K4 K5 K6 G6
      have y4 := K4.size
      have y5 := K5.size
      have y6 := K6.size
      have yd : W.drew.heap.size = W.heap.size := rfl
      have KW : Below W.heap.size W w6 := ((Below.refl _ W).drew.trans (K4.mono (by omega))).trans ((K5.mono (by omega)).trans (K6.mono (by omega)))
      have i7 := h7.below (Nat.le_refl _) KW
      have i8 := h8.below (Nat.le_refl _) KW
      have i9 := h9.below (Nat.le_refl _) KW
      have i0 := h10.below (Nat.le_refl _) KW
      have iB := hB.trans (KW.mono hB.size)
      have HL6 := Lib.hid (fun j hj => (HLG.out j hj).below (Nat.le_refl _) KW)
      have ibx := (KW.cell (p := ⟨B9 + 1 + 1, 0, none⟩) hbx)
      have ikf : KeepsFrom WX.heap.size W w6 := keepsFrom_below KW
      have m7 := PR.other i7 i9 (by omega) 0 1 (.bool b6) (.slice A6 n6 c6)
      have m8 := PR.other i8 i9 (by omega) 0 1 (.bool b6) (.slice A6 n6 c6)
      have m0 := PR.other i0 i9 (by omega) 0 1 (.bool b6) (.slice A6 n6 c6)
      have m9 := LB.put (LB.more' i9 (show LV ≤ LV + (L + n + 3) by omega)) G6
      obtain ⟨bq9, Aq9, nq9, cq9, k9, _, _, _, _⟩ := i9.open
      have HL7 := Lib.hid (fun j hj => (HL6.out j hj).setIn k9 0 1 (.bool b6) (.slice A6 n6 c6))
      have mB := (iB.setCell (p := ⟨B9, 0, none⟩) (show w.heap.size ≤ B9 by omega) (.bool b6)).setCell (p := ⟨B9, 1, none⟩) (show w.heap.size ≤ B9 by omega) (.slice A6 n6 c6)
      have mkf : KeepsFrom WX.heap.size W ((w6.setCell ⟨B9, 0, none⟩ (.bool b6)).setCell ⟨B9, 1, none⟩ (.slice A6 n6 c6)) := ikf.trans (((KeepsOthers.setCell _ _ _).from _).trans ((KeepsOthers.setCell _ _ _).from _))
      have mbx : ((w6.setCell ⟨B9, 0, none⟩ (.bool b6)).setCell ⟨B9, 1, none⟩ (.slice A6 n6 c6)).cell? ⟨B9 + 1 + 1, 0, none⟩ = W.cell? ⟨B9 + 1 + 1, 0, none⟩ := by
        rw [World.cell?_setCell_other _ _ _ _ (by simp), World.cell?_setCell_other _ _ _ _ (by simp)]; exact ibx
      have mwB : Below w.heap.size W ((w6.setCell ⟨B9, 0, none⟩ (.bool b6)).setCell ⟨B9, 1, none⟩ (.slice A6 n6 c6)) := ((KW.mono hB.size).setCell (p := ⟨B9, 0, none⟩) (show w.heap.size ≤ B9 by omega) (.bool b6)).setCell (p := ⟨B9, 1, none⟩) (show w.heap.size ≤ B9 by omega) (.slice A6 n6 c6)
      have msz : W.heap.size ≤ ((w6.setCell ⟨B9, 0, none⟩ (.bool b6)).setCell ⟨B9, 1, none⟩ (.slice A6 n6 c6)).heap.size := mwB.size
      clear i7 i8 i9 i0 iB HL6 ibx ikf k9 KW K4 K5 K6 y4 y5 y6 yd G6 h7 h8 h9 h10 hX g7 g8 g9 g0 gx
      clear c70 c71 c80 c81 c90 c91 c00 c01 cx0 cx1 f70 f71 f80 f81 f90 f91 f00 f01 fx0 fx1
      generalize ((w6.setCell ⟨B9, 0, none⟩ (.bool b6)).setCell ⟨B9, 1, none⟩ (.slice A6 n6 c6)) = V at *
      obtain ⟨b8', A8', n8', c8', u80, u81, _, _, t8⟩ := LB.open m8
      obtain ⟨b0', A0', n0', c0', u00, u01, uf0, uf1, t0⟩ := LB.open m0
      have e0' := m0.1
      refine hKK _ _ ?_
      gi_wp2_with (refine ⟨trivial, ?_⟩; gi_at_call 123; refine (CallsIn.inRound l (callsIn_wide.2 (times_any b0' b8' _ _ _ _ _ _ _ (by exact t0) (by exact t8) (by omega) (by omega)))).mono ?_; rintro e w7 ⟨b7', s7', rfl, G7, K7⟩; obtain ⟨A7', n7', c7', rfl⟩ := G7.form; have j0 := LB.below m0 (Nat.le_refl _) K7; obtain ⟨bj, Aj, nj, cj, w00, w01, wf0, wf1, _⟩ := LB.open j0)
      have y7 := K7.size
      refine ⟨mkf.trans ((keepsFrom_below K7).trans (((KeepsOthers.setCell _ _ _).from _).trans ((KeepsOthers.setCell _ _ _).from _))), ⟨?_, ?_⟩, ⟨⟨?_, ?_, ?_, ?_⟩, ⟨?_, ?_⟩, ?_⟩⟩
      · exact ((mwB.trans (K7.mono (by omega))).setCell (p := ⟨B9 + 1, 0, none⟩) (show w.heap.size ≤ B9 + 1 by omega) _).setCell (p := ⟨B9 + 1, 1, none⟩) (show w.heap.size ≤ B9 + 1 by omega) _
      · rw [World.cell?_setCell_other _ _ _ _ (by simp), World.cell?_setCell_other _ _ _ _ (by simp)]; exact (K7.cell (p := ⟨B9 + 1 + 1, 0, none⟩) (show B9 + 1 + 1 < V.heap.size by omega)).trans mbx
      · exact PR.other (PR.below m7 (Nat.le_refl _) K7) j0 (by omega) _ _ _ _
      · exact PR.other (PR.below m8 (Nat.le_refl _) K7) j0 (by omega) _ _ _ _
      · rw [HVS.out, HLen.out]; exact PR.other (PR.below m9 (Nat.le_refl _) K7) j0 (by omega) _ _ _ _
      · rw [HVS.out]
        exact LB.put (LB.more' j0 (show 1 + pre.length ≤ 1 + (pre ++ [(⟨x, hx⟩ : Fin n)]).length by simp only [List.length_append, List.length_singleton]; omega)) (G7.more (by simp only [List.length_append, List.length_singleton]; omega))
      · exact ((mB.trans (K7.mono (by have := hB.size; omega))).setCell (p := ⟨B9 + 1, 0, none⟩) (show w.heap.size ≤ B9 + 1 by omega) _).setCell (p := ⟨B9 + 1, 1, none⟩) (show w.heap.size ≤ B9 + 1 by omega) _
      · simp [World.setCell]; omega
      · exact fun j hj => ((HL7.out j hj).below (Nat.le_refl _) K7).setIn w00 _ _ _ _
    have tok1 : True := trivial
    have tok2 : True := trivial
    gi_region_with_o (first
      | (have _t := tok1; refine ⟨trivial, ?_⟩; gi_at_call 123; refine (CallsIn.inRound l (callsIn_wide.2 (times_any b9 b7 _ _ _ _ _ _ _ (by exact g9.drew) (by exact g7.drew) (by omega) (by omega)))).mono ?_; clear tok1; rintro e w4 ⟨b4, s4, rfl, G4, K4⟩; obtain ⟨hcp, hfp⟩ := bcell K4; have p00 := (hcp (B9 + 1) 0 (by first | omega | (simp; omega))).trans c00; have p01 := (hcp (B9 + 1) 1 (by first | omega | (simp; omega))).trans c01; have px0 := (hcp Bx 0 (by first | omega | (simp; omega))).trans cx0; have px1 := (hcp Bx 1 (by first | omega | (simp; omega))).trans cx1; obtain ⟨A4, n4, c4, rfl⟩ := G4.form)
      | (have _t := tok2; refine ⟨trivial, ?_⟩; gi_at_call 123; refine (CallsIn.inRound l (callsIn_wide.2 (times_any bx b0 _ _ _ _ _ _ _ (by exact gx.drew.below (Nat.le_refl _) K4) (by exact g0.drew.below (Nat.le_refl _) K4) (by omega) (by omega)))).mono ?_; clear tok2; rintro e w5 ⟨b5, s5, rfl, G5, K5⟩; obtain ⟨A5, n5, c5, rfl⟩ := G5.form)
      | (refine ⟨trivial, ?_⟩; gi_at_call 124; refine (CallsIn.inRound l (callsIn_wide.2 (plus_any b4 b5 _ _ _ _ (LV + L + n + 2) _ (by exact (G4.below (Nat.le_refl _) K5).more (by omega)) (by exact G5.more (by omega)) (by omega)))).mono ?_; rintro e w6 ⟨b6, s6, rfl, G6, K6⟩; obtain ⟨A6, n6, c6, rfl⟩ := G6.form; have h96 := LB.below (LB.below (LB.below (show LB W.drew B9 _ _ from h9) (Nat.le_refl _) K4) (Nat.le_refl _) K5) (Nat.le_refl _) K6; obtain ⟨b96, A96, n96, c96, r90, r91, fr90, fr91, g96⟩ := h96.open))
    all_goals exact hcont _ _ _ _ _ _ _ _ _ _ _ _ _ _ K4 K5 K6 (G6.more (by omega))
  case done =>
    rintro D0 ys W hD rfl ⟨⟨h7, h8, h9, h10⟩, ⟨hB, hbx⟩, hlg⟩ hK
    obtain ⟨b9, A9, n9, c9, c90, c91, f90, f91, g9⟩ := h9.open
    have HV := Lib.hid (vpL_bk z N D n)
    have hbl : (bk n).length * (L + n + 3) ≤ 1000000000000 := by
      rw [bk_length]; exact Nat.le_trans (Nat.mul_le_mul (show n ≤ 100 by omega) (show L + n + 3 ≤ 1000000103 by omega)) (by omega)
    have hDlt : D0 < W.heap.size := by
      rcases Nat.lt_or_ge D0 W.heap.size with h1 | h1
      · exact h1
      · rw [Array.getElem?_eq_none h1] at hK; cases hK
    have HKK := Lib.hid hK
    clear hK hlg
    gi_wp2_with (refine ⟨trivial, ?_⟩; gi_at_call 125; refine (callsIn_wide.2 (sign_any b9 _ _ _ _ (by exact g9) hbl)).mono ?_; rintro e w7 ⟨rfl, K7⟩)
    have hK7 := (K7.block D0 hDlt).trans HKK.out
    refine ⟨by simp, .inl ⟨_, _, rfl, run_takeDeferred hK7, ?_⟩⟩
    refine ⟨_, results_tmp rfl _ _ _, ?_, (hB.trans (K7.mono hB.size)).trans (belowK_b (w := w) (Nat.le_refl _) _ D0 _ _ (by rw [HSZ.out] at hD; omega) hK7 rfl rfl)⟩
    exact ret_int (by rw [HV.out]; rfl)
  case stop =>
    rintro D0 cc pre W hD _ hf
    exact hf.elim

end Go.Proofs.Ytdlddfmodbcnmaa
