/- Contracts of the program, joined: PolyF W18 W19 -/
import Derived.Test.YtfnmnnbmhfbkbaaBd
/-! PolyF -/
set_option linter.unusedVariables false
set_option linter.unusedSimpArgs false
namespace Go.Proofs.Ytfnmnnbmhfbkbaa
open Go.RowKit

def PF (w : World) (g n : Nat) (z : Row) (L : Nat → Nat) : Prop :=
  g < w.heap.size ∧ ∀ i, i < n → ∃ b sv, w.cell? ⟨g, i * 2, none⟩ = some (.bool b) ∧ w.cell? ⟨g, i * 2 + 1, none⟩ = some sv ∧ w.frozen? ⟨g, i * 2, none⟩ = false ∧ w.frozen? ⟨g, i * 2 + 1, none⟩ = false ∧ LG w b sv (z i) (L i)
theorem PF.of {w : World} {g n : Nat} {z : Row} {L : Nat} (h : PR w g n z L) : PF w g n z (fun _ => L) := h
theorem PF.to {w : World} {g n : Nat} {z : Row} {L : Nat → Nat} {M : Nat} (h : PF w g n z L) (hL : ∀ i, i < n → L i ≤ M) : PR w g n z M :=
  ⟨h.1, fun i hi => by
    obtain ⟨b, sv, h1, h2, h3, h4, h5⟩ := h.2 i hi
    exact ⟨b, sv, h1, h2, h3, h4, h5.more (hL i hi)⟩⟩
theorem PF.below {w w' : World} {g n : Nat} {z : Row} {L : Nat → Nat} {B : Nat} (h : PF w g n z L) (hB : w.heap.size ≤ B) (hb : Below B w w') : PF w' g n z L :=
  ⟨Nat.lt_of_lt_of_le h.1 hb.size, fun i hi => by
    have hg := h.1
    obtain ⟨b, sv, h1, h2, h3, h4, h5⟩ := h.2 i hi
    exact ⟨b, sv, (hb.cell (p := ⟨g, i * 2, none⟩) (by show g < B; omega)).trans h1, (hb.cell (p := ⟨g, i * 2 + 1, none⟩) (by show g < B; omega)).trans h2,
      (hb.frozen (p := ⟨g, i * 2, none⟩) (by show g < B; omega)).trans h3, (hb.frozen (p := ⟨g, i * 2 + 1, none⟩) (by show g < B; omega)).trans h4, h5.below hB hb⟩⟩
theorem PF.set {w : World} {g n : Nat} {z : Row} {L : Nat → Nat} (h : PF w g n z L) {k : Nat} (hk : k < n) {b : Bool} {sv : Value} {v : Int} {M : Nat} (hv : LG w b sv v M) :
    PF ((w.setCell ⟨g, k * 2, none⟩ (.bool b)).setCell ⟨g, k * 2 + 1, none⟩ sv) g n (upd z k v) (fun i => if i = k then M else L i) := by
  obtain ⟨b0, sv0, c0, -, -, -, -⟩ := h.2 0 (by omega)
  have c0' : w.cell? ⟨g, 0, none⟩ = some (.bool b0) := c0
  refine ⟨by simpa [World.setCell] using h.1, fun i hi => ?_⟩
  obtain ⟨b1, sv1, h1, h2, h3, h4, h5⟩ := h.2 i hi
  obtain ⟨b2, sv2, k1, k2, k3, k4, k5⟩ := h.2 k hk
  have e1 : (w.setCell ⟨g, k * 2, none⟩ (.bool b)).cell? ⟨g, k * 2, none⟩ = some (.bool b) := World.cell?_setCell_same' _ _ _ (by rw [k1]; rfl)
  have e2 : (w.setCell ⟨g, k * 2, none⟩ (.bool b)).cell? ⟨g, k * 2 + 1, none⟩ = some sv2 := by rw [World.cell?_setCell_other _ _ _ _ (by simp)]; exact k2
  by_cases e : i = k
  · subst e
    refine ⟨b, sv, ?_, World.cell?_setCell_same' _ _ _ (by rw [e2]; rfl), by simp only [World.frozen?_setCell]; exact h3, by simp only [World.frozen?_setCell]; exact h4, ?_⟩
    · rw [World.cell?_setCell_other _ _ _ _ (by simp)]; exact e1
    · rw [upd_same]; dsimp only; rw [if_pos rfl]; exact hv.setIn c0' _ _ _ _
  · refine ⟨b1, sv1, ?_, ?_, by simp only [World.frozen?_setCell]; exact h3, by simp only [World.frozen?_setCell]; exact h4, ?_⟩
    · rw [World.cell?_setCell_other _ _ _ _ (by simp <;> omega), World.cell?_setCell_other _ _ _ _ (by simp <;> omega)]; exact h1
    · rw [World.cell?_setCell_other _ _ _ _ (by simp <;> omega), World.cell?_setCell_other _ _ _ _ (by simp <;> omega)]; exact h2
    · rw [upd_other e]; dsimp only; rw [if_neg e]; exact h5.setIn c0' _ _ _ _
/-- A store into another polynomial's row leaves what lies elsewhere. -/
theorem PR.otherF {w : World} {g k n m : Nat} {z y : Row} {L : Nat} {L' : Nat → Nat} (h : PR w g n z L) (hk : PF w k m y L') (hm : 0 < m) (hne : g ≠ k) (i j : Nat) (u v : Value) : PR ((w.setCell ⟨k, i, none⟩ u).setCell ⟨k, j, none⟩ v) g n z L := by
  obtain ⟨b0, sv0, k0, -, -, -, -⟩ := hk.2 0 hm
  have k0' : w.cell? ⟨k, 0, none⟩ = some (.bool b0) := k0
  refine ⟨by simpa [World.setCell] using h.1, fun t ht => ?_⟩
  obtain ⟨b1, sv1, h1, h2, h3, h4, h5⟩ := h.2 t ht
  refine ⟨b1, sv1, ?_, ?_, by simp only [World.frozen?_setCell]; exact h3, by simp only [World.frozen?_setCell]; exact h4, h5.setIn k0' _ _ _ _⟩
  · rw [World.cell?_setCell_other _ _ _ _ (by simp <;> omega), World.cell?_setCell_other _ _ _ _ (by simp <;> omega)]; exact h1
  · rw [World.cell?_setCell_other _ _ _ _ (by simp <;> omega), World.cell?_setCell_other _ _ _ _ (by simp <;> omega)]; exact h2

end Go.Proofs.Ytfnmnnbmhfbkbaa

/-! W18 -/
namespace Go.Proofs.Ytfnmnnbmhfbkbaa
open Go.RowKit

set_option maxHeartbeats 1000000 in
theorem clone_any (A : Option Addr) (n c : Nat) (z : Row) (L : Nat) (w : World) (hA : PA w A n z L) (hn : 1 ≤ n) (hn' : n ≤ 1000) :
    Calls Try.prog 145 #[.slice A n c] w fun e w' => ∃ g c', e = .returned (.slice (some ⟨g, 0, none⟩) n c') ∧ w.heap.size ≤ g ∧ n ≤ c' ∧ c' ≤ 9223372036854775807 ∧ PR w' g n z L ∧ Below w.heap.size w w' := by
  obtain ⟨i0, hi0, hz0, hz1, hz2⟩ := info_long_parts
  obtain ⟨g, rfl, hg, hp⟩ := hA hn
  have hnil := fun wx : World => Lib.run_eql_slice_nil (P := Try.prog) wx 111 130 (some ⟨g, 0, none⟩) n c 0 0 Try.underlying111
  obtain ⟨news, hnews⟩ : ∃ news : List Value, news = (List.range (n * 2)).map (fun j => (w.cell? ⟨g, j, none⟩).getD undef) := ⟨_, rfl⟩
  have hlen : news.length = n * 2 := by rw [hnews]; simp
  have hat : ∀ j, j < n * 2 → ∃ u, w.cell? ⟨g, j, none⟩ = some u ∧ u.oneCell' = true ∧ news[j]? = some u := fun j hj => by
    obtain ⟨b, sv, h1, h2, _, _, h5⟩ := hp (j / 2) (by omega)
    rcases Nat.mod_two_eq_zero_or_one j with h | h
    · rw [show j / 2 * 2 = j by omega] at h1
      exact ⟨_, h1, rfl, by rw [hnews]; simp [hj, h1]⟩
    · rw [show j / 2 * 2 + 1 = j by omega] at h2
      obtain ⟨A1, n1, c1, rfl⟩ := h5.form
      exact ⟨_, h2, rfl, by rw [hnews]; simp [hj, h2]⟩
  have HL := Lib.hid hlen
  have HA := Lib.hid hat
  clear hnews hlen hat
  have hN1 : ∀ j u, news[j]? = some u → (w.alloc (.cells #[] 130)).cell? ((⟨g, 0, none⟩ : Addr).add j) = some u := by
    intro j u hu
    have hj : j < n * 2 := by
      rcases Nat.lt_or_ge j (n * 2) with h1 | h1
      · exact h1
      · rw [List.getElem?_eq_none (by rw [HL.out]; exact h1)] at hu; cases hu
    obtain ⟨u', h1, _, h3⟩ := HA.out j hj
    obtain rfl := Option.some.inj (hu.symm.trans h3)
    have hadd : (⟨g, 0, none⟩ : Addr).add j = ⟨g, j, none⟩ := by unfold Addr.add; split <;> simp_all
    rw [hadd, World.cell?_alloc_lt _ _ _ hg]; exact h1
  have hN2 : ∀ u ∈ news, u.oneCell' = true := by
    intro u hu
    obtain ⟨j, hj, rfl⟩ := List.getElem_of_mem hu
    obtain ⟨u', _, h2, h3⟩ := HA.out j (by rw [HL.out] at hj; exact hj)
    have h4 := Option.some.inj ((List.getElem?_eq_getElem hj).symm.trans h3)
    rw [h4]; exact h2
  have HN1 := Lib.hid hN1
  have HN2 := Lib.hid hN2
  clear hN1 hN2
  go_enter Try.func145, Try.ntmps145
  go_wp2_with (at_builtin; refine wpList_append_lies _ rfl _ _ _ rfl w.heap.size 130 i0 _ 2 32 Try.underlying111 hi0 hz0 hz1 hz2 rfl (by omega) (.slice (some ⟨w.heap.size, 0, none⟩) 0 0) 0 [] rfl ⟨rfl, .inr ⟨w.heap.size, 0, #[], rfl, Nat.le_refl _, heap_alloc_new w _, Nat.le_refl _, by simp [maxLen], rfl, rfl⟩⟩ ⟨g, 0, none⟩ n c news rfl HL.out HN1.out HN2.out (by omega) (by simp only [maxLen]; omega) (by omega) (by simp) (w.heap.size + 1) (by simp) ?_)
  intro gg cap w4 hown4 hgrow4 hat4 hlt4
  have HOW := Lib.hid hown4
  clear hown4
  have hBB : Below w.heap.size w w4 := ((Below.refl w.heap.size w).alloc (Nat.le_refl _) _).grown hgrow4 (by simp) (fun j hj => by simp [Value.ownBlock] at hj; omega)
  have hge : w.heap.size ≤ gg := by
    rcases hat4 with h | h
    · simp [Value.ownBlock] at h; omega
    · omega
  clear hgrow4 hat4
  go_wp2
  go_ret
  have hcap : n ≤ cap ∧ cap ≤ 9223372036854775807 := by
    rcases HOW.out.2 with ⟨h1, _⟩ | ⟨g', cap', cur', h1, _, _, h2, h3, _⟩
    · cases h1
    · injection h1 with _ _ h1
      subst h1
      exact ⟨h2, by simpa [maxLen] using h3⟩
  refine ⟨gg, cap, rfl, hge, hcap.1, hcap.2, ⟨hlt4, fun i hi => ?_⟩, hBB⟩
  obtain ⟨b, sv, k1, k2, k3, k4, k5⟩ := hp i hi
  obtain ⟨u0, a1, _, a3⟩ := HA.out (i * 2) (by omega)
  obtain ⟨u1, b1, _, b3⟩ := HA.out (i * 2 + 1) (by omega)
  obtain rfl := Option.some.inj (k1.symm.trans a1)
  obtain rfl := Option.some.inj (k2.symm.trans b1)
  exact ⟨b, sv, by rw [HOW.out.cellAt _ (by omega)]; exact a3, by rw [HOW.out.cellAt _ (by omega)]; exact b3, HOW.out.frozenAt _, HOW.out.frozenAt _, k5.below (Nat.le_refl _) hBB⟩

end Go.Proofs.Ytfnmnnbmhfbkbaa

/-! W19 -/
namespace Go.Proofs.Ytfnmnnbmhfbkbaa
open Go.RowKit

theorem restR_step {m : Nat} {q : Row} {f mr : Nat} {r : Row} {R : Nat × Row} (h : restR m q (f + 1) mr r = R) (hm : m ≤ mr) : restR m q f (trimN mr (stepR mr r m q)) (stepR mr r m q) = R := by
  rw [← h]; show _ = if m ≤ mr then _ else _
  rw [if_pos hm]
theorem restR_end {m : Nat} {q : Row} {f mr : Nat} {r : Row} {R : Nat × Row} (h : restR m q f mr r = R) (hm : ¬ m ≤ mr) : R = (mr, r) := by
  rw [← h]
  cases f with
  | zero => rfl
  | succ f => show (if m ≤ mr then _ else _) = _; rw [if_neg hm]

set_option maxRecDepth 100000 in
set_option maxHeartbeats 4000000 in
theorem rest_any (A C : Option Addr) (n m c d : Nat) (z q : Row) (L Lq : Nat) (w : World) (hA : PA w A n z L) (hC : PA w C m q Lq) (hn : 1 ≤ n) (hm : 1 ≤ m) (hn' : n ≤ 20) (hm' : m ≤ 20) (hL : L ≤ 1000000000) (hLq : Lq ≤ 1000000000) :
    Calls Try.prog 132 #[.slice A n c, .slice C m d] w fun e w' => ∃ g c', e = .returned (.slice (some ⟨g, 0, none⟩) (restR m q n n z).1 c') ∧ w.heap.size ≤ g ∧ PR w' g (restR m q n n z).1 (restR m q n n z).2 (L + n * (Lq + 1)) ∧ (restR m q n n z).1 ≤ n ∧ Below w.heap.size w w' := by
  obtain ⟨gq, rfl, hgq, hpq⟩ := hC hm
  obtain ⟨bl, sl, cl0, cl1, _, _, gl⟩ := hpq (m - 1) (by omega)
  obtain ⟨Al, nl, dl, rfl⟩ := gl.form
  have hidx : ((m : Int) - 1).toNat = m - 1 := by omega
  obtain ⟨m1, hm1⟩ : ∃ m1, m = m1 + 1 := ⟨m - 1, by omega⟩
  subst hm1
  simp only [Nat.add_sub_cancel] at cl0 cl1 gl hidx
  go_enter Try.func132, Try.ntmps132
  go_wp2_with fail
  go_outline
  refine (clone_any A n c z L _ (hA.below (Nat.le_refl _) ((Below.refl _ _).alloc (Nat.le_refl _) _)) hn (by omega)).mono ?_
  rintro e w1 ⟨g, cg, rfl, hge, hcg1, hcg2, hR, B1⟩
  have hLB5 : LB w1 w.heap.size (q m1) Lq := LB.below (LB.new (gl)) (Nat.le_refl _) B1
  have hBw1 : Below w.heap.size w w1 := ((Below.refl _ _).alloc (Nat.le_refl _) _).trans (B1.mono (by simp))
  have hge' : w.heap.size + 1 ≤ g := by simpa using hge
  have hPq : PR w gq (m1 + 1) q Lq := ⟨hgq, hpq⟩
  clear cl0 cl1 gl hpq hidx hge
  go_wp2_with fail
  go_loopw [6] (fun x wr => ∃ (k mr cr : Nat) (r : Row), k + mr ≤ n ∧ mr ≤ cr ∧ cr ≤ 9223372036854775807 ∧ x = .slice (some ⟨g, 0, none⟩) mr cr ∧ Hid (restR (m1 + 1) q (n - k) mr r = restR (m1 + 1) q n n z) ∧ Hid (PR wr g mr r (L + k * (Lq + 1))) ∧ Hid (LB wr w.heap.size (q m1) Lq) ∧ Below w.heap.size w wr) (fun x _ => lenOfS x)
  case atStart => exact ⟨0, n, cg, z, by omega, hcg1, hcg2, rfl, rfl, by simp only [Hid, Nat.zero_mul, Nat.add_zero]; exact hR, hLB5, hBw1⟩
  case round =>
    obtain ⟨k, mr, cr, r, hk, hcr1, hcr2, rfl, HRS, HPR, HLB, hB⟩ := hrel
    clear hR hLB5 hBw1 B1
    by_cases hlen : m1 + 1 ≤ mr
    · have hlen' : ((m1 : Int) + 1) ≤ mr := by omega
      obtain ⟨mr1, hmr1⟩ : ∃ t, mr = t + 1 := ⟨mr - 1, by omega⟩
      subst hmr1
      have hrs := HRS.out
      rw [show n - k = (n - k - 1) + 1 by omega] at hrs
      have HR2 := Lib.hid (restR_step hrs hlen)
      clear hrs
      have hLr : L + k * (Lq + 1) ≤ 30000000000 := by
        have := Nat.mul_le_mul (show k ≤ 20 by omega) (show Lq + 1 ≤ 1000000001 by omega); omega
      have HLk := Lib.hid (show L + (k + 1) * (Lq + 1) = L + k * (Lq + 1) + Lq + 1 by rw [Nat.add_mul, Nat.one_mul]; omega)
      generalize hLre : L + k * (Lq + 1) = Lr at *
      clear hLre
      obtain ⟨b5, A5, n5, c5, l0, l1, lf0, lf1, g5⟩ := LB.open HLB.out
      obtain ⟨bt, st, t0, t1, _, _, gt⟩ := HPR.out.2 mr1 (by omega)
      obtain ⟨At, nt, ct, rfl⟩ := gt.form
      have hgr := HPR.out.1
      have hzw := hB.size
      have hlb1 : w.heap.size < wr.heap.size := HLB.out.1
      by_cases hneg : q m1 < 0
      · have hd : decide (cmpI (q m1) 0 < 0) = true := by rw [cmpI_lt hneg]; rfl
        have HF := Lib.hid (show facR (mr1 + 1) r (q m1) = -r mr1 by unfold facR; rw [if_pos hneg]; rfl)
        clear hneg
        go_wp2_with (first
          | (go_at_call 125; refine (sign_any b5 _ _ _ _ (by exact g5.below (Nat.le_refl _) ((Below.refl _ _).alloc (Nat.le_refl _) _)) (by omega)).mono ?_; rintro e w2 ⟨rfl, B2⟩; have o7 := LB.below (LB.new gt) (Nat.le_refl _) B2; obtain ⟨b7, A7, n7, c7, e0, e1, ef0, ef1, g7⟩ := o7.open)
          | (go_at_call 133; refine (opposite_any b7 _ _ _ _ (by exact g7)).mono ?_; rintro e w3 ⟨b8, s8, rfl, g8, B3⟩; obtain ⟨A8, n8, c8, rfl⟩ := g8.form; obtain ⟨b9, A9, n9, c9, x0, x1, xf0, xf1, g9⟩ := (o7.below (Nat.le_refl _) B3).open))
        have o73 := o7.below (Nat.le_refl _) B3
        have hB3 : Below w.heap.size w w3 := ((hB.alloc hB.size _).trans (B2.mono (by simp; omega))).trans (B3.mono (by have := B2.size; simp at this; omega))
        have pg := ((HPR.out.alloc (.cells #[.bool bt, .slice At nt ct] 130)).below (Nat.le_refl _) B2).below (Nat.le_refl _) B3
        have p5 := ((HLB.out.alloc (.cells #[.bool bt, .slice At nt ct] 130)).below (Nat.le_refl _) B2).below (Nat.le_refl _) B3
        have pq := hPq.below (Nat.le_refl _) hB3
        have q_g := PR.other pg o73 (by omega) 0 1 (.bool b8) (.slice A8 n8 c8)
        have q_5 := PR.other p5 o73 (by omega) 0 1 (.bool b8) (.slice A8 n8 c8)
        have q_q := PR.other pq o73 (by omega) 0 1 (.bool b8) (.slice A8 n8 c8)
        have q_7 := LB.put o73 g8
        rw [← HF.out] at q_7
        have q_B := (hB3.setCell (p := ⟨wr.heap.size, 0, none⟩) (by show w.heap.size ≤ wr.heap.size; omega) (.bool b8)).setCell (p := ⟨wr.heap.size, 1, none⟩) (by show w.heap.size ≤ wr.heap.size; omega) (.slice A8 n8 c8)
        generalize (w3.setCell ⟨wr.heap.size, 0, none⟩ (.bool b8)).setCell ⟨wr.heap.size, 1, none⟩ (.slice A8 n8 c8) = W7 at *
        clear o73 hB3 pg p5 pq o7 g8 g9 g7 B2 B3 gt g5 t0 t1 l0 l1 lf0 lf1 x0 x1 xf0 xf1 e0 e1 ef0 ef1
        generalize hB7 : wr.heap.size = B7 at *
        have HB7 := Lib.hid hB7
        clear hB7
        have hgq1 := q_q.1
        have hg1 := q_g.1
        go_loopw [42] (fun i wi => ∃ (j : Nat) (y : Row) (Lf : Nat → Nat), j ≤ mr1 + 1 ∧ i = .int .i64 j ∧ Hid (∀ t, t < j → y t = stepR (mr1 + 1) r (m1 + 1) q t) ∧ Hid (∀ t, j ≤ t → y t = r t) ∧ Hid (∀ t, Lf t ≤ Lr + Lq + 1) ∧ Hid (∀ t, j ≤ t → Lf t = Lr) ∧
            Hid (PF wi g (mr1 + 1) y Lf) ∧ Hid (LB wi w.heap.size (q m1) Lq) ∧ Hid (LB wi B7 (facR (mr1 + 1) r (q m1)) Lr) ∧ Hid (PR wi gq (m1 + 1) q Lq) ∧ Below w.heap.size w wi) (fun i _ => mr1 + 1 - (intOf i).toNat)
        case atStart => exact ⟨0, r, fun _ => Lr, by omega, rfl, fun _ h => by omega, fun _ _ => rfl, fun _ => show Lr ≤ Lr + Lq + 1 by omega, fun _ _ => rfl, PF.of q_g, q_5, q_7, q_q, q_B⟩
        case round =>
          obtain ⟨j, y, Lf, hj, rfl, HY1, HY2, HL1, HL2, HPF, HL5, HL7, HPQ, hBi⟩ := hrel
          clear q_g q_5 q_7 q_q q_B
          by_cases hjm : j < mr1 + 1
          · have hjm' : (j : Int) < (mr1 : Int) + 1 := by omega
            obtain ⟨bj, sj, j0, j1, jf0, jf1, gj⟩ := HPF.out.2 j hjm
            rw [HL2.out j (Nat.le_refl _), HY2.out j (Nat.le_refl _)] at gj
            obtain ⟨Aj, nj, cj, rfl⟩ := gj.form
            obtain ⟨b5', A5', n5', c5', i50, i51, if50, if51, g5'⟩ := LB.open HL5.out
            have hi5 := HL5.out.1
            have hi7 := HL7.out.1
            have hig := HPF.out.1
            have hiq := HPQ.out.1
            by_cases hsh : (mr1 + 1) - (m1 + 1) ≤ j
            · have hsh' : (mr1 : Int) + 1 - (m1 + 1) ≤ j := by omega
              go_wp2_with fail
              go_region_held3 (fun w' => w'.cell? ⟨wr.heap.size, 0, none⟩ = some (.bool bj) ∧ w'.cell? ⟨wr.heap.size, 1, none⟩ = some (.slice Aj nj cj) ∧ w'.cell? ⟨w.heap.size, 0, none⟩ = some (.bool b5') ∧ w'.cell? ⟨w.heap.size, 1, none⟩ = some (.slice A5' n5' c5'))
                (first | (simp [go_sem, World.cell?_alloc_past, i50, i51, hi5]; done) | (exact ⟨y0, y1, y2, y3⟩) | (exact ⟨v0, v1, v2, v3⟩) | (exact ⟨u0, u1, u2, u3⟩) | (refine ⟨?_, ?_, ?_, ?_⟩ <;> simp [go_sem, *]; done))
                (first
                  | (go_at_call 146; refine (longSize_any b5' _ _ _ _ (by exact g5'.below (Nat.le_refl _) (by repeat (first | exact Below.refl _ _ | refine Below.drew ?_ | refine Below.drewN' ?_ _ | refine Below.alloc ?_ (by first | exact Nat.le_refl _ | (simp; done) | (simp; omega)) _)))).mono ?_; rintro e w2 ⟨b2, s2, rfl, G2, K2⟩; obtain ⟨hcK, hfK⟩ := bcell K2; have u0 : w2.cell? ⟨wr.heap.size, 0, none⟩ = some (.bool bj) := (by rw [hcK _ _ (by simp)]; simp [go_sem]); have u1 : w2.cell? ⟨wr.heap.size, 1, none⟩ = some (.slice Aj nj cj) := (by rw [hcK _ _ (by simp)]; simp [go_sem]); have u2 : w2.cell? ⟨w.heap.size, 0, none⟩ = some (.bool b5') := (by rw [hcK _ _ (by simp; omega)]; simp [go_sem, World.cell?_alloc_past, i50, hi5]); have u3 : w2.cell? ⟨w.heap.size, 1, none⟩ = some (.slice A5' n5' c5') := (by rw [hcK _ _ (by simp; omega)]; simp [go_sem, World.cell?_alloc_past, i51, hi5]); have KB2 : Below wr.heap.size wr w2 := (((by repeat (first | exact Below.refl _ _ | refine Below.drew ?_ | refine Below.drewN' ?_ _ | refine Below.alloc ?_ (by first | exact Nat.le_refl _ | (simp; done) | (simp; omega)) _)) : Below wr.heap.size wr _).trans (K2.mono (by simp))); have zz2 : wr.heap.size + 1 ≤ w2.heap.size := (by have := K2.size; simp at this; omega))
                  | (go_at_call 123; refine (times_any bj b2 _ _ _ _ _ _ _ (by exact gj.below (Nat.le_refl _) KB2) (by exact G2) (by omega) (by omega)).mono ?_; rintro e w3 ⟨b3, s3, rfl, G3, K3⟩; obtain ⟨A3, n3, c3, rfl⟩ := G3.form; have v0 := (K3.cell (p := ⟨wr.heap.size, 0, none⟩) (show wr.heap.size < w2.heap.size by omega)).trans u0; have v1 := (K3.cell (p := ⟨wr.heap.size, 1, none⟩) (show wr.heap.size < w2.heap.size by omega)).trans u1; have v2 := (K3.cell (p := ⟨w.heap.size, 0, none⟩) (show w.heap.size < w2.heap.size by omega)).trans u2; have v3 := (K3.cell (p := ⟨w.heap.size, 1, none⟩) (show w.heap.size < w2.heap.size by omega)).trans u3; have KB3 : Below wr.heap.size wr w3 := (KB2.trans (K3.mono (by omega))); have r0 := (KB3.cell (p := ⟨g, j * 2, none⟩) hig).trans j0; have r1 := (KB3.cell (p := ⟨g, j * 2 + 1, none⟩) hig).trans j1; have r2 := (KB3.frozen (p := ⟨g, j * 2, none⟩) hig).trans jf0; have r3 := (KB3.frozen (p := ⟨g, j * 2 + 1, none⟩) hig).trans jf1; have y0 : ((w3.setCell ⟨g, j * 2, none⟩ (.bool b3)).setCell ⟨g, j * 2 + 1, none⟩ (.slice A3 n3 c3)).cell? ⟨wr.heap.size, 0, none⟩ = some (.bool bj) := (by rw [World.cell?_setCell_other _ _ _ _ (by simp <;> omega), World.cell?_setCell_other _ _ _ _ (by simp <;> omega)]; exact v0); have y1 : ((w3.setCell ⟨g, j * 2, none⟩ (.bool b3)).setCell ⟨g, j * 2 + 1, none⟩ (.slice A3 n3 c3)).cell? ⟨wr.heap.size, 1, none⟩ = some (.slice Aj nj cj) := (by rw [World.cell?_setCell_other _ _ _ _ (by simp <;> omega), World.cell?_setCell_other _ _ _ _ (by simp <;> omega)]; exact v1); have y2 : ((w3.setCell ⟨g, j * 2, none⟩ (.bool b3)).setCell ⟨g, j * 2 + 1, none⟩ (.slice A3 n3 c3)).cell? ⟨w.heap.size, 0, none⟩ = some (.bool b5') := (by rw [World.cell?_setCell_other _ _ _ _ (by simp <;> omega), World.cell?_setCell_other _ _ _ _ (by simp <;> omega)]; exact v2); have y3 : ((w3.setCell ⟨g, j * 2, none⟩ (.bool b3)).setCell ⟨g, j * 2 + 1, none⟩ (.slice A3 n3 c3)).cell? ⟨w.heap.size, 1, none⟩ = some (.slice A5' n5' c5') := (by rw [World.cell?_setCell_other _ _ _ _ (by simp <;> omega), World.cell?_setCell_other _ _ _ _ (by simp <;> omega)]; exact v3)))
              have t_F := HPF.out.below (Nat.le_refl _) KB3
              have s_F := t_F.set hjm G3
              have s_5 := PR.otherF (PR.below HL5.out (Nat.le_refl _) KB3) t_F (by omega) (by omega) (j * 2) (j * 2 + 1) (.bool b3) (.slice A3 n3 c3)
              have s_7 := PR.otherF (PR.below HL7.out (Nat.le_refl _) KB3) t_F (by omega) (by omega) (j * 2) (j * 2 + 1) (.bool b3) (.slice A3 n3 c3)
              have s_q := PR.otherF (PR.below HPQ.out (Nat.le_refl _) KB3) t_F (by omega) (by omega) (j * 2) (j * 2 + 1) (.bool b3) (.slice A3 n3 c3)
              have s_B := ((hBi.trans (KB3.mono hBi.size)).setCell (p := ⟨g, j * 2, none⟩) (by show w.heap.size ≤ g; omega) (.bool b3)).setCell (p := ⟨g, j * 2 + 1, none⟩) (by show w.heap.size ≤ g; omega) (.slice A3 n3 c3)
              generalize (w3.setCell ⟨g, j * 2, none⟩ (.bool b3)).setCell ⟨g, j * 2 + 1, none⟩ (.slice A3 n3 c3) = W8 at *
              clear y0 y1 y2 y3 v0 v1 v2 v3 u0 u1 u2 u3 r0 r1 r2 r3 G3 G2 KB3 KB2 K3 K2 t_F hcK hfK gj g5' i50 i51 if50 if51 j0 j1 jf0 jf1
              obtain ⟨bk, sk, k0, k1, kf0, kf1, gk⟩ := s_F.2 j hjm
              rw [upd_same] at gk
              dsimp only at gk
              rw [if_pos rfl] at gk
              obtain ⟨Ak, nk, ck, rfl⟩ := gk.form
              obtain ⟨tt, htt⟩ : ∃ tt : Nat, j - (mr1 - m1) = tt := ⟨_, rfl⟩
              have hix : ((j : Int) - ((mr1 : Int) + 1 - ((m1 : Int) + 1))).toNat = tt := by omega
              have hix0 : 0 ≤ (j : Int) - ((mr1 : Int) + 1 - ((m1 : Int) + 1)) := by omega
              have hix1 : (j : Int) - ((mr1 : Int) + 1 - ((m1 : Int) + 1)) < (m1 : Int) + 1 := by omega
              have htm : tt < m1 + 1 := by omega
              obtain ⟨bq, sq, c0, c1, cf0, cf1, gqq⟩ := s_q.2 tt htm
              obtain ⟨Aq, nq, cq, rfl⟩ := gqq.form
              obtain ⟨b7', A7', n7', c7', d0, d1, df0, df1, g7'⟩ := LB.open s_7
              have hs7 := s_7.1
              have hsg := s_F.1
              have hsq := s_q.1
              have HTT := Lib.hid htt
              have hixe : (j : Int) - ((mr1 : Int) + 1 - ((m1 : Int) + 1)) = (tt : Int) := by omega
              have hwr : IntKind.i64.wrap ((j : Int) - ((mr1 : Int) + 1 - ((m1 : Int) + 1))) = (tt : Int) := by rw [hixe]; exact IntWalk.i64_in _ (by omega)
              have htmI : (tt : Int) < (m1 : Int) + 1 := by omega
              have HIX := Lib.hid hixe
              clear hix hix0 hix1 hixe
              clear htt
              go_wp2_with fail
              go_region_with (first
                | (go_at_call 123; refine (times_any bq b7' _ _ _ _ _ _ _ (by exact gqq.drew) (by exact g7'.drew) (by omega) (by omega)).mono ?_; rintro e w4 ⟨b4, s4, rfl, G4, K4⟩; obtain ⟨A4, n4, c4, rfl⟩ := G4.form; have e0 := (K4.cell (p := ⟨g, j * 2, none⟩) hsg).trans k0; have e1 := (K4.cell (p := ⟨g, j * 2 + 1, none⟩) hsg).trans k1; have e2 := (K4.frozen (p := ⟨g, j * 2, none⟩) hsg).trans kf0; have e3 := (K4.frozen (p := ⟨g, j * 2 + 1, none⟩) hsg).trans kf1; have hsg4 : g < w4.heap.size := (Nat.lt_of_lt_of_le hsg K4.size))
                | (go_at_call 147; refine (minus_any bk b4 _ _ _ _ (Lr + Lq) _ (by exact (gk.drew.below (Nat.le_refl _) K4)) (by exact G4.more (by omega)) (by omega)).mono ?_; rintro e w5 ⟨b5x, s5x, rfl, G5, K5⟩; obtain ⟨A5x, n5x, c5x, rfl⟩ := G5.form; have f0 := (K5.cell (p := ⟨g, j * 2, none⟩) hsg4).trans e0; have f1 := (K5.cell (p := ⟨g, j * 2 + 1, none⟩) hsg4).trans e1; have f2 := (K5.frozen (p := ⟨g, j * 2, none⟩) hsg4).trans e2; have f3 := (K5.frozen (p := ⟨g, j * 2 + 1, none⟩) hsg4).trans e3))
              all_goals
                have KB5 : Below W8.heap.size W8 w5 := ((Below.refl W8.heap.size W8).drew.trans K4).trans (K5.mono K4.size)
                have u_F := (s_F.below (Nat.le_refl _) KB5).set hjm G5
                have v_F := s_F.below (Nat.le_refl _) KB5
                have u_5 := PR.otherF (PR.below s_5 (Nat.le_refl _) KB5) v_F (by omega) (by omega) (j * 2) (j * 2 + 1) (.bool b5x) (.slice A5x n5x c5x)
                have u_7 := PR.otherF (PR.below s_7 (Nat.le_refl _) KB5) v_F (by omega) (by omega) (j * 2) (j * 2 + 1) (.bool b5x) (.slice A5x n5x c5x)
                have u_q := PR.otherF (PR.below s_q (Nat.le_refl _) KB5) v_F (by omega) (by omega) (j * 2) (j * 2 + 1) (.bool b5x) (.slice A5x n5x c5x)
                have u_B := ((s_B.trans (KB5.mono s_B.size)).setCell (p := ⟨g, j * 2, none⟩) (by show w.heap.size ≤ g; omega) (.bool b5x)).setCell (p := ⟨g, j * 2 + 1, none⟩) (by show w.heap.size ≤ g; omega) (.slice A5x n5x c5x)
                have HU := Lib.hid (And.intro u_F (And.intro u_5 (And.intro u_7 (And.intro u_q u_B))))
                clear u_F v_F u_5 u_7 u_q u_B s_F s_5 s_7 s_q s_B G5 G4 K4 K5 KB5 gk gqq g7'
                go_wp2
                go_roundw
                case rel =>
                  obtain ⟨u_F, u_5, u_7, u_q, u_B⟩ := HU.out
                  exact ⟨j + 1, _, _, by omega, by go_num, (fun t ht => by
                    rcases Nat.eq_or_lt_of_le (Nat.lt_succ_iff.1 ht) with e | e
                    · subst e; rw [upd_same, stepR_hi (by omega), HTT.out]
                    · rw [upd_other (by omega), upd_other (by omega)]; exact HY1.out t e), (fun t ht => by rw [upd_other (by omega), upd_other (by omega)]; exact HY2.out t (by omega)),
                    (fun t => by have := HL1.out t; split <;> (try split) <;> omega), (fun t ht => by rw [if_neg (by omega), if_neg (by omega)]; exact HL2.out t (by omega)), u_F, u_5, u_7, u_q, u_B⟩
                case measure => simp [intOf]; omega
            · have hsh' : ¬ (mr1 : Int) + 1 - (m1 + 1) ≤ j := by omega
              go_wp2_with fail
              go_region_held3 (fun w' => w'.cell? ⟨wr.heap.size, 0, none⟩ = some (.bool bj) ∧ w'.cell? ⟨wr.heap.size, 1, none⟩ = some (.slice Aj nj cj) ∧ w'.cell? ⟨w.heap.size, 0, none⟩ = some (.bool b5') ∧ w'.cell? ⟨w.heap.size, 1, none⟩ = some (.slice A5' n5' c5'))
                (first | (simp [go_sem, World.cell?_alloc_past, i50, i51, hi5]; done) | (exact ⟨y0, y1, y2, y3⟩) | (exact ⟨v0, v1, v2, v3⟩) | (exact ⟨u0, u1, u2, u3⟩) | (refine ⟨?_, ?_, ?_, ?_⟩ <;> simp [go_sem, *]; done))
                (first
                  | (go_at_call 146; refine (longSize_any b5' _ _ _ _ (by exact g5'.below (Nat.le_refl _) (by repeat (first | exact Below.refl _ _ | refine Below.drew ?_ | refine Below.drewN' ?_ _ | refine Below.alloc ?_ (by first | exact Nat.le_refl _ | (simp; done) | (simp; omega)) _)))).mono ?_; rintro e w2 ⟨b2, s2, rfl, G2, K2⟩; obtain ⟨hcK, hfK⟩ := bcell K2; have u0 : w2.cell? ⟨wr.heap.size, 0, none⟩ = some (.bool bj) := (by rw [hcK _ _ (by simp)]; simp [go_sem]); have u1 : w2.cell? ⟨wr.heap.size, 1, none⟩ = some (.slice Aj nj cj) := (by rw [hcK _ _ (by simp)]; simp [go_sem]); have u2 : w2.cell? ⟨w.heap.size, 0, none⟩ = some (.bool b5') := (by rw [hcK _ _ (by simp; omega)]; simp [go_sem, World.cell?_alloc_past, i50, hi5]); have u3 : w2.cell? ⟨w.heap.size, 1, none⟩ = some (.slice A5' n5' c5') := (by rw [hcK _ _ (by simp; omega)]; simp [go_sem, World.cell?_alloc_past, i51, hi5]); have KB2 : Below wr.heap.size wr w2 := (((by repeat (first | exact Below.refl _ _ | refine Below.drew ?_ | refine Below.drewN' ?_ _ | refine Below.alloc ?_ (by first | exact Nat.le_refl _ | (simp; done) | (simp; omega)) _)) : Below wr.heap.size wr _).trans (K2.mono (by simp))); have zz2 : wr.heap.size + 1 ≤ w2.heap.size := (by have := K2.size; simp at this; omega))
                  | (go_at_call 123; refine (times_any bj b2 _ _ _ _ _ _ _ (by exact gj.below (Nat.le_refl _) KB2) (by exact G2) (by omega) (by omega)).mono ?_; rintro e w3 ⟨b3, s3, rfl, G3, K3⟩; obtain ⟨A3, n3, c3, rfl⟩ := G3.form; have v0 := (K3.cell (p := ⟨wr.heap.size, 0, none⟩) (show wr.heap.size < w2.heap.size by omega)).trans u0; have v1 := (K3.cell (p := ⟨wr.heap.size, 1, none⟩) (show wr.heap.size < w2.heap.size by omega)).trans u1; have v2 := (K3.cell (p := ⟨w.heap.size, 0, none⟩) (show w.heap.size < w2.heap.size by omega)).trans u2; have v3 := (K3.cell (p := ⟨w.heap.size, 1, none⟩) (show w.heap.size < w2.heap.size by omega)).trans u3; have KB3 : Below wr.heap.size wr w3 := (KB2.trans (K3.mono (by omega))); have r0 := (KB3.cell (p := ⟨g, j * 2, none⟩) hig).trans j0; have r1 := (KB3.cell (p := ⟨g, j * 2 + 1, none⟩) hig).trans j1; have r2 := (KB3.frozen (p := ⟨g, j * 2, none⟩) hig).trans jf0; have r3 := (KB3.frozen (p := ⟨g, j * 2 + 1, none⟩) hig).trans jf1; have y0 : ((w3.setCell ⟨g, j * 2, none⟩ (.bool b3)).setCell ⟨g, j * 2 + 1, none⟩ (.slice A3 n3 c3)).cell? ⟨wr.heap.size, 0, none⟩ = some (.bool bj) := (by rw [World.cell?_setCell_other _ _ _ _ (by simp <;> omega), World.cell?_setCell_other _ _ _ _ (by simp <;> omega)]; exact v0); have y1 : ((w3.setCell ⟨g, j * 2, none⟩ (.bool b3)).setCell ⟨g, j * 2 + 1, none⟩ (.slice A3 n3 c3)).cell? ⟨wr.heap.size, 1, none⟩ = some (.slice Aj nj cj) := (by rw [World.cell?_setCell_other _ _ _ _ (by simp <;> omega), World.cell?_setCell_other _ _ _ _ (by simp <;> omega)]; exact v1); have y2 : ((w3.setCell ⟨g, j * 2, none⟩ (.bool b3)).setCell ⟨g, j * 2 + 1, none⟩ (.slice A3 n3 c3)).cell? ⟨w.heap.size, 0, none⟩ = some (.bool b5') := (by rw [World.cell?_setCell_other _ _ _ _ (by simp <;> omega), World.cell?_setCell_other _ _ _ _ (by simp <;> omega)]; exact v2); have y3 : ((w3.setCell ⟨g, j * 2, none⟩ (.bool b3)).setCell ⟨g, j * 2 + 1, none⟩ (.slice A3 n3 c3)).cell? ⟨w.heap.size, 1, none⟩ = some (.slice A5' n5' c5') := (by rw [World.cell?_setCell_other _ _ _ _ (by simp <;> omega), World.cell?_setCell_other _ _ _ _ (by simp <;> omega)]; exact v3)))
              have t_F := HPF.out.below (Nat.le_refl _) KB3
              have s_F := t_F.set hjm G3
              have s_5 := PR.otherF (PR.below HL5.out (Nat.le_refl _) KB3) t_F (by omega) (by omega) (j * 2) (j * 2 + 1) (.bool b3) (.slice A3 n3 c3)
              have s_7 := PR.otherF (PR.below HL7.out (Nat.le_refl _) KB3) t_F (by omega) (by omega) (j * 2) (j * 2 + 1) (.bool b3) (.slice A3 n3 c3)
              have s_q := PR.otherF (PR.below HPQ.out (Nat.le_refl _) KB3) t_F (by omega) (by omega) (j * 2) (j * 2 + 1) (.bool b3) (.slice A3 n3 c3)
              have s_B := ((hBi.trans (KB3.mono hBi.size)).setCell (p := ⟨g, j * 2, none⟩) (by show w.heap.size ≤ g; omega) (.bool b3)).setCell (p := ⟨g, j * 2 + 1, none⟩) (by show w.heap.size ≤ g; omega) (.slice A3 n3 c3)
              generalize (w3.setCell ⟨g, j * 2, none⟩ (.bool b3)).setCell ⟨g, j * 2 + 1, none⟩ (.slice A3 n3 c3) = W8 at *
              clear y0 y1 y2 y3 v0 v1 v2 v3 u0 u1 u2 u3 r0 r1 r2 r3 G3 G2 KB3 KB2 K3 K2 t_F hcK hfK gj g5' i50 i51 if50 if51 j0 j1 jf0 jf1
              have HU := Lib.hid (And.intro s_F (And.intro s_5 (And.intro s_7 (And.intro s_q s_B))))
              clear s_F s_5 s_7 s_q s_B
              go_wp2
              go_roundw
              case rel =>
                obtain ⟨u_F, u_5, u_7, u_q, u_B⟩ := HU.out
                exact ⟨j + 1, _, _, by omega, by go_num, (fun t ht => by
                  rcases Nat.eq_or_lt_of_le (Nat.lt_succ_iff.1 ht) with e | e
                  · subst e; rw [upd_same, stepR_lo (by omega)]
                  · rw [upd_other (by omega)]; exact HY1.out t e), (fun t ht => by rw [upd_other (by omega)]; exact HY2.out t (by omega)),
                  (fun t => by have := HL1.out t; split <;> omega), (fun t ht => by rw [if_neg (by omega)]; exact HL2.out t (by omega)), u_F, u_5, u_7, u_q, u_B⟩
              case measure => simp [intOf]; omega
          · have hjI : ¬ (j : Int) < (mr1 : Int) + 1 := by omega
            have hfg := HPF.out.1
            go_wp2_with fail
            go_loopw [6] (fun x wt => ∃ (mm : Nat), mm ≤ mr1 + 1 ∧ x = .slice (some ⟨g, 0, none⟩) mm cr ∧ Hid (∀ t, mm ≤ t → t < mr1 + 1 → y t = 0) ∧ Hid (PF wt g (mr1 + 1) y Lf) ∧ Hid (LB wt w.heap.size (q m1) Lq) ∧ Below w.heap.size w wt) (fun x _ => lenOfS x)
            case atStart => exact ⟨mr1 + 1, by omega, rfl, fun t _ _ => by omega, HPF.out, HL5.out, hBi⟩
            case round =>
              obtain ⟨mm, hmm, rfl, HZ, HPF2, HL52, hBt⟩ := hrel
              rcases Nat.eq_zero_or_pos mm with h0 | h0
              · subst h0
                go_wp2
                go_roundw
                case rel =>
                  refine ⟨k + 1, 0, cr, stepR (mr1 + 1) r (m1 + 1) q, by omega, by omega, hcr2, rfl, ?_, ?_, HL52.out, hBt⟩
                  · have h1 := HR2.out
                    rw [trimN_of (k := 0) (by omega) (fun i _ hi => by rw [← HY1.out i (by omega)]; exact HZ.out i (by omega) hi) (by omega)] at h1
                    exact h1
                  · simp only [Hid]; rw [HLk.out]
                    exact (((HPF2.out.to (fun i _ => HL1.out i)).less (by omega)).congr (fun i hi => by omega))
                case measure => simp [lenOfS]
              · obtain ⟨mk, rfl⟩ : ∃ mk, mm = mk + 1 := ⟨mm - 1, by omega⟩
                obtain ⟨bk, sk, k0, k1, kf0, kf1, gk⟩ := HPF2.out.2 mk (by omega)
                obtain ⟨Ak, nk, ck, rfl⟩ := gk.form
                have hLk := HL1.out mk
                by_cases hz : y mk = 0
                · have hz' : (cmpI (y mk) 0 == 0) = true := by rw [hz, cmpI_eq]; rfl
                  have HZ2 := Lib.hid (show ∀ t, mk ≤ t → t < mr1 + 1 → y t = 0 from fun t ht ht' => by
                    rcases Nat.eq_or_lt_of_le ht with e | e
                    · subst e; exact hz
                    · exact HZ.out t (by omega) ht')
                  clear hz
                  go_wp2_with (go_at_call 125; refine (sign_any bk _ _ _ _ (by exact gk) (by omega)).mono ?_; rintro e wz ⟨rfl, KZ⟩)
                  go_roundw
                  case rel => exact ⟨mk, by omega, rfl, HZ2.out, HPF2.out.below (Nat.le_refl _) KZ, HL52.out.below (Nat.le_refl _) KZ, hBt.trans (KZ.mono hBt.size)⟩
                  case measure => simp [lenOfS]
                · have hz' : (cmpI (y mk) 0 == 0) = false := by
                    rcases Int.lt_or_le (y mk) 0 with h | h
                    · rw [cmpI_lt h]; rfl
                    · rw [cmpI_gt (by omega)]; rfl
                  have HNZ := Lib.hid hz
                  clear hz
                  have hmkl : mk < mr1 := by
                    have hne : mk ≠ mr1 := fun e => HNZ.out (by rw [e, HY1.out mr1 (by omega)]; exact stepR_top (m := mr1 + 1) (by omega) (by omega))
                    omega
                  go_wp2_with (go_at_call 125; refine (sign_any bk _ _ _ _ (by exact gk) (by omega)).mono ?_; rintro e wz ⟨rfl, KZ⟩)
                  go_roundw
                  case rel =>
                    refine ⟨k + 1, mk + 1, cr, stepR (mr1 + 1) r (m1 + 1) q, by omega, by omega, hcr2, rfl, ?_, ?_, HL52.out.below (Nat.le_refl _) KZ, hBt.trans (KZ.mono hBt.size)⟩
                    · have h1 := HR2.out
                      rw [trimN_of (k := mk + 1) (by omega) (fun i hi hi' => by rw [← HY1.out i (by omega)]; exact HZ.out i hi hi') (fun _ => by rw [Nat.add_sub_cancel, ← HY1.out mk (by omega)]; exact HNZ.out)] at h1
                      exact h1
                    · simp only [Hid]; rw [HLk.out]
                      exact ((((HPF2.out.below (Nat.le_refl _) KZ).to (fun i _ => HL1.out i)).less (by omega)).congr (fun i hi => HY1.out i (by omega)))
                  case measure => simp [lenOfS]; omega
      · have hd : decide (cmpI (q m1) 0 < 0) = false := by
          rcases Int.lt_or_le 0 (q m1) with h | h
          · rw [cmpI_gt h]; rfl
          · rw [show q m1 = 0 by omega, cmpI_eq]; rfl
        have HF := Lib.hid (show facR (mr1 + 1) r (q m1) = r mr1 by unfold facR; rw [if_neg hneg]; rfl)
        clear hneg
        go_wp2_with (go_at_call 125; refine (sign_any b5 _ _ _ _ (by exact g5.below (Nat.le_refl _) ((Below.refl _ _).alloc (Nat.le_refl _) _)) (by omega)).mono ?_; rintro e w2 ⟨rfl, B2⟩)
        have q_7 := LB.below (LB.new gt) (Nat.le_refl _) B2
        rw [← HF.out] at q_7
        have q_B : Below w.heap.size w w2 := ((hB.alloc hB.size _).trans (B2.mono (by simp; omega)))
        have q_g := (HPR.out.alloc (.cells #[.bool bt, .slice At nt ct] 130)).below (Nat.le_refl _) B2
        have q_5 := (HLB.out.alloc (.cells #[.bool bt, .slice At nt ct] 130)).below (Nat.le_refl _) B2
        have q_q := hPq.below (Nat.le_refl _) q_B
        clear B2 gt g5 t0 t1 l0 l1 lf0 lf1
        generalize hB7 : wr.heap.size = B7 at *
        have HB7 := Lib.hid hB7
        clear hB7
        have hgq1 := q_q.1
        have hg1 := q_g.1
        go_loopw [42] (fun i wi => ∃ (j : Nat) (y : Row) (Lf : Nat → Nat), j ≤ mr1 + 1 ∧ i = .int .i64 j ∧ Hid (∀ t, t < j → y t = stepR (mr1 + 1) r (m1 + 1) q t) ∧ Hid (∀ t, j ≤ t → y t = r t) ∧ Hid (∀ t, Lf t ≤ Lr + Lq + 1) ∧ Hid (∀ t, j ≤ t → Lf t = Lr) ∧
            Hid (PF wi g (mr1 + 1) y Lf) ∧ Hid (LB wi w.heap.size (q m1) Lq) ∧ Hid (LB wi B7 (facR (mr1 + 1) r (q m1)) Lr) ∧ Hid (PR wi gq (m1 + 1) q Lq) ∧ Below w.heap.size w wi) (fun i _ => mr1 + 1 - (intOf i).toNat)
        case atStart => exact ⟨0, r, fun _ => Lr, by omega, rfl, fun _ h => by omega, fun _ _ => rfl, fun _ => show Lr ≤ Lr + Lq + 1 by omega, fun _ _ => rfl, PF.of q_g, q_5, q_7, q_q, q_B⟩
        case round =>
          obtain ⟨j, y, Lf, hj, rfl, HY1, HY2, HL1, HL2, HPF, HL5, HL7, HPQ, hBi⟩ := hrel
          clear q_g q_5 q_7 q_q q_B
          by_cases hjm : j < mr1 + 1
          · have hjm' : (j : Int) < (mr1 : Int) + 1 := by omega
            obtain ⟨bj, sj, j0, j1, jf0, jf1, gj⟩ := HPF.out.2 j hjm
            rw [HL2.out j (Nat.le_refl _), HY2.out j (Nat.le_refl _)] at gj
            obtain ⟨Aj, nj, cj, rfl⟩ := gj.form
            obtain ⟨b5', A5', n5', c5', i50, i51, if50, if51, g5'⟩ := LB.open HL5.out
            have hi5 := HL5.out.1
            have hi7 := HL7.out.1
            have hig := HPF.out.1
            have hiq := HPQ.out.1
            by_cases hsh : (mr1 + 1) - (m1 + 1) ≤ j
            · have hsh' : (mr1 : Int) + 1 - (m1 + 1) ≤ j := by omega
              go_wp2_with fail
              go_region_held3 (fun w' => w'.cell? ⟨wr.heap.size, 0, none⟩ = some (.bool bj) ∧ w'.cell? ⟨wr.heap.size, 1, none⟩ = some (.slice Aj nj cj) ∧ w'.cell? ⟨w.heap.size, 0, none⟩ = some (.bool b5') ∧ w'.cell? ⟨w.heap.size, 1, none⟩ = some (.slice A5' n5' c5'))
                (first | (simp [go_sem, World.cell?_alloc_past, i50, i51, hi5]; done) | (exact ⟨y0, y1, y2, y3⟩) | (exact ⟨v0, v1, v2, v3⟩) | (exact ⟨u0, u1, u2, u3⟩) | (refine ⟨?_, ?_, ?_, ?_⟩ <;> simp [go_sem, *]; done))
                (first
                  | (go_at_call 146; refine (longSize_any b5' _ _ _ _ (by exact g5'.below (Nat.le_refl _) (by repeat (first | exact Below.refl _ _ | refine Below.drew ?_ | refine Below.drewN' ?_ _ | refine Below.alloc ?_ (by first | exact Nat.le_refl _ | (simp; done) | (simp; omega)) _)))).mono ?_; rintro e w2 ⟨b2, s2, rfl, G2, K2⟩; obtain ⟨hcK, hfK⟩ := bcell K2; have u0 : w2.cell? ⟨wr.heap.size, 0, none⟩ = some (.bool bj) := (by rw [hcK _ _ (by simp)]; simp [go_sem]); have u1 : w2.cell? ⟨wr.heap.size, 1, none⟩ = some (.slice Aj nj cj) := (by rw [hcK _ _ (by simp)]; simp [go_sem]); have u2 : w2.cell? ⟨w.heap.size, 0, none⟩ = some (.bool b5') := (by rw [hcK _ _ (by simp; omega)]; simp [go_sem, World.cell?_alloc_past, i50, hi5]); have u3 : w2.cell? ⟨w.heap.size, 1, none⟩ = some (.slice A5' n5' c5') := (by rw [hcK _ _ (by simp; omega)]; simp [go_sem, World.cell?_alloc_past, i51, hi5]); have KB2 : Below wr.heap.size wr w2 := (((by repeat (first | exact Below.refl _ _ | refine Below.drew ?_ | refine Below.drewN' ?_ _ | refine Below.alloc ?_ (by first | exact Nat.le_refl _ | (simp; done) | (simp; omega)) _)) : Below wr.heap.size wr _).trans (K2.mono (by simp))); have zz2 : wr.heap.size + 1 ≤ w2.heap.size := (by have := K2.size; simp at this; omega))
                  | (go_at_call 123; refine (times_any bj b2 _ _ _ _ _ _ _ (by exact gj.below (Nat.le_refl _) KB2) (by exact G2) (by omega) (by omega)).mono ?_; rintro e w3 ⟨b3, s3, rfl, G3, K3⟩; obtain ⟨A3, n3, c3, rfl⟩ := G3.form; have v0 := (K3.cell (p := ⟨wr.heap.size, 0, none⟩) (show wr.heap.size < w2.heap.size by omega)).trans u0; have v1 := (K3.cell (p := ⟨wr.heap.size, 1, none⟩) (show wr.heap.size < w2.heap.size by omega)).trans u1; have v2 := (K3.cell (p := ⟨w.heap.size, 0, none⟩) (show w.heap.size < w2.heap.size by omega)).trans u2; have v3 := (K3.cell (p := ⟨w.heap.size, 1, none⟩) (show w.heap.size < w2.heap.size by omega)).trans u3; have KB3 : Below wr.heap.size wr w3 := (KB2.trans (K3.mono (by omega))); have r0 := (KB3.cell (p := ⟨g, j * 2, none⟩) hig).trans j0; have r1 := (KB3.cell (p := ⟨g, j * 2 + 1, none⟩) hig).trans j1; have r2 := (KB3.frozen (p := ⟨g, j * 2, none⟩) hig).trans jf0; have r3 := (KB3.frozen (p := ⟨g, j * 2 + 1, none⟩) hig).trans jf1; have y0 : ((w3.setCell ⟨g, j * 2, none⟩ (.bool b3)).setCell ⟨g, j * 2 + 1, none⟩ (.slice A3 n3 c3)).cell? ⟨wr.heap.size, 0, none⟩ = some (.bool bj) := (by rw [World.cell?_setCell_other _ _ _ _ (by simp <;> omega), World.cell?_setCell_other _ _ _ _ (by simp <;> omega)]; exact v0); have y1 : ((w3.setCell ⟨g, j * 2, none⟩ (.bool b3)).setCell ⟨g, j * 2 + 1, none⟩ (.slice A3 n3 c3)).cell? ⟨wr.heap.size, 1, none⟩ = some (.slice Aj nj cj) := (by rw [World.cell?_setCell_other _ _ _ _ (by simp <;> omega), World.cell?_setCell_other _ _ _ _ (by simp <;> omega)]; exact v1); have y2 : ((w3.setCell ⟨g, j * 2, none⟩ (.bool b3)).setCell ⟨g, j * 2 + 1, none⟩ (.slice A3 n3 c3)).cell? ⟨w.heap.size, 0, none⟩ = some (.bool b5') := (by rw [World.cell?_setCell_other _ _ _ _ (by simp <;> omega), World.cell?_setCell_other _ _ _ _ (by simp <;> omega)]; exact v2); have y3 : ((w3.setCell ⟨g, j * 2, none⟩ (.bool b3)).setCell ⟨g, j * 2 + 1, none⟩ (.slice A3 n3 c3)).cell? ⟨w.heap.size, 1, none⟩ = some (.slice A5' n5' c5') := (by rw [World.cell?_setCell_other _ _ _ _ (by simp <;> omega), World.cell?_setCell_other _ _ _ _ (by simp <;> omega)]; exact v3)))
              have t_F := HPF.out.below (Nat.le_refl _) KB3
              have s_F := t_F.set hjm G3
              have s_5 := PR.otherF (PR.below HL5.out (Nat.le_refl _) KB3) t_F (by omega) (by omega) (j * 2) (j * 2 + 1) (.bool b3) (.slice A3 n3 c3)
              have s_7 := PR.otherF (PR.below HL7.out (Nat.le_refl _) KB3) t_F (by omega) (by omega) (j * 2) (j * 2 + 1) (.bool b3) (.slice A3 n3 c3)
              have s_q := PR.otherF (PR.below HPQ.out (Nat.le_refl _) KB3) t_F (by omega) (by omega) (j * 2) (j * 2 + 1) (.bool b3) (.slice A3 n3 c3)
              have s_B := ((hBi.trans (KB3.mono hBi.size)).setCell (p := ⟨g, j * 2, none⟩) (by show w.heap.size ≤ g; omega) (.bool b3)).setCell (p := ⟨g, j * 2 + 1, none⟩) (by show w.heap.size ≤ g; omega) (.slice A3 n3 c3)
              generalize (w3.setCell ⟨g, j * 2, none⟩ (.bool b3)).setCell ⟨g, j * 2 + 1, none⟩ (.slice A3 n3 c3) = W8 at *
              clear y0 y1 y2 y3 v0 v1 v2 v3 u0 u1 u2 u3 r0 r1 r2 r3 G3 G2 KB3 KB2 K3 K2 t_F hcK hfK gj g5' i50 i51 if50 if51 j0 j1 jf0 jf1
              obtain ⟨bk, sk, k0, k1, kf0, kf1, gk⟩ := s_F.2 j hjm
              rw [upd_same] at gk
              dsimp only at gk
              rw [if_pos rfl] at gk
              obtain ⟨Ak, nk, ck, rfl⟩ := gk.form
              obtain ⟨tt, htt⟩ : ∃ tt : Nat, j - (mr1 - m1) = tt := ⟨_, rfl⟩
              have hix : ((j : Int) - ((mr1 : Int) + 1 - ((m1 : Int) + 1))).toNat = tt := by omega
              have hix0 : 0 ≤ (j : Int) - ((mr1 : Int) + 1 - ((m1 : Int) + 1)) := by omega
              have hix1 : (j : Int) - ((mr1 : Int) + 1 - ((m1 : Int) + 1)) < (m1 : Int) + 1 := by omega
              have htm : tt < m1 + 1 := by omega
              obtain ⟨bq, sq, c0, c1, cf0, cf1, gqq⟩ := s_q.2 tt htm
              obtain ⟨Aq, nq, cq, rfl⟩ := gqq.form
              obtain ⟨b7', A7', n7', c7', d0, d1, df0, df1, g7'⟩ := LB.open s_7
              have hs7 := s_7.1
              have hsg := s_F.1
              have hsq := s_q.1
              have HTT := Lib.hid htt
              have hixe : (j : Int) - ((mr1 : Int) + 1 - ((m1 : Int) + 1)) = (tt : Int) := by omega
              have hwr : IntKind.i64.wrap ((j : Int) - ((mr1 : Int) + 1 - ((m1 : Int) + 1))) = (tt : Int) := by rw [hixe]; exact IntWalk.i64_in _ (by omega)
              have htmI : (tt : Int) < (m1 : Int) + 1 := by omega
              have HIX := Lib.hid hixe
              clear hix hix0 hix1 hixe
              clear htt
              go_wp2_with fail
              go_region_with (first
                | (go_at_call 123; refine (times_any bq b7' _ _ _ _ _ _ _ (by exact gqq.drew) (by exact g7'.drew) (by omega) (by omega)).mono ?_; rintro e w4 ⟨b4, s4, rfl, G4, K4⟩; obtain ⟨A4, n4, c4, rfl⟩ := G4.form; have e0 := (K4.cell (p := ⟨g, j * 2, none⟩) hsg).trans k0; have e1 := (K4.cell (p := ⟨g, j * 2 + 1, none⟩) hsg).trans k1; have e2 := (K4.frozen (p := ⟨g, j * 2, none⟩) hsg).trans kf0; have e3 := (K4.frozen (p := ⟨g, j * 2 + 1, none⟩) hsg).trans kf1; have hsg4 : g < w4.heap.size := (Nat.lt_of_lt_of_le hsg K4.size))
                | (go_at_call 147; refine (minus_any bk b4 _ _ _ _ (Lr + Lq) _ (by exact (gk.drew.below (Nat.le_refl _) K4)) (by exact G4.more (by omega)) (by omega)).mono ?_; rintro e w5 ⟨b5x, s5x, rfl, G5, K5⟩; obtain ⟨A5x, n5x, c5x, rfl⟩ := G5.form; have f0 := (K5.cell (p := ⟨g, j * 2, none⟩) hsg4).trans e0; have f1 := (K5.cell (p := ⟨g, j * 2 + 1, none⟩) hsg4).trans e1; have f2 := (K5.frozen (p := ⟨g, j * 2, none⟩) hsg4).trans e2; have f3 := (K5.frozen (p := ⟨g, j * 2 + 1, none⟩) hsg4).trans e3))
              all_goals
                have KB5 : Below W8.heap.size W8 w5 := ((Below.refl W8.heap.size W8).drew.trans K4).trans (K5.mono K4.size)
                have u_F := (s_F.below (Nat.le_refl _) KB5).set hjm G5
                have v_F := s_F.below (Nat.le_refl _) KB5
                have u_5 := PR.otherF (PR.below s_5 (Nat.le_refl _) KB5) v_F (by omega) (by omega) (j * 2) (j * 2 + 1) (.bool b5x) (.slice A5x n5x c5x)
                have u_7 := PR.otherF (PR.below s_7 (Nat.le_refl _) KB5) v_F (by omega) (by omega) (j * 2) (j * 2 + 1) (.bool b5x) (.slice A5x n5x c5x)
                have u_q := PR.otherF (PR.below s_q (Nat.le_refl _) KB5) v_F (by omega) (by omega) (j * 2) (j * 2 + 1) (.bool b5x) (.slice A5x n5x c5x)
                have u_B := ((s_B.trans (KB5.mono s_B.size)).setCell (p := ⟨g, j * 2, none⟩) (by show w.heap.size ≤ g; omega) (.bool b5x)).setCell (p := ⟨g, j * 2 + 1, none⟩) (by show w.heap.size ≤ g; omega) (.slice A5x n5x c5x)
                have HU := Lib.hid (And.intro u_F (And.intro u_5 (And.intro u_7 (And.intro u_q u_B))))
                clear u_F v_F u_5 u_7 u_q u_B s_F s_5 s_7 s_q s_B G5 G4 K4 K5 KB5 gk gqq g7'
                go_wp2
                go_roundw
                case rel =>
                  obtain ⟨u_F, u_5, u_7, u_q, u_B⟩ := HU.out
                  exact ⟨j + 1, _, _, by omega, by go_num, (fun t ht => by
                    rcases Nat.eq_or_lt_of_le (Nat.lt_succ_iff.1 ht) with e | e
                    · subst e; rw [upd_same, stepR_hi (by omega), HTT.out]
                    · rw [upd_other (by omega), upd_other (by omega)]; exact HY1.out t e), (fun t ht => by rw [upd_other (by omega), upd_other (by omega)]; exact HY2.out t (by omega)),
                    (fun t => by have := HL1.out t; split <;> (try split) <;> omega), (fun t ht => by rw [if_neg (by omega), if_neg (by omega)]; exact HL2.out t (by omega)), u_F, u_5, u_7, u_q, u_B⟩
                case measure => simp [intOf]; omega
            · have hsh' : ¬ (mr1 : Int) + 1 - (m1 + 1) ≤ j := by omega
              go_wp2_with fail
              go_region_held3 (fun w' => w'.cell? ⟨wr.heap.size, 0, none⟩ = some (.bool bj) ∧ w'.cell? ⟨wr.heap.size, 1, none⟩ = some (.slice Aj nj cj) ∧ w'.cell? ⟨w.heap.size, 0, none⟩ = some (.bool b5') ∧ w'.cell? ⟨w.heap.size, 1, none⟩ = some (.slice A5' n5' c5'))
                (first | (simp [go_sem, World.cell?_alloc_past, i50, i51, hi5]; done) | (exact ⟨y0, y1, y2, y3⟩) | (exact ⟨v0, v1, v2, v3⟩) | (exact ⟨u0, u1, u2, u3⟩) | (refine ⟨?_, ?_, ?_, ?_⟩ <;> simp [go_sem, *]; done))
                (first
                  | (go_at_call 146; refine (longSize_any b5' _ _ _ _ (by exact g5'.below (Nat.le_refl _) (by repeat (first | exact Below.refl _ _ | refine Below.drew ?_ | refine Below.drewN' ?_ _ | refine Below.alloc ?_ (by first | exact Nat.le_refl _ | (simp; done) | (simp; omega)) _)))).mono ?_; rintro e w2 ⟨b2, s2, rfl, G2, K2⟩; obtain ⟨hcK, hfK⟩ := bcell K2; have u0 : w2.cell? ⟨wr.heap.size, 0, none⟩ = some (.bool bj) := (by rw [hcK _ _ (by simp)]; simp [go_sem]); have u1 : w2.cell? ⟨wr.heap.size, 1, none⟩ = some (.slice Aj nj cj) := (by rw [hcK _ _ (by simp)]; simp [go_sem]); have u2 : w2.cell? ⟨w.heap.size, 0, none⟩ = some (.bool b5') := (by rw [hcK _ _ (by simp; omega)]; simp [go_sem, World.cell?_alloc_past, i50, hi5]); have u3 : w2.cell? ⟨w.heap.size, 1, none⟩ = some (.slice A5' n5' c5') := (by rw [hcK _ _ (by simp; omega)]; simp [go_sem, World.cell?_alloc_past, i51, hi5]); have KB2 : Below wr.heap.size wr w2 := (((by repeat (first | exact Below.refl _ _ | refine Below.drew ?_ | refine Below.drewN' ?_ _ | refine Below.alloc ?_ (by first | exact Nat.le_refl _ | (simp; done) | (simp; omega)) _)) : Below wr.heap.size wr _).trans (K2.mono (by simp))); have zz2 : wr.heap.size + 1 ≤ w2.heap.size := (by have := K2.size; simp at this; omega))
                  | (go_at_call 123; refine (times_any bj b2 _ _ _ _ _ _ _ (by exact gj.below (Nat.le_refl _) KB2) (by exact G2) (by omega) (by omega)).mono ?_; rintro e w3 ⟨b3, s3, rfl, G3, K3⟩; obtain ⟨A3, n3, c3, rfl⟩ := G3.form; have v0 := (K3.cell (p := ⟨wr.heap.size, 0, none⟩) (show wr.heap.size < w2.heap.size by omega)).trans u0; have v1 := (K3.cell (p := ⟨wr.heap.size, 1, none⟩) (show wr.heap.size < w2.heap.size by omega)).trans u1; have v2 := (K3.cell (p := ⟨w.heap.size, 0, none⟩) (show w.heap.size < w2.heap.size by omega)).trans u2; have v3 := (K3.cell (p := ⟨w.heap.size, 1, none⟩) (show w.heap.size < w2.heap.size by omega)).trans u3; have KB3 : Below wr.heap.size wr w3 := (KB2.trans (K3.mono (by omega))); have r0 := (KB3.cell (p := ⟨g, j * 2, none⟩) hig).trans j0; have r1 := (KB3.cell (p := ⟨g, j * 2 + 1, none⟩) hig).trans j1; have r2 := (KB3.frozen (p := ⟨g, j * 2, none⟩) hig).trans jf0; have r3 := (KB3.frozen (p := ⟨g, j * 2 + 1, none⟩) hig).trans jf1; have y0 : ((w3.setCell ⟨g, j * 2, none⟩ (.bool b3)).setCell ⟨g, j * 2 + 1, none⟩ (.slice A3 n3 c3)).cell? ⟨wr.heap.size, 0, none⟩ = some (.bool bj) := (by rw [World.cell?_setCell_other _ _ _ _ (by simp <;> omega), World.cell?_setCell_other _ _ _ _ (by simp <;> omega)]; exact v0); have y1 : ((w3.setCell ⟨g, j * 2, none⟩ (.bool b3)).setCell ⟨g, j * 2 + 1, none⟩ (.slice A3 n3 c3)).cell? ⟨wr.heap.size, 1, none⟩ = some (.slice Aj nj cj) := (by rw [World.cell?_setCell_other _ _ _ _ (by simp <;> omega), World.cell?_setCell_other _ _ _ _ (by simp <;> omega)]; exact v1); have y2 : ((w3.setCell ⟨g, j * 2, none⟩ (.bool b3)).setCell ⟨g, j * 2 + 1, none⟩ (.slice A3 n3 c3)).cell? ⟨w.heap.size, 0, none⟩ = some (.bool b5') := (by rw [World.cell?_setCell_other _ _ _ _ (by simp <;> omega), World.cell?_setCell_other _ _ _ _ (by simp <;> omega)]; exact v2); have y3 : ((w3.setCell ⟨g, j * 2, none⟩ (.bool b3)).setCell ⟨g, j * 2 + 1, none⟩ (.slice A3 n3 c3)).cell? ⟨w.heap.size, 1, none⟩ = some (.slice A5' n5' c5') := (by rw [World.cell?_setCell_other _ _ _ _ (by simp <;> omega), World.cell?_setCell_other _ _ _ _ (by simp <;> omega)]; exact v3)))
              have t_F := HPF.out.below (Nat.le_refl _) KB3
              have s_F := t_F.set hjm G3
              have s_5 := PR.otherF (PR.below HL5.out (Nat.le_refl _) KB3) t_F (by omega) (by omega) (j * 2) (j * 2 + 1) (.bool b3) (.slice A3 n3 c3)
              have s_7 := PR.otherF (PR.below HL7.out (Nat.le_refl _) KB3) t_F (by omega) (by omega) (j * 2) (j * 2 + 1) (.bool b3) (.slice A3 n3 c3)
              have s_q := PR.otherF (PR.below HPQ.out (Nat.le_refl _) KB3) t_F (by omega) (by omega) (j * 2) (j * 2 + 1) (.bool b3) (.slice A3 n3 c3)
              have s_B := ((hBi.trans (KB3.mono hBi.size)).setCell (p := ⟨g, j * 2, none⟩) (by show w.heap.size ≤ g; omega) (.bool b3)).setCell (p := ⟨g, j * 2 + 1, none⟩) (by show w.heap.size ≤ g; omega) (.slice A3 n3 c3)
              generalize (w3.setCell ⟨g, j * 2, none⟩ (.bool b3)).setCell ⟨g, j * 2 + 1, none⟩ (.slice A3 n3 c3) = W8 at *
              clear y0 y1 y2 y3 v0 v1 v2 v3 u0 u1 u2 u3 r0 r1 r2 r3 G3 G2 KB3 KB2 K3 K2 t_F hcK hfK gj g5' i50 i51 if50 if51 j0 j1 jf0 jf1
              have HU := Lib.hid (And.intro s_F (And.intro s_5 (And.intro s_7 (And.intro s_q s_B))))
              clear s_F s_5 s_7 s_q s_B
              go_wp2
              go_roundw
              case rel =>
                obtain ⟨u_F, u_5, u_7, u_q, u_B⟩ := HU.out
                exact ⟨j + 1, _, _, by omega, by go_num, (fun t ht => by
                  rcases Nat.eq_or_lt_of_le (Nat.lt_succ_iff.1 ht) with e | e
                  · subst e; rw [upd_same, stepR_lo (by omega)]
                  · rw [upd_other (by omega)]; exact HY1.out t e), (fun t ht => by rw [upd_other (by omega)]; exact HY2.out t (by omega)),
                  (fun t => by have := HL1.out t; split <;> omega), (fun t ht => by rw [if_neg (by omega)]; exact HL2.out t (by omega)), u_F, u_5, u_7, u_q, u_B⟩
              case measure => simp [intOf]; omega
          · have hjI : ¬ (j : Int) < (mr1 : Int) + 1 := by omega
            have hfg := HPF.out.1
            go_wp2_with fail
            go_loopw [6] (fun x wt => ∃ (mm : Nat), mm ≤ mr1 + 1 ∧ x = .slice (some ⟨g, 0, none⟩) mm cr ∧ Hid (∀ t, mm ≤ t → t < mr1 + 1 → y t = 0) ∧ Hid (PF wt g (mr1 + 1) y Lf) ∧ Hid (LB wt w.heap.size (q m1) Lq) ∧ Below w.heap.size w wt) (fun x _ => lenOfS x)
            case atStart => exact ⟨mr1 + 1, by omega, rfl, fun t _ _ => by omega, HPF.out, HL5.out, hBi⟩
            case round =>
              obtain ⟨mm, hmm, rfl, HZ, HPF2, HL52, hBt⟩ := hrel
              rcases Nat.eq_zero_or_pos mm with h0 | h0
              · subst h0
                go_wp2
                go_roundw
                case rel =>
                  refine ⟨k + 1, 0, cr, stepR (mr1 + 1) r (m1 + 1) q, by omega, by omega, hcr2, rfl, ?_, ?_, HL52.out, hBt⟩
                  · have h1 := HR2.out
                    rw [trimN_of (k := 0) (by omega) (fun i _ hi => by rw [← HY1.out i (by omega)]; exact HZ.out i (by omega) hi) (by omega)] at h1
                    exact h1
                  · simp only [Hid]; rw [HLk.out]
                    exact (((HPF2.out.to (fun i _ => HL1.out i)).less (by omega)).congr (fun i hi => by omega))
                case measure => simp [lenOfS]
              · obtain ⟨mk, rfl⟩ : ∃ mk, mm = mk + 1 := ⟨mm - 1, by omega⟩
                obtain ⟨bk, sk, k0, k1, kf0, kf1, gk⟩ := HPF2.out.2 mk (by omega)
                obtain ⟨Ak, nk, ck, rfl⟩ := gk.form
                have hLk := HL1.out mk
                by_cases hz : y mk = 0
                · have hz' : (cmpI (y mk) 0 == 0) = true := by rw [hz, cmpI_eq]; rfl
                  have HZ2 := Lib.hid (show ∀ t, mk ≤ t → t < mr1 + 1 → y t = 0 from fun t ht ht' => by
                    rcases Nat.eq_or_lt_of_le ht with e | e
                    · subst e; exact hz
                    · exact HZ.out t (by omega) ht')
                  clear hz
                  go_wp2_with (go_at_call 125; refine (sign_any bk _ _ _ _ (by exact gk) (by omega)).mono ?_; rintro e wz ⟨rfl, KZ⟩)
                  go_roundw
                  case rel => exact ⟨mk, by omega, rfl, HZ2.out, HPF2.out.below (Nat.le_refl _) KZ, HL52.out.below (Nat.le_refl _) KZ, hBt.trans (KZ.mono hBt.size)⟩
                  case measure => simp [lenOfS]
                · have hz' : (cmpI (y mk) 0 == 0) = false := by
                    rcases Int.lt_or_le (y mk) 0 with h | h
                    · rw [cmpI_lt h]; rfl
                    · rw [cmpI_gt (by omega)]; rfl
                  have HNZ := Lib.hid hz
                  clear hz
                  have hmkl : mk < mr1 := by
                    have hne : mk ≠ mr1 := fun e => HNZ.out (by rw [e, HY1.out mr1 (by omega)]; exact stepR_top (m := mr1 + 1) (by omega) (by omega))
                    omega
                  go_wp2_with (go_at_call 125; refine (sign_any bk _ _ _ _ (by exact gk) (by omega)).mono ?_; rintro e wz ⟨rfl, KZ⟩)
                  go_roundw
                  case rel =>
                    refine ⟨k + 1, mk + 1, cr, stepR (mr1 + 1) r (m1 + 1) q, by omega, by omega, hcr2, rfl, ?_, ?_, HL52.out.below (Nat.le_refl _) KZ, hBt.trans (KZ.mono hBt.size)⟩
                    · have h1 := HR2.out
                      rw [trimN_of (k := mk + 1) (by omega) (fun i hi hi' => by rw [← HY1.out i (by omega)]; exact HZ.out i hi hi') (fun _ => by rw [Nat.add_sub_cancel, ← HY1.out mk (by omega)]; exact HNZ.out)] at h1
                      exact h1
                    · simp only [Hid]; rw [HLk.out]
                      exact ((((HPF2.out.below (Nat.le_refl _) KZ).to (fun i _ => HL1.out i)).less (by omega)).congr (fun i hi => HY1.out i (by omega)))
                  case measure => simp [lenOfS]; omega
    · have hlen' : ¬ ((m1 : Int) + 1) ≤ mr := by omega
      have HE := Lib.hid (restR_end HRS.out hlen)
      have hLr : L + k * (Lq + 1) ≤ L + n * (Lq + 1) := Nat.add_le_add_left (Nat.mul_le_mul_right _ (by omega)) _
      go_wp2
      go_ret
      rw [HE.out]
      have hge'' : w.heap.size ≤ g := by omega
      exact ⟨_, ⟨_, rfl⟩, hge'', HPR.out.more hLr, (by show mr ≤ n; omega), hB⟩

end Go.Proofs.Ytfnmnnbmhfbkbaa
