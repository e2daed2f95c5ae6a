/- Walks: sums of the reference's numbers of any size. -/
import Derived.Test.YtfnmnnbmhfbkbaaV2
import Derived.Test.YtfnmnnbmhfbkbaaRa
import Derived.Test.YtfnmnnbmhfbkbaaT1
set_option linter.unusedVariables false
set_option linter.unusedSimpArgs false
namespace Go.Proofs.Ytfnmnnbmhfbkbaa
open Go.RowKit

theorem info_int8 : (Try.prog.info? 3).map (fun i => (i.zero, i.size, i.bytes)) = some (some (.int .i64 0), 1, 8) := by kernel_rfl

/-- Two boxed numbers and a result, in memory. -/
structure XS (w wr : World) (u0 u1 v0 v1 r0 r1 : Value) : Prop where
  lt : w.heap.size + 1 + 1 < wr.heap.size
  q0 : wr.cell? ⟨w.heap.size, 0, none⟩ = some u0
  q1 : wr.cell? ⟨w.heap.size, 1, none⟩ = some u1
  q2 : wr.cell? ⟨w.heap.size + 1, 0, none⟩ = some v0
  q3 : wr.cell? ⟨w.heap.size + 1, 1, none⟩ = some v1
  k0 : wr.cell? ⟨w.heap.size + 1 + 1, 0, none⟩ = some r0
  k1 : wr.cell? ⟨w.heap.size + 1 + 1, 1, none⟩ = some r1
  k2 : wr.frozen? ⟨w.heap.size + 1 + 1, 0, none⟩ = false
  k3 : wr.frozen? ⟨w.heap.size + 1 + 1, 1, none⟩ = false
  f0 : wr.frozen? ⟨w.heap.size, 0, none⟩ = false
  f1 : wr.frozen? ⟨w.heap.size, 1, none⟩ = false
  f2 : wr.frozen? ⟨w.heap.size + 1, 0, none⟩ = false
  f3 : wr.frozen? ⟨w.heap.size + 1, 1, none⟩ = false
  B : Below w.heap.size w wr
theorem XS.call {w wr w' : World} {u0 u1 v0 v1 r0 r1 : Value} (h : XS w wr u0 u1 v0 v1 r0 r1) (k : Below wr.heap.size wr w') : XS w w' u0 u1 v0 v1 r0 r1 := by
  obtain ⟨hc, hf⟩ := bcell k
  have l := h.lt
  exact ⟨Nat.lt_of_lt_of_le l k.size, (hc _ _ (by omega)).trans h.q0, (hc _ _ (by omega)).trans h.q1, (hc _ _ (by omega)).trans h.q2, (hc _ _ (by omega)).trans h.q3, (hc _ _ (by omega)).trans h.k0, (hc _ _ (by omega)).trans h.k1, (hf _ _ (by omega)).trans h.k2, (hf _ _ (by omega)).trans h.k3, (hf _ _ (by omega)).trans h.f0, (hf _ _ (by omega)).trans h.f1, (hf _ _ (by omega)).trans h.f2, (hf _ _ (by omega)).trans h.f3, below_call0 h.B k⟩
/-- The world in which two numbers are boxed. -/
abbrev WX (w : World) (u0 u1 v0 v1 : Value) : World := ((w.alloc (.cells #[u0, u1] 138)).alloc (.cells #[v0, v1] 138)).alloc (.cells #[.int .i64 0, .slice none 0 0] 138)
theorem XS.new (w : World) (u0 u1 v0 v1 : Value) : XS w (WX w u0 u1 v0 v1) u0 u1 v0 v1 (.int .i64 0) (.slice none 0 0) := by
  refine ⟨by simp, ?_, ?_, ?_, ?_, ?_, ?_, ?_, ?_, ?_, ?_, ?_, ?_, ?_⟩
  iterate 6 (simp [go_sem, World.cell?_alloc_past])
  iterate 6 (simp [go_sem, World.frozen?_alloc_past])
  exact (((Below.refl w.heap.size w).alloc (Nat.le_refl _) _).alloc (by simp) _).alloc (by simp; omega) _
theorem XS.swap {w wr : World} {u0 u1 v0 v1 r0 r1 : Value} (h : XS w wr u0 u1 v0 v1 r0 r1) (a0 a1 b0 b1 : Value) :
    XS w ((((wr.setCell ⟨w.heap.size, 0, none⟩ a0).setCell ⟨w.heap.size, 1, none⟩ a1).setCell ⟨w.heap.size + 1, 0, none⟩ b0).setCell ⟨w.heap.size + 1, 1, none⟩ b1) a0 a1 b0 b1 r0 r1 := by
  obtain ⟨l, q0, q1, q2, q3, k0, k1, k2, k3, f0, f1, f2, f3, B⟩ := h
  have e0 : (wr.setCell ⟨w.heap.size, 0, none⟩ a0).cell? ⟨w.heap.size, 0, none⟩ = some a0 := World.cell?_setCell_same' _ _ _ (by rw [q0]; rfl)
  have e1 : (wr.setCell ⟨w.heap.size, 0, none⟩ a0).cell? ⟨w.heap.size, 1, none⟩ = some u1 := by rw [World.cell?_setCell_other _ _ _ _ (by simp)]; exact q1
  have e2 : ((wr.setCell ⟨w.heap.size, 0, none⟩ a0).setCell ⟨w.heap.size, 1, none⟩ a1).cell? ⟨w.heap.size + 1, 0, none⟩ = some v0 := by rw [World.cell?_setCell_other _ _ _ _ (by simp), World.cell?_setCell_other _ _ _ _ (by simp)]; exact q2
  have e3 : (((wr.setCell ⟨w.heap.size, 0, none⟩ a0).setCell ⟨w.heap.size, 1, none⟩ a1).setCell ⟨w.heap.size + 1, 0, none⟩ b0).cell? ⟨w.heap.size + 1, 1, none⟩ = some v1 := by rw [World.cell?_setCell_other _ _ _ _ (by simp), World.cell?_setCell_other _ _ _ _ (by simp), World.cell?_setCell_other _ _ _ _ (by simp)]; exact q3
  refine ⟨by simpa [World.setCell] using l, ?_, ?_, ?_, ?_, ?_, ?_, by simp only [World.frozen?_setCell]; exact k2, by simp only [World.frozen?_setCell]; exact k3, by simp only [World.frozen?_setCell]; exact f0, by simp only [World.frozen?_setCell]; exact f1, by simp only [World.frozen?_setCell]; exact f2, by simp only [World.frozen?_setCell]; exact f3, ?_⟩
  · rw [World.cell?_setCell_other _ _ _ _ (by simp), World.cell?_setCell_other _ _ _ _ (by simp), World.cell?_setCell_other _ _ _ _ (by simp)]; exact e0
  · rw [World.cell?_setCell_other _ _ _ _ (by simp), World.cell?_setCell_other _ _ _ _ (by simp)]; exact World.cell?_setCell_same' _ _ _ (by rw [e1]; rfl)
  · rw [World.cell?_setCell_other _ _ _ _ (by simp)]; exact World.cell?_setCell_same' _ _ _ (by rw [e2]; rfl)
  · exact World.cell?_setCell_same' _ _ _ (by rw [e3]; rfl)
  · rw [World.cell?_setCell_other _ _ _ _ (by simp), World.cell?_setCell_other _ _ _ _ (by simp), World.cell?_setCell_other _ _ _ _ (by simp <;> omega), World.cell?_setCell_other _ _ _ _ (by simp <;> omega)]; exact k0
  · rw [World.cell?_setCell_other _ _ _ _ (by simp), World.cell?_setCell_other _ _ _ _ (by simp), World.cell?_setCell_other _ _ _ _ (by simp <;> omega), World.cell?_setCell_other _ _ _ _ (by simp <;> omega)]; exact k1
  · exact (((B.setCell (Nat.le_refl _) _).setCell (Nat.le_refl _) _).setCell (by show w.heap.size ≤ w.heap.size + 1; omega) _).setCell (by show w.heap.size ≤ w.heap.size + 1; omega) _
theorem padd_step {s F G : Nat → Int} {k : Nat} {c way : Int} (h : T4.vf s k + c * T4.BB ^ k = T4.vf F k + way * T4.vf G k) :
    T4.vf (T4.upd s k ((c + F k + way * G k) % 10000)) (k + 1) + (c + F k + way * G k) / 10000 * T4.BB ^ (k + 1) = T4.vf F (k + 1) + way * T4.vf G (k + 1) := by
  show T4.vf (T4.upd s k _) k + T4.upd s k _ k * T4.BB ^ k + _ = T4.vf F k + F k * T4.BB ^ k + way * (T4.vf G k + G k * T4.BB ^ k)
  rw [T4.vf_upd, T4.upd_same, Int.pow_succ]
  generalize hT : c + F k + way * G k = t
  have e : t % 10000 * T4.BB ^ k + t / 10000 * (T4.BB ^ k * T4.BB) = t * T4.BB ^ k := by
    have h2 : t = t / 10000 * 10000 + t % 10000 := by omega
    conv => rhs; rw [h2]
    rw [Int.add_mul, Int.mul_comm (T4.BB ^ k) T4.BB, ← Int.mul_assoc, Int.add_comm]; rfl
  have e2 : t * T4.BB ^ k = c * T4.BB ^ k + F k * T4.BB ^ k + way * (G k * T4.BB ^ k) := by
    rw [← hT, Int.add_mul, Int.add_mul, Int.mul_assoc way]
  rw [Int.mul_add]
  omega
theorem pow_up (n : Nat) : 2 * T4.BB ^ n ≤ T4.BB ^ (n + 1) := by
  have := T4.BB_pos n
  rw [Int.pow_succ]
  show 2 * T4.BB ^ n ≤ T4.BB ^ n * 10000
  omega
theorem padd_end {s f g : Nat → Int} {n m : Nat} {c way : Int} (h : T4.vf s (n + 1) + c * T4.BB ^ (n + 1) = T4.vf (T4.ext f n) (n + 1) + way * T4.vf (T4.ext g m) (n + 1)) (hm : m ≤ n) (hs : ∀ j, T4.U64 (s j)) (hf : ∀ i, i < n → T4.U64 (f i)) (hg : ∀ i, i < m → T4.U64 (g i)) (hle : T4.vf g m ≤ T4.vf f n) (hw : way = 1 ∨ way = -1) :
    T4.vf s (n + 1) = T4.vf f n + way * T4.vf g m := by
  rw [T4.vf_ext (by omega), T4.vf_ext (by omega)] at h
  have b1 := T4.vf_bd (f := s) (n + 1) (fun i _ => hs i)
  have b2 := T4.vf_bd n hf
  have b3 := T4.vf_bd m hg
  have p := pow_up n
  have p0 := T4.BB_pos (n + 1)
  have hc : c = 0 := by
    rcases Int.lt_trichotomy c 0 with hc | hc | hc
    · have := Int.mul_le_mul_of_nonneg_right (show c ≤ -1 by omega) (Int.le_of_lt p0)
      rcases hw with hw | hw <;> subst hw <;> omega
    · exact hc
    · have := Int.mul_le_mul_of_nonneg_right (show 1 ≤ c by omega) (Int.le_of_lt p0)
      rcases hw with hw | hw <;> subst hw <;> omega
  subst hc
  omega
theorem can_le {f g : Nat → Int} {n m : Nat} (hg : T4.Can g m) (hf' : ∀ i, i < n → T4.U64 (f i)) (hg' : ∀ i, i < m → T4.U64 (g i)) (hle : ¬ T4.vf f n < T4.vf g m) : m ≤ n := by
  rcases Nat.lt_or_ge n m with h | h
  · exact absurd (T4.Can.lt hg hf' hg' h) hle
  · exact h

set_option maxRecDepth 100000 in
set_option maxHeartbeats 8000000 in
theorem plusW_ge (s1 s2 : Int) (A C : Option Addr) (n m c d : Nat) (f g : Nat → Int) (w : World) (hA : DS w A n f) (hC : DS w C m g) (hf : T4.Can f n) (hg : T4.Can g m) (hn : n ≤ 1000000000) (hm : m ≤ 1000000000)
    (h1 : (s1 == 0) = false) (h2 : (s2 == 0) = false) (r1 : -1 ≤ s1) (r1' : s1 ≤ 1) (r2 : -1 ≤ s2) (r2' : s2 ≤ 1) (hle : ¬ T4.vf f n < T4.vf g m) :
    Calls Try.prog 127 #[.agg #[.int .i64 s1, .slice A n c], .agg #[.int .i64 s2, .slice C m d]] w fun e w' => ∃ s' sv, e = .returned (.agg #[.int .i64 s', sv]) ∧ WG w' s' sv (s1 * T4.vf f n + s2 * T4.vf g m) (n + 1) ∧ Below w.heap.size w w' := by
  have hmk := run_make_row' (P := Try.prog) 63 3 (.int .i64 0) 8 Try.underlying63 info_int8 rfl .i64 .i64 (n + 1) (by omega) (by omega)
  have g1 := r1
  have g1' := r1'
  have X0 := Bx.mk (XS.new w (.int .i64 s1) (.slice A n c) (.int .i64 s2) (.slice C m d))
  have X1 := Bx.mk (XS.new w (.int .i64 s1) (.slice A n c) (.int .i64 s2) (.slice C m d))
  have HLE := Bx.mk (show T4.vf g m ≤ T4.vf f n from by omega)
  have hmn := can_le hg hA.1 hC.1 (by exact hle)
  have ec : ((n + 1 : Nat) : Int) = (n : Int) + 1 := by omega
  rw [ec] at hmk
  have n1 : s1 ≠ 0 := by simpa using h1
  have n2 : s2 ≠ 0 := by simpa using h2
  have HW := Bx.mk (show s1 * s2 = 1 ∨ s1 * s2 = -1 by
    rcases (by omega : s1 = 1 ∨ s1 = -1) with h | h <;> rcases (by omega : s2 = 1 ∨ s2 = -1) with h' | h' <;> subst h h' <;> simp)
  have HVAL := Bx.mk (show s1 * (T4.vf f n + s1 * s2 * T4.vf g m) = s1 * T4.vf f n + s2 * T4.vf g m by
    have e : s1 * s1 = 1 := by rcases (by omega : s1 = 1 ∨ s1 = -1) with h | h <;> subst h <;> rfl
    rw [Int.mul_add, Int.mul_assoc s1 s2, ← Int.mul_assoc s1 s1, e, Int.one_mul])
  have wy1 : -1 ≤ s1 * s2 ∧ s1 * s2 ≤ 1 := by have := HW.out; omega
  obtain ⟨wy1, wy2⟩ := wy1
  clear n2
  have N1 := Bx.mk n1
  clear n1
  go_enter Try.func127, Try.ntmps127
  go_wp2_with (go_at_call 144; (with_reducible refine (sizeW_any A C n m c d f g _ (hA.below (Nat.le_refl _) X0.out.B) (hC.below (Nat.le_refl _) X0.out.B) hf hg hn hm).mono ?_); rintro e w1 ⟨r, rfl, hr, kk, rfl⟩; have hr' : ¬ r < 0 := (fun h => hle (hr.1 h)); clear hr)
  generalize s1 * s2 = way at *
  have hrow := World.rowIs_made ((WX w (.int .i64 s1) (.slice A n c) (.int .i64 s2) (.slice C m d)).drewN kk) (.int .i64 0) (n + 1) 3
  have hs3 : ((WX w (.int .i64 s1) (.slice A n c) (.int .i64 s2) (.slice C m d)).drewN kk).heap.size = (w.heap.size + 1 + 1 + 1) := by simp
  rw [hs3] at hrow
  have hB0 : Below (w.heap.size + 1 + 1 + 1) ((WX w (.int .i64 s1) (.slice A n c) (.int .i64 s2) (.slice C m d)).drewN kk) (((WX w (.int .i64 s1) (.slice A n c) (.int .i64 s2) (.slice C m d)).drewN kk).alloc (.cells (madeCells #[.int .i64 0] (n + 1)) 3)) := by rw [← hs3]; exact below_alloc1 _ _
  have XQ := Bx.mk (show XS w ((WX w (.int .i64 s1) (.slice A n c) (.int .i64 s2) (.slice C m d)).drewN kk) (.int .i64 s1) (.slice A n c) (.int .i64 s2) (.slice C m d) (.int .i64 0) (.slice none 0 0) from X1.out.call (below_drewN (Below.refl _ _) _))
  have HS3 := Bx.mk hs3
  clear hs3 hle hr' X0 X1 ec
  generalize hW : ((WX w (.int .i64 s1) (.slice A n c) (.int .i64 s2) (.slice C m d)).drewN kk).alloc (.cells (madeCells #[.int .i64 0] (n + 1)) 3) = W0 at *
  clear hW
  generalize hWQ : ((WX w (.int .i64 s1) (.slice A n c) (.int .i64 s2) (.slice C m d)).drewN kk) = WQ at *
  clear hWQ
  go_loopw [7, 8] (fun cr i wr => ∃ (k : Nat) (c0 : Int) (s : Nat → Int), k ≤ n + 1 ∧ i = .int .i64 k ∧ cr = .int .i64 c0 ∧ -2 ≤ c0 ∧ c0 ≤ 2 ∧ Bx (∀ j, T4.U64 (s j)) ∧ Bx (T4.vf s k + c0 * T4.BB ^ k = T4.vf (T4.ext f n) k + way * T4.vf (T4.ext g m) k) ∧
      Bx (wr.rowIs (w.heap.size + 1 + 1 + 1) 3 (n + 1) (fun j => .int .i64 (s j))) ∧ Bx (Below (w.heap.size + 1 + 1 + 1) WQ wr)) (fun _ i _ => n + 1 - (intOf i).toNat)
  case atStart => exact ⟨0, 0, fun _ => 0, by omega, rfl, rfl, by omega, by omega, ⟨fun _ => show T4.U64 0 from ⟨by decide, by decide⟩⟩, ⟨by simp [T4.vf]⟩, ⟨hrow⟩, ⟨hB0⟩⟩
  case round =>
    obtain ⟨k, c0, s, hk, rfl, rfl, hc0, hc1, HS, HV, HR, HB⟩ := hrel
    clear hrow hB0 hmk
    have XR := Bx.mk (XQ.out.call (HS3.out ▸ HB.out))
    obtain ⟨ltr, q0r, q1r, q2r, q3r, k0r, k1r, k2r, k3r, -, -, -, -, -⟩ := XR.out
    have HDA := Bx.mk (hA.below (Nat.le_refl _) XR.out.B)
    have HDC := Bx.mk (hC.below (Nat.le_refl _) XR.out.B)
    have HST := Bx.mk (padd_step HV.out)
    by_cases hlt : k < n + 1
    · have hlt' : (k : Int) < (n : Int) + 1 := by omega
      have hcell := HR.out.cell (i := k) (by omega)
      have hfr := HR.out.frozen k
      rcases (by omega : k < m ∨ (m ≤ k ∧ k < n) ∨ (m ≤ k ∧ n ≤ k)) with h3 | ⟨h3, h4⟩ | ⟨h3, h4⟩
      · obtain ⟨b1, ea, hb1, hcl1⟩ := HDA.out.2 (by omega)
        replace hb1 := hb1.lt
        subst ea
        have hx := hA.1 k (by omega)
        obtain ⟨hx1, hx2⟩ := hx
        have hcx := hcl1 k (by omega)
        clear hcl1
        have hkn : (k : Int) < n := by omega
        obtain ⟨b2, eb, hb2, hcl2⟩ := HDC.out.2 (by omega)
        replace hb2 := hb2.lt
        subst eb
        have hy := hC.1 k (by omega)
        obtain ⟨hy1, hy2⟩ := hy
        have hcy := hcl2 k (by omega)
        clear hcl2
        have hkm : (k : Int) < m := by omega
        have hp : -9999 ≤ way * g k ∧ way * g k ≤ 9999 := by have := mul_bd (x := way) (y := g k) (A := 1) (B := 9999) wy1 wy2 (by omega) (by omega); omega
        obtain ⟨hp1, hp2⟩ := hp
        rw [T4.ext_lt (by omega), T4.ext_lt (by omega)] at HST
        generalize hT : c0 + f k + way * g k = tt at HST
        have HT := Bx.mk hT
        have ht1 : -19999 ≤ tt := by omega
        have ht2 : tt ≤ 20000 := by omega
        have hd1 : -2 ≤ tt / 10000 := by omega
        have hd2 : tt / 10000 ≤ 2 := by omega
        clear hT
        go_wp2_with (first
          | (go_at_call 101; (try rw [HT.out]); (with_reducible refine (modB_any tt 10000 _ (by omega) (by omega) (by omega) (by omega)).mono ?_); rintro e wx ⟨rfl, rfl⟩)
          | (go_at_call 91; (try rw [HT.out]); (with_reducible refine (floorB_any tt 10000 _ (by omega) (by omega) (by omega) (by omega)).mono ?_); rintro e wx ⟨rfl, rfl⟩))
        go_roundw
        case rel => exact ⟨k + 1, _, _, by omega, by go_num, rfl, hd1, hd2, ⟨T4.upd_U64 HS.out (T4.U64_mod _)⟩, HST, ⟨(HR.out.set k _).congr (fun i _ => by unfold T4.upd; split <;> rfl)⟩, ⟨HB.out.setCell (Nat.le_refl _) _⟩⟩
        case measure => simp [intOf]; omega
      · obtain ⟨b1, ea, hb1, hcl1⟩ := HDA.out.2 (by omega)
        replace hb1 := hb1.lt
        subst ea
        have hx := hA.1 k (by omega)
        obtain ⟨hx1, hx2⟩ := hx
        have hcx := hcl1 k (by omega)
        clear hcl1
        have hkn : (k : Int) < n := by omega
        have hkm : ¬ (k : Int) < m := by omega
        rw [T4.ext_lt (by omega), T4.ext_ge (by omega)] at HST
        rw [show c0 + f k + way * 0 = c0 + f k by simp] at HST
        generalize hT : c0 + f k = tt at HST
        have HT := Bx.mk hT
        have ht1 : -19999 ≤ tt := by omega
        have ht2 : tt ≤ 20000 := by omega
        have hd1 : -2 ≤ tt / 10000 := by omega
        have hd2 : tt / 10000 ≤ 2 := by omega
        clear hT
        go_wp2_with (first
          | (go_at_call 101; (try rw [HT.out]); (with_reducible refine (modB_any tt 10000 _ (by omega) (by omega) (by omega) (by omega)).mono ?_); rintro e wx ⟨rfl, rfl⟩)
          | (go_at_call 91; (try rw [HT.out]); (with_reducible refine (floorB_any tt 10000 _ (by omega) (by omega) (by omega) (by omega)).mono ?_); rintro e wx ⟨rfl, rfl⟩))
        go_roundw
        case rel => exact ⟨k + 1, _, _, by omega, by go_num, rfl, hd1, hd2, ⟨T4.upd_U64 HS.out (T4.U64_mod _)⟩, HST, ⟨(HR.out.set k _).congr (fun i _ => by unfold T4.upd; split <;> rfl)⟩, ⟨HB.out.setCell (Nat.le_refl _) _⟩⟩
        case measure => simp [intOf]; omega
      · have hkn : ¬ (k : Int) < n := by omega
        have hkm : ¬ (k : Int) < m := by omega
        rw [T4.ext_ge (by omega), T4.ext_ge (by omega)] at HST
        rw [show c0 + 0 + way * 0 = c0 by simp] at HST
        generalize hT : c0 = tt at HST
        have HT := Bx.mk hT
        have ht1 : -19999 ≤ tt := by omega
        have ht2 : tt ≤ 20000 := by omega
        have hd1 : -2 ≤ tt / 10000 := by omega
        have hd2 : tt / 10000 ≤ 2 := by omega
        clear hT
        go_wp2_with (first
          | (go_at_call 101; (try rw [HT.out]); (with_reducible refine (modB_any tt 10000 _ (by omega) (by omega) (by omega) (by omega)).mono ?_); rintro e wx ⟨rfl, rfl⟩)
          | (go_at_call 91; (try rw [HT.out]); (with_reducible refine (floorB_any tt 10000 _ (by omega) (by omega) (by omega) (by omega)).mono ?_); rintro e wx ⟨rfl, rfl⟩))
        go_roundw
        case rel => exact ⟨k + 1, _, _, by omega, by go_num, rfl, hd1, hd2, ⟨T4.upd_U64 HS.out (T4.U64_mod _)⟩, HST, ⟨(HR.out.set k _).congr (fun i _ => by unfold T4.upd; split <;> rfl)⟩, ⟨HB.out.setCell (Nat.le_refl _) _⟩⟩
        case measure => simp [intOf]; omega
    · have hk' : ¬ (k : Int) < (n : Int) + 1 := by omega
      obtain ⟨kk, hkk⟩ : ∃ t, k = t := ⟨_, rfl⟩
      have hkn : k = n + 1 := by omega
      have HX := Bx.mk (show T4.vf s (n + 1) = T4.vf f n + way * T4.vf g m from padd_end (by have h := HV.out; rw [hkn] at h; exact h) hmn HS.out hA.1 hC.1 HLE.out HW.out)
      have HD := Bx.mk (show DS wr (some ⟨(w.heap.size + 1 + 1 + 1), 0, none⟩) (n + 1) s from ⟨fun i _ => HS.out i, fun _ => ⟨_, rfl, IntRow.of HR.out, fun j hj => HR.out.cell hj⟩⟩)
      clear hkn hkk HST
      go_wp2_with (go_at_call 143; (with_reducible refine (cut_any s1 (some ⟨(w.heap.size + 1 + 1 + 1), 0, none⟩) (n + 1) (n + 1) s _ HD.out (Nat.le_refl _) (by omega)).mono ?_); rintro e w2 ⟨mm, hmm, hcan, hzz, he, B2⟩; generalize hS1 : (if mm = 0 then (0 : Int) else s1) = S1 at he; subst he; have HS1 := Bx.mk hS1; clear hS1; have X2 := Bx.mk (XR.out.call B2); obtain ⟨lt2, q02, q12, q22, q32, k02, k12, k22, k32, -, -, -, -, -⟩ := X2.out; have HCAN := Bx.mk hcan; have HZZ := Bx.mk hzz; have HB2 := Bx.mk B2; clear hcan hzz B2)
      obtain ⟨r0, r1⟩ := set2 (b := w.heap.size + 1 + 1) (x := .int .i64 0) (y := .slice none 0 0) (.int .i64 S1) (.slice (some ⟨(w.heap.size + 1 + 1 + 1), 0, none⟩) mm (n + 1)) k02 k12
      refine bodyPost_ret (ret_wide rfl _ _ _ _ _ rfl r0 r1) rfl ⟨_, _, rfl, ?_, ?_⟩
      · have hD2 := (HD.out.below (Nat.le_refl _) HB2.out).set (fun b hb => by injection hb with hb; injection hb with hb; omega) (.int .i64 S1) (.slice (some ⟨(w.heap.size + 1 + 1 + 1), 0, none⟩) mm (n + 1)) (g := w.heap.size + 1 + 1)
        have := WG.mk' (s := s1) (L := n + 1) (z := s1 * T4.vf f n + s2 * T4.vf g m) hD2 hmm HCAN.out HZZ.out hmm (Nat.le_refl _) (by omega) (by rw [HX.out]; exact HVAL.out.symm) ⟨g1, g1', fun h => absurd h N1.out⟩
        rw [HS1.out] at this
        exact this
      · exact (X2.out.B.setCell (by show w.heap.size ≤ w.heap.size + 1 + 1; omega) _).setCell (by show w.heap.size ≤ w.heap.size + 1 + 1; omega) _

set_option maxRecDepth 100000 in
set_option maxHeartbeats 8000000 in
theorem plusW_lt (s1 s2 : Int) (A C : Option Addr) (n m c d : Nat) (f g : Nat → Int) (w : World) (hA : DS w A n f) (hC : DS w C m g) (hf : T4.Can f n) (hg : T4.Can g m) (hn : n ≤ 1000000000) (hm : m ≤ 1000000000)
    (h1 : (s1 == 0) = false) (h2 : (s2 == 0) = false) (r1 : -1 ≤ s1) (r1' : s1 ≤ 1) (r2 : -1 ≤ s2) (r2' : s2 ≤ 1) (hle : T4.vf g m < T4.vf f n) :
    Calls Try.prog 127 #[.agg #[.int .i64 s2, .slice C m d], .agg #[.int .i64 s1, .slice A n c]] w fun e w' => ∃ s' sv, e = .returned (.agg #[.int .i64 s', sv]) ∧ WG w' s' sv (s1 * T4.vf f n + s2 * T4.vf g m) (n + 1) ∧ Below w.heap.size w w' := by
  have hmk := run_make_row' (P := Try.prog) 63 3 (.int .i64 0) 8 Try.underlying63 info_int8 rfl .i64 .i64 (n + 1) (by omega) (by omega)
  have g1 := r1
  have g1' := r1'
  have X0 := Bx.mk (XS.new w (.int .i64 s2) (.slice C m d) (.int .i64 s1) (.slice A n c))
  have X1 := Bx.mk (XS.new w (.int .i64 s1) (.slice A n c) (.int .i64 s2) (.slice C m d))
  have HLE := Bx.mk (show T4.vf g m ≤ T4.vf f n from Int.le_of_lt hle)
  have hmn := can_le hg hA.1 hC.1 (by omega)
  have ec : ((n + 1 : Nat) : Int) = (n : Int) + 1 := by omega
  rw [ec] at hmk
  have n1 : s1 ≠ 0 := by simpa using h1
  have n2 : s2 ≠ 0 := by simpa using h2
  have HW := Bx.mk (show s1 * s2 = 1 ∨ s1 * s2 = -1 by
    rcases (by omega : s1 = 1 ∨ s1 = -1) with h | h <;> rcases (by omega : s2 = 1 ∨ s2 = -1) with h' | h' <;> subst h h' <;> simp)
  have HVAL := Bx.mk (show s1 * (T4.vf f n + s1 * s2 * T4.vf g m) = s1 * T4.vf f n + s2 * T4.vf g m by
    have e : s1 * s1 = 1 := by rcases (by omega : s1 = 1 ∨ s1 = -1) with h | h <;> subst h <;> rfl
    rw [Int.mul_add, Int.mul_assoc s1 s2, ← Int.mul_assoc s1 s1, e, Int.one_mul])
  have wy1 : -1 ≤ s1 * s2 ∧ s1 * s2 ≤ 1 := by have := HW.out; omega
  obtain ⟨wy1, wy2⟩ := wy1
  clear n2
  have N1 := Bx.mk n1
  clear n1
  go_enter Try.func127, Try.ntmps127
  go_wp2_with (go_at_call 144; (with_reducible refine (sizeW_any C A m n d c g f _ (hC.below (Nat.le_refl _) X0.out.B) (hA.below (Nat.le_refl _) X0.out.B) hg hf hm hn).mono ?_); rintro e w1 ⟨r, rfl, hr, kk, hw1⟩; have hr' : r < 0 := hr.2 hle; clear hr; have XA := Bx.mk (show XS w w1 (.int .i64 s2) (.slice C m d) (.int .i64 s1) (.slice A n c) (.int .i64 0) (.slice none 0 0) from hw1 ▸ X0.out.call (below_drewN (Below.refl _ _) _)); clear hw1; obtain ⟨ltq, q0q, q1q, q2q, q3q, k0q, k1q, k2q, k3q, f0q, f1q, f2q, f3q, -⟩ := XA.out)
  generalize s1 * s2 = way at *
  have hrow := World.rowIs_made ((((w1.setCell ⟨w.heap.size, 0, none⟩ (.int .i64 s1)).setCell ⟨w.heap.size, 1, none⟩ (.slice A n c)).setCell ⟨w.heap.size + 1, 0, none⟩ (.int .i64 s2)).setCell ⟨w.heap.size + 1, 1, none⟩ (.slice C m d)) (.int .i64 0) (n + 1) 3
  have hs3 : ((((w1.setCell ⟨w.heap.size, 0, none⟩ (.int .i64 s1)).setCell ⟨w.heap.size, 1, none⟩ (.slice A n c)).setCell ⟨w.heap.size + 1, 0, none⟩ (.int .i64 s2)).setCell ⟨w.heap.size + 1, 1, none⟩ (.slice C m d)).heap.size = w1.heap.size := by simp [World.setCell]
  rw [hs3] at hrow
  have hB0 : Below w1.heap.size ((((w1.setCell ⟨w.heap.size, 0, none⟩ (.int .i64 s1)).setCell ⟨w.heap.size, 1, none⟩ (.slice A n c)).setCell ⟨w.heap.size + 1, 0, none⟩ (.int .i64 s2)).setCell ⟨w.heap.size + 1, 1, none⟩ (.slice C m d)) (((((w1.setCell ⟨w.heap.size, 0, none⟩ (.int .i64 s1)).setCell ⟨w.heap.size, 1, none⟩ (.slice A n c)).setCell ⟨w.heap.size + 1, 0, none⟩ (.int .i64 s2)).setCell ⟨w.heap.size + 1, 1, none⟩ (.slice C m d)).alloc (.cells (madeCells #[.int .i64 0] (n + 1)) 3)) := by rw [← hs3]; exact below_alloc1 _ _
  have XQ := Bx.mk (show XS w ((((w1.setCell ⟨w.heap.size, 0, none⟩ (.int .i64 s1)).setCell ⟨w.heap.size, 1, none⟩ (.slice A n c)).setCell ⟨w.heap.size + 1, 0, none⟩ (.int .i64 s2)).setCell ⟨w.heap.size + 1, 1, none⟩ (.slice C m d)) (.int .i64 s1) (.slice A n c) (.int .i64 s2) (.slice C m d) (.int .i64 0) (.slice none 0 0) from XA.out.swap _ _ _ _)
  have HS3 := Bx.mk hs3
  clear hs3 hle hr' X0 X1 ec q0q q1q q2q q3q k0q k1q k2q k3q f0q f1q f2q f3q
  generalize hW : ((((w1.setCell ⟨w.heap.size, 0, none⟩ (.int .i64 s1)).setCell ⟨w.heap.size, 1, none⟩ (.slice A n c)).setCell ⟨w.heap.size + 1, 0, none⟩ (.int .i64 s2)).setCell ⟨w.heap.size + 1, 1, none⟩ (.slice C m d)).alloc (.cells (madeCells #[.int .i64 0] (n + 1)) 3) = W0 at *
  clear hW
  generalize hWQ : ((((w1.setCell ⟨w.heap.size, 0, none⟩ (.int .i64 s1)).setCell ⟨w.heap.size, 1, none⟩ (.slice A n c)).setCell ⟨w.heap.size + 1, 0, none⟩ (.int .i64 s2)).setCell ⟨w.heap.size + 1, 1, none⟩ (.slice C m d)) = WQ at *
  clear hWQ
  go_loopw [7, 8] (fun cr i wr => ∃ (k : Nat) (c0 : Int) (s : Nat → Int), k ≤ n + 1 ∧ i = .int .i64 k ∧ cr = .int .i64 c0 ∧ -2 ≤ c0 ∧ c0 ≤ 2 ∧ Bx (∀ j, T4.U64 (s j)) ∧ Bx (T4.vf s k + c0 * T4.BB ^ k = T4.vf (T4.ext f n) k + way * T4.vf (T4.ext g m) k) ∧
      Bx (wr.rowIs w1.heap.size 3 (n + 1) (fun j => .int .i64 (s j))) ∧ Bx (Below w1.heap.size WQ wr)) (fun _ i _ => n + 1 - (intOf i).toNat)
  case atStart => exact ⟨0, 0, fun _ => 0, by omega, rfl, rfl, by omega, by omega, ⟨fun _ => show T4.U64 0 from ⟨by decide, by decide⟩⟩, ⟨by simp [T4.vf]⟩, ⟨hrow⟩, ⟨hB0⟩⟩
  case round =>
    obtain ⟨k, c0, s, hk, rfl, rfl, hc0, hc1, HS, HV, HR, HB⟩ := hrel
    clear hrow hB0 hmk
    have XR := Bx.mk (XQ.out.call (HS3.out ▸ HB.out))
    obtain ⟨ltr, q0r, q1r, q2r, q3r, k0r, k1r, k2r, k3r, -, -, -, -, -⟩ := XR.out
    have HDA := Bx.mk (hA.below (Nat.le_refl _) XR.out.B)
    have HDC := Bx.mk (hC.below (Nat.le_refl _) XR.out.B)
    have HST := Bx.mk (padd_step HV.out)
    by_cases hlt : k < n + 1
    · have hlt' : (k : Int) < (n : Int) + 1 := by omega
      have hcell := HR.out.cell (i := k) (by omega)
      have hfr := HR.out.frozen k
      rcases (by omega : k < m ∨ (m ≤ k ∧ k < n) ∨ (m ≤ k ∧ n ≤ k)) with h3 | ⟨h3, h4⟩ | ⟨h3, h4⟩
      · obtain ⟨b1, ea, hb1, hcl1⟩ := HDA.out.2 (by omega)
        replace hb1 := hb1.lt
        subst ea
        have hx := hA.1 k (by omega)
        obtain ⟨hx1, hx2⟩ := hx
        have hcx := hcl1 k (by omega)
        clear hcl1
        have hkn : (k : Int) < n := by omega
        obtain ⟨b2, eb, hb2, hcl2⟩ := HDC.out.2 (by omega)
        replace hb2 := hb2.lt
        subst eb
        have hy := hC.1 k (by omega)
        obtain ⟨hy1, hy2⟩ := hy
        have hcy := hcl2 k (by omega)
        clear hcl2
        have hkm : (k : Int) < m := by omega
        have hp : -9999 ≤ way * g k ∧ way * g k ≤ 9999 := by have := mul_bd (x := way) (y := g k) (A := 1) (B := 9999) wy1 wy2 (by omega) (by omega); omega
        obtain ⟨hp1, hp2⟩ := hp
        rw [T4.ext_lt (by omega), T4.ext_lt (by omega)] at HST
        generalize hT : c0 + f k + way * g k = tt at HST
        have HT := Bx.mk hT
        have ht1 : -19999 ≤ tt := by omega
        have ht2 : tt ≤ 20000 := by omega
        have hd1 : -2 ≤ tt / 10000 := by omega
        have hd2 : tt / 10000 ≤ 2 := by omega
        clear hT
        go_wp2_with (first
          | (go_at_call 101; (try rw [HT.out]); (with_reducible refine (modB_any tt 10000 _ (by omega) (by omega) (by omega) (by omega)).mono ?_); rintro e wx ⟨rfl, rfl⟩)
          | (go_at_call 91; (try rw [HT.out]); (with_reducible refine (floorB_any tt 10000 _ (by omega) (by omega) (by omega) (by omega)).mono ?_); rintro e wx ⟨rfl, rfl⟩))
        go_roundw
        case rel => exact ⟨k + 1, _, _, by omega, by go_num, rfl, hd1, hd2, ⟨T4.upd_U64 HS.out (T4.U64_mod _)⟩, HST, ⟨(HR.out.set k _).congr (fun i _ => by unfold T4.upd; split <;> rfl)⟩, ⟨HB.out.setCell (Nat.le_refl _) _⟩⟩
        case measure => simp [intOf]; omega
      · obtain ⟨b1, ea, hb1, hcl1⟩ := HDA.out.2 (by omega)
        replace hb1 := hb1.lt
        subst ea
        have hx := hA.1 k (by omega)
        obtain ⟨hx1, hx2⟩ := hx
        have hcx := hcl1 k (by omega)
        clear hcl1
        have hkn : (k : Int) < n := by omega
        have hkm : ¬ (k : Int) < m := by omega
        rw [T4.ext_lt (by omega), T4.ext_ge (by omega)] at HST
        rw [show c0 + f k + way * 0 = c0 + f k by simp] at HST
        generalize hT : c0 + f k = tt at HST
        have HT := Bx.mk hT
        have ht1 : -19999 ≤ tt := by omega
        have ht2 : tt ≤ 20000 := by omega
        have hd1 : -2 ≤ tt / 10000 := by omega
        have hd2 : tt / 10000 ≤ 2 := by omega
        clear hT
        go_wp2_with (first
          | (go_at_call 101; (try rw [HT.out]); (with_reducible refine (modB_any tt 10000 _ (by omega) (by omega) (by omega) (by omega)).mono ?_); rintro e wx ⟨rfl, rfl⟩)
          | (go_at_call 91; (try rw [HT.out]); (with_reducible refine (floorB_any tt 10000 _ (by omega) (by omega) (by omega) (by omega)).mono ?_); rintro e wx ⟨rfl, rfl⟩))
        go_roundw
        case rel => exact ⟨k + 1, _, _, by omega, by go_num, rfl, hd1, hd2, ⟨T4.upd_U64 HS.out (T4.U64_mod _)⟩, HST, ⟨(HR.out.set k _).congr (fun i _ => by unfold T4.upd; split <;> rfl)⟩, ⟨HB.out.setCell (Nat.le_refl _) _⟩⟩
        case measure => simp [intOf]; omega
      · have hkn : ¬ (k : Int) < n := by omega
        have hkm : ¬ (k : Int) < m := by omega
        rw [T4.ext_ge (by omega), T4.ext_ge (by omega)] at HST
        rw [show c0 + 0 + way * 0 = c0 by simp] at HST
        generalize hT : c0 = tt at HST
        have HT := Bx.mk hT
        have ht1 : -19999 ≤ tt := by omega
        have ht2 : tt ≤ 20000 := by omega
        have hd1 : -2 ≤ tt / 10000 := by omega
        have hd2 : tt / 10000 ≤ 2 := by omega
        clear hT
        go_wp2_with (first
          | (go_at_call 101; (try rw [HT.out]); (with_reducible refine (modB_any tt 10000 _ (by omega) (by omega) (by omega) (by omega)).mono ?_); rintro e wx ⟨rfl, rfl⟩)
          | (go_at_call 91; (try rw [HT.out]); (with_reducible refine (floorB_any tt 10000 _ (by omega) (by omega) (by omega) (by omega)).mono ?_); rintro e wx ⟨rfl, rfl⟩))
        go_roundw
        case rel => exact ⟨k + 1, _, _, by omega, by go_num, rfl, hd1, hd2, ⟨T4.upd_U64 HS.out (T4.U64_mod _)⟩, HST, ⟨(HR.out.set k _).congr (fun i _ => by unfold T4.upd; split <;> rfl)⟩, ⟨HB.out.setCell (Nat.le_refl _) _⟩⟩
        case measure => simp [intOf]; omega
    · have hk' : ¬ (k : Int) < (n : Int) + 1 := by omega
      obtain ⟨kk, hkk⟩ : ∃ t, k = t := ⟨_, rfl⟩
      have hkn : k = n + 1 := by omega
      have HX := Bx.mk (show T4.vf s (n + 1) = T4.vf f n + way * T4.vf g m from padd_end (by have h := HV.out; rw [hkn] at h; exact h) hmn HS.out hA.1 hC.1 HLE.out HW.out)
      have HD := Bx.mk (show DS wr (some ⟨w1.heap.size, 0, none⟩) (n + 1) s from ⟨fun i _ => HS.out i, fun _ => ⟨_, rfl, IntRow.of HR.out, fun j hj => HR.out.cell hj⟩⟩)
      clear hkn hkk HST
      go_wp2_with (go_at_call 143; (with_reducible refine (cut_any s1 (some ⟨w1.heap.size, 0, none⟩) (n + 1) (n + 1) s _ HD.out (Nat.le_refl _) (by omega)).mono ?_); rintro e w2 ⟨mm, hmm, hcan, hzz, he, B2⟩; generalize hS1 : (if mm = 0 then (0 : Int) else s1) = S1 at he; subst he; have HS1 := Bx.mk hS1; clear hS1; have X2 := Bx.mk (XR.out.call B2); obtain ⟨lt2, q02, q12, q22, q32, k02, k12, k22, k32, -, -, -, -, -⟩ := X2.out; have HCAN := Bx.mk hcan; have HZZ := Bx.mk hzz; have HB2 := Bx.mk B2; clear hcan hzz B2)
      obtain ⟨r0, r1⟩ := set2 (b := w.heap.size + 1 + 1) (x := .int .i64 0) (y := .slice none 0 0) (.int .i64 S1) (.slice (some ⟨w1.heap.size, 0, none⟩) mm (n + 1)) k02 k12
      refine bodyPost_ret (ret_wide rfl _ _ _ _ _ rfl r0 r1) rfl ⟨_, _, rfl, ?_, ?_⟩
      · have hD2 := (HD.out.below (Nat.le_refl _) HB2.out).set (fun b hb => by injection hb with hb; injection hb with hb; omega) (.int .i64 S1) (.slice (some ⟨w1.heap.size, 0, none⟩) mm (n + 1)) (g := w.heap.size + 1 + 1)
        have := WG.mk' (s := s1) (L := n + 1) (z := s1 * T4.vf f n + s2 * T4.vf g m) hD2 hmm HCAN.out HZZ.out hmm (Nat.le_refl _) (by omega) (by rw [HX.out]; exact HVAL.out.symm) ⟨g1, g1', fun h => absurd h N1.out⟩
        rw [HS1.out] at this
        exact this
      · exact (X2.out.B.setCell (by show w.heap.size ≤ w.heap.size + 1 + 1; omega) _).setCell (by show w.heap.size ≤ w.heap.size + 1 + 1; omega) _


set_option maxHeartbeats 2000000 in
theorem plusW_z1 (s2 : Int) (v1 v2 : Value) (w : World) (i1 : ∃ A n c, v1 = .slice A n c) (i2 : ∃ A n c, v2 = .slice A n c) :
    Calls Try.prog 127 #[.agg #[.int .i64 0, v1], .agg #[.int .i64 s2, v2]] w fun e w' => e = .returned (.agg #[.int .i64 s2, v2]) ∧ Below w.heap.size w w' := by
  obtain ⟨A, n, c, rfl⟩ := i1
  obtain ⟨C, m, d, rfl⟩ := i2
  go_enter Try.func127, Try.ntmps127
  go_wp2
  refine bodyPost_ret (ret_wide rfl _ _ _ _ _ rfl (by simp [go_sem]; first | done | rfl) (by simp [go_sem]; first | done | rfl)) rfl ⟨rfl, ?_⟩
  repeat (first | exact Below.refl _ _ | refine Below.drew ?_ | refine Below.drewN' ?_ _ | refine Below.setCell ?_ (by simp) _ | refine Below.alloc ?_ (by first | exact Nat.le_refl _ | (simp; done) | (simp; omega)) _)
set_option maxHeartbeats 2000000 in
theorem plusW_z2 (s1 : Int) (v1 v2 : Value) (w : World) (h : (s1 == 0) = false) (i1 : ∃ A n c, v1 = .slice A n c) (i2 : ∃ A n c, v2 = .slice A n c) :
    Calls Try.prog 127 #[.agg #[.int .i64 s1, v1], .agg #[.int .i64 0, v2]] w fun e w' => e = .returned (.agg #[.int .i64 s1, v1]) ∧ Below w.heap.size w w' := by
  obtain ⟨A, n, c, rfl⟩ := i1
  obtain ⟨C, m, d, rfl⟩ := i2
  go_enter Try.func127, Try.ntmps127
  go_wp2
  refine bodyPost_ret (ret_wide rfl _ _ _ _ _ rfl (by simp [go_sem]; first | done | rfl) (by simp [go_sem]; first | done | rfl)) rfl ⟨rfl, ?_⟩
  repeat (first | exact Below.refl _ _ | refine Below.drew ?_ | refine Below.drewN' ?_ _ | refine Below.setCell ?_ (by simp) _ | refine Below.alloc ?_ (by first | exact Nat.le_refl _ | (simp; done) | (simp; omega)) _)
theorem WG.slice {w : World} {s : Int} {sv : Value} {z : Int} {L : Nat} (h : WG w s sv z L) : ∃ A n c, sv = .slice A n c := by
  obtain ⟨A, n, c, f, e, _⟩ := h; exact ⟨A, n, c, e⟩
theorem WG.zero_of {w : World} {sv : Value} {z : Int} {L : Nat} (h : WG w 0 sv z L) : z = 0 := by
  obtain ⟨A, n, c, f, e, h1, h2, h3, h4, h5, hz, _⟩ := h; rw [hz, Int.zero_mul]
theorem plusW_any (s1 s2 z1 z2 : Int) (v1 v2 : Value) (L : Nat) (w : World) (h1 : WG w s1 v1 z1 L) (h2 : WG w s2 v2 z2 L) (hL : L ≤ 1000000000) :
    Calls Try.prog 127 #[.agg #[.int .i64 s1, v1], .agg #[.int .i64 s2, v2]] w fun e w' => ∃ s' sv, e = .returned (.agg #[.int .i64 s', sv]) ∧ WG w' s' sv (z1 + z2) (L + 1) ∧ Below w.heap.size w w' := by
  by_cases c1 : s1 = 0
  · subst c1
    have e := h1.zero_of
    refine (plusW_z1 s2 v1 v2 w h1.slice h2.slice).mono fun e' w' ⟨he, hb⟩ => ⟨_, _, he, ?_, hb⟩
    rw [e, Int.zero_add]; exact (h2.below (Nat.le_refl _) hb).more (by omega)
  · by_cases c2 : s2 = 0
    · subst c2
      have e := h2.zero_of
      refine (plusW_z2 s1 v1 v2 w (by simpa using c1) h1.slice h2.slice).mono fun e' w' ⟨he, hb⟩ => ⟨_, _, he, ?_, hb⟩
      rw [e, Int.add_zero]; exact (h1.below (Nat.le_refl _) hb).more (by omega)
    · obtain ⟨A, n, c, f, rfl, d1, e1, e2, e3, e4, e5, e6, e7, e8⟩ := h1
      obtain ⟨C, m, d, g, rfl, d2, k1, k2, k3, k4, k5, k6, k7, k8⟩ := h2
      by_cases hle : T4.vf f n < T4.vf g m
      · refine (plusW_lt s2 s1 C A m n d c g f w d2 d1 k1 e1 (by omega) (by omega) (by simpa using c2) (by simpa using c1) k7 k8 e7 e8 hle).mono fun e' w' ⟨s', sv, he, hg, hb⟩ => ⟨s', sv, he, ?_, hb⟩
        rw [e5, k5, Int.add_comm]; exact hg.more (by omega)
      · refine (plusW_ge s1 s2 A C n m c d f g w d1 d2 e1 k1 (by omega) (by omega) (by simpa using c1) (by simpa using c2) e7 e8 k7 k8 hle).mono fun e' w' ⟨s', sv, he, hg, hb⟩ => ⟨s', sv, he, ?_, hb⟩
        rw [e5, k5]; exact hg.more (by omega)

end Go.Proofs.Ytfnmnnbmhfbkbaa