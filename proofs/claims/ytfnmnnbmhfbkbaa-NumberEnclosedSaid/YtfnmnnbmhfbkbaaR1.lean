/- Walks: ranges. -/
import Derived.Test.YtfnmnnbmhfbkbaaBg
set_option linter.unusedVariables false
set_option linter.unusedSimpArgs false
namespace Go.Proofs.Ytfnmnnbmhfbkbaa
open Go.RowKit

theorem cellA {w : World} {p : Addr} {v : Value} (o : Obj) (h : w.cell? p = some v) : (w.alloc o).cell? p = some v := by
  refine (World.cell?_alloc_lt _ _ _ ?_).trans h
  rcases Nat.lt_or_ge p.block w.heap.size with h1 | h1
  · exact h1
  · unfold World.cell? at h
    simp [Array.getElem?_eq_none h1] at h
/-- The first error of some ranges. -/
def ckRs : List (Int × Int) → Int
  | [] => 0
  | f :: l => if ckRg f.1 f.2 ≠ 0 then ckRg f.1 f.2 else ckRs l
theorem ckRs_snoc (l : List (Int × Int)) (f : Int × Int) (h : ckRs l = 0) : ckRs (l ++ [f]) = ckRg f.1 f.2 := by
  induction l with
  | nil => simp only [List.nil_append, ckRs]; split <;> omega
  | cons g l ih =>
    simp only [List.cons_append, ckRs] at h ⊢
    split at h
    · omega
    · rename_i h1; rw [if_neg h1]; exact ih h
theorem ckRs_app (l m : List (Int × Int)) (h : ckRs l ≠ 0) : ckRs (l ++ m) = ckRs l := by
  induction l with
  | nil => simp [ckRs] at h
  | cons g l ih =>
    simp only [List.cons_append, ckRs] at h ⊢
    split
    · rfl
    · rename_i h1; rw [if_neg h1] at h; exact ih h
theorem ckRs_two (a b : Int × Int) : ckRs [a, b] = if ckRg a.1 a.2 ≠ 0 then ckRg a.1 a.2 else ckRg b.1 b.2 := by
  simp only [ckRs]; split <;> (try split) <;> omega
theorem ckRs_one (a : Int × Int) : ckRs [a] = ckRg a.1 a.2 := by simp only [ckRs]; split <;> omega
theorem ckRs_two_zero {a b : Int × Int} (h : ckRs [a, b] = 0) : ckRg a.1 a.2 = 0 ∧ ckRg b.1 b.2 = 0 := by
  rw [ckRs_two] at h
  split at h
  · omega
  · rename_i h1; exact ⟨by omega, h⟩
theorem ckRg_zero {x y : Int} (h : ckRg x y = 0) : -1000000000000000 ≤ x ∧ x ≤ 1000000000000000 ∧ -1000000000000000 ≤ y ∧ y ≤ 1000000000000000 ∧ x ≤ y := by
  unfold ckRg sz at h
  split at h
  · omega
  · split at h <;> omega

set_option maxHeartbeats 1000000 in
theorem checkRanges_any (b n : Nat) (fs : List (Int × Int)) (w : World) (hb : b < w.heap.size) (hn : fs.length = n) (hn' : n ≤ 1000)
    (hI : ∀ k, k < n → I64 (fs[k]?.getD (0, 0)).1 ∧ I64 (fs[k]?.getD (0, 0)).2)
    (hc : ∀ k, k < n → w.cell? ⟨b, k * 2, none⟩ = some (.int .i64 (fs[k]?.getD (0, 0)).1) ∧ w.cell? ⟨b, k * 2 + 1, none⟩ = some (.int .i64 (fs[k]?.getD (0, 0)).2)) :
    Calls Try.prog 94 #[.slice (some ⟨b, 0, none⟩) n n] w fun e w' => e = .returned (.int .i64 (ckRs fs)) ∧ Below w.heap.size w w' := by
  have HN := Lib.hid hn
  clear hn
  go_enter Try.func94, Try.ntmps94
  go_wp2
  go_loopw [2, 8] (fun r i wr => ∃ k : Nat, k ≤ n ∧ i = .int .i64 k ∧ r = .int .i64 0 ∧ Hid (ckRs (fs.take k) = 0) ∧ Below w.heap.size w wr) (fun _ i _ => n - (intOf i).toNat)
  case atStart => exact ⟨0, by omega, rfl, rfl, by simp [Hid, ckRs], Below.refl _ _⟩
  case round =>
    obtain ⟨k, hk, rfl, rfl, HK, hB⟩ := hrel
    by_cases hlt : k < n
    · obtain ⟨hI1, hI2⟩ := hI k hlt
      obtain ⟨hc1, hc2⟩ := hc k hlt
      have hc1' := (hB.cell (p := ⟨b, k * 2, none⟩) hb).trans hc1
      have hc2' := (hB.cell (p := ⟨b, k * 2 + 1, none⟩) hb).trans hc2
      clear hI hc hc1 hc2
      have hb2 := hB.size
      generalize hf : fs[k]?.getD (0, 0) = f at *
      obtain ⟨p, q⟩ := f
      dsimp only at *
      have HT := Lib.hid (take_snoc' fs k _ _ (by rw [HN.out]; exact hlt) hf)
      clear hf
      by_cases he : ckRg p q = 0
      · have he' : (ckRg p q != 0) = false := by rw [he]; rfl
        have HE := Lib.hid he
        clear he
        go_wp2_with (go_at_call 46; refine (checkRange_any _ _ _ hI1 hI2).mono ?_; rintro e w1 ⟨rfl, hB1⟩)
        go_roundw
        case rel => exact ⟨k + 1, by omega, by go_num, rfl, by rw [HT.out]; exact (ckRs_snoc _ _ HK.out).trans HE.out, (hB.alloc hB.size _).trans (hB1.mono (by simp; omega))⟩
        case measure => simp [intOf]; omega
      · have he' : (ckRg p q != 0) = true := by simpa using he
        have HE := Lib.hid he
        clear he
        go_wp2_with (go_at_call 46; refine (checkRange_any _ _ _ hI1 hI2).mono ?_; rintro e w1 ⟨rfl, hB1⟩)
        go_ret
        refine ⟨ret_int ?_, (hB.alloc hB.size _).trans (hB1.mono (by simp; omega))⟩
        have h1 := ckRs_snoc (fs.take k) (p, q) HK.out
        rw [← HT.out] at h1
        have h2 := ckRs_app (fs.take (k + 1)) (fs.drop (k + 1)) (by rw [h1]; exact HE.out)
        rw [List.take_append_drop] at h2
        exact (h2.trans h1).symm
    · obtain rfl : k = n := by omega
      go_wp2
      go_ret
      exact ⟨ret_int (by have := HK.out; rw [List.take_of_length_le (by rw [HN.out]; omega)] at this; exact this.symm), hB⟩


theorem checkRanges1 (a b : Int) (g : Nat) (w : World) (hg : g < w.heap.size) (ha : I64 a) (hb : I64 b)
    (h0 : w.cell? ⟨g, 0, none⟩ = some (.int .i64 a)) (h1 : w.cell? ⟨g, 1, none⟩ = some (.int .i64 b)) :
    Calls Try.prog 94 #[.slice (some ⟨g, 0, none⟩) 1 1] w fun e w' => e = .returned (.int .i64 (ckRs [(a, b)])) ∧ Below w.heap.size w w' :=
  checkRanges_any g 1 [(a, b)] w hg rfl (by omega)
    (fun k hk => by
      obtain rfl : k = 0 := by omega
      exact ⟨ha, hb⟩)
    (fun k hk => by
      obtain rfl : k = 0 := by omega
      exact ⟨h0, h1⟩)
theorem checkRanges2 (a b c d : Int) (g : Nat) (w : World) (hg : g < w.heap.size) (ha : I64 a) (hb : I64 b) (hc : I64 c) (hd : I64 d)
    (h0 : w.cell? ⟨g, 0, none⟩ = some (.int .i64 a)) (h1 : w.cell? ⟨g, 1, none⟩ = some (.int .i64 b)) (h2 : w.cell? ⟨g, 2, none⟩ = some (.int .i64 c)) (h3 : w.cell? ⟨g, 3, none⟩ = some (.int .i64 d)) :
    Calls Try.prog 94 #[.slice (some ⟨g, 0, none⟩) 2 2] w fun e w' => e = .returned (.int .i64 (ckRs [(a, b), (c, d)])) ∧ Below w.heap.size w w' :=
  checkRanges_any g 2 [(a, b), (c, d)] w hg rfl (by omega)
    (fun k hk => by
      rcases Nat.lt_or_ge k 1 with h | h
      · obtain rfl : k = 0 := by omega
        exact ⟨ha, hb⟩
      · obtain rfl : k = 1 := by omega
        exact ⟨hc, hd⟩)
    (fun k hk => by
      rcases Nat.lt_or_ge k 1 with h | h
      · obtain rfl : k = 0 := by omega
        exact ⟨h0, h1⟩
      · obtain rfl : k = 1 := by omega
        exact ⟨h2, h3⟩)


theorem I64_15 {n : Int} (h1 : -3000000000000000 ≤ n) (h2 : n ≤ 3000000000000000) : I64 n := ⟨by omega, by omega⟩
def plusN (a b c d : Int) : Int × Int × Int := if ckRs [(a, b), (c, d)] ≠ 0 then (0, 0, ckRs [(a, b), (c, d)]) else nlR (a + c) (b + d)
def minusN (a b c d : Int) : Int × Int × Int := if ckRs [(a, b), (c, d)] ≠ 0 then (0, 0, ckRs [(a, b), (c, d)]) else nlR (a - d) (b - c)
def meetR (a b c d : Int) : Int × Int × Int := if min b d < max a c then (0, 0, 12) else (max a c, min b d, 0)
def meetN (a b c d : Int) : Int × Int × Int := if ckRs [(a, b), (c, d)] ≠ 0 then (0, 0, ckRs [(a, b), (c, d)]) else meetR a b c d
def hullN (a b c d : Int) : Int × Int × Int := if ckRs [(a, b), (c, d)] ≠ 0 then (0, 0, ckRs [(a, b), (c, d)]) else (min a c, max b d, 0)

set_option maxHeartbeats 1000000 in
theorem rplus_any (a b c d : Int) (w : World) (ha : I64 a) (hb : I64 b) (hc : I64 c) (hd : I64 d) :
    Calls Try.prog 42 #[.agg #[.int .i64 a, .int .i64 b], .agg #[.int .i64 c, .int .i64 d]] w fun e w' => e = .returned (.tuple #[.agg #[.int .i64 (plusN a b c d).1, .int .i64 (plusN a b c d).2.1], .int .i64 (plusN a b c d).2.2]) ∧ Below w.heap.size w w' := by
  by_cases he : ckRs [(a, b), (c, d)] = 0
  · have he' : (ckRs [(a, b), (c, d)] != 0) = false := by rw [he]; rfl
    have HR := Bx.mk (show plusN a b c d = nlR (a + c) (b + d) by unfold plusN; rw [if_neg (by simpa using he)])
    obtain ⟨z1, z2⟩ := ckRs_two_zero he
    obtain ⟨a1, a2, b1, b2, _⟩ := ckRg_zero z1
    obtain ⟨c1, c2, d1, d2, _⟩ := ckRg_zero z2
    dsimp only at a1 a2 b1 b2 c1 c2 d1 d2
    clear z1 z2 he
    go_enter Try.func42, Try.ntmps42
    go_wp2_with (first
      | (go_at_call 94; refine (checkRanges2 a b c d _ _ (by simp) ha hb hc hd (by simp [go_sem, World.cell?_alloc_past]) (by simp [go_sem, World.cell?_alloc_past]) (by simp [go_sem, World.cell?_alloc_past]) (by simp [go_sem, World.cell?_alloc_past])).mono ?_; rintro e w1 ⟨rfl, hB1⟩; obtain ⟨hc1, hf1⟩ := bcell hB1; have hz1 : w.heap.size + 4 ≤ w1.heap.size := (by have := hB1.size; simp at this; omega); have hzz : w.heap.size + 1 + 1 < w1.heap.size := (by omega); have k0 : w1.cell? ⟨w.heap.size + 1 + 1, 0, none⟩ = some (.int .i64 0) := (by rw [hc1 _ _ (by simp)]; simp [go_sem, World.cell?_alloc_past]); have k1 : w1.cell? ⟨w.heap.size + 1 + 1, 1, none⟩ = some (.int .i64 0) := (by rw [hc1 _ _ (by simp)]; simp [go_sem, World.cell?_alloc_past]); have k2 : w1.frozen? ⟨w.heap.size + 1 + 1, 0, none⟩ = false := (by rw [hf1 _ _ (by simp)]; simp [go_sem, World.frozen?_alloc_past]); have k3 : w1.frozen? ⟨w.heap.size + 1 + 1, 1, none⟩ = false := (by rw [hf1 _ _ (by simp)]; simp [go_sem, World.frozen?_alloc_past]); have q0 : w1.cell? ⟨w.heap.size, 0, none⟩ = some (.int .i64 a) := (by rw [hc1 _ _ (by simp <;> omega)]; simp [go_sem, World.cell?_alloc_past]); have q1 : w1.cell? ⟨w.heap.size, 1, none⟩ = some (.int .i64 b) := (by rw [hc1 _ _ (by simp <;> omega)]; simp [go_sem, World.cell?_alloc_past]); have q2 : w1.cell? ⟨w.heap.size + 1, 0, none⟩ = some (.int .i64 c) := (by rw [hc1 _ _ (by simp <;> omega)]; simp [go_sem, World.cell?_alloc_past]); have q3 : w1.cell? ⟨w.heap.size + 1, 1, none⟩ = some (.int .i64 d) := (by rw [hc1 _ _ (by simp <;> omega)]; simp [go_sem, World.cell?_alloc_past]))
      | (go_at_call 96; refine (notLarge_any _ _ _ (I64_15 (by omega) (by omega)) (I64_15 (by omega) (by omega))).mono ?_; rintro e w2 ⟨rfl, hB2⟩; obtain ⟨hc2, hf2⟩ := bcell hB2; have hz2 := hB2.size; have j0 := (hc2 (w.heap.size + 1 + 1) 0 (by omega)).trans k0; have j1 := (hc2 (w.heap.size + 1 + 1) 1 (by omega)).trans k1; have j2 := (hf2 (w.heap.size + 1 + 1) 0 (by omega)).trans k2; have j3 := (hf2 (w.heap.size + 1 + 1) 1 (by omega)).trans k3))
    obtain ⟨r0, r1⟩ := set2 (w := w2) (b := w.heap.size + 1 + 1) (x := .int .i64 0) (y := .int .i64 0) (.int .i64 (nlR (a + c) (b + d)).1) (.int .i64 (nlR (a + c) (b + d)).2.1) j0 j1
    refine bodyPost_ret (ret_range rfl _ _ _ _ _ _ rfl rfl r0 r1) rfl ⟨by rw [HR.out]; rfl, ?_⟩
    exact ((((((((Below.refl w.heap.size w).alloc (Nat.le_refl _) _).alloc (by simp) _).alloc (by simp; omega) _).alloc (by simp; omega) _).trans (hB1.mono (by simp; omega))).trans (hB2.mono (by omega))).setCell (by simp; omega) _).setCell (by simp; omega) _
  · have he' : (ckRs [(a, b), (c, d)] != 0) = true := by simpa using he
    have HR := Bx.mk (show plusN a b c d = (0, 0, ckRs [(a, b), (c, d)]) by unfold plusN; rw [if_pos he])
    clear he
    go_enter Try.func42, Try.ntmps42
    go_wp2_with (go_at_call 94; refine (checkRanges2 a b c d _ _ (by simp) ha hb hc hd (by simp [go_sem, World.cell?_alloc_past]) (by simp [go_sem, World.cell?_alloc_past]) (by simp [go_sem, World.cell?_alloc_past]) (by simp [go_sem, World.cell?_alloc_past])).mono ?_; rintro e w1 ⟨rfl, hB1⟩; obtain ⟨hc1, hf1⟩ := bcell hB1; have hz1 : w.heap.size + 4 ≤ w1.heap.size := (by have := hB1.size; simp at this; omega); have hzz : w.heap.size + 1 + 1 < w1.heap.size := (by omega); have k0 : w1.cell? ⟨w.heap.size + 1 + 1, 0, none⟩ = some (.int .i64 0) := (by rw [hc1 _ _ (by simp)]; simp [go_sem, World.cell?_alloc_past]); have k1 : w1.cell? ⟨w.heap.size + 1 + 1, 1, none⟩ = some (.int .i64 0) := (by rw [hc1 _ _ (by simp)]; simp [go_sem, World.cell?_alloc_past]); have k2 : w1.frozen? ⟨w.heap.size + 1 + 1, 0, none⟩ = false := (by rw [hf1 _ _ (by simp)]; simp [go_sem, World.frozen?_alloc_past]); have k3 : w1.frozen? ⟨w.heap.size + 1 + 1, 1, none⟩ = false := (by rw [hf1 _ _ (by simp)]; simp [go_sem, World.frozen?_alloc_past]))
    obtain ⟨r0, r1⟩ := set2 (w := w1) (b := w.heap.size + 1 + 1) (x := .int .i64 0) (y := .int .i64 0) (.int .i64 0) (.int .i64 0) k0 k1
    refine bodyPost_ret (ret_range rfl _ _ _ _ _ _ rfl rfl r0 r1) rfl ⟨by rw [HR.out]; rfl, ?_⟩
    exact (((((((Below.refl w.heap.size w).alloc (Nat.le_refl _) _).alloc (by simp) _).alloc (by simp; omega) _).alloc (by simp; omega) _).trans (hB1.mono (by simp; omega))).setCell (by simp; omega) _).setCell (by simp; omega) _

set_option maxHeartbeats 1000000 in
theorem rminus_any (a b c d : Int) (w : World) (ha : I64 a) (hb : I64 b) (hc : I64 c) (hd : I64 d) :
    Calls Try.prog 43 #[.agg #[.int .i64 a, .int .i64 b], .agg #[.int .i64 c, .int .i64 d]] w fun e w' => e = .returned (.tuple #[.agg #[.int .i64 (minusN a b c d).1, .int .i64 (minusN a b c d).2.1], .int .i64 (minusN a b c d).2.2]) ∧ Below w.heap.size w w' := by
  by_cases he : ckRs [(a, b), (c, d)] = 0
  · have he' : (ckRs [(a, b), (c, d)] != 0) = false := by rw [he]; rfl
    have HR := Bx.mk (show minusN a b c d = nlR (a - d) (b - c) by unfold minusN; rw [if_neg (by simpa using he)])
    obtain ⟨z1, z2⟩ := ckRs_two_zero he
    obtain ⟨a1, a2, b1, b2, _⟩ := ckRg_zero z1
    obtain ⟨c1, c2, d1, d2, _⟩ := ckRg_zero z2
    dsimp only at a1 a2 b1 b2 c1 c2 d1 d2
    clear z1 z2 he
    go_enter Try.func43, Try.ntmps43
    go_wp2_with (first
      | (go_at_call 94; refine (checkRanges2 a b c d _ _ (by simp) ha hb hc hd (by simp [go_sem, World.cell?_alloc_past]) (by simp [go_sem, World.cell?_alloc_past]) (by simp [go_sem, World.cell?_alloc_past]) (by simp [go_sem, World.cell?_alloc_past])).mono ?_; rintro e w1 ⟨rfl, hB1⟩; obtain ⟨hc1, hf1⟩ := bcell hB1; have hz1 : w.heap.size + 4 ≤ w1.heap.size := (by have := hB1.size; simp at this; omega); have hzz : w.heap.size + 1 + 1 < w1.heap.size := (by omega); have k0 : w1.cell? ⟨w.heap.size + 1 + 1, 0, none⟩ = some (.int .i64 0) := (by rw [hc1 _ _ (by simp)]; simp [go_sem, World.cell?_alloc_past]); have k1 : w1.cell? ⟨w.heap.size + 1 + 1, 1, none⟩ = some (.int .i64 0) := (by rw [hc1 _ _ (by simp)]; simp [go_sem, World.cell?_alloc_past]); have k2 : w1.frozen? ⟨w.heap.size + 1 + 1, 0, none⟩ = false := (by rw [hf1 _ _ (by simp)]; simp [go_sem, World.frozen?_alloc_past]); have k3 : w1.frozen? ⟨w.heap.size + 1 + 1, 1, none⟩ = false := (by rw [hf1 _ _ (by simp)]; simp [go_sem, World.frozen?_alloc_past]); have q0 : w1.cell? ⟨w.heap.size, 0, none⟩ = some (.int .i64 a) := (by rw [hc1 _ _ (by simp <;> omega)]; simp [go_sem, World.cell?_alloc_past]); have q1 : w1.cell? ⟨w.heap.size, 1, none⟩ = some (.int .i64 b) := (by rw [hc1 _ _ (by simp <;> omega)]; simp [go_sem, World.cell?_alloc_past]); have q2 : w1.cell? ⟨w.heap.size + 1, 0, none⟩ = some (.int .i64 c) := (by rw [hc1 _ _ (by simp <;> omega)]; simp [go_sem, World.cell?_alloc_past]); have q3 : w1.cell? ⟨w.heap.size + 1, 1, none⟩ = some (.int .i64 d) := (by rw [hc1 _ _ (by simp <;> omega)]; simp [go_sem, World.cell?_alloc_past]))
      | (go_at_call 96; refine (notLarge_any _ _ _ (I64_15 (by omega) (by omega)) (I64_15 (by omega) (by omega))).mono ?_; rintro e w2 ⟨rfl, hB2⟩; obtain ⟨hc2, hf2⟩ := bcell hB2; have hz2 := hB2.size; have j0 := (hc2 (w.heap.size + 1 + 1) 0 (by omega)).trans k0; have j1 := (hc2 (w.heap.size + 1 + 1) 1 (by omega)).trans k1; have j2 := (hf2 (w.heap.size + 1 + 1) 0 (by omega)).trans k2; have j3 := (hf2 (w.heap.size + 1 + 1) 1 (by omega)).trans k3))
    obtain ⟨r0, r1⟩ := set2 (w := w2) (b := w.heap.size + 1 + 1) (x := .int .i64 0) (y := .int .i64 0) (.int .i64 (nlR (a - d) (b - c)).1) (.int .i64 (nlR (a - d) (b - c)).2.1) j0 j1
    refine bodyPost_ret (ret_range rfl _ _ _ _ _ _ rfl rfl r0 r1) rfl ⟨by rw [HR.out]; rfl, ?_⟩
    exact ((((((((Below.refl w.heap.size w).alloc (Nat.le_refl _) _).alloc (by simp) _).alloc (by simp; omega) _).alloc (by simp; omega) _).trans (hB1.mono (by simp; omega))).trans (hB2.mono (by omega))).setCell (by simp; omega) _).setCell (by simp; omega) _
  · have he' : (ckRs [(a, b), (c, d)] != 0) = true := by simpa using he
    have HR := Bx.mk (show minusN a b c d = (0, 0, ckRs [(a, b), (c, d)]) by unfold minusN; rw [if_pos he])
    clear he
    go_enter Try.func43, Try.ntmps43
    go_wp2_with (go_at_call 94; refine (checkRanges2 a b c d _ _ (by simp) ha hb hc hd (by simp [go_sem, World.cell?_alloc_past]) (by simp [go_sem, World.cell?_alloc_past]) (by simp [go_sem, World.cell?_alloc_past]) (by simp [go_sem, World.cell?_alloc_past])).mono ?_; rintro e w1 ⟨rfl, hB1⟩; obtain ⟨hc1, hf1⟩ := bcell hB1; have hz1 : w.heap.size + 4 ≤ w1.heap.size := (by have := hB1.size; simp at this; omega); have hzz : w.heap.size + 1 + 1 < w1.heap.size := (by omega); have k0 : w1.cell? ⟨w.heap.size + 1 + 1, 0, none⟩ = some (.int .i64 0) := (by rw [hc1 _ _ (by simp)]; simp [go_sem, World.cell?_alloc_past]); have k1 : w1.cell? ⟨w.heap.size + 1 + 1, 1, none⟩ = some (.int .i64 0) := (by rw [hc1 _ _ (by simp)]; simp [go_sem, World.cell?_alloc_past]); have k2 : w1.frozen? ⟨w.heap.size + 1 + 1, 0, none⟩ = false := (by rw [hf1 _ _ (by simp)]; simp [go_sem, World.frozen?_alloc_past]); have k3 : w1.frozen? ⟨w.heap.size + 1 + 1, 1, none⟩ = false := (by rw [hf1 _ _ (by simp)]; simp [go_sem, World.frozen?_alloc_past]))
    obtain ⟨r0, r1⟩ := set2 (w := w1) (b := w.heap.size + 1 + 1) (x := .int .i64 0) (y := .int .i64 0) (.int .i64 0) (.int .i64 0) k0 k1
    refine bodyPost_ret (ret_range rfl _ _ _ _ _ _ rfl rfl r0 r1) rfl ⟨by rw [HR.out]; rfl, ?_⟩
    exact (((((((Below.refl w.heap.size w).alloc (Nat.le_refl _) _).alloc (by simp) _).alloc (by simp; omega) _).alloc (by simp; omega) _).trans (hB1.mono (by simp; omega))).setCell (by simp; omega) _).setCell (by simp; omega) _

set_option maxHeartbeats 1000000 in
theorem rhull_any (a b c d : Int) (w : World) (ha : I64 a) (hb : I64 b) (hc : I64 c) (hd : I64 d) :
    Calls Try.prog 45 #[.agg #[.int .i64 a, .int .i64 b], .agg #[.int .i64 c, .int .i64 d]] w fun e w' => e = .returned (.tuple #[.agg #[.int .i64 (hullN a b c d).1, .int .i64 (hullN a b c d).2.1], .int .i64 (hullN a b c d).2.2]) ∧ Below w.heap.size w w' := by
  by_cases he : ckRs [(a, b), (c, d)] = 0
  · have he' : (ckRs [(a, b), (c, d)] != 0) = false := by rw [he]; rfl
    have HR := Bx.mk (show hullN a b c d = (min a c, max b d, 0) by unfold hullN; rw [if_neg (by simpa using he)])
    clear he
    go_enter Try.func45, Try.ntmps45
    go_wp2_with (go_at_call 94; refine (checkRanges2 a b c d _ _ (by simp) ha hb hc hd (by simp [go_sem, World.cell?_alloc_past]) (by simp [go_sem, World.cell?_alloc_past]) (by simp [go_sem, World.cell?_alloc_past]) (by simp [go_sem, World.cell?_alloc_past])).mono ?_; rintro e w1 ⟨rfl, hB1⟩; obtain ⟨hc1, hf1⟩ := bcell hB1; have hz1 : w.heap.size + 4 ≤ w1.heap.size := (by have := hB1.size; simp at this; omega); have hzz : w.heap.size + 1 + 1 < w1.heap.size := (by omega); have k0 : w1.cell? ⟨w.heap.size + 1 + 1, 0, none⟩ = some (.int .i64 0) := (by rw [hc1 _ _ (by simp)]; simp [go_sem, World.cell?_alloc_past]); have k1 : w1.cell? ⟨w.heap.size + 1 + 1, 1, none⟩ = some (.int .i64 0) := (by rw [hc1 _ _ (by simp)]; simp [go_sem, World.cell?_alloc_past]); have k2 : w1.frozen? ⟨w.heap.size + 1 + 1, 0, none⟩ = false := (by rw [hf1 _ _ (by simp)]; simp [go_sem, World.frozen?_alloc_past]); have k3 : w1.frozen? ⟨w.heap.size + 1 + 1, 1, none⟩ = false := (by rw [hf1 _ _ (by simp)]; simp [go_sem, World.frozen?_alloc_past]); have q0 : w1.cell? ⟨w.heap.size, 0, none⟩ = some (.int .i64 a) := (by rw [hc1 _ _ (by simp <;> omega)]; simp [go_sem, World.cell?_alloc_past]); have q1 : w1.cell? ⟨w.heap.size, 1, none⟩ = some (.int .i64 b) := (by rw [hc1 _ _ (by simp <;> omega)]; simp [go_sem, World.cell?_alloc_past]); have q2 : w1.cell? ⟨w.heap.size + 1, 0, none⟩ = some (.int .i64 c) := (by rw [hc1 _ _ (by simp <;> omega)]; simp [go_sem, World.cell?_alloc_past]); have q3 : w1.cell? ⟨w.heap.size + 1, 1, none⟩ = some (.int .i64 d) := (by rw [hc1 _ _ (by simp <;> omega)]; simp [go_sem, World.cell?_alloc_past]))
    all_goals (first
      | (obtain ⟨r0, r1⟩ := set2 (w := w1) (b := w.heap.size + 1 + 1) (x := .int .i64 0) (y := .int .i64 0) (.int .i64 a) (.int .i64 b) k0 k1; refine bodyPost_ret (ret_range rfl _ _ _ _ _ _ rfl rfl r0 r1) rfl ⟨(by rw [HR.out, show min a c = a by omega, show max b d = b by omega]; first | done | rfl), ?_⟩; exact (((((((Below.refl w.heap.size w).alloc (Nat.le_refl _) _).alloc (by simp) _).alloc (by simp; omega) _).alloc (by simp; omega) _).trans (hB1.mono (by simp; omega))).setCell (by simp; omega) _).setCell (by simp; omega) _)
      | (obtain ⟨r0, r1⟩ := set2 (w := w1) (b := w.heap.size + 1 + 1) (x := .int .i64 0) (y := .int .i64 0) (.int .i64 a) (.int .i64 d) k0 k1; refine bodyPost_ret (ret_range rfl _ _ _ _ _ _ rfl rfl r0 r1) rfl ⟨(by rw [HR.out, show min a c = a by omega, show max b d = d by omega]; first | done | rfl), ?_⟩; exact (((((((Below.refl w.heap.size w).alloc (Nat.le_refl _) _).alloc (by simp) _).alloc (by simp; omega) _).alloc (by simp; omega) _).trans (hB1.mono (by simp; omega))).setCell (by simp; omega) _).setCell (by simp; omega) _)
      | (obtain ⟨r0, r1⟩ := set2 (w := w1) (b := w.heap.size + 1 + 1) (x := .int .i64 0) (y := .int .i64 0) (.int .i64 c) (.int .i64 b) k0 k1; refine bodyPost_ret (ret_range rfl _ _ _ _ _ _ rfl rfl r0 r1) rfl ⟨(by rw [HR.out, show min a c = c by omega, show max b d = b by omega]; first | done | rfl), ?_⟩; exact (((((((Below.refl w.heap.size w).alloc (Nat.le_refl _) _).alloc (by simp) _).alloc (by simp; omega) _).alloc (by simp; omega) _).trans (hB1.mono (by simp; omega))).setCell (by simp; omega) _).setCell (by simp; omega) _)
      | (obtain ⟨r0, r1⟩ := set2 (w := w1) (b := w.heap.size + 1 + 1) (x := .int .i64 0) (y := .int .i64 0) (.int .i64 c) (.int .i64 d) k0 k1; refine bodyPost_ret (ret_range rfl _ _ _ _ _ _ rfl rfl r0 r1) rfl ⟨(by rw [HR.out, show min a c = c by omega, show max b d = d by omega]; first | done | rfl), ?_⟩; exact (((((((Below.refl w.heap.size w).alloc (Nat.le_refl _) _).alloc (by simp) _).alloc (by simp; omega) _).alloc (by simp; omega) _).trans (hB1.mono (by simp; omega))).setCell (by simp; omega) _).setCell (by simp; omega) _))
  · have he' : (ckRs [(a, b), (c, d)] != 0) = true := by simpa using he
    have HR := Bx.mk (show hullN a b c d = (0, 0, ckRs [(a, b), (c, d)]) by unfold hullN; rw [if_pos he])
    clear he
    go_enter Try.func45, Try.ntmps45
    go_wp2_with (go_at_call 94; refine (checkRanges2 a b c d _ _ (by simp) ha hb hc hd (by simp [go_sem, World.cell?_alloc_past]) (by simp [go_sem, World.cell?_alloc_past]) (by simp [go_sem, World.cell?_alloc_past]) (by simp [go_sem, World.cell?_alloc_past])).mono ?_; rintro e w1 ⟨rfl, hB1⟩; obtain ⟨hc1, hf1⟩ := bcell hB1; have hz1 : w.heap.size + 4 ≤ w1.heap.size := (by have := hB1.size; simp at this; omega); have hzz : w.heap.size + 1 + 1 < w1.heap.size := (by omega); have k0 : w1.cell? ⟨w.heap.size + 1 + 1, 0, none⟩ = some (.int .i64 0) := (by rw [hc1 _ _ (by simp)]; simp [go_sem, World.cell?_alloc_past]); have k1 : w1.cell? ⟨w.heap.size + 1 + 1, 1, none⟩ = some (.int .i64 0) := (by rw [hc1 _ _ (by simp)]; simp [go_sem, World.cell?_alloc_past]); have k2 : w1.frozen? ⟨w.heap.size + 1 + 1, 0, none⟩ = false := (by rw [hf1 _ _ (by simp)]; simp [go_sem, World.frozen?_alloc_past]); have k3 : w1.frozen? ⟨w.heap.size + 1 + 1, 1, none⟩ = false := (by rw [hf1 _ _ (by simp)]; simp [go_sem, World.frozen?_alloc_past]))
    obtain ⟨r0, r1⟩ := set2 (w := w1) (b := w.heap.size + 1 + 1) (x := .int .i64 0) (y := .int .i64 0) (.int .i64 0) (.int .i64 0) k0 k1
    refine bodyPost_ret (ret_range rfl _ _ _ _ _ _ rfl rfl r0 r1) rfl ⟨by rw [HR.out]; rfl, ?_⟩
    exact (((((((Below.refl w.heap.size w).alloc (Nat.le_refl _) _).alloc (by simp) _).alloc (by simp; omega) _).alloc (by simp; omega) _).trans (hB1.mono (by simp; omega))).setCell (by simp; omega) _).setCell (by simp; omega) _

set_option maxHeartbeats 8000000 in
theorem rmeet_any (a b c d : Int) (w : World) (ha : I64 a) (hb : I64 b) (hc : I64 c) (hd : I64 d) :
    Calls Try.prog 44 #[.agg #[.int .i64 a, .int .i64 b], .agg #[.int .i64 c, .int .i64 d]] w fun e w' => e = .returned (.tuple #[.agg #[.int .i64 (meetN a b c d).1, .int .i64 (meetN a b c d).2.1], .int .i64 (meetN a b c d).2.2]) ∧ Below w.heap.size w w' := by
  by_cases he : ckRs [(a, b), (c, d)] = 0
  · have he' : (ckRs [(a, b), (c, d)] != 0) = false := by rw [he]; rfl
    have HR := Bx.mk (show meetN a b c d = meetR a b c d by unfold meetN; rw [if_neg (by simpa using he)])
    clear he
    rcases Int.lt_or_le a c with h1 | h1
    · rcases Int.lt_or_le d b with h2 | h2
      · rcases Int.lt_or_le d c with h3 | h3
        · skip
          go_enter Try.func44, Try.ntmps44
          go_wp2_with (go_at_call 94; refine (checkRanges2 a b c d _ _ (by simp) ha hb hc hd (by simp [go_sem, World.cell?_alloc_past]) (by simp [go_sem, World.cell?_alloc_past]) (by simp [go_sem, World.cell?_alloc_past]) (by simp [go_sem, World.cell?_alloc_past])).mono ?_; rintro e w1 ⟨rfl, hB1⟩; obtain ⟨hc1, hf1⟩ := bcell hB1; have hz1 : w.heap.size + 4 ≤ w1.heap.size := (by have := hB1.size; simp at this; omega); have hzz : w.heap.size + 1 + 1 < w1.heap.size := (by omega); have k0 : w1.cell? ⟨w.heap.size + 1 + 1, 0, none⟩ = some (.int .i64 0) := (by rw [hc1 _ _ (by simp)]; simp [go_sem, World.cell?_alloc_past]); have k1 : w1.cell? ⟨w.heap.size + 1 + 1, 1, none⟩ = some (.int .i64 0) := (by rw [hc1 _ _ (by simp)]; simp [go_sem, World.cell?_alloc_past]); have k2 : w1.frozen? ⟨w.heap.size + 1 + 1, 0, none⟩ = false := (by rw [hf1 _ _ (by simp)]; simp [go_sem, World.frozen?_alloc_past]); have k3 : w1.frozen? ⟨w.heap.size + 1 + 1, 1, none⟩ = false := (by rw [hf1 _ _ (by simp)]; simp [go_sem, World.frozen?_alloc_past]); have q0 : w1.cell? ⟨w.heap.size, 0, none⟩ = some (.int .i64 a) := (by rw [hc1 _ _ (by simp <;> omega)]; simp [go_sem, World.cell?_alloc_past]); have q1 : w1.cell? ⟨w.heap.size, 1, none⟩ = some (.int .i64 b) := (by rw [hc1 _ _ (by simp <;> omega)]; simp [go_sem, World.cell?_alloc_past]); have q2 : w1.cell? ⟨w.heap.size + 1, 0, none⟩ = some (.int .i64 c) := (by rw [hc1 _ _ (by simp <;> omega)]; simp [go_sem, World.cell?_alloc_past]); have q3 : w1.cell? ⟨w.heap.size + 1, 1, none⟩ = some (.int .i64 d) := (by rw [hc1 _ _ (by simp <;> omega)]; simp [go_sem, World.cell?_alloc_past]))
          obtain ⟨r0, r1⟩ := set2 (w := w1) (b := w.heap.size + 1 + 1) (x := .int .i64 0) (y := .int .i64 0) (.int .i64 0) (.int .i64 0) k0 k1
          have s0 := cellA (.cells #[.int .i64 c, .int .i64 d] 38) r0
          have s1 := cellA (.cells #[.int .i64 c, .int .i64 d] 38) r1
          refine bodyPost_ret (ret_range rfl _ _ _ _ _ _ rfl rfl s0 s1) rfl ⟨(by rw [HR.out]; unfold meetR; rw [if_pos (by omega)]; first | done | rfl), ?_⟩
          exact ((((((((Below.refl w.heap.size w).alloc (Nat.le_refl _) _).alloc (by simp) _).alloc (by simp; omega) _).alloc (by simp; omega) _).trans (hB1.mono (by simp; omega))).setCell (by simp; omega) _).setCell (by simp; omega) _).alloc (by simp; omega) _
        · skip
          go_enter Try.func44, Try.ntmps44
          go_wp2_with (go_at_call 94; refine (checkRanges2 a b c d _ _ (by simp) ha hb hc hd (by simp [go_sem, World.cell?_alloc_past]) (by simp [go_sem, World.cell?_alloc_past]) (by simp [go_sem, World.cell?_alloc_past]) (by simp [go_sem, World.cell?_alloc_past])).mono ?_; rintro e w1 ⟨rfl, hB1⟩; obtain ⟨hc1, hf1⟩ := bcell hB1; have hz1 : w.heap.size + 4 ≤ w1.heap.size := (by have := hB1.size; simp at this; omega); have hzz : w.heap.size + 1 + 1 < w1.heap.size := (by omega); have k0 : w1.cell? ⟨w.heap.size + 1 + 1, 0, none⟩ = some (.int .i64 0) := (by rw [hc1 _ _ (by simp)]; simp [go_sem, World.cell?_alloc_past]); have k1 : w1.cell? ⟨w.heap.size + 1 + 1, 1, none⟩ = some (.int .i64 0) := (by rw [hc1 _ _ (by simp)]; simp [go_sem, World.cell?_alloc_past]); have k2 : w1.frozen? ⟨w.heap.size + 1 + 1, 0, none⟩ = false := (by rw [hf1 _ _ (by simp)]; simp [go_sem, World.frozen?_alloc_past]); have k3 : w1.frozen? ⟨w.heap.size + 1 + 1, 1, none⟩ = false := (by rw [hf1 _ _ (by simp)]; simp [go_sem, World.frozen?_alloc_past]); have q0 : w1.cell? ⟨w.heap.size, 0, none⟩ = some (.int .i64 a) := (by rw [hc1 _ _ (by simp <;> omega)]; simp [go_sem, World.cell?_alloc_past]); have q1 : w1.cell? ⟨w.heap.size, 1, none⟩ = some (.int .i64 b) := (by rw [hc1 _ _ (by simp <;> omega)]; simp [go_sem, World.cell?_alloc_past]); have q2 : w1.cell? ⟨w.heap.size + 1, 0, none⟩ = some (.int .i64 c) := (by rw [hc1 _ _ (by simp <;> omega)]; simp [go_sem, World.cell?_alloc_past]); have q3 : w1.cell? ⟨w.heap.size + 1, 1, none⟩ = some (.int .i64 d) := (by rw [hc1 _ _ (by simp <;> omega)]; simp [go_sem, World.cell?_alloc_past]))
          obtain ⟨r0, r1⟩ := set2 (w := w1) (b := w.heap.size + 1 + 1) (x := .int .i64 0) (y := .int .i64 0) (.int .i64 c) (.int .i64 d) k0 k1
          have s0 := cellA (.cells #[.int .i64 c, .int .i64 d] 38) r0
          have s1 := cellA (.cells #[.int .i64 c, .int .i64 d] 38) r1
          refine bodyPost_ret (ret_range rfl _ _ _ _ _ _ rfl rfl s0 s1) rfl ⟨(by rw [HR.out]; unfold meetR; rw [if_neg (by omega), show max a c = c by omega, show min b d = d by omega]; first | done | rfl), ?_⟩
          exact ((((((((Below.refl w.heap.size w).alloc (Nat.le_refl _) _).alloc (by simp) _).alloc (by simp; omega) _).alloc (by simp; omega) _).trans (hB1.mono (by simp; omega))).setCell (by simp; omega) _).setCell (by simp; omega) _).alloc (by simp; omega) _
      · rcases Int.lt_or_le b c with h3 | h3
        · skip
          go_enter Try.func44, Try.ntmps44
          go_wp2_with (go_at_call 94; refine (checkRanges2 a b c d _ _ (by simp) ha hb hc hd (by simp [go_sem, World.cell?_alloc_past]) (by simp [go_sem, World.cell?_alloc_past]) (by simp [go_sem, World.cell?_alloc_past]) (by simp [go_sem, World.cell?_alloc_past])).mono ?_; rintro e w1 ⟨rfl, hB1⟩; obtain ⟨hc1, hf1⟩ := bcell hB1; have hz1 : w.heap.size + 4 ≤ w1.heap.size := (by have := hB1.size; simp at this; omega); have hzz : w.heap.size + 1 + 1 < w1.heap.size := (by omega); have k0 : w1.cell? ⟨w.heap.size + 1 + 1, 0, none⟩ = some (.int .i64 0) := (by rw [hc1 _ _ (by simp)]; simp [go_sem, World.cell?_alloc_past]); have k1 : w1.cell? ⟨w.heap.size + 1 + 1, 1, none⟩ = some (.int .i64 0) := (by rw [hc1 _ _ (by simp)]; simp [go_sem, World.cell?_alloc_past]); have k2 : w1.frozen? ⟨w.heap.size + 1 + 1, 0, none⟩ = false := (by rw [hf1 _ _ (by simp)]; simp [go_sem, World.frozen?_alloc_past]); have k3 : w1.frozen? ⟨w.heap.size + 1 + 1, 1, none⟩ = false := (by rw [hf1 _ _ (by simp)]; simp [go_sem, World.frozen?_alloc_past]); have q0 : w1.cell? ⟨w.heap.size, 0, none⟩ = some (.int .i64 a) := (by rw [hc1 _ _ (by simp <;> omega)]; simp [go_sem, World.cell?_alloc_past]); have q1 : w1.cell? ⟨w.heap.size, 1, none⟩ = some (.int .i64 b) := (by rw [hc1 _ _ (by simp <;> omega)]; simp [go_sem, World.cell?_alloc_past]); have q2 : w1.cell? ⟨w.heap.size + 1, 0, none⟩ = some (.int .i64 c) := (by rw [hc1 _ _ (by simp <;> omega)]; simp [go_sem, World.cell?_alloc_past]); have q3 : w1.cell? ⟨w.heap.size + 1, 1, none⟩ = some (.int .i64 d) := (by rw [hc1 _ _ (by simp <;> omega)]; simp [go_sem, World.cell?_alloc_past]))
          obtain ⟨r0, r1⟩ := set2 (w := w1) (b := w.heap.size + 1 + 1) (x := .int .i64 0) (y := .int .i64 0) (.int .i64 0) (.int .i64 0) k0 k1
          have s0 := cellA (.cells #[.int .i64 c, .int .i64 b] 38) r0
          have s1 := cellA (.cells #[.int .i64 c, .int .i64 b] 38) r1
          refine bodyPost_ret (ret_range rfl _ _ _ _ _ _ rfl rfl s0 s1) rfl ⟨(by rw [HR.out]; unfold meetR; rw [if_pos (by omega)]; first | done | rfl), ?_⟩
          exact ((((((((Below.refl w.heap.size w).alloc (Nat.le_refl _) _).alloc (by simp) _).alloc (by simp; omega) _).alloc (by simp; omega) _).trans (hB1.mono (by simp; omega))).setCell (by simp; omega) _).setCell (by simp; omega) _).alloc (by simp; omega) _
        · skip
          go_enter Try.func44, Try.ntmps44
          go_wp2_with (go_at_call 94; refine (checkRanges2 a b c d _ _ (by simp) ha hb hc hd (by simp [go_sem, World.cell?_alloc_past]) (by simp [go_sem, World.cell?_alloc_past]) (by simp [go_sem, World.cell?_alloc_past]) (by simp [go_sem, World.cell?_alloc_past])).mono ?_; rintro e w1 ⟨rfl, hB1⟩; obtain ⟨hc1, hf1⟩ := bcell hB1; have hz1 : w.heap.size + 4 ≤ w1.heap.size := (by have := hB1.size; simp at this; omega); have hzz : w.heap.size + 1 + 1 < w1.heap.size := (by omega); have k0 : w1.cell? ⟨w.heap.size + 1 + 1, 0, none⟩ = some (.int .i64 0) := (by rw [hc1 _ _ (by simp)]; simp [go_sem, World.cell?_alloc_past]); have k1 : w1.cell? ⟨w.heap.size + 1 + 1, 1, none⟩ = some (.int .i64 0) := (by rw [hc1 _ _ (by simp)]; simp [go_sem, World.cell?_alloc_past]); have k2 : w1.frozen? ⟨w.heap.size + 1 + 1, 0, none⟩ = false := (by rw [hf1 _ _ (by simp)]; simp [go_sem, World.frozen?_alloc_past]); have k3 : w1.frozen? ⟨w.heap.size + 1 + 1, 1, none⟩ = false := (by rw [hf1 _ _ (by simp)]; simp [go_sem, World.frozen?_alloc_past]); have q0 : w1.cell? ⟨w.heap.size, 0, none⟩ = some (.int .i64 a) := (by rw [hc1 _ _ (by simp <;> omega)]; simp [go_sem, World.cell?_alloc_past]); have q1 : w1.cell? ⟨w.heap.size, 1, none⟩ = some (.int .i64 b) := (by rw [hc1 _ _ (by simp <;> omega)]; simp [go_sem, World.cell?_alloc_past]); have q2 : w1.cell? ⟨w.heap.size + 1, 0, none⟩ = some (.int .i64 c) := (by rw [hc1 _ _ (by simp <;> omega)]; simp [go_sem, World.cell?_alloc_past]); have q3 : w1.cell? ⟨w.heap.size + 1, 1, none⟩ = some (.int .i64 d) := (by rw [hc1 _ _ (by simp <;> omega)]; simp [go_sem, World.cell?_alloc_past]))
          obtain ⟨r0, r1⟩ := set2 (w := w1) (b := w.heap.size + 1 + 1) (x := .int .i64 0) (y := .int .i64 0) (.int .i64 c) (.int .i64 b) k0 k1
          have s0 := cellA (.cells #[.int .i64 c, .int .i64 b] 38) r0
          have s1 := cellA (.cells #[.int .i64 c, .int .i64 b] 38) r1
          refine bodyPost_ret (ret_range rfl _ _ _ _ _ _ rfl rfl s0 s1) rfl ⟨(by rw [HR.out]; unfold meetR; rw [if_neg (by omega), show max a c = c by omega, show min b d = b by omega]; first | done | rfl), ?_⟩
          exact ((((((((Below.refl w.heap.size w).alloc (Nat.le_refl _) _).alloc (by simp) _).alloc (by simp; omega) _).alloc (by simp; omega) _).trans (hB1.mono (by simp; omega))).setCell (by simp; omega) _).setCell (by simp; omega) _).alloc (by simp; omega) _
    · rcases Int.lt_or_le d b with h2 | h2
      · rcases Int.lt_or_le d a with h3 | h3
        · skip
          go_enter Try.func44, Try.ntmps44
          go_wp2_with (go_at_call 94; refine (checkRanges2 a b c d _ _ (by simp) ha hb hc hd (by simp [go_sem, World.cell?_alloc_past]) (by simp [go_sem, World.cell?_alloc_past]) (by simp [go_sem, World.cell?_alloc_past]) (by simp [go_sem, World.cell?_alloc_past])).mono ?_; rintro e w1 ⟨rfl, hB1⟩; obtain ⟨hc1, hf1⟩ := bcell hB1; have hz1 : w.heap.size + 4 ≤ w1.heap.size := (by have := hB1.size; simp at this; omega); have hzz : w.heap.size + 1 + 1 < w1.heap.size := (by omega); have k0 : w1.cell? ⟨w.heap.size + 1 + 1, 0, none⟩ = some (.int .i64 0) := (by rw [hc1 _ _ (by simp)]; simp [go_sem, World.cell?_alloc_past]); have k1 : w1.cell? ⟨w.heap.size + 1 + 1, 1, none⟩ = some (.int .i64 0) := (by rw [hc1 _ _ (by simp)]; simp [go_sem, World.cell?_alloc_past]); have k2 : w1.frozen? ⟨w.heap.size + 1 + 1, 0, none⟩ = false := (by rw [hf1 _ _ (by simp)]; simp [go_sem, World.frozen?_alloc_past]); have k3 : w1.frozen? ⟨w.heap.size + 1 + 1, 1, none⟩ = false := (by rw [hf1 _ _ (by simp)]; simp [go_sem, World.frozen?_alloc_past]); have q0 : w1.cell? ⟨w.heap.size, 0, none⟩ = some (.int .i64 a) := (by rw [hc1 _ _ (by simp <;> omega)]; simp [go_sem, World.cell?_alloc_past]); have q1 : w1.cell? ⟨w.heap.size, 1, none⟩ = some (.int .i64 b) := (by rw [hc1 _ _ (by simp <;> omega)]; simp [go_sem, World.cell?_alloc_past]); have q2 : w1.cell? ⟨w.heap.size + 1, 0, none⟩ = some (.int .i64 c) := (by rw [hc1 _ _ (by simp <;> omega)]; simp [go_sem, World.cell?_alloc_past]); have q3 : w1.cell? ⟨w.heap.size + 1, 1, none⟩ = some (.int .i64 d) := (by rw [hc1 _ _ (by simp <;> omega)]; simp [go_sem, World.cell?_alloc_past]))
          obtain ⟨r0, r1⟩ := set2 (w := w1) (b := w.heap.size + 1 + 1) (x := .int .i64 0) (y := .int .i64 0) (.int .i64 0) (.int .i64 0) k0 k1
          have s0 := cellA (.cells #[.int .i64 a, .int .i64 d] 38) r0
          have s1 := cellA (.cells #[.int .i64 a, .int .i64 d] 38) r1
          refine bodyPost_ret (ret_range rfl _ _ _ _ _ _ rfl rfl s0 s1) rfl ⟨(by rw [HR.out]; unfold meetR; rw [if_pos (by omega)]; first | done | rfl), ?_⟩
          exact ((((((((Below.refl w.heap.size w).alloc (Nat.le_refl _) _).alloc (by simp) _).alloc (by simp; omega) _).alloc (by simp; omega) _).trans (hB1.mono (by simp; omega))).setCell (by simp; omega) _).setCell (by simp; omega) _).alloc (by simp; omega) _
        · skip
          go_enter Try.func44, Try.ntmps44
          go_wp2_with (go_at_call 94; refine (checkRanges2 a b c d _ _ (by simp) ha hb hc hd (by simp [go_sem, World.cell?_alloc_past]) (by simp [go_sem, World.cell?_alloc_past]) (by simp [go_sem, World.cell?_alloc_past]) (by simp [go_sem, World.cell?_alloc_past])).mono ?_; rintro e w1 ⟨rfl, hB1⟩; obtain ⟨hc1, hf1⟩ := bcell hB1; have hz1 : w.heap.size + 4 ≤ w1.heap.size := (by have := hB1.size; simp at this; omega); have hzz : w.heap.size + 1 + 1 < w1.heap.size := (by omega); have k0 : w1.cell? ⟨w.heap.size + 1 + 1, 0, none⟩ = some (.int .i64 0) := (by rw [hc1 _ _ (by simp)]; simp [go_sem, World.cell?_alloc_past]); have k1 : w1.cell? ⟨w.heap.size + 1 + 1, 1, none⟩ = some (.int .i64 0) := (by rw [hc1 _ _ (by simp)]; simp [go_sem, World.cell?_alloc_past]); have k2 : w1.frozen? ⟨w.heap.size + 1 + 1, 0, none⟩ = false := (by rw [hf1 _ _ (by simp)]; simp [go_sem, World.frozen?_alloc_past]); have k3 : w1.frozen? ⟨w.heap.size + 1 + 1, 1, none⟩ = false := (by rw [hf1 _ _ (by simp)]; simp [go_sem, World.frozen?_alloc_past]); have q0 : w1.cell? ⟨w.heap.size, 0, none⟩ = some (.int .i64 a) := (by rw [hc1 _ _ (by simp <;> omega)]; simp [go_sem, World.cell?_alloc_past]); have q1 : w1.cell? ⟨w.heap.size, 1, none⟩ = some (.int .i64 b) := (by rw [hc1 _ _ (by simp <;> omega)]; simp [go_sem, World.cell?_alloc_past]); have q2 : w1.cell? ⟨w.heap.size + 1, 0, none⟩ = some (.int .i64 c) := (by rw [hc1 _ _ (by simp <;> omega)]; simp [go_sem, World.cell?_alloc_past]); have q3 : w1.cell? ⟨w.heap.size + 1, 1, none⟩ = some (.int .i64 d) := (by rw [hc1 _ _ (by simp <;> omega)]; simp [go_sem, World.cell?_alloc_past]))
          obtain ⟨r0, r1⟩ := set2 (w := w1) (b := w.heap.size + 1 + 1) (x := .int .i64 0) (y := .int .i64 0) (.int .i64 a) (.int .i64 d) k0 k1
          have s0 := cellA (.cells #[.int .i64 a, .int .i64 d] 38) r0
          have s1 := cellA (.cells #[.int .i64 a, .int .i64 d] 38) r1
          refine bodyPost_ret (ret_range rfl _ _ _ _ _ _ rfl rfl s0 s1) rfl ⟨(by rw [HR.out]; unfold meetR; rw [if_neg (by omega), show max a c = a by omega, show min b d = d by omega]; first | done | rfl), ?_⟩
          exact ((((((((Below.refl w.heap.size w).alloc (Nat.le_refl _) _).alloc (by simp) _).alloc (by simp; omega) _).alloc (by simp; omega) _).trans (hB1.mono (by simp; omega))).setCell (by simp; omega) _).setCell (by simp; omega) _).alloc (by simp; omega) _
      · rcases Int.lt_or_le b a with h3 | h3
        · skip
          go_enter Try.func44, Try.ntmps44
          go_wp2_with (go_at_call 94; refine (checkRanges2 a b c d _ _ (by simp) ha hb hc hd (by simp [go_sem, World.cell?_alloc_past]) (by simp [go_sem, World.cell?_alloc_past]) (by simp [go_sem, World.cell?_alloc_past]) (by simp [go_sem, World.cell?_alloc_past])).mono ?_; rintro e w1 ⟨rfl, hB1⟩; obtain ⟨hc1, hf1⟩ := bcell hB1; have hz1 : w.heap.size + 4 ≤ w1.heap.size := (by have := hB1.size; simp at this; omega); have hzz : w.heap.size + 1 + 1 < w1.heap.size := (by omega); have k0 : w1.cell? ⟨w.heap.size + 1 + 1, 0, none⟩ = some (.int .i64 0) := (by rw [hc1 _ _ (by simp)]; simp [go_sem, World.cell?_alloc_past]); have k1 : w1.cell? ⟨w.heap.size + 1 + 1, 1, none⟩ = some (.int .i64 0) := (by rw [hc1 _ _ (by simp)]; simp [go_sem, World.cell?_alloc_past]); have k2 : w1.frozen? ⟨w.heap.size + 1 + 1, 0, none⟩ = false := (by rw [hf1 _ _ (by simp)]; simp [go_sem, World.frozen?_alloc_past]); have k3 : w1.frozen? ⟨w.heap.size + 1 + 1, 1, none⟩ = false := (by rw [hf1 _ _ (by simp)]; simp [go_sem, World.frozen?_alloc_past]); have q0 : w1.cell? ⟨w.heap.size, 0, none⟩ = some (.int .i64 a) := (by rw [hc1 _ _ (by simp <;> omega)]; simp [go_sem, World.cell?_alloc_past]); have q1 : w1.cell? ⟨w.heap.size, 1, none⟩ = some (.int .i64 b) := (by rw [hc1 _ _ (by simp <;> omega)]; simp [go_sem, World.cell?_alloc_past]); have q2 : w1.cell? ⟨w.heap.size + 1, 0, none⟩ = some (.int .i64 c) := (by rw [hc1 _ _ (by simp <;> omega)]; simp [go_sem, World.cell?_alloc_past]); have q3 : w1.cell? ⟨w.heap.size + 1, 1, none⟩ = some (.int .i64 d) := (by rw [hc1 _ _ (by simp <;> omega)]; simp [go_sem, World.cell?_alloc_past]))
          obtain ⟨r0, r1⟩ := set2 (w := w1) (b := w.heap.size + 1 + 1) (x := .int .i64 0) (y := .int .i64 0) (.int .i64 0) (.int .i64 0) k0 k1
          have s0 := cellA (.cells #[.int .i64 a, .int .i64 b] 38) r0
          have s1 := cellA (.cells #[.int .i64 a, .int .i64 b] 38) r1
          refine bodyPost_ret (ret_range rfl _ _ _ _ _ _ rfl rfl s0 s1) rfl ⟨(by rw [HR.out]; unfold meetR; rw [if_pos (by omega)]; first | done | rfl), ?_⟩
          exact ((((((((Below.refl w.heap.size w).alloc (Nat.le_refl _) _).alloc (by simp) _).alloc (by simp; omega) _).alloc (by simp; omega) _).trans (hB1.mono (by simp; omega))).setCell (by simp; omega) _).setCell (by simp; omega) _).alloc (by simp; omega) _
        · skip
          go_enter Try.func44, Try.ntmps44
          go_wp2_with (go_at_call 94; refine (checkRanges2 a b c d _ _ (by simp) ha hb hc hd (by simp [go_sem, World.cell?_alloc_past]) (by simp [go_sem, World.cell?_alloc_past]) (by simp [go_sem, World.cell?_alloc_past]) (by simp [go_sem, World.cell?_alloc_past])).mono ?_; rintro e w1 ⟨rfl, hB1⟩; obtain ⟨hc1, hf1⟩ := bcell hB1; have hz1 : w.heap.size + 4 ≤ w1.heap.size := (by have := hB1.size; simp at this; omega); have hzz : w.heap.size + 1 + 1 < w1.heap.size := (by omega); have k0 : w1.cell? ⟨w.heap.size + 1 + 1, 0, none⟩ = some (.int .i64 0) := (by rw [hc1 _ _ (by simp)]; simp [go_sem, World.cell?_alloc_past]); have k1 : w1.cell? ⟨w.heap.size + 1 + 1, 1, none⟩ = some (.int .i64 0) := (by rw [hc1 _ _ (by simp)]; simp [go_sem, World.cell?_alloc_past]); have k2 : w1.frozen? ⟨w.heap.size + 1 + 1, 0, none⟩ = false := (by rw [hf1 _ _ (by simp)]; simp [go_sem, World.frozen?_alloc_past]); have k3 : w1.frozen? ⟨w.heap.size + 1 + 1, 1, none⟩ = false := (by rw [hf1 _ _ (by simp)]; simp [go_sem, World.frozen?_alloc_past]); have q0 : w1.cell? ⟨w.heap.size, 0, none⟩ = some (.int .i64 a) := (by rw [hc1 _ _ (by simp <;> omega)]; simp [go_sem, World.cell?_alloc_past]); have q1 : w1.cell? ⟨w.heap.size, 1, none⟩ = some (.int .i64 b) := (by rw [hc1 _ _ (by simp <;> omega)]; simp [go_sem, World.cell?_alloc_past]); have q2 : w1.cell? ⟨w.heap.size + 1, 0, none⟩ = some (.int .i64 c) := (by rw [hc1 _ _ (by simp <;> omega)]; simp [go_sem, World.cell?_alloc_past]); have q3 : w1.cell? ⟨w.heap.size + 1, 1, none⟩ = some (.int .i64 d) := (by rw [hc1 _ _ (by simp <;> omega)]; simp [go_sem, World.cell?_alloc_past]))
          obtain ⟨r0, r1⟩ := set2 (w := w1) (b := w.heap.size + 1 + 1) (x := .int .i64 0) (y := .int .i64 0) (.int .i64 a) (.int .i64 b) k0 k1
          have s0 := cellA (.cells #[.int .i64 a, .int .i64 b] 38) r0
          have s1 := cellA (.cells #[.int .i64 a, .int .i64 b] 38) r1
          refine bodyPost_ret (ret_range rfl _ _ _ _ _ _ rfl rfl s0 s1) rfl ⟨(by rw [HR.out]; unfold meetR; rw [if_neg (by omega), show max a c = a by omega, show min b d = b by omega]; first | done | rfl), ?_⟩
          exact ((((((((Below.refl w.heap.size w).alloc (Nat.le_refl _) _).alloc (by simp) _).alloc (by simp; omega) _).alloc (by simp; omega) _).trans (hB1.mono (by simp; omega))).setCell (by simp; omega) _).setCell (by simp; omega) _).alloc (by simp; omega) _
  · have he' : (ckRs [(a, b), (c, d)] != 0) = true := by simpa using he
    have HR := Bx.mk (show meetN a b c d = (0, 0, ckRs [(a, b), (c, d)]) by unfold meetN; rw [if_pos he])
    clear he
    go_enter Try.func44, Try.ntmps44
    go_wp2_with (go_at_call 94; refine (checkRanges2 a b c d _ _ (by simp) ha hb hc hd (by simp [go_sem, World.cell?_alloc_past]) (by simp [go_sem, World.cell?_alloc_past]) (by simp [go_sem, World.cell?_alloc_past]) (by simp [go_sem, World.cell?_alloc_past])).mono ?_; rintro e w1 ⟨rfl, hB1⟩; obtain ⟨hc1, hf1⟩ := bcell hB1; have hz1 : w.heap.size + 4 ≤ w1.heap.size := (by have := hB1.size; simp at this; omega); have hzz : w.heap.size + 1 + 1 < w1.heap.size := (by omega); have k0 : w1.cell? ⟨w.heap.size + 1 + 1, 0, none⟩ = some (.int .i64 0) := (by rw [hc1 _ _ (by simp)]; simp [go_sem, World.cell?_alloc_past]); have k1 : w1.cell? ⟨w.heap.size + 1 + 1, 1, none⟩ = some (.int .i64 0) := (by rw [hc1 _ _ (by simp)]; simp [go_sem, World.cell?_alloc_past]); have k2 : w1.frozen? ⟨w.heap.size + 1 + 1, 0, none⟩ = false := (by rw [hf1 _ _ (by simp)]; simp [go_sem, World.frozen?_alloc_past]); have k3 : w1.frozen? ⟨w.heap.size + 1 + 1, 1, none⟩ = false := (by rw [hf1 _ _ (by simp)]; simp [go_sem, World.frozen?_alloc_past]))
    obtain ⟨r0, r1⟩ := set2 (w := w1) (b := w.heap.size + 1 + 1) (x := .int .i64 0) (y := .int .i64 0) (.int .i64 0) (.int .i64 0) k0 k1
    refine bodyPost_ret (ret_range rfl _ _ _ _ _ _ rfl rfl r0 r1) rfl ⟨by rw [HR.out]; rfl, ?_⟩
    exact (((((((Below.refl w.heap.size w).alloc (Nat.le_refl _) _).alloc (by simp) _).alloc (by simp; omega) _).alloc (by simp; omega) _).trans (hB1.mono (by simp; omega))).setCell (by simp; omega) _).setCell (by simp; omega) _

end Go.Proofs.Ytfnmnnbmhfbkbaa