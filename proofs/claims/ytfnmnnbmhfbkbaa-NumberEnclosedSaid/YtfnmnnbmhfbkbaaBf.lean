/- Contracts of the program, joined: W20 W21 PolyS W22 W23 W24 W25 W26 -/
import Derived.Test.YtfnmnnbmhfbkbaaBd
import Derived.Test.YtfnmnnbmhfbkbaaBe
import Derived.Test.YtfnmnnbmhfbkbaaBb
/-! W20 -/
set_option linter.unusedVariables false
set_option linter.unusedSimpArgs false
namespace Go.Proofs.Ytfnmnnbmhfbkbaa
open Go.RowKit

theorem cmpI_bd (a b : Int) : -1 ≤ cmpI a b ∧ cmpI a b ≤ 1 := by unfold cmpI; split <;> (try split) <;> omega
theorem sgBehind_bd (N D : Int) : ∀ (n : Nat) (z : Row), -1 ≤ sgBehind N D n z ∧ sgBehind N D n z ≤ 1
  | 0, _ => by show -1 ≤ (0 : Int) ∧ (0 : Int) ≤ 1; omega
  | n + 1, z => by
    unfold sgBehind
    split
    · exact cmpI_bd _ _
    · exact sgBehind_bd N D n (dRow z)

/-- A list of polynomials in memory. -/
def ST (w : World) (A : Option Addr) (l : List (Nat × Row)) (L : Nat) : Prop :=
  0 < l.length → ∃ g, A = some ⟨g, 0, none⟩ ∧ g < w.heap.size ∧ ∀ i p, l[i]? = some p → ∃ Ai ci, w.cell? ⟨g, i, none⟩ = some (.slice Ai p.1 ci) ∧ PA w Ai p.1 p.2 L ∧ p.1 ≤ 100
theorem ST.below {w w' : World} {A : Option Addr} {l : List (Nat × Row)} {L B : Nat} (h : ST w A l L) (hB : w.heap.size ≤ B) (hb : Below B w w') : ST w' A l L := fun hl => by
  obtain ⟨g, e, hg, hi⟩ := h hl
  refine ⟨g, e, Nat.lt_of_lt_of_le hg hb.size, fun i p hp => ?_⟩
  obtain ⟨Ai, ci, h1, h2, h3⟩ := hi i p hp
  exact ⟨Ai, ci, (hb.cell (p := ⟨g, i, none⟩) (by show g < B; omega)).trans h1, h2.below hB hb, h3⟩

def chgL (N D : Int) (l : List (Nat × Row)) : Int × Int := l.foldl (chgStep N D) (0, 0)
theorem chgL_snoc (N D : Int) (l : List (Nat × Row)) (p : Nat × Row) : chgL N D (l ++ [p]) = chgStep N D (chgL N D l) p := by simp [chgL]
theorem chg_bd (N D : Int) : ∀ (l : List (Nat × Row)) (s : Int × Int), -1 ≤ s.2 → s.2 ≤ 1 → s.1 ≤ (l.foldl (chgStep N D) s).1 ∧ (l.foldl (chgStep N D) s).1 ≤ s.1 + l.length ∧ -1 ≤ (l.foldl (chgStep N D) s).2 ∧ (l.foldl (chgStep N D) s).2 ≤ 1
  | [], s, h1, h2 => by simp only [List.foldl_nil, List.length_nil]; omega
  | p :: l, s, h1, h2 => by
    obtain ⟨b1, b2⟩ := sgBehind_bd N D p.1 p.2
    have h := chg_bd N D l (chgStep N D s p) b1 b2
    have e : s.1 ≤ (chgStep N D s p).1 ∧ (chgStep N D s p).1 ≤ s.1 + 1 := by unfold chgStep; dsimp only; split <;> omega
    simp only [List.foldl_cons, List.length_cons]
    omega
theorem chgL_bd (N D : Int) (l : List (Nat × Row)) : 0 ≤ (chgL N D l).1 ∧ (chgL N D l).1 ≤ l.length ∧ -1 ≤ (chgL N D l).2 ∧ (chgL N D l).2 ≤ 1 := by
  have := chg_bd N D l (0, 0) (by decide) (by decide)
  unfold chgL
  simpa using this

set_option maxRecDepth 100000 in
set_option maxHeartbeats 1000000 in
theorem changesBehind_any (A : Option Addr) (l : List (Nat × Row)) (n c : Nat) (L : Nat) (N D : Int) (w : World) (hA : ST w A l L) (hl : l.length = n) (hn : n ≤ 1000) (hL : L ≤ 999999800) (hN : I64 N) (hD : I64 D) :
    Calls Try.prog 134 #[.slice A n c, .int .i64 N, .int .i64 D] w fun e w' => e = .returned (.int .i64 (chgR N D l)) ∧ Below w.heap.size w w' := by
  have HL := Lib.hid hl
  clear hl
  go_enter Try.func134, Try.ntmps134
  go_wp2
  go_loopw [7, 8, 14] (fun ch bf i wr => ∃ k : Nat, k ≤ n ∧ i = .int .i64 k ∧ ch = .int .i64 (chgL N D (l.take k)).1 ∧ bf = .int .i64 (chgL N D (l.take k)).2 ∧ Below w.heap.size w wr) (fun _ _ i _ => n - (intOf i).toNat)
  case atStart => exact ⟨0, by omega, rfl, rfl, rfl, Below.refl _ _⟩
  case round =>
    obtain ⟨k, hk, rfl, rfl, rfl, hB⟩ := hrel
    by_cases hlt : k < n
    · have hlt' : (k : Int) < n := by omega
      obtain ⟨g, rfl, hg, hi⟩ := (hA.below (Nat.le_refl _) hB) (by rw [HL.out]; omega)
      obtain ⟨p, hp⟩ : ∃ p, l[k]? = some p := ⟨_, List.getElem?_eq_getElem (by rw [HL.out]; exact hlt)⟩
      obtain ⟨Ai, ci, c0, hPA, hpn⟩ := hi k p hp
      have HT := Lib.hid (show chgL N D (l.take (k + 1)) = chgStep N D (chgL N D (l.take k)) p by rw [List.take_add_one, hp, Option.toList_some, chgL_snoc])
      have hbd := chgL_bd N D (l.take k)
      have hlen : ((l.take k).length : Int) ≤ 1000 := by rw [List.length_take]; omega
      have hsb := sgBehind_bd N D p.1 p.2
      obtain ⟨pn, pz⟩ := p
      dsimp only at *
      clear hi hp
      generalize hcc : chgL N D (l.take k) = cc at *
      clear hcc
      have hmul := mul_bd (x := cc.2) (y := sgBehind N D pn pz) (A := 1) (B := 1) (by omega) (by omega) (by omega) (by omega)
      obtain ⟨h1, h2, h3, h4⟩ := hbd
      by_cases hneg : cc.2 * sgBehind N D pn pz < 0
      · have HS := Lib.hid (show chgStep N D cc (pn, pz) = (cc.1 + 1, sgBehind N D pn pz) by unfold chgStep; rw [if_pos hneg])
        go_wp2_with (go_at_call 148; refine (signBehind_any Ai pn ci pz L N D _ hPA hpn hL hN hD).mono ?_; rintro e w1 ⟨rfl, B1⟩)
        go_roundw
        case rel => exact ⟨k + 1, by omega, by go_num, by rw [HT.out, HS.out], by rw [HT.out, HS.out], hB.trans (B1.mono hB.size)⟩
        case measure => simp [intOf]; omega
      · have HS := Lib.hid (show chgStep N D cc (pn, pz) = (cc.1, sgBehind N D pn pz) by unfold chgStep; rw [if_neg hneg])
        go_wp2_with (go_at_call 148; refine (signBehind_any Ai pn ci pz L N D _ hPA hpn hL hN hD).mono ?_; rintro e w1 ⟨rfl, B1⟩)
        go_roundw
        case rel => exact ⟨k + 1, by omega, by go_num, by rw [HT.out, HS.out], by rw [HT.out, HS.out], hB.trans (B1.mono hB.size)⟩
        case measure => simp [intOf]; omega
    · obtain rfl : k = n := by omega
      go_wp2
      go_ret
      exact ⟨ret_int (by rw [List.take_of_length_le (by rw [HL.out]; omega)]; rfl), hB⟩

end Go.Proofs.Ytfnmnnbmhfbkbaa

/-! W21 -/
namespace Go.Proofs.Ytfnmnnbmhfbkbaa
open Go.RowKit

def rootsL (l : List (Nat × Row)) (a b c d : Int) : Int := chgR a b l - chgR c d l
theorem chgR_bd (N D : Int) (l : List (Nat × Row)) : 0 ≤ chgR N D l ∧ chgR N D l ≤ l.length := ⟨(chgL_bd N D l).1, (chgL_bd N D l).2.1⟩

set_option maxRecDepth 100000 in
set_option maxHeartbeats 2000000 in
theorem rootsIn0_any (A : Option Addr) (l : List (Nat × Row)) (n cc : Nat) (L : Nat) (a b c d : Int) (w : World) (hA : ST w A l L) (hl : l.length = n) (hn : n ≤ 1000) (hL : L ≤ 999999800) (ha : I64 a) (hb : I64 b) (hc : I64 c) (hd : I64 d) :
    Calls Try.prog 111 #[.slice A n cc, .agg #[.int .i64 a, .int .i64 b], .agg #[.int .i64 c, .int .i64 d]] w fun e w' => e = .returned (.int .i64 (rootsL l a b c d)) ∧ Below w.heap.size w w' := by
  have HL := Lib.hid hl
  obtain ⟨k0, k1⟩ := chgR_bd a b l
  obtain ⟨k2, k3⟩ := chgR_bd c d l
  rw [hl] at k1 k3
  clear hl
  have hw : IntKind.i64.wrap (chgR a b l - chgR c d l) = rootsL l a b c d := IntWalk.i64_in _ (by omega)
  have tok1 : True := trivial
  go_enter Try.func111, Try.ntmps111
  go_wp2
  go_region_held3 (fun w' => w'.cell? ⟨w.heap.size, 0, none⟩ = some (.int .i64 a) ∧ w'.cell? ⟨w.heap.size, 1, none⟩ = some (.int .i64 b) ∧ w'.cell? ⟨w.heap.size + 1, 0, none⟩ = some (.int .i64 c) ∧ w'.cell? ⟨w.heap.size + 1, 1, none⟩ = some (.int .i64 d))
    (first | (simp [go_sem, World.cell?_alloc_past]; done) | (exact ⟨v0, v1, v2, v3⟩) | (exact ⟨u0, u1, u2, u3⟩) | (refine ⟨?_, ?_, ?_, ?_⟩ <;> simp [go_sem, *]; done))
    (first
      | (have _t := tok1; go_at_call 134; refine (changesBehind_any A l n cc L a b _ (by exact hA.below (Nat.le_refl _) (by repeat (first | exact Below.refl _ _ | refine Below.drew ?_ | refine Below.drewN' ?_ _ | refine Below.alloc ?_ (by first | exact Nat.le_refl _ | (simp; done) | (simp; omega)) _))) HL.out hn hL ha hb).mono ?_; clear tok1; rintro e w1 ⟨rfl, B1⟩; obtain ⟨hcK, hfK⟩ := bcell B1; have u0 : w1.cell? ⟨w.heap.size, 0, none⟩ = some (.int .i64 a) := (by rw [hcK _ _ (by simp <;> omega)]; simp [go_sem, World.cell?_alloc_past]); have u1 : w1.cell? ⟨w.heap.size, 1, none⟩ = some (.int .i64 b) := (by rw [hcK _ _ (by simp <;> omega)]; simp [go_sem, World.cell?_alloc_past]); have u2 : w1.cell? ⟨w.heap.size + 1, 0, none⟩ = some (.int .i64 c) := (by rw [hcK _ _ (by simp <;> omega)]; simp [go_sem, World.cell?_alloc_past]); have u3 : w1.cell? ⟨w.heap.size + 1, 1, none⟩ = some (.int .i64 d) := (by rw [hcK _ _ (by simp <;> omega)]; simp [go_sem, World.cell?_alloc_past]); have KB1 : Below w.heap.size w w1 := (((by repeat (first | exact Below.refl _ _ | refine Below.drew ?_ | refine Below.drewN' ?_ _ | refine Below.alloc ?_ (by first | exact Nat.le_refl _ | (simp; done) | (simp; omega)) _)) : Below w.heap.size w _).trans (B1.mono (by simp; omega))); have zz1 : w.heap.size + 2 ≤ w1.heap.size := (by have := B1.size; simp at this; omega))
      | (go_at_call 134; refine (changesBehind_any A l n cc L c d _ (by exact hA.below (Nat.le_refl _) KB1) HL.out hn hL hc hd).mono ?_; rintro e w2 ⟨rfl, B2⟩; have v0 := (B2.cell (p := ⟨w.heap.size, 0, none⟩) (by show w.heap.size < w1.heap.size; omega)).trans u0; have v1 := (B2.cell (p := ⟨w.heap.size, 1, none⟩) (by show w.heap.size < w1.heap.size; omega)).trans u1; have v2 := (B2.cell (p := ⟨w.heap.size + 1, 0, none⟩) (by show w.heap.size + 1 < w1.heap.size; omega)).trans u2; have v3 := (B2.cell (p := ⟨w.heap.size + 1, 1, none⟩) (by show w.heap.size + 1 < w1.heap.size; omega)).trans u3))
  go_wp2
  go_ret
  exact ⟨rfl, KB1.trans (B2.mono (by omega))⟩

end Go.Proofs.Ytfnmnnbmhfbkbaa

/-! PolyS -/
namespace Go.Proofs.Ytfnmnnbmhfbkbaa
open Go.RowKit

theorem info_poly_parts : ∃ i, Try.prog.info? 111 = some i ∧ i.zero = some (.slice none 0 0) ∧ i.size = 1 ∧ i.bytes = 24 := by
  have h : (Try.prog.info? 111).map (fun i => (i.zero, i.size, i.bytes)) = some (some (.slice none 0 0), 1, 24) := by kernel_rfl
  obtain ⟨i, hi, hzz⟩ := Option.map_eq_some_iff.1 h
  simp only [Prod.mk.injEq] at hzz
  exact ⟨i, hi, hzz.1, hzz.2.1, hzz.2.2⟩

/-- A row whose first cell is a slice. -/
def SRow (w : World) (row : Option Nat) : Prop := ∀ g, row = some g → ∃ A n c, w.cell? ⟨g, 0, none⟩ = some (.slice A n c)
theorem LG.grownS {w w' : World} {b : Bool} {sv : Value} {z : Int} {L : Nat} {row : Option Nat} (h : LG w b sv z L) (hg : w.grownBy w' row) (hr : SRow w row) : LG w' b sv z L := by
  obtain ⟨A, n, c, f, e, h1, h2, h3, h4⟩ := h
  refine ⟨A, n, c, f, e, ⟨h1.1, fun hn => ?_⟩, h2, h3, h4⟩
  obtain ⟨k, e, hl, hc⟩ := h1.2 hn
  refine ⟨k, e, Nat.lt_of_lt_of_le hl hg.size, fun j hj => ?_⟩
  rw [hg.cell_far ⟨k, j, none⟩ hl (fun e => by
    obtain ⟨A1, n1, c1, hx⟩ := hr k e.symm
    have h0 := hc 0 hn
    rw [hx] at h0; cases h0)]
  exact hc j hj
theorem PA.grownS {w w' : World} {A : Option Addr} {n : Nat} {z : Row} {L : Nat} {row : Option Nat} (h : PA w A n z L) (hg : w.grownBy w' row) (hr : SRow w row) : PA w' A n z L := fun hn => by
  obtain ⟨g, e, hl, hp⟩ := h hn
  have hne : some g ≠ row := fun e => by
    obtain ⟨A1, n1, c1, hx⟩ := hr g e.symm
    obtain ⟨b0, sv0, h0, _⟩ := hp 0 hn
    have h0' : w.cell? ⟨g, 0, none⟩ = some (.bool b0) := h0
    rw [hx] at h0'; cases h0'
  refine ⟨g, e, Nat.lt_of_lt_of_le hl hg.size, fun i hi => ?_⟩
  obtain ⟨b, sv, h1, h2, h3, h4, h5⟩ := hp i hi
  exact ⟨b, sv, (hg.cell_far ⟨g, i * 2, none⟩ hl hne).trans h1, (hg.cell_far ⟨g, i * 2 + 1, none⟩ hl hne).trans h2, (hg.frozen_far ⟨g, i * 2, none⟩ hl hne).trans h3, (hg.frozen_far ⟨g, i * 2 + 1, none⟩ hl hne).trans h4, h5.grownS hg hr⟩

/-- The slice value sv owns the polynomials l. -/
def SO (w : World) (base : Nat) (sv : Value) (l : List (Nat × Row)) (L : Nat) : Prop :=
  ∃ xs, w.ownsRow base 111 1 sv l.length xs ∧ ∀ (i : Nat) (p : Nat × Row), l[i]? = some p → ∃ Ai ci, xs[i]? = some (.slice Ai p.1 ci) ∧ PA w Ai p.1 p.2 L ∧ p.1 ≤ 100
theorem SO.below {w w' : World} {base : Nat} {sv : Value} {l : List (Nat × Row)} {L : Nat} (h : SO w base sv l L) (hb : Below w.heap.size w w') : SO w' base sv l L := by
  obtain ⟨xs, ho, hx⟩ := h
  refine ⟨xs, owns_below ho hb, fun i p hp => ?_⟩
  obtain ⟨Ai, ci, h1, h2, h3⟩ := hx i p hp
  exact ⟨Ai, ci, h1, h2.below (Nat.le_refl _) hb, h3⟩
theorem SO.more {w : World} {base : Nat} {sv : Value} {l : List (Nat × Row)} {L L' : Nat} (h : SO w base sv l L) (hL : L ≤ L') : SO w base sv l L' := by
  obtain ⟨xs, ho, hx⟩ := h
  refine ⟨xs, ho, fun i p hp => ?_⟩
  obtain ⟨Ai, ci, h1, h2, h3⟩ := hx i p hp
  exact ⟨Ai, ci, h1, h2.more hL, h3⟩
theorem SO.form {w : World} {base : Nat} {sv : Value} {l : List (Nat × Row)} {L : Nat} (h : SO w base sv l L) (hl : 0 < l.length) : ∃ g c, sv = .slice (some ⟨g, 0, none⟩) l.length c := by
  obtain ⟨xs, ho, hx⟩ := h
  obtain ⟨g, cap, hv, _, _⟩ := ho.form hl
  exact ⟨g, cap, hv⟩
theorem SO.first {w : World} {base : Nat} {sv : Value} {l : List (Nat × Row)} {L : Nat} (h : SO w base sv l L) (hl : 0 < l.length) : SRow w sv.ownBlock := fun g hg => by
  obtain ⟨g', c, rfl⟩ := h.form hl
  obtain ⟨xs, ho, hx⟩ := h
  simp only [Value.ownBlock, Option.some.injEq] at hg
  subst hg
  obtain ⟨p, hp⟩ : ∃ p, l[0]? = some p := ⟨_, List.getElem?_eq_getElem hl⟩
  obtain ⟨Ai, ci, h1, _⟩ := hx 0 p hp
  exact ⟨Ai, _, ci, by rw [ho.cellAt 0 (by omega)]; exact h1⟩
theorem SO.st {w : World} {base g c : Nat} {l : List (Nat × Row)} {L : Nat} (h : SO w base (.slice (some ⟨g, 0, none⟩) l.length c) l L) : ST w (some ⟨g, 0, none⟩) l L := fun hl => by
  obtain ⟨xs, ho, hx⟩ := h
  refine ⟨g, rfl, (ho.lt g rfl).2, fun i p hp => ?_⟩
  obtain ⟨Ai, ci, h1, h2, h3⟩ := hx i p hp
  have hi : i < l.length := by
    rcases Nat.lt_or_ge i l.length with h | h
    · exact h
    · rw [List.getElem?_eq_none h] at hp; cases hp
  exact ⟨Ai, ci, by rw [ho.cellAt i (by omega)]; exact h1, h2, h3⟩
theorem SO.more1 {w w' : World} {base : Nat} {sv : Value} {l : List (Nat × Row)} {L g cap : Nat} {A : Option Addr} {m c : Nat} {y : Row} (h : SO w base sv l L) (hl : 0 < l.length) (xs : List Value) (ho : w.ownsRow base 111 1 sv l.length xs)
    (hx : ∀ (i : Nat) (p : Nat × Row), l[i]? = some p → ∃ Ai ci, xs[i]? = some (.slice Ai p.1 ci) ∧ PA w Ai p.1 p.2 L ∧ p.1 ≤ 100) (hy : PA w A m y L) (hm : m ≤ 100)
    (hown : w'.ownsRow base 111 1 (.slice (some ⟨g, 0, none⟩) (l.length + 1) cap) (l.length + 1) (xs ++ [.slice A m c])) (hg : w.grownBy w' sv.ownBlock) : SO w' base (.slice (some ⟨g, 0, none⟩) (l.length + 1) cap) (l ++ [(m, y)]) L := by
  have hlen := ho.1
  have hf := h.first hl
  refine ⟨_, by rw [List.length_append]; exact hown, fun i p hp => ?_⟩
  rcases Nat.lt_or_ge i l.length with h1 | h1
  · rw [List.getElem?_append_left h1] at hp
    obtain ⟨Ai, ci, k1, k2, k3⟩ := hx i p hp
    exact ⟨Ai, ci, by rw [List.getElem?_append_left (by omega)]; exact k1, k2.grownS hg hf, k3⟩
  · rw [List.getElem?_append_right h1] at hp
    have hi : i = l.length := by
      rcases Nat.lt_or_ge (i - l.length) 1 with h2 | h2
      · omega
      · rw [List.getElem?_eq_none (by simpa using h2)] at hp; cases hp
    subst hi
    rw [Nat.sub_self] at hp
    obtain rfl := Option.some.inj hp
    exact ⟨A, c, by rw [List.getElem?_append_right (by omega), hlen]; simp, hy.grownS hg hf, hm⟩

end Go.Proofs.Ytfnmnnbmhfbkbaa

/-! W22 -/
namespace Go.Proofs.Ytfnmnnbmhfbkbaa
open Go.RowKit

theorem restR_lt {m : Nat} {q : Row} (hm : 1 ≤ m) : ∀ (f mr : Nat) (r : Row), mr ≤ f → (restR m q f mr r).1 < m
  | 0, mr, r, h => by show mr < m; omega
  | f + 1, mr, r, h => by
    unfold restR
    split
    · rename_i hle
      have h1 : trimN mr (stepR mr r m q) ≤ mr - 1 := by
        obtain ⟨t, rfl⟩ : ∃ t, mr = t + 1 := ⟨mr - 1, by omega⟩
        have h0 := stepR_top (m := t + 1) (r := r) (nq := m) (q := q) hle (by omega)
        simp only [Nat.add_sub_cancel] at h0 ⊢
        unfold trimN
        rw [if_pos h0]
        exact trimN_le _ _
      exact restR_lt hm f _ _ (by omega)
    · show mr < m; omega

theorem SO.new {w : World} {base : Nat} {A : Option Addr} {m c : Nat} {y : Row} {L : Nat} (hb : base ≤ w.heap.size) (hy : PA w A m y L) (hm : m ≤ 100) :
    SO (w.alloc (.cells #[.slice A m c] 111)) base (.slice (some ⟨w.heap.size, 0, none⟩) 1 1) [(m, y)] L := by
  refine ⟨[.slice A m c], ⟨rfl, .inr ⟨w.heap.size, 1, #[.slice A m c], rfl, hb, heap_alloc_new w _, by simp, by simp [maxLen], rfl, rfl⟩⟩, fun i p hp => ?_⟩
  have hi : i = 0 := by
    rcases Nat.eq_zero_or_pos i with h | h
    · exact h
    · rw [List.getElem?_eq_none (by simp; omega)] at hp; cases hp
  subst hi
  obtain rfl := Option.some.inj hp
  exact ⟨A, c, rfl, hy.alloc _, hm⟩

theorem chainR_zero (f n : Nat) (z y : Row) : chainR f n z 0 y = [] := by
  cases f with
  | zero => rfl
  | succ f => show (if 0 = 0 then _ else _) = _; rw [if_pos rfl]
theorem chainR_step (f n m : Nat) (z y : Row) (h : 1 ≤ m) : chainR (f + 1) n z m y = (m, y) :: chainR f m y (restR m y n n z).1 (fun i => -(restR m y n n z).2 i) := by
  show (if m = 0 then _ else _) = _
  rw [if_neg (by omega)]
theorem bound8 (k nb : Nat) (hn : nb ≤ 7) : 3 * 8 ^ k - 1 + nb * (3 * 8 ^ k - 1 + 1) ≤ 3 * 8 ^ (k + 1) - 1 := by
  have h1 : 1 ≤ 8 ^ k := Nat.le_trans Nat.one_le_two_pow (Nat.pow_le_pow_left (show 2 ≤ 8 by omega) k)
  rw [Nat.pow_succ, show 3 * 8 ^ k - 1 + 1 = 3 * 8 ^ k by omega]
  have h2 := Nat.mul_le_mul_right (3 * 8 ^ k) hn
  omega
theorem bound6 (k : Nat) (hk : k ≤ 6) : 3 * 8 ^ k - 1 ≤ 786431 := by
  have h1 : 8 ^ k ≤ 8 ^ 6 := Nat.pow_le_pow_right (by omega) hk
  omega

set_option maxRecDepth 100000 in
set_option maxHeartbeats 4000000 in
theorem sturmOf_any (A : Option Addr) (n c : Nat) (p : Row) (w : World) (hA : IS w A n p) (hn : 1 ≤ n) (hn' : n ≤ 7) :
    Calls Try.prog 110 #[.slice A n c] w fun e w' => ∃ g c', e = .returned (.slice (some ⟨g, 0, none⟩) (sturmR n p).length c') ∧ ST w' (some ⟨g, 0, none⟩) (sturmR n p) 786431 ∧ (sturmR n p).length ≤ 8 ∧ Below w.heap.size w w' := by
  obtain ⟨i0, hi0, hz0, hz1, hz2⟩ := info_poly_parts
  go_enter Try.func110, Try.ntmps110
  go_wp2_with (go_at_call 105; refine (longPoly_any A n c p _ (by exact hA) (by omega)).mono ?_; rintro e w1 ⟨g1, rfl, hR1, B1⟩)
  have hP1 : PA (w1.alloc (.cells #[.slice (some ⟨g1, 0, none⟩) n n] 111)) (some ⟨g1, 0, none⟩) n p 1 := PA.alloc (PA.of hR1) _
  have hS1 := SO.new (base := w.heap.size) (c := n) B1.size (PA.of hR1) (by omega)
  have hB1 : Below w.heap.size w (w1.alloc (.cells #[.slice (some ⟨g1, 0, none⟩) n n] 111)) := B1.alloc B1.size _
  clear hR1
  go_wp2_with (go_at_call 131; refine (derivative_any _ n n p 1 _ (by exact hP1) (by omega) (by omega)).mono ?_; rintro e w2 ⟨A2, c2, rfl, hP2, B2⟩)
  have hPb2 : PA w2 (some ⟨g1, 0, none⟩) n p 2 := (hP1.below (Nat.le_refl _) B2).more (by omega)
  have hS2 : SO w2 w.heap.size (.slice (some ⟨w1.heap.size, 0, none⟩) 1 1) [(n, p)] 786431 := (hS1.below B2).more (by omega)
  have hB2 : Below w.heap.size w w2 := hB1.trans (B2.mono hB1.size)
  have hn1 : n - 1 + 1 = n := by omega
  clear hP1 hS1 hB1 B1 B2
  go_wp2_with fail
  go_loopw [3, 4, 5] (fun bv sv lv wr => ∃ (k nb ml f : Nat) (zb zl : Row) (Ab Al : Option Addr) (cb cl : Nat) (acc : List (Nat × Row)), bv = .slice Ab nb cb ∧ lv = .slice Al ml cl ∧ 1 ≤ nb ∧ nb ≤ 7 ∧ ml ≤ f ∧ k + ml ≤ 6 ∧ acc.length = k + 1 ∧ Hid (PA wr Ab nb zb (3 * 8 ^ k - 1)) ∧ Hid (PA wr Al ml zl (3 * 8 ^ k - 1)) ∧ Hid (SO wr w.heap.size sv acc 786431) ∧ Hid (acc ++ chainR f nb zb ml zl = sturmR n p) ∧ Below w.heap.size w wr) (fun _ _ lv _ => lenOfS lv)
  case atStart => exact ⟨0, n, n - 1, n, p, dRow p, _, _, _, _, [(n, p)], rfl, rfl, hn, hn', by omega, by omega, rfl, hPb2, hP2, hS2, rfl, hB2⟩
  case round =>
    obtain ⟨k, nb, ml, f, zb, zl, Ab, Al, cb, cl, acc, rfl, rfl, hnb, hnb', hmf, hkm, hacc, HPb, HPl, HS, HC, hB⟩ := hrel
    clear hPb2 hP2 hS2 hB2
    obtain ⟨gs, cs, rfl⟩ := HS.out.form (by omega)
    by_cases hml : 1 ≤ ml
    · have hml' : (0 : Int) < ml := by omega
      obtain ⟨f1, hf1⟩ : ∃ f1, f = f1 + 1 := ⟨f - 1, by omega⟩
      subst hf1
      have HC2 := HC.out
      rw [chainR_step f1 nb ml zb zl hml] at HC2
      have hmr := restR_lt (q := zl) hml nb nb zb (Nat.le_refl _)
      have HC3 := Lib.hid HC2
      clear HC2 HC
      obtain ⟨xs, ho, hx⟩ := HS.out
      have HX := Lib.hid hx
      have HOW := Lib.hid ho
      clear hx ho
      have hb6 := bound6 k (by omega)
      have hb8 := bound8 k nb hnb'
      generalize hLe : 3 * 8 ^ k - 1 = L at *
      go_wp2_with (at_builtin; refine wpList_append_lies _ rfl _ _ _ rfl w.heap.size 111 i0 _ 1 24 Try.underlying119 hi0 hz0 hz1 hz2 rfl (by omega) (.slice (some ⟨gs, 0, none⟩) acc.length cs) acc.length xs rfl (owns_below HOW.out ((Below.refl _ _).alloc (Nat.le_refl _) _)) ⟨wr.heap.size, 0, none⟩ 1 1 [.slice Al ml cl] rfl rfl (World.news_of_block (cs := #[.slice Al ml cl]) (t := 111) (fr := (0, 0)) (heap_alloc_new wr _)) (by simp [Value.oneCell']) (by omega) (by simp only [maxLen]; omega) (by omega) (by have := hB.size; simp; omega) (wr.heap.size + 1) (by simp) ?_)
      intro gg cap w4 hown4 hgrow4 hat4 hlt4
      have KA : Below wr.heap.size wr (wr.alloc (.cells #[.slice Al ml cl] 111)) := (Below.refl _ _).alloc (Nat.le_refl _) _
      have hSA := HS.out.below KA
      have hf := hSA.first (by omega)
      rw [← hacc] at hown4
      have HS4 := Lib.hid (SO.more1 hSA (by omega) xs (owns_below HOW.out KA) (fun i p hp => by
        obtain ⟨Ai, ci, k1, k2, k3⟩ := HX.out i p hp
        exact ⟨Ai, ci, k1, k2.below (Nat.le_refl _) KA, k3⟩) ((HPl.out.below (Nat.le_refl _) KA).more hb6) (by omega) hown4 hgrow4)
      have HPb4 := Lib.hid ((HPb.out.below (Nat.le_refl _) KA).grownS hgrow4 hf)
      have HPl4 := Lib.hid ((HPl.out.below (Nat.le_refl _) KA).grownS hgrow4 hf)
      have hlt5 := HOW.out.lt
      have hB4 : Below w.heap.size w w4 := (hB.trans (KA.mono hB.size)).grown hgrow4 (by have := hB.size; simp; omega) (fun j hj => (hlt5 j hj).1)
      clear hown4 hlt5 hat4 hSA hf KA HPb HPl HS HX HOW hgrow4
      go_wp2_with (go_at_call 132; refine (rest_any Ab Al nb ml cb cl zb zl L L _ (by exact HPb4.out) (by exact HPl4.out) hnb hml (by omega) (by omega) (by omega) (by omega)).mono ?_; rintro e w5 ⟨g, c5, rfl, hge, hR5, hle5, B5⟩)
      generalize hRe : restR ml zl nb nb zb = R at *
      obtain ⟨mr, r⟩ := R
      dsimp only at *
      have HR5 := Lib.hid (hR5.more hb8)
      have hgl := hR5.1
      clear hR5
      go_wp2_with fail
      go_loopw [27] (fun i wi => ∃ (j : Nat) (z : Row), j ≤ mr ∧ i = .int .i64 j ∧ Hid (∀ t, t < j → z t = -r t) ∧ Hid (∀ t, j ≤ t → z t = r t) ∧ Hid (PR wi g mr z (3 * 8 ^ (k + 1) - 1)) ∧ Below w4.heap.size w4 wi) (fun i _ => mr - (intOf i).toNat)
      case atStart => exact ⟨0, r, by omega, rfl, fun t h => by omega, fun _ _ => rfl, HR5.out, B5⟩
      case round =>
        obtain ⟨j, z, hj, rfl, HZ1, HZ2, HR, hBi⟩ := hrel
        clear HR5 B5
        by_cases hlt : j < mr
        · have hlt' : (j : Int) < mr := by omega
          obtain ⟨bj, sj, c0, c1, f0, f1', gj⟩ := HR.out.2 j hlt
          obtain ⟨Aj, nj, cj, rfl⟩ := gj.form
          have hgr := HR.out.1
          go_wp2_with (go_at_call 133; refine (opposite_any bj _ _ _ _ (by exact gj.below (Nat.le_refl _) ((Below.refl _ _).alloc (Nat.le_refl _) _))).mono ?_; rintro e w6 ⟨b2, s2, rfl, hL, B6⟩; have KB6 := ((Below.refl wr.heap.size wr).alloc (Nat.le_refl _) (Obj.cells #[Value.bool bj, Value.slice Aj nj cj] 130)).trans (B6.mono (by simp)); have d0 := (KB6.cell (p := ⟨g, j * 2, none⟩) hgr).trans c0; have d1 := (KB6.cell (p := ⟨g, j * 2 + 1, none⟩) hgr).trans c1; have d2 := (KB6.frozen (p := ⟨g, j * 2, none⟩) hgr).trans f0; have d3 := (KB6.frozen (p := ⟨g, j * 2 + 1, none⟩) hgr).trans f1'; obtain ⟨A3, n3, c3, rfl⟩ := hL.form)
          go_roundw
          case rel =>
            exact ⟨j + 1, _, by omega, by go_num, fun t ht => by
              by_cases e : t = j
              · subst e; rw [upd_same, HZ2.out t (Nat.le_refl _)]
              · rw [upd_other e]; exact HZ1.out t (by omega), fun t ht => by
              rw [upd_other (by omega)]; exact HZ2.out t (by omega), (HR.out.below (Nat.le_refl _) KB6).set hlt hL, ((hBi.trans (KB6.mono hBi.size)).setCell hge _).setCell hge _⟩
          case measure => simp [intOf]; omega
        · obtain rfl : j = mr := by omega
          have HR8 := Lib.hid (HR.out.congr (y := fun i => -r i) (fun i hi => HZ1.out i hi))
          clear HZ1 HZ2 HR
          go_wp2
          go_roundw
          case rel =>
            refine ⟨k + 1, ml, j, f1, zl, _, Al, _, cl, _, acc ++ [(ml, zl)], rfl, rfl, hml, by omega, by omega, by omega, by simp [hacc], ((HPl4.out.below (Nat.le_refl _) hBi).more ?_), PA.of HR8.out, by have h0 := HS4.out.below hBi; rw [hacc] at h0; exact h0, by rw [List.append_assoc]; exact HC3.out, hB4.trans (hBi.mono hB4.size)⟩
            have h1 : 8 ^ k ≤ 8 ^ (k + 1) := Nat.pow_le_pow_right (by omega) (by omega)
            omega
          case measure => simp [lenOfS]; omega
    · obtain rfl : ml = 0 := by omega
      have HC2 := HC.out
      rw [chainR_zero, List.append_nil] at HC2
      subst HC2
      have HS2 := HS.out.st
      go_wp2
      go_ret
      exact ⟨gs, cs, by first | rfl | (rw [hacc]; rfl) | (simp [hacc]; done), HS2, by omega, hB⟩

end Go.Proofs.Ytfnmnnbmhfbkbaa

/-! W23 -/
namespace Go.Proofs.Ytfnmnnbmhfbkbaa
open Go.RowKit

/-- All of the first ones are at most a million. -/
def okP (p : Row) : Nat → Bool
  | 0 => true
  | k + 1 => okP p k && decide (sz (p k) ≤ 1000000)
theorem okP_all {p : Row} : ∀ {n : Nat}, okP p n = true → ∀ i, i < n → sz (p i) ≤ 1000000
  | 0, _, i, h => by omega
  | n + 1, h, i, hi => by
    unfold okP at h
    rw [Bool.and_eq_true, decide_eq_true_iff] at h
    rcases Nat.eq_or_lt_of_le (Nat.le_of_lt_succ hi) with e | e
    · subst e; exact h.2
    · exact okP_all h.1 i e
theorem okP_not {p : Row} {k n : Nat} (hk : k < n) (h : ¬ sz (p k) ≤ 1000000) : okP p n = false := by
  cases hb : okP p n with
  | false => rfl
  | true => exact absurd (okP_all hb k hk) h
def ckP (n : Nat) (p : Row) : Int := if n < 1 ∨ 7 < n then 10 else if okP p n = false then 2 else if p (n - 1) = 0 then 3 else 0

set_option maxHeartbeats 1000000 in
theorem checkPoly_any (A : Option Addr) (n c : Nat) (p : Row) (w : World) (hA : IS w A n p) (hn : n ≤ 1000000) :
    Calls Try.prog 67 #[.slice A n c] w fun e w' => e = .returned (.int .i64 (ckP n p)) ∧ Below w.heap.size w w' := by
  by_cases h1 : n < 1
  · obtain rfl : n = 0 := by omega
    have HR := Lib.hid (show ckP 0 p = 10 by unfold ckP; rw [if_pos (by omega)])
    go_enter Try.func67, Try.ntmps67
    go_wp2
    go_ret
    exact ⟨ret_int HR.out.symm, Below.refl _ _⟩
  · by_cases h7 : 7 < n
    · have h1' : ¬ (n : Int) < 1 := by omega
      have h7' : (7 : Int) < n := by omega
      have HR := Lib.hid (show ckP n p = 10 by unfold ckP; rw [if_pos (by omega)])
      go_enter Try.func67, Try.ntmps67
      go_wp2
      go_ret
      exact ⟨ret_int HR.out.symm, by repeat (first | exact Below.refl _ _ | refine Below.drew ?_ | refine Below.drewN' ?_ _)⟩
    · have h1' : ¬ (n : Int) < 1 := by omega
      have h7' : ¬ (7 : Int) < n := by omega
      have HR := Lib.hid (show ckP n p = if okP p n = false then 2 else if p (n - 1) = 0 then 3 else 0 by unfold ckP; rw [if_neg (by omega)])
      obtain ⟨b1, off, rfl, hb1, hcl1⟩ := hA.2 (by omega)
      have hI := hA.1
      go_enter Try.func67, Try.ntmps67
      go_wp2
      go_loopw [2, 15] (fun r i wr => ∃ k : Nat, k ≤ n ∧ i = .int .i64 k ∧ r = .int .i64 0 ∧ Hid (okP p k = true) ∧ Below w.heap.size w wr) (fun _ i _ => n - (intOf i).toNat)
      case atStart => exact ⟨0, by omega, rfl, rfl, rfl, by repeat (first | exact Below.refl _ _ | refine Below.drew ?_ | refine Below.drewN' ?_ _)⟩
      case round =>
        obtain ⟨k, hk, rfl, rfl, HK, hB⟩ := hrel
        by_cases hlt : k < n
        · have hlt' : (k : Int) < n := by omega
          have hcx := (hB.cell (p := ⟨b1, off + k, none⟩) hb1).trans (hcl1 k hlt)
          have hx := hI k hlt
          have hs0 := sz_nonneg (p k)
          by_cases hs : sz (p k) ≤ 1000000
          · have hs' : ¬ 1000000 < sz (p k) := by omega
            have HO := Lib.hid (show okP p (k + 1) = true by unfold okP; rw [HK.out]; simpa using hs)
            go_wp2_with (go_at_call 87; refine (size_any _ _ hx.1 hx.2).mono ?_; rintro e w1 ⟨rfl, rfl⟩)
            go_roundw
            case rel => exact ⟨k + 1, by omega, by go_num, rfl, HO.out, hB⟩
            case measure => simp [intOf]; omega
          · have hs' : 1000000 < sz (p k) := by omega
            have HO := Lib.hid (okP_not hlt hs)
            go_wp2_with (go_at_call 87; refine (size_any _ _ hx.1 hx.2).mono ?_; rintro e w1 ⟨rfl, rfl⟩)
            go_ret
            exact ⟨ret_int (by rw [HR.out, if_pos HO.out]), hB⟩
        · obtain rfl : k = n := by omega
          have hcx := (hB.cell (p := ⟨b1, off + (k - 1), none⟩) hb1).trans (hcl1 (k - 1) (by omega))
          have hidx : ((k : Int) - 1).toNat = k - 1 := by omega
          by_cases hz : p (k - 1) = 0
          · have HZ := Lib.hid (show ckP k p = 3 by rw [HR.out, if_neg (by rw [HK.out]; simp), if_pos hz])
            rw [hz] at hcx
            go_wp2
            go_ret
            exact ⟨ret_int HZ.out.symm, hB⟩
          · have HZ := Lib.hid (show ckP k p = 0 by rw [HR.out, if_neg (by rw [HK.out]; simp), if_neg hz])
            go_wp2
            go_ret
            exact ⟨ret_int HZ.out.symm, hB⟩

end Go.Proofs.Ytfnmnnbmhfbkbaa

/-! W24 -/
namespace Go.Proofs.Ytfnmnnbmhfbkbaa
open Go.RowKit

def ckR (n : Nat) (p : Row) (a b c d : Int) : Int := if ckP n p ≠ 0 then ckP n p else if (cmpN a b c d).2 = 0 ∧ 0 ≤ (cmpN a b c d).1 then 9 else (cmpN a b c d).2

set_option maxHeartbeats 1000000 in
theorem checkRoots_any (A : Option Addr) (n cc : Nat) (p : Row) (a b c d : Int) (w : World) (hA : IS w A n p) (hn : n ≤ 1000000) (ha : I64 a) (hb : I64 b) (hc : I64 c) (hd : I64 d) :
    Calls Try.prog 109 #[.slice A n cc, .agg #[.int .i64 a, .int .i64 b], .agg #[.int .i64 c, .int .i64 d]] w fun e w' => e = .returned (.int .i64 (ckR n p a b c d)) ∧ Below w.heap.size w w' := by
  by_cases hp : ckP n p = 0
  · have hp' : (ckP n p != 0) = false := by rw [hp]; rfl
    have HP := Lib.hid (show ckR n p a b c d = if (cmpN a b c d).2 = 0 ∧ 0 ≤ (cmpN a b c d).1 then 9 else (cmpN a b c d).2 by unfold ckR; rw [if_neg (by omega)])
    clear hp
    generalize hcm : cmpN a b c d = R at *
    obtain ⟨o, er⟩ := R
    have HCM := Lib.hid hcm
    dsimp only at HP
    clear hcm
    by_cases he : er = 0
    · subst he
      by_cases ho : 0 ≤ o
      · have HR := Lib.hid (show ckR n p a b c d = 9 by rw [HP.out, if_pos ⟨rfl, ho⟩])
        clear HP
        go_enter Try.func109, Try.ntmps109
        go_wp2_with (first
          | (go_at_call 67; refine (checkPoly_any A n cc p _ (by exact hA.below (Nat.le_refl _) (by repeat (first | exact Below.refl _ _ | refine Below.drew ?_ | refine Below.drewN' ?_ _ | refine Below.alloc ?_ (by first | exact Nat.le_refl _ | (simp; done) | (simp; omega)) _))) hn).mono ?_; rintro e w1 ⟨rfl, B1⟩; obtain ⟨hcK, hfK⟩ := bcell B1; have u0 : w1.cell? ⟨w.heap.size, 0, none⟩ = some (.int .i64 a) := (by rw [hcK _ _ (by simp <;> omega)]; simp [go_sem, World.cell?_alloc_past]); have u1 : w1.cell? ⟨w.heap.size, 1, none⟩ = some (.int .i64 b) := (by rw [hcK _ _ (by simp <;> omega)]; simp [go_sem, World.cell?_alloc_past]); have u2 : w1.cell? ⟨w.heap.size + 1, 0, none⟩ = some (.int .i64 c) := (by rw [hcK _ _ (by simp <;> omega)]; simp [go_sem, World.cell?_alloc_past]); have u3 : w1.cell? ⟨w.heap.size + 1, 1, none⟩ = some (.int .i64 d) := (by rw [hcK _ _ (by simp <;> omega)]; simp [go_sem, World.cell?_alloc_past]); have KB1 : Below w.heap.size w w1 := (((by repeat (first | exact Below.refl _ _ | refine Below.drew ?_ | refine Below.drewN' ?_ _ | refine Below.alloc ?_ (by first | exact Nat.le_refl _ | (simp; done) | (simp; omega)) _)) : Below w.heap.size w _).trans (B1.mono (by simp; omega))))
          | (go_at_call 25; refine (cmp_any a b c d _ ha hb hc hd).mono ?_; rw [HCM.out]; rintro e w2 ⟨rfl, B2⟩; have KB2 := KB1.trans (B2.mono KB1.size)))
        go_ret
        exact ⟨ret_int HR.out.symm, KB2⟩
      · have ho' : ¬ (0 : Int) ≤ o := ho
        have HR := Lib.hid (show ckR n p a b c d = 0 by rw [HP.out, if_neg (fun h => ho h.2)])
        clear HP
        go_enter Try.func109, Try.ntmps109
        go_wp2_with (first
          | (go_at_call 67; refine (checkPoly_any A n cc p _ (by exact hA.below (Nat.le_refl _) (by repeat (first | exact Below.refl _ _ | refine Below.drew ?_ | refine Below.drewN' ?_ _ | refine Below.alloc ?_ (by first | exact Nat.le_refl _ | (simp; done) | (simp; omega)) _))) hn).mono ?_; rintro e w1 ⟨rfl, B1⟩; obtain ⟨hcK, hfK⟩ := bcell B1; have u0 : w1.cell? ⟨w.heap.size, 0, none⟩ = some (.int .i64 a) := (by rw [hcK _ _ (by simp <;> omega)]; simp [go_sem, World.cell?_alloc_past]); have u1 : w1.cell? ⟨w.heap.size, 1, none⟩ = some (.int .i64 b) := (by rw [hcK _ _ (by simp <;> omega)]; simp [go_sem, World.cell?_alloc_past]); have u2 : w1.cell? ⟨w.heap.size + 1, 0, none⟩ = some (.int .i64 c) := (by rw [hcK _ _ (by simp <;> omega)]; simp [go_sem, World.cell?_alloc_past]); have u3 : w1.cell? ⟨w.heap.size + 1, 1, none⟩ = some (.int .i64 d) := (by rw [hcK _ _ (by simp <;> omega)]; simp [go_sem, World.cell?_alloc_past]); have KB1 : Below w.heap.size w w1 := (((by repeat (first | exact Below.refl _ _ | refine Below.drew ?_ | refine Below.drewN' ?_ _ | refine Below.alloc ?_ (by first | exact Nat.le_refl _ | (simp; done) | (simp; omega)) _)) : Below w.heap.size w _).trans (B1.mono (by simp; omega))))
          | (go_at_call 25; refine (cmp_any a b c d _ ha hb hc hd).mono ?_; rw [HCM.out]; rintro e w2 ⟨rfl, B2⟩; have KB2 := KB1.trans (B2.mono KB1.size)))
        go_ret
        exact ⟨ret_int HR.out.symm, KB2⟩
    · have he' : (er == 0) = false := by simpa using he
      have HR := Lib.hid (show ckR n p a b c d = er by rw [HP.out, if_neg (fun h => he h.1)])
      clear HP he
      go_enter Try.func109, Try.ntmps109
      go_wp2_with (first
        | (go_at_call 67; refine (checkPoly_any A n cc p _ (by exact hA.below (Nat.le_refl _) (by repeat (first | exact Below.refl _ _ | refine Below.drew ?_ | refine Below.drewN' ?_ _ | refine Below.alloc ?_ (by first | exact Nat.le_refl _ | (simp; done) | (simp; omega)) _))) hn).mono ?_; rintro e w1 ⟨rfl, B1⟩; obtain ⟨hcK, hfK⟩ := bcell B1; have u0 : w1.cell? ⟨w.heap.size, 0, none⟩ = some (.int .i64 a) := (by rw [hcK _ _ (by simp <;> omega)]; simp [go_sem, World.cell?_alloc_past]); have u1 : w1.cell? ⟨w.heap.size, 1, none⟩ = some (.int .i64 b) := (by rw [hcK _ _ (by simp <;> omega)]; simp [go_sem, World.cell?_alloc_past]); have u2 : w1.cell? ⟨w.heap.size + 1, 0, none⟩ = some (.int .i64 c) := (by rw [hcK _ _ (by simp <;> omega)]; simp [go_sem, World.cell?_alloc_past]); have u3 : w1.cell? ⟨w.heap.size + 1, 1, none⟩ = some (.int .i64 d) := (by rw [hcK _ _ (by simp <;> omega)]; simp [go_sem, World.cell?_alloc_past]); have KB1 : Below w.heap.size w w1 := (((by repeat (first | exact Below.refl _ _ | refine Below.drew ?_ | refine Below.drewN' ?_ _ | refine Below.alloc ?_ (by first | exact Nat.le_refl _ | (simp; done) | (simp; omega)) _)) : Below w.heap.size w _).trans (B1.mono (by simp; omega))))
        | (go_at_call 25; refine (cmp_any a b c d _ ha hb hc hd).mono ?_; rw [HCM.out]; rintro e w2 ⟨rfl, B2⟩; have KB2 := KB1.trans (B2.mono KB1.size)))
      go_ret
      exact ⟨ret_int HR.out.symm, KB2⟩
  · have hp' : (ckP n p != 0) = true := by simpa using hp
    have HR := Lib.hid (show ckR n p a b c d = ckP n p by unfold ckR; rw [if_pos hp])
    clear hp
    go_enter Try.func109, Try.ntmps109
    go_wp2_with (first
      | (go_at_call 67; refine (checkPoly_any A n cc p _ (by exact hA.below (Nat.le_refl _) (by repeat (first | exact Below.refl _ _ | refine Below.drew ?_ | refine Below.drewN' ?_ _ | refine Below.alloc ?_ (by first | exact Nat.le_refl _ | (simp; done) | (simp; omega)) _))) hn).mono ?_; rintro e w1 ⟨rfl, B1⟩; obtain ⟨hcK, hfK⟩ := bcell B1; have u0 : w1.cell? ⟨w.heap.size, 0, none⟩ = some (.int .i64 a) := (by rw [hcK _ _ (by simp <;> omega)]; simp [go_sem, World.cell?_alloc_past]); have u1 : w1.cell? ⟨w.heap.size, 1, none⟩ = some (.int .i64 b) := (by rw [hcK _ _ (by simp <;> omega)]; simp [go_sem, World.cell?_alloc_past]); have u2 : w1.cell? ⟨w.heap.size + 1, 0, none⟩ = some (.int .i64 c) := (by rw [hcK _ _ (by simp <;> omega)]; simp [go_sem, World.cell?_alloc_past]); have u3 : w1.cell? ⟨w.heap.size + 1, 1, none⟩ = some (.int .i64 d) := (by rw [hcK _ _ (by simp <;> omega)]; simp [go_sem, World.cell?_alloc_past]); have KB1 : Below w.heap.size w w1 := (((by repeat (first | exact Below.refl _ _ | refine Below.drew ?_ | refine Below.drewN' ?_ _ | refine Below.alloc ?_ (by first | exact Nat.le_refl _ | (simp; done) | (simp; omega)) _)) : Below w.heap.size w _).trans (B1.mono (by simp; omega)))))
    go_ret
    exact ⟨ret_int HR.out.symm, KB1⟩

end Go.Proofs.Ytfnmnnbmhfbkbaa

/-! W25 -/
namespace Go.Proofs.Ytfnmnnbmhfbkbaa
open Go.RowKit

def rootsInN (n : Nat) (p : Row) (a b c d : Int) : Int × Int := if ckR n p a b c d ≠ 0 then (0, ckR n p a b c d) else (rootsL (sturmR n p) a b c d, 0)
theorem ckP_zero {n : Nat} {p : Row} (h : ckP n p = 0) : 1 ≤ n ∧ n ≤ 7 ∧ (∀ i, i < n → sz (p i) ≤ 1000000) ∧ p (n - 1) ≠ 0 := by
  unfold ckP at h
  split at h
  · omega
  · split at h
    · omega
    · split at h
      · omega
      · rename_i h1 h2 h3
        refine ⟨by omega, by omega, okP_all (by simpa using h2), h3⟩
theorem ckR_zero {n : Nat} {p : Row} {a b c d : Int} (h : ckR n p a b c d = 0) : ckP n p = 0 ∧ (cmpN a b c d).2 = 0 ∧ (cmpN a b c d).1 < 0 := by
  unfold ckR at h
  split at h
  · rename_i h1; exact absurd h h1
  · split at h
    · omega
    · rename_i h1 h2
      refine ⟨by omega, h, ?_⟩
      rcases Int.lt_or_le (cmpN a b c d).1 0 with h3 | h3
      · exact h3
      · exact absurd ⟨h, h3⟩ h2

set_option maxHeartbeats 1000000 in
theorem rootsIn_any (A : Option Addr) (n cc : Nat) (p : Row) (a b c d : Int) (w : World) (hA : IS w A n p) (hn : n ≤ 1000000) (ha : I64 a) (hb : I64 b) (hc : I64 c) (hd : I64 d) :
    Calls Try.prog 75 #[.slice A n cc, .agg #[.int .i64 a, .int .i64 b], .agg #[.int .i64 c, .int .i64 d]] w fun e w' => e = .returned (.tuple #[.int .i64 (rootsInN n p a b c d).1, .int .i64 (rootsInN n p a b c d).2]) ∧ Below w.heap.size w w' := by
  by_cases he : ckR n p a b c d = 0
  · have he' : (ckR n p a b c d != 0) = false := by rw [he]; rfl
    have HR := Lib.hid (show rootsInN n p a b c d = (rootsL (sturmR n p) a b c d, 0) by unfold rootsInN; rw [if_neg (by omega)])
    obtain ⟨hz, -, -⟩ := ckR_zero he
    obtain ⟨n1, n7, -, -⟩ := ckP_zero hz
    clear he hz
    have tok1 : True := trivial
    go_enter Try.func75, Try.ntmps75
    go_wp2_with (go_at_call 109; refine (checkRoots_any A n cc p a b c d _ (by exact hA.below (Nat.le_refl _) (by repeat (first | exact Below.refl _ _ | refine Below.drew ?_ | refine Below.drewN' ?_ _ | refine Below.alloc ?_ (by first | exact Nat.le_refl _ | (simp; done) | (simp; omega)) _))) hn ha hb hc hd).mono ?_; rintro e w1 ⟨rfl, B1⟩; obtain ⟨hcK, hfK⟩ := bcell B1; have u0 : w1.cell? ⟨w.heap.size, 0, none⟩ = some (.int .i64 a) := (by rw [hcK _ _ (by simp <;> omega)]; simp [go_sem, World.cell?_alloc_past]); have u1 : w1.cell? ⟨w.heap.size, 1, none⟩ = some (.int .i64 b) := (by rw [hcK _ _ (by simp <;> omega)]; simp [go_sem, World.cell?_alloc_past]); have u2 : w1.cell? ⟨w.heap.size + 1, 0, none⟩ = some (.int .i64 c) := (by rw [hcK _ _ (by simp <;> omega)]; simp [go_sem, World.cell?_alloc_past]); have u3 : w1.cell? ⟨w.heap.size + 1, 1, none⟩ = some (.int .i64 d) := (by rw [hcK _ _ (by simp <;> omega)]; simp [go_sem, World.cell?_alloc_past]); have KB1 : Below w.heap.size w w1 := (((by repeat (first | exact Below.refl _ _ | refine Below.drew ?_ | refine Below.drewN' ?_ _ | refine Below.alloc ?_ (by first | exact Nat.le_refl _ | (simp; done) | (simp; omega)) _)) : Below w.heap.size w _).trans (B1.mono (by simp; omega))); have zz1 : w.heap.size + 2 ≤ w1.heap.size := (by have := B1.size; simp at this; omega))
    clear hcK hfK
    go_region_held3 (fun w' => w'.cell? ⟨w.heap.size, 0, none⟩ = some (.int .i64 a) ∧ w'.cell? ⟨w.heap.size, 1, none⟩ = some (.int .i64 b) ∧ w'.cell? ⟨w.heap.size + 1, 0, none⟩ = some (.int .i64 c) ∧ w'.cell? ⟨w.heap.size + 1, 1, none⟩ = some (.int .i64 d))
      (first | (exact ⟨y0, y1, y2, y3⟩) | (exact ⟨v0, v1, v2, v3⟩) | (exact ⟨u0, u1, u2, u3⟩) | (refine ⟨?_, ?_, ?_, ?_⟩ <;> simp [go_sem, *]; done))
      (first
        | (go_at_call 110; refine (sturmOf_any A n cc p _ (by exact hA.below (Nat.le_refl _) (by first | exact KB1 | exact KB1.drew | exact KB1.drewN' _)) n1 n7).mono ?_; rintro e w2 ⟨g, cg, rfl, HST, hlen, B2⟩; have v0 := (B2.cell (p := ⟨w.heap.size, 0, none⟩) (by show w.heap.size < w1.heap.size; omega)).trans u0; have v1 := (B2.cell (p := ⟨w.heap.size, 1, none⟩) (by show w.heap.size < w1.heap.size; omega)).trans u1; have v2 := (B2.cell (p := ⟨w.heap.size + 1, 0, none⟩) (by show w.heap.size + 1 < w1.heap.size; omega)).trans u2; have v3 := (B2.cell (p := ⟨w.heap.size + 1, 1, none⟩) (by show w.heap.size + 1 < w1.heap.size; omega)).trans u3; have KB2 : Below w.heap.size w w2 := (by first | exact KB1.trans (B2.mono (by show w.heap.size ≤ w1.heap.size; omega)) | exact (Below.drew KB1).trans (B2.mono (by show w.heap.size ≤ w1.heap.size; omega))); have zz2 : w.heap.size + 2 ≤ w2.heap.size := (by have := B2.size; simp at this; omega))
        | (go_at_call 111; refine (rootsIn0_any (some ⟨g, 0, none⟩) (sturmR n p) _ cg 786431 a b c d _ (by exact HST) rfl (by omega) (by omega) ha hb hc hd).mono ?_; rintro e w3 ⟨rfl, B3⟩; have y0 := (B3.cell (p := ⟨w.heap.size, 0, none⟩) (by show w.heap.size < w2.heap.size; omega)).trans v0; have y1 := (B3.cell (p := ⟨w.heap.size, 1, none⟩) (by show w.heap.size < w2.heap.size; omega)).trans v1; have y2 := (B3.cell (p := ⟨w.heap.size + 1, 0, none⟩) (by show w.heap.size + 1 < w2.heap.size; omega)).trans v2; have y3 := (B3.cell (p := ⟨w.heap.size + 1, 1, none⟩) (by show w.heap.size + 1 < w2.heap.size; omega)).trans v3))
    go_wp2
    go_ret2
    exact ⟨by rw [HR.out]; rfl, KB2.trans (B3.mono KB2.size)⟩
  · have he' : (ckR n p a b c d != 0) = true := by simpa using he
    have HR := Lib.hid (show rootsInN n p a b c d = (0, ckR n p a b c d) by unfold rootsInN; rw [if_pos he])
    clear he
    go_enter Try.func75, Try.ntmps75
    go_wp2_with (go_at_call 109; refine (checkRoots_any A n cc p a b c d _ (by exact hA.below (Nat.le_refl _) (by repeat (first | exact Below.refl _ _ | refine Below.drew ?_ | refine Below.drewN' ?_ _ | refine Below.alloc ?_ (by first | exact Nat.le_refl _ | (simp; done) | (simp; omega)) _))) hn ha hb hc hd).mono ?_; rintro e w1 ⟨rfl, B1⟩; have KB1 : Below w.heap.size w w1 := (((by repeat (first | exact Below.refl _ _ | refine Below.drew ?_ | refine Below.drewN' ?_ _ | refine Below.alloc ?_ (by first | exact Nat.le_refl _ | (simp; done) | (simp; omega)) _)) : Below w.heap.size w _).trans (B1.mono (by simp; omega))))
    go_ret2
    exact ⟨by rw [HR.out]; rfl, KB1⟩

end Go.Proofs.Ytfnmnnbmhfbkbaa

/-! W26 -/
namespace Go.Proofs.Ytfnmnnbmhfbkbaa
open Go.RowKit

def pAw : Row := fun i => if i = 0 then -2 else if i = 2 then 1 else 0
theorem IS.aw (w : World) : IS (w.alloc (.cells #[.int .i64 (-2), .int .i64 0, .int .i64 1] 3)) (some ⟨w.heap.size, 0, none⟩) 3 pAw :=
  ⟨fun i hi => by unfold pAw I64; split <;> (try split) <;> omega, fun _ => ⟨w.heap.size, 0, rfl, by simp, fun j hj => by
    have : j = 0 ∨ j = 1 ∨ j = 2 := by omega
    rcases this with rfl | rfl | rfl <;> simp [go_sem, pAw]⟩⟩
theorem addAw : addN 1 2 1 3 = (5, 6, 0) := by decide +kernel
theorem sqrtAw : sqrtN 2 1 1000 = (1414, 1415, 0) := by decide +kernel
theorem rootsAw : rootsInN 3 pAw (-2) 1 2 1 = (2, 0) := by decide +kernel
theorem sinAw : sinN 108000 1000 = (499, 501, 0) := by decide +kernel

set_option maxRecDepth 100000 in
set_option maxHeartbeats 4000000 in
theorem awake_any (w : World) : Calls Try.prog 20 #[] w fun e w' => e = .returned (.bool true) ∧ Below w.heap.size w w' := by
  have i1 : I64 1 := by unfold I64; omega
  have i2 : I64 2 := by unfold I64; omega
  have i3 : I64 3 := by unfold I64; omega
  have i4 : I64 (-2) := by unfold I64; omega
  have i5 : I64 1000 := by unfold I64; omega
  have i6 : I64 108000 := by unfold I64; omega
  go_enter Try.func20, Try.ntmps20
  go_wp2_with (go_at_call 21; refine (add_any 1 2 1 3 _ i1 i2 i1 i3).mono ?_; rw [addAw]; rintro e w1 ⟨rfl, B1⟩)
  have KB1 : Below w.heap.size w (w1.alloc (.cells #[.int .i64 5, .int .i64 6] 23)) := B1.alloc B1.size _
  have z1 := B1.size
  have p0 : (w1.alloc (.cells #[.int .i64 5, .int .i64 6] 23)).cell? ⟨w1.heap.size, 0, none⟩ = some (.int .i64 5) := by simp [go_sem]
  have p1 : (w1.alloc (.cells #[.int .i64 5, .int .i64 6] 23)).cell? ⟨w1.heap.size, 1, none⟩ = some (.int .i64 6) := by simp [go_sem]
  go_wp2_with (go_at_call 37; refine (sqrt_any 2 1 1000 _ i2 i1 i5).mono ?_; rw [sqrtAw]; rintro e w2 ⟨rfl, B2⟩)
  have y1 := B2.size
  simp only [World.size_alloc] at y1
  have q0 := (B2.cell (p := ⟨w1.heap.size, 0, none⟩) (by simp)).trans p0
  have q1 := (B2.cell (p := ⟨w1.heap.size, 1, none⟩) (by simp)).trans p1
  have KB2 := KB1.trans (B2.mono KB1.size)
  clear p0 p1 B1 B2 KB1
  generalize hW3 : w2.alloc (.cells #[.int .i64 1414, .int .i64 1415] 38) = W3
  have hs3 : W3.heap.size = w2.heap.size + 1 := by rw [← hW3]; simp
  have a0 : W3.cell? ⟨w1.heap.size, 0, none⟩ = some (.int .i64 5) := by rw [← hW3, World.cell?_alloc_lt _ _ _ (by show w1.heap.size < _; omega)]; exact q0
  have a1 : W3.cell? ⟨w1.heap.size, 1, none⟩ = some (.int .i64 6) := by rw [← hW3, World.cell?_alloc_lt _ _ _ (by show w1.heap.size < _; omega)]; exact q1
  have a2 : W3.cell? ⟨w2.heap.size, 0, none⟩ = some (.int .i64 1414) := by rw [← hW3]; simp [go_sem]
  have a3 : W3.cell? ⟨w2.heap.size, 1, none⟩ = some (.int .i64 1415) := by rw [← hW3]; simp [go_sem]
  have KB3 : Below w.heap.size w W3 := by rw [← hW3]; exact KB2.alloc KB2.size _
  clear hW3 q0 q1 KB2
  go_wp2_with (go_at_call 75; refine (rootsIn_any (some ⟨w2.heap.size + 1, 0, none⟩) 3 3 pAw (-2) 1 2 1 _ (by have h := IS.aw W3; rw [hs3] at h; exact h) (by omega) i4 i1 i2 i1).mono ?_; rw [rootsAw]; rintro e w4 ⟨rfl, B4⟩)
  have hz4 := B4.size
  simp only [World.size_alloc] at hz4
  have KB4 := KB3.trans (((Below.refl w.heap.size W3).alloc KB3.size _).trans (B4.mono (by have := KB3.size; simp; omega)))
  have KW := ((Below.refl W3.heap.size W3).alloc (Nat.le_refl _) _).trans (B4.mono (by simp))
  have b0 := (KW.cell (p := ⟨w1.heap.size, 0, none⟩) (by show w1.heap.size < _; omega)).trans a0
  have b1 := (KW.cell (p := ⟨w1.heap.size, 1, none⟩) (by show w1.heap.size < _; omega)).trans a1
  have b2 := (KW.cell (p := ⟨w2.heap.size, 0, none⟩) (by show w2.heap.size < _; omega)).trans a2
  have b3 := (KW.cell (p := ⟨w2.heap.size, 1, none⟩) (by show w2.heap.size < _; omega)).trans a3
  clear a0 a1 a2 a3 KW KB3 B4
  go_wp2_with (go_at_call 56; refine (sine_any 108000 1000 _ i6 i5).mono ?_; rw [sinAw]; rintro e w5 ⟨rfl, B5⟩; have hz5 := B5.size; have c0 := (B5.cell (p := ⟨w1.heap.size, 0, none⟩) (by show w1.heap.size < _; omega)).trans b0; have c1 := (B5.cell (p := ⟨w1.heap.size, 1, none⟩) (by show w1.heap.size < _; omega)).trans b1; have c2 := (B5.cell (p := ⟨w2.heap.size, 0, none⟩) (by show w2.heap.size < _; omega)).trans b2; have c3 := (B5.cell (p := ⟨w2.heap.size, 1, none⟩) (by show w2.heap.size < _; omega)).trans b3; have KB5 := KB4.trans (B5.mono KB4.size); have hm1 : w1.heap.size < w5.heap.size := (by omega); have hm2 : w2.heap.size < w5.heap.size := (by omega))
  go_ret
  exact ⟨rfl, KB5.alloc KB5.size _⟩

end Go.Proofs.Ytfnmnnbmhfbkbaa
