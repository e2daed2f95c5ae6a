/- Walks: the reference's numbers of any size: made, trimmed, compared. -/
import Derived.Test.YtfnmnnbmhfbkbaaV0
import Derived.Test.YtfnmnnbmhfbkbaaBc
import Derived.Test.YtfnmnnbmhfbkbaaP1
set_option linter.unusedVariables false
set_option linter.unusedSimpArgs false
namespace Go.Proofs.Ytfnmnnbmhfbkbaa
open Go.RowKit

/-- Block b is a row of ints. -/
def IntRow (w : World) (b : Nat) : Prop := ∃ cs, w.heap[b]? = some (.cells cs 3 (0, 0))
theorem IntRow.lt {w : World} {b : Nat} (h : IntRow w b) : b < w.heap.size := by
  obtain ⟨cs, h⟩ := h
  exact (Array.getElem?_eq_some_iff.1 h).1
theorem IntRow.of {w : World} {b n : Nat} {f : Nat → Value} (h : w.rowIs b 3 n f) : IntRow w b := by
  obtain ⟨cs, h, _⟩ := h
  exact ⟨cs, h⟩
theorem IntRow.below {w w' : World} {b B : Nat} (h : IntRow w b) (hB : w.heap.size ≤ B) (hb : Below B w w') : IntRow w' b := by
  have hl := h.lt
  obtain ⟨cs, h⟩ := h
  exact ⟨cs, (hb.block b (by omega)).trans h⟩
theorem IntRow.set {w : World} {b : Nat} (h : IntRow w b) (p : Addr) (v : Value) (hp : p.block ≠ b) : IntRow (w.setCell p v) b := by
  obtain ⟨cs, h⟩ := h
  refine ⟨cs, ?_⟩
  simp [World.setCell, Array.getElem?_modify, h, hp]
/-- The slice at A of n digits holds the digits f. -/
def DS (w : World) (A : Option Addr) (n : Nat) (f : Nat → Int) : Prop :=
  (∀ i, i < n → T4.U64 (f i)) ∧ (0 < n → ∃ b, A = some ⟨b, 0, none⟩ ∧ IntRow w b ∧ ∀ j, j < n → w.cell? ⟨b, j, none⟩ = some (.int .i64 (f j)))
theorem DS.below {w w' : World} {A : Option Addr} {n : Nat} {f : Nat → Int} {B : Nat} (h : DS w A n f) (hB : w.heap.size ≤ B) (hb : Below B w w') : DS w' A n f :=
  ⟨h.1, fun hn => by
    obtain ⟨b, e, hl, hc⟩ := h.2 hn
    have hll := hl.lt
    exact ⟨b, e, hl.below hB hb, fun j hj => (hb.cell (p := ⟨b, j, none⟩) (by show b < B; omega)).trans (hc j hj)⟩⟩
/-- A number of the reference: its sign, its digits; z is what it is, L bounds the digits. -/
def WG (w : World) (s : Int) (sv : Value) (z : Int) (L : Nat) : Prop :=
  ∃ (A : Option Addr) (n c : Nat) (f : Nat → Int), sv = .slice A n c ∧ DS w A n f ∧ T4.Can f n ∧ n ≤ L ∧ n ≤ c ∧ c ≤ 9223372036854775807 ∧ z = s * T4.vf f n ∧ (n = 0 ↔ s = 0) ∧ -1 ≤ s ∧ s ≤ 1
theorem WG.below {w w' : World} {s : Int} {sv : Value} {z : Int} {L B : Nat} (h : WG w s sv z L) (hB : w.heap.size ≤ B) (hb : Below B w w') : WG w' s sv z L := by
  obtain ⟨A, n, c, f, e, h1, h2⟩ := h
  exact ⟨A, n, c, f, e, h1.below hB hb, h2⟩
theorem WG.more {w : World} {s : Int} {sv : Value} {z : Int} {L L' : Nat} (h : WG w s sv z L) (hL : L ≤ L') : WG w s sv z L' := by
  obtain ⟨A, n, c, f, e, h1, h2, h3, h4⟩ := h
  exact ⟨A, n, c, f, e, h1, h2, by omega, h4⟩
/-- The sign of a number is its sign. -/
theorem WG.sign {w : World} {s : Int} {sv : Value} {z : Int} {L : Nat} (h : WG w s sv z L) : s = cmpI z 0 := by
  obtain ⟨A, n, c, f, e, h1, h2, h3, h4, h5, hz, h6, h7, h8⟩ := h
  have hv := T4.vf_bd n h1.1
  by_cases hn : n = 0
  · have := h6.1 hn
    subst this
    rw [hz, Int.zero_mul]; rfl
  · have hp : 0 < T4.vf f n := by
      have := T4.Can.zero h2 h1.1
      omega
    have hs : s = 1 ∨ s = -1 := by omega
    rcases hs with hs | hs <;> subst hs <;> rw [hz]
    · rw [Int.one_mul]; unfold cmpI; rw [if_neg (by omega), if_pos hp]
    · rw [Int.neg_mul, Int.one_mul]; unfold cmpI; rw [if_pos (by omega)]

theorem ret_wide {fn : Func} {p : Tmp} (h : fn.results = #[.cell p 138]) (tmps : Array Value) (w : World) (b : Nat) (x y : Value)
    (hp : tmps.getD p undef = .pointer (some ⟨b, 0, none⟩)) (h0 : w.cell? ⟨b, 0, none⟩ = some x) (h1 : w.cell? ⟨b, 1, none⟩ = some y) :
    (results fn tmps).run Try.prog w = .ok (.agg #[x, y]) w := by
  rw [results_cell1 h]
  simp [go_sem, hp, h0, h1]

set_option maxHeartbeats 1000000 in
theorem cut_any (s : Int) (A : Option Addr) (n c : Nat) (f : Nat → Int) (w : World) (hD : DS w A n f) (hn : n ≤ c) (hn' : c ≤ 9223372036854775807) :
    Calls Try.prog 143 #[.int .i64 s, .slice A n c] w fun e w' => ∃ m, m ≤ n ∧ T4.Can f m ∧ (∀ i, m ≤ i → i < n → f i = 0) ∧ e = .returned (.agg #[.int .i64 (if m = 0 then 0 else s), .slice A m c]) ∧ Below w.heap.size w w' := by
  go_enter Try.func143, Try.ntmps143
  go_wp2
  go_loop [1] (fun x => ∃ m, m ≤ n ∧ Hid (∀ i, m ≤ i → i < n → f i = 0) ∧ x = .slice A m c) (fun x => lenOfS x)
  case atStart => exact ⟨n, by omega, fun i _ _ => by omega, rfl⟩
  case round =>
    obtain ⟨m, hm, HZ, rfl⟩ := hrel
    rcases Nat.eq_zero_or_pos m with h0 | h0
    · subst h0
      go_wp2
      refine bodyPost_ret (ret_wide rfl _ _ _ _ _ rfl (by simp [go_sem]; first | done | rfl) (by simp [go_sem]; first | done | rfl)) rfl ⟨0, by omega, fun h => by omega, HZ.out, by rw [if_pos rfl], ?_⟩
      repeat (first | exact Below.refl _ _ | refine Below.drew ?_ | refine Below.drewN' ?_ _ | refine Below.setCell ?_ (by simp) _ | refine Below.alloc ?_ (by first | exact Nat.le_refl _ | (simp; done) | (simp; omega)) _)
    · obtain ⟨k, rfl⟩ : ∃ k, m = k + 1 := ⟨m - 1, by omega⟩
      obtain ⟨b, rfl, hb, hcs⟩ := hD.2 (by omega)
      replace hb := hb.lt
      have hck := hcs k (by omega)
      by_cases hz : f k = 0
      · have hz' : (f k == 0) = true := by simpa using hz
        have HZ2 := Lib.hid (show ∀ i, k ≤ i → i < n → f i = 0 from fun i hi hi' => by
          rcases Nat.eq_or_lt_of_le hi with e | e
          · subst e; exact hz
          · exact HZ.out i (by omega) hi')
        clear hz HZ hcs
        go_wp2
        go_round
        case rel => exact ⟨k, by omega, HZ2.out, rfl⟩
        case measure => simp [lenOfS]
      · have hz' : (f k == 0) = false := by simpa using hz
        have HZ3 := Lib.hid hz
        clear hz hcs
        go_wp2
        refine bodyPost_ret (ret_wide rfl _ _ _ _ _ rfl (by simp [go_sem]; first | done | rfl) (by simp [go_sem]; first | done | rfl)) rfl ⟨k + 1, hm, fun _ => HZ3.out, HZ.out, by rw [if_neg (by omega)], ?_⟩
        repeat (first | exact Below.refl _ _ | refine Below.drew ?_ | refine Below.drewN' ?_ _ | refine Below.setCell ?_ (by simp) _ | refine Below.alloc ?_ (by first | exact Nat.le_refl _ | (simp; done) | (simp; omega)) _)

/-! Small numbers made. -/
def dg (N : Int) (j : Nat) : Int := N / T4.BB ^ j % 10000
theorem dg_U (N : Int) (j : Nat) : T4.U64 (dg N j) := by unfold dg T4.U64; omega
theorem dg_next (N : Int) (j : Nat) : N / T4.BB ^ j / 10000 = N / T4.BB ^ (j + 1) := by
  rw [Int.pow_succ, Int.ediv_ediv_of_nonneg (Int.le_of_lt (T4.BB_pos j))]; rfl
theorem dg_vf (N : Int) : ∀ k, N = T4.vf (dg N) k + N / T4.BB ^ k * T4.BB ^ k
  | 0 => by simp [T4.vf]
  | k + 1 => by
    have h := dg_vf N k
    have e := dg_next N k
    show N = T4.vf (dg N) k + N / T4.BB ^ k % 10000 * T4.BB ^ k + N / T4.BB ^ (k + 1) * T4.BB ^ (k + 1)
    rw [← e, Int.pow_succ, ← Int.mul_assoc]
    have h2 : N / T4.BB ^ k = N / T4.BB ^ k / 10000 * 10000 + N / T4.BB ^ k % 10000 := by omega
    have h3 : N / T4.BB ^ k * T4.BB ^ k = N / T4.BB ^ k / 10000 * T4.BB ^ k * T4.BB + N / T4.BB ^ k % 10000 * T4.BB ^ k := by
      conv => lhs; rw [h2]
      rw [Int.add_mul, Int.mul_right_comm]; rfl
    omega
theorem dg_five {N : Int} (h0 : 0 ≤ N) (h : N ≤ 100000000000000000) : N / T4.BB ^ 5 = 0 := by
  show N / 100000000000000000000 = 0
  omega
theorem DS.owned {w : World} {base k : Nat} {o : Value} {X : Nat → Int} (h : w.ownsRow base 3 1 o k ((List.range k).map fun j => Value.int .i64 (X j))) (hX : ∀ j, T4.U64 (X j)) :
    ∃ A c, o = .slice A k c ∧ DS w A k X ∧ k ≤ c ∧ c ≤ 9223372036854775807 ∧ (∀ b, A = some ⟨b, 0, none⟩ → base ≤ b) := by
  rcases h.2 with ⟨h1, h2⟩ | ⟨g', cap', cur', h1, h2, h3, h4, h5, _⟩
  · subst h2
    exact ⟨none, 0, h1, ⟨fun i hi => by omega, fun h => by omega⟩, by omega, by omega, fun b h => by cases h⟩
  · refine ⟨_, _, h1, ⟨fun i _ => hX i, fun _ => ⟨g', rfl, ?_, fun j hj => ?_⟩⟩, h4, by unfold maxLen at h5; exact h5, fun b h => by injection h with h; injection h with h; omega⟩
    · exact ⟨_, h3⟩
    · subst h1
      rw [World.ownsRow.cellAt h j (by omega)]
      simp [hj]
theorem DS.set {w : World} {A : Option Addr} {n g : Nat} {f : Nat → Int} (h : DS w A n f) (hne : ∀ b, A = some ⟨b, 0, none⟩ → b ≠ g) (u v : Value) : DS ((w.setCell ⟨g, 0, none⟩ u).setCell ⟨g, 1, none⟩ v) A n f :=
  ⟨h.1, fun hn => by
    obtain ⟨b, e, hl, hc⟩ := h.2 hn
    have hb := hne b e
    exact ⟨b, e, (hl.set _ _ (Ne.symm hb)).set _ _ (Ne.symm hb), fun j hj => by rw [World.cell?_setCell_other _ _ _ _ (by simp <;> omega), World.cell?_setCell_other _ _ _ _ (by simp <;> omega)]; exact hc j hj⟩⟩
theorem one_digit (wr : World) (x : Int) : ∀ j u, ([Value.int .i64 x] : List Value)[j]? = some u → (wr.alloc (.cells #[.int .i64 x] 3)).cell? ((⟨wr.heap.size, 0, none⟩ : Addr).add j) = some u := fun j u hu => by
  have hj : j = 0 := by
    rcases j with _ | j
    · rfl
    · simp at hu
  subst hj
  simp at hu
  subst hu
  have hadd : (⟨wr.heap.size, 0, none⟩ : Addr).add 0 = ⟨wr.heap.size, 0, none⟩ := by unfold Addr.add; split <;> simp_all
  rw [hadd]; simp [go_sem]
theorem owned_grown {W wr w1 : World} {o : Value} {k B : Nat} {xs : List Value} {ob : Obj} (h : wr.ownsRow B 3 1 o k xs) (hBe : W.heap.size ≤ B) (hB : Below W.heap.size W wr) (hg : (wr.alloc ob).grownBy w1 o.ownBlock) : Below W.heap.size W w1 :=
  (hB.alloc hB.size _).grown hg (by have := hB.size; simp; omega) (fun j hj => by
    rcases h.2 with ⟨h1, _⟩ | ⟨g', cap', cur', h1, h2, _⟩
    · rw [h1] at hj; simp [Value.ownBlock] at hj
    · rw [h1] at hj; simp [Value.ownBlock] at hj; omega)
/-- A number made of its sign and its digits. -/
theorem WG.mk' {w : World} {s : Int} {A : Option Addr} {k m c L : Nat} {f : Nat → Int} {z : Int} (hD : DS w A k f) (hm : m ≤ k) (hc : T4.Can f m) (hz : ∀ i, m ≤ i → i < k → f i = 0) (hL : m ≤ L) (hk : k ≤ c) (hc' : c ≤ 9223372036854775807) (hv : z = s * T4.vf f k) (hs : -1 ≤ s ∧ s ≤ 1 ∧ (s = 0 → m = 0)) :
    WG w (if m = 0 then 0 else s) (.slice A m c) z L := by
  refine ⟨A, m, c, f, rfl, ⟨fun i hi => hD.1 i (by omega), fun h => ?_⟩, hc, hL, by omega, hc', ?_, ?_, ?_, ?_⟩
  · obtain ⟨b, e, hl, hcs⟩ := hD.2 (by omega)
    exact ⟨b, e, hl, fun j hj => hcs j (by omega)⟩
  · rw [hv, T4.vf_trim k hm hz]
    split
    · rename_i h; subst h; simp [T4.vf]
    · rfl
  · constructor
    · intro h; rw [if_pos h]
    · intro h
      by_cases h0 : m = 0
      · exact h0
      · rw [if_neg h0] at h; exact hs.2.2 h
  · split <;> omega
  · split <;> omega
set_option maxRecDepth 100000 in
set_option maxHeartbeats 4000000 in
theorem wideOf_core (n N s : Int) (w : World) (h0 : 0 ≤ N) (h1 : N ≤ 100000000000000000) (hn : (n < 0 ∧ N = -n ∧ s = -1) ∨ (¬ n < 0 ∧ N = n ∧ s = 1)) :
    Calls Try.prog 126 #[.int .i64 n] w fun e w' => ∃ s' sv, e = .returned (.agg #[.int .i64 s', sv]) ∧ WG w' s' sv n 5 ∧ Below w.heap.size w w' := by
  obtain ⟨i0, hi0, hz0, hz1, hz2⟩ := info_intc_parts
  have HE := Bx.mk (show n = s * N by rcases hn with ⟨_, a, b⟩ | ⟨_, a, b⟩ <;> rw [a, b] <;> omega)
  have HB0 := Bx.mk (Below.refl (w.alloc (.cells #[.int .i64 0, .slice none 0 0] 138)).heap.size (w.alloc (.cells #[.int .i64 0, .slice none 0 0] 138)))
  have hs : -1 ≤ s ∧ s ≤ 1 ∧ s ≠ 0 := by rcases hn with ⟨_, _, b⟩ | ⟨_, _, b⟩ <;> omega
  have HS := Bx.mk hs
  clear hs
  have HD := Bx.mk (dg_five h0 h1)
  have HV := Bx.mk (dg_vf N)
  have HN := Bx.mk (dg_next N)
  have HP := Bx.mk (fun k : Nat => Int.ediv_nonneg h0 (Int.le_of_lt (T4.BB_pos k)))
  have HP2 := Bx.mk (fun k : Nat => Int.le_trans (Int.ediv_le_self (T4.BB ^ k) h0) h1)
  have H0 := Bx.mk (show N / T4.BB ^ 0 = N by simp)
  have HEN := Bx.mk (show (n < 0 → -n = N) ∧ (¬ n < 0 → n = N) by rcases hn with ⟨_, a, b⟩ | ⟨_, a, b⟩ <;> omega)
  have hn1 : -100000000000000000 ≤ n := by rcases hn with ⟨_, a, b⟩ | ⟨_, a, b⟩ <;> omega
  have hn2 : n ≤ 100000000000000000 := by rcases hn with ⟨_, a, b⟩ | ⟨_, a, b⟩ <;> omega
  have HSN := Bx.mk (show (n < 0 → s = -1) ∧ (¬ n < 0 → s = 1) by rcases hn with ⟨_, a, b⟩ | ⟨_, a, b⟩ <;> omega)
  clear hn h0 h1
  by_cases c : n < 0
  · have hs' := HSN.out.1 c
    subst hs'
    have HX := Bx.mk (HEN.out.1 c)
    go_enter Try.func126, Try.ntmps126
    go_wp2
    go_loopw [4, 5] (fun mm o wr => ∃ k : Nat, k ≤ 5 ∧ mm = .int .i64 (N / T4.BB ^ k) ∧ Bx (wr.ownsRow (w.heap.size + 1) 3 1 o k ((List.range k).map fun j => Value.int .i64 (dg N j))) ∧ Bx (Below (w.alloc (.cells #[.int .i64 0, .slice none 0 0] 138)).heap.size (w.alloc (.cells #[.int .i64 0, .slice none 0 0] 138)) wr)) (fun mm _ _ => (intOf mm).toNat)
    case atStart => exact ⟨0, by omega, by rw [H0.out, ← HX.out], ⟨⟨rfl, .inl ⟨rfl, rfl⟩⟩⟩, HB0⟩
    case round =>
      obtain ⟨k, hk, rfl, HOW, HB⟩ := hrel
      have q0 := HP.out k
      have q1 := HP2.out k
      have HQ := Bx.mk (show N / T4.BB ^ k / 10000 = N / T4.BB ^ (k + 1) from HN.out k)
      have HG := Bx.mk (show N / T4.BB ^ k % 10000 = dg N k from rfl)
      have HK := Bx.mk (show k = 5 → N / T4.BB ^ k = 0 from fun h => by rw [h]; exact HD.out)
      have HVk := Bx.mk (HV.out k)
      generalize hq : N / T4.BB ^ k = q at *
      clear hq
      by_cases hz : 0 < q
      · have hk5 : k < 5 := by have := HK.out; omega
        have HC1 := Bx.mk (one_digit wr (q % 10000))
        go_wp2_with (at_builtin; refine wpList_append_own _ rfl _ _ _ rfl (w.heap.size + 1) 3 i0 (.int .i64 0) 1 8 Try.underlying63 hi0 hz0 hz1 hz2 rfl (by decide) _ k _ rfl (HOW.out.alloc _) ⟨wr.heap.size, 0, none⟩ 1 1 [.int .i64 (q % 10000)] rfl rfl HC1.out (fun u hu => by simp at hu; subst hu; rfl) (by simp only [maxLen]; omega) (by omega) (by have := HB.out.size; simp at this ⊢ <;> omega) ?_)
        intro v' w1 hown' hgrow _
        have HOV := Bx.mk hown'
        have HB1 := Bx.mk (owned_grown HOW.out (by simp) HB.out hgrow)
        clear hown' hgrow
        go_wp2
        go_roundw
        case rel => exact ⟨k + 1, by omega, by rw [HQ.out], ⟨by rw [List.range_succ, List.map_append]; have h := HOV.out; rw [HG.out] at h; exact h⟩, HB1⟩
        case measure => simp [intOf]; omega
      · have hq0 : q = 0 := by omega
        obtain ⟨A, c0, ho, HDS, hc1, hc2, hbs⟩ := DS.owned HOW.out (dg_U N)
        have HBS := Bx.mk hbs
        clear hbs
        subst ho
        have HDS := Bx.mk HDS
        have HZ := Bx.mk hq0
        clear hq0
        go_wp2_with (go_at_call 143; (with_reducible refine (cut_any (-1) A k c0 (dg N) _ HDS.out hc1 hc2).mono ?_); rintro e w2 ⟨m, hm, hcan, hzz, he, B2⟩; generalize hS1 : (if m = 0 then (0 : Int) else (-1)) = S1 at he; subst he; have HS1 := Bx.mk hS1; clear hS1; have BB2 := Bx.mk (HB.out.trans (B2.mono HB.out.size)); obtain ⟨hc3, hf3⟩ := bcell BB2.out; have z2 : w.heap.size < w2.heap.size := (by have := BB2.out.size; simp at this; omega); have k0 : w2.cell? ⟨w.heap.size, 0, none⟩ = some (.int .i64 0) := (by rw [hc3 _ _ (by simp)]; simp [go_sem]); have k1 : w2.cell? ⟨w.heap.size, 1, none⟩ = some (.slice none 0 0) := (by rw [hc3 _ _ (by simp)]; simp [go_sem]); have k2 : w2.frozen? ⟨w.heap.size, 0, none⟩ = false := (by rw [hf3 _ _ (by simp)]; simp [go_sem]); have k3 : w2.frozen? ⟨w.heap.size, 1, none⟩ = false := (by rw [hf3 _ _ (by simp)]; simp [go_sem]); have HCAN := Bx.mk hcan; have HZZ := Bx.mk hzz; have HB2 := Bx.mk B2; clear hcan hzz hc3 hf3 B2)
        obtain ⟨r0, r1⟩ := set2 (b := w.heap.size) (x := .int .i64 0) (y := .slice none 0 0) (.int .i64 S1) (.slice A m c0) k0 k1
        refine bodyPost_ret (ret_wide rfl _ _ _ _ _ rfl r0 r1) rfl ⟨_, _, rfl, ?_, ?_⟩
        · have hv : N = T4.vf (dg N) k := by have h := HVk.out; rw [HZ.out, Int.zero_mul, Int.add_zero] at h; exact h
          have hD2 := (HDS.out.below (Nat.le_refl _) HB2.out).set (fun b hb => by have := HBS.out b hb; omega) (.int .i64 S1) (.slice A m c0) (g := w.heap.size)
          have := WG.mk' (s := (-1)) (L := 5) (z := n) hD2 hm HCAN.out HZZ.out (by omega) hc1 hc2 (HE.out.trans (congrArg (fun t => (-1) * t) hv)) (by omega)
          rw [HS1.out] at this
          exact this
        · exact ((((Below.refl w.heap.size w).alloc (Nat.le_refl _) _).trans (BB2.out.mono (by simp))).setCell (Nat.le_refl _) _).setCell (Nat.le_refl _) _
  · have hs' := HSN.out.2 c
    subst hs'
    have HX := Bx.mk (HEN.out.2 c)
    go_enter Try.func126, Try.ntmps126
    go_wp2
    go_loopw [4, 5] (fun mm o wr => ∃ k : Nat, k ≤ 5 ∧ mm = .int .i64 (N / T4.BB ^ k) ∧ Bx (wr.ownsRow (w.heap.size + 1) 3 1 o k ((List.range k).map fun j => Value.int .i64 (dg N j))) ∧ Bx (Below (w.alloc (.cells #[.int .i64 0, .slice none 0 0] 138)).heap.size (w.alloc (.cells #[.int .i64 0, .slice none 0 0] 138)) wr)) (fun mm _ _ => (intOf mm).toNat)
    case atStart => exact ⟨0, by omega, by rw [H0.out, ← HX.out], ⟨⟨rfl, .inl ⟨rfl, rfl⟩⟩⟩, HB0⟩
    case round =>
      obtain ⟨k, hk, rfl, HOW, HB⟩ := hrel
      have q0 := HP.out k
      have q1 := HP2.out k
      have HQ := Bx.mk (show N / T4.BB ^ k / 10000 = N / T4.BB ^ (k + 1) from HN.out k)
      have HG := Bx.mk (show N / T4.BB ^ k % 10000 = dg N k from rfl)
      have HK := Bx.mk (show k = 5 → N / T4.BB ^ k = 0 from fun h => by rw [h]; exact HD.out)
      have HVk := Bx.mk (HV.out k)
      generalize hq : N / T4.BB ^ k = q at *
      clear hq
      by_cases hz : 0 < q
      · have hk5 : k < 5 := by have := HK.out; omega
        have HC1 := Bx.mk (one_digit wr (q % 10000))
        go_wp2_with (at_builtin; refine wpList_append_own _ rfl _ _ _ rfl (w.heap.size + 1) 3 i0 (.int .i64 0) 1 8 Try.underlying63 hi0 hz0 hz1 hz2 rfl (by decide) _ k _ rfl (HOW.out.alloc _) ⟨wr.heap.size, 0, none⟩ 1 1 [.int .i64 (q % 10000)] rfl rfl HC1.out (fun u hu => by simp at hu; subst hu; rfl) (by simp only [maxLen]; omega) (by omega) (by have := HB.out.size; simp at this ⊢ <;> omega) ?_)
        intro v' w1 hown' hgrow _
        have HOV := Bx.mk hown'
        have HB1 := Bx.mk (owned_grown HOW.out (by simp) HB.out hgrow)
        clear hown' hgrow
        go_wp2
        go_roundw
        case rel => exact ⟨k + 1, by omega, by rw [HQ.out], ⟨by rw [List.range_succ, List.map_append]; have h := HOV.out; rw [HG.out] at h; exact h⟩, HB1⟩
        case measure => simp [intOf]; omega
      · have hq0 : q = 0 := by omega
        obtain ⟨A, c0, ho, HDS, hc1, hc2, hbs⟩ := DS.owned HOW.out (dg_U N)
        have HBS := Bx.mk hbs
        clear hbs
        subst ho
        have HDS := Bx.mk HDS
        have HZ := Bx.mk hq0
        clear hq0
        go_wp2_with (go_at_call 143; (with_reducible refine (cut_any (1) A k c0 (dg N) _ HDS.out hc1 hc2).mono ?_); rintro e w2 ⟨m, hm, hcan, hzz, he, B2⟩; generalize hS1 : (if m = 0 then (0 : Int) else (1)) = S1 at he; subst he; have HS1 := Bx.mk hS1; clear hS1; have BB2 := Bx.mk (HB.out.trans (B2.mono HB.out.size)); obtain ⟨hc3, hf3⟩ := bcell BB2.out; have z2 : w.heap.size < w2.heap.size := (by have := BB2.out.size; simp at this; omega); have k0 : w2.cell? ⟨w.heap.size, 0, none⟩ = some (.int .i64 0) := (by rw [hc3 _ _ (by simp)]; simp [go_sem]); have k1 : w2.cell? ⟨w.heap.size, 1, none⟩ = some (.slice none 0 0) := (by rw [hc3 _ _ (by simp)]; simp [go_sem]); have k2 : w2.frozen? ⟨w.heap.size, 0, none⟩ = false := (by rw [hf3 _ _ (by simp)]; simp [go_sem]); have k3 : w2.frozen? ⟨w.heap.size, 1, none⟩ = false := (by rw [hf3 _ _ (by simp)]; simp [go_sem]); have HCAN := Bx.mk hcan; have HZZ := Bx.mk hzz; have HB2 := Bx.mk B2; clear hcan hzz hc3 hf3 B2)
        obtain ⟨r0, r1⟩ := set2 (b := w.heap.size) (x := .int .i64 0) (y := .slice none 0 0) (.int .i64 S1) (.slice A m c0) k0 k1
        refine bodyPost_ret (ret_wide rfl _ _ _ _ _ rfl r0 r1) rfl ⟨_, _, rfl, ?_, ?_⟩
        · have hv : N = T4.vf (dg N) k := by have h := HVk.out; rw [HZ.out, Int.zero_mul, Int.add_zero] at h; exact h
          have hD2 := (HDS.out.below (Nat.le_refl _) HB2.out).set (fun b hb => by have := HBS.out b hb; omega) (.int .i64 S1) (.slice A m c0) (g := w.heap.size)
          have := WG.mk' (s := 1) (L := 5) (z := n) hD2 hm HCAN.out HZZ.out (by omega) hc1 hc2 (HE.out.trans (congrArg (fun t => 1 * t) hv)) (by omega)
          rw [HS1.out] at this
          exact this
        · exact ((((Below.refl w.heap.size w).alloc (Nat.le_refl _) _).trans (BB2.out.mono (by simp))).setCell (Nat.le_refl _) _).setCell (Nat.le_refl _) _


theorem wideOf_any (n : Int) (w : World) (h1 : -100000000000000000 ≤ n) (h2 : n ≤ 100000000000000000) :
    Calls Try.prog 126 #[.int .i64 n] w fun e w' => ∃ s' sv, e = .returned (.agg #[.int .i64 s', sv]) ∧ WG w' s' sv n 5 ∧ Below w.heap.size w w' := by
  by_cases c : n < 0
  · exact wideOf_core n (-n) (-1) w (by omega) (by omega) (.inl ⟨c, rfl, rfl⟩)
  · exact wideOf_core n n 1 w (by omega) (by omega) (.inr ⟨c, rfl, rfl⟩)

end Go.Proofs.Ytfnmnnbmhfbkbaa
