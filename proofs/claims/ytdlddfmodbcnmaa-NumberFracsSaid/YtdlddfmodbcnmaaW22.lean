/- Walks: Sturm's chain of a polynomial of whole numbers. -/
import Derived.Test.YtdlddfmodbcnmaaPolyS
import Derived.Test.YtdlddfmodbcnmaaW19
import Derived.Test.YtdlddfmodbcnmaaW14
import Derived.Test.YtdlddfmodbcnmaaW16
set_option linter.unusedVariables false
set_option linter.unusedSimpArgs false
namespace Go.Proofs.Ytdlddfmodbcnmaa
open Go.RowKit

theorem restR_lt {m : Nat} {q : Row} (hm : 1 ≤ m) : ∀ (f mr : Nat) (r : Row), mr ≤ f → (restR m q f mr r).1 < m
  | 0, mr, r, h => by show mr < m; omega
  | f + 1, mr, r, h => by
    unfold restR
    split
    · rename_i hle
      have h1 : trimN mr (stepR mr r m q) ≤ mr - 1 := by
        obtain ⟨t, rfl⟩ : ∃ t, mr = t + 1 := ⟨mr - 1, by omega⟩
        have h0 := stepR_top (m := t + 1) (r := r) (nq := m) (q := q) hle (by omega)
        simp only [Nat.add_sub_cancel] at h0 ⊢
        unfold trimN
        rw [if_pos h0]
        exact trimN_le _ _
      exact restR_lt hm f _ _ (by omega)
    · show mr < m; omega

theorem SO.new {w : World} {base : Nat} {A : Option Addr} {m c : Nat} {y : Row} {L : Nat} (hb : base ≤ w.heap.size) (hy : PA w A m y L) (hm : m ≤ 100) :
    SO (w.alloc (.cells #[.slice A m c] 111)) base (.slice (some ⟨w.heap.size, 0, none⟩) 1 1) [(m, y)] L := by
  refine ⟨[.slice A m c], ⟨rfl, .inr ⟨w.heap.size, 1, #[.slice A m c], rfl, hb, heap_alloc_new w _, by simp, by simp [maxLen], rfl, rfl⟩⟩, fun i p hp => ?_⟩
  have hi : i = 0 := by
    rcases Nat.eq_zero_or_pos i with h | h
    · exact h
    · rw [List.getElem?_eq_none (by simp; omega)] at hp; cases hp
  subst hi
  obtain rfl := Option.some.inj hp
  exact ⟨A, c, rfl, hy.alloc _, hm⟩

theorem chainR_zero (f n : Nat) (z y : Row) : chainR f n z 0 y = [] := by
  cases f with
  | zero => rfl
  | succ f => show (if 0 = 0 then _ else _) = _; rw [if_pos rfl]
theorem chainR_step (f n m : Nat) (z y : Row) (h : 1 ≤ m) : chainR (f + 1) n z m y = (m, y) :: chainR f m y (restR m y n n z).1 (fun i => -(restR m y n n z).2 i) := by
  show (if m = 0 then _ else _) = _
  rw [if_neg (by omega)]
theorem bound8 (k nb : Nat) (hn : nb ≤ 7) : 3 * 8 ^ k - 1 + nb * (3 * 8 ^ k - 1 + 1) ≤ 3 * 8 ^ (k + 1) - 1 := by
  have h1 : 1 ≤ 8 ^ k := Nat.le_trans Nat.one_le_two_pow (Nat.pow_le_pow_left (show 2 ≤ 8 by omega) k)
  rw [Nat.pow_succ, show 3 * 8 ^ k - 1 + 1 = 3 * 8 ^ k by omega]
  have h2 := Nat.mul_le_mul_right (3 * 8 ^ k) hn
  omega
theorem bound6 (k : Nat) (hk : k ≤ 6) : 3 * 8 ^ k - 1 ≤ 786431 := by
  have h1 : 8 ^ k ≤ 8 ^ 6 := Nat.pow_le_pow_right (by omega) hk
  omega

set_option maxRecDepth 100000 in
set_option maxHeartbeats 4000000 in
theorem sturmOf_any (A : Option Addr) (n c : Nat) (p : Row) (w : World) (hA : IS w A n p) (hn : 1 ≤ n) (hn' : n ≤ 7) :
    Calls Try.prog 110 #[.slice A n c] w fun e w' => ∃ g c', e = .returned (.slice (some ⟨g, 0, none⟩) (sturmR n p).length c') ∧ ST w' (some ⟨g, 0, none⟩) (sturmR n p) 786431 ∧ (sturmR n p).length ≤ 8 ∧ Below w.heap.size w w' := by
  obtain ⟨i0, hi0, hz0, hz1, hz2⟩ := info_poly_parts
  go_enter Try.func110, Try.ntmps110
  go_wp2_with (go_at_call 105; refine (longPoly_any A n c p _ (by exact hA) (by omega)).mono ?_; rintro e w1 ⟨g1, rfl, hR1, B1⟩)
  have hP1 : PA (w1.alloc (.cells #[.slice (some ⟨g1, 0, none⟩) n n] 111)) (some ⟨g1, 0, none⟩) n p 1 := PA.alloc (PA.of hR1) _
  have hS1 := SO.new (base := w.heap.size) (c := n) B1.size (PA.of hR1) (by omega)
  have hB1 : Below w.heap.size w (w1.alloc (.cells #[.slice (some ⟨g1, 0, none⟩) n n] 111)) := B1.alloc B1.size _
  clear hR1
  go_wp2_with (go_at_call 131; refine (derivative_any _ n n p 1 _ (by exact hP1) (by omega) (by omega)).mono ?_; rintro e w2 ⟨A2, c2, rfl, hP2, B2⟩)
  have hPb2 : PA w2 (some ⟨g1, 0, none⟩) n p 2 := (hP1.below (Nat.le_refl _) B2).more (by omega)
  have hS2 : SO w2 w.heap.size (.slice (some ⟨w1.heap.size, 0, none⟩) 1 1) [(n, p)] 786431 := (hS1.below B2).more (by omega)
  have hB2 : Below w.heap.size w w2 := hB1.trans (B2.mono hB1.size)
  have hn1 : n - 1 + 1 = n := by omega
  clear hP1 hS1 hB1 B1 B2
  go_wp2_with fail
  go_loopw [3, 4, 5] (fun bv sv lv wr => ∃ (k nb ml f : Nat) (zb zl : Row) (Ab Al : Option Addr) (cb cl : Nat) (acc : List (Nat × Row)), bv = .slice Ab nb cb ∧ lv = .slice Al ml cl ∧ 1 ≤ nb ∧ nb ≤ 7 ∧ ml ≤ f ∧ k + ml ≤ 6 ∧ acc.length = k + 1 ∧ Hid (PA wr Ab nb zb (3 * 8 ^ k - 1)) ∧ Hid (PA wr Al ml zl (3 * 8 ^ k - 1)) ∧ Hid (SO wr w.heap.size sv acc 786431) ∧ Hid (acc ++ chainR f nb zb ml zl = sturmR n p) ∧ Below w.heap.size w wr) (fun _ _ lv _ => lenOfS lv)
  case atStart => exact ⟨0, n, n - 1, n, p, dRow p, _, _, _, _, [(n, p)], rfl, rfl, hn, hn', by omega, by omega, rfl, hPb2, hP2, hS2, rfl, hB2⟩
  case round =>
    obtain ⟨k, nb, ml, f, zb, zl, Ab, Al, cb, cl, acc, rfl, rfl, hnb, hnb', hmf, hkm, hacc, HPb, HPl, HS, HC, hB⟩ := hrel
    clear hPb2 hP2 hS2 hB2
    obtain ⟨gs, cs, rfl⟩ := HS.out.form (by omega)
    by_cases hml : 1 ≤ ml
    · have hml' : (0 : Int) < ml := by omega
      obtain ⟨f1, hf1⟩ : ∃ f1, f = f1 + 1 := ⟨f - 1, by omega⟩
      subst hf1
      have HC2 := HC.out
      rw [chainR_step f1 nb ml zb zl hml] at HC2
      have hmr := restR_lt (q := zl) hml nb nb zb (Nat.le_refl _)
      have HC3 := Lib.hid HC2
      clear HC2 HC
      obtain ⟨xs, ho, hx⟩ := HS.out
      have HX := Lib.hid hx
      have HOW := Lib.hid ho
      clear hx ho
      have hb6 := bound6 k (by omega)
      have hb8 := bound8 k nb hnb'
      generalize hLe : 3 * 8 ^ k - 1 = L at *
      go_wp2_with (at_builtin; refine wpList_append_lies _ rfl _ _ _ rfl w.heap.size 111 i0 _ 1 24 Try.underlying119 hi0 hz0 hz1 hz2 rfl (by omega) (.slice (some ⟨gs, 0, none⟩) acc.length cs) acc.length xs rfl (owns_below HOW.out ((Below.refl _ _).alloc (Nat.le_refl _) _)) ⟨wr.heap.size, 0, none⟩ 1 1 [.slice Al ml cl] rfl rfl (World.news_of_block (cs := #[.slice Al ml cl]) (t := 111) (fr := (0, 0)) (heap_alloc_new wr _)) (by simp [Value.oneCell']) (by omega) (by simp only [maxLen]; omega) (by omega) (by have := hB.size; simp; omega) (wr.heap.size + 1) (by simp) ?_)
      intro gg cap w4 hown4 hgrow4 hat4 hlt4
      have KA : Below wr.heap.size wr (wr.alloc (.cells #[.slice Al ml cl] 111)) := (Below.refl _ _).alloc (Nat.le_refl _) _
      have hSA := HS.out.below KA
      have hf := hSA.first (by omega)
      rw [← hacc] at hown4
      have HS4 := Lib.hid (SO.more1 hSA (by omega) xs (owns_below HOW.out KA) (fun i p hp => by
        obtain ⟨Ai, ci, k1, k2, k3⟩ := HX.out i p hp
        exact ⟨Ai, ci, k1, k2.below (Nat.le_refl _) KA, k3⟩) ((HPl.out.below (Nat.le_refl _) KA).more hb6) (by omega) hown4 hgrow4)
      have HPb4 := Lib.hid ((HPb.out.below (Nat.le_refl _) KA).grownS hgrow4 hf)
      have HPl4 := Lib.hid ((HPl.out.below (Nat.le_refl _) KA).grownS hgrow4 hf)
      have hlt5 := HOW.out.lt
      have hB4 : Below w.heap.size w w4 := (hB.trans (KA.mono hB.size)).grown hgrow4 (by have := hB.size; simp; omega) (fun j hj => (hlt5 j hj).1)
      clear hown4 hlt5 hat4 hSA hf KA HPb HPl HS HX HOW hgrow4
      go_wp2_with (go_at_call 132; refine (rest_any Ab Al nb ml cb cl zb zl L L _ (by exact HPb4.out) (by exact HPl4.out) hnb hml (by omega) (by omega) (by omega) (by omega)).mono ?_; rintro e w5 ⟨g, c5, rfl, hge, hR5, hle5, B5⟩)
      generalize hRe : restR ml zl nb nb zb = R at *
      obtain ⟨mr, r⟩ := R
      dsimp only at *
      have HR5 := Lib.hid (hR5.more hb8)
      have hgl := hR5.1
      clear hR5
      go_wp2_with fail
      go_loopw [27] (fun i wi => ∃ (j : Nat) (z : Row), j ≤ mr ∧ i = .int .i64 j ∧ Hid (∀ t, t < j → z t = -r t) ∧ Hid (∀ t, j ≤ t → z t = r t) ∧ Hid (PR wi g mr z (3 * 8 ^ (k + 1) - 1)) ∧ Below w4.heap.size w4 wi) (fun i _ => mr - (intOf i).toNat)
      case atStart => exact ⟨0, r, by omega, rfl, fun t h => by omega, fun _ _ => rfl, HR5.out, B5⟩
      case round =>
        obtain ⟨j, z, hj, rfl, HZ1, HZ2, HR, hBi⟩ := hrel
        clear HR5 B5
        by_cases hlt : j < mr
        · have hlt' : (j : Int) < mr := by omega
          obtain ⟨bj, sj, c0, c1, f0, f1', gj⟩ := HR.out.2 j hlt
          obtain ⟨Aj, nj, cj, rfl⟩ := gj.form
          have hgr := HR.out.1
          go_wp2_with (go_at_call 133; refine (opposite_any bj _ _ _ _ (by exact gj.below (Nat.le_refl _) ((Below.refl _ _).alloc (Nat.le_refl _) _))).mono ?_; rintro e w6 ⟨b2, s2, rfl, hL, B6⟩; have KB6 := ((Below.refl wr.heap.size wr).alloc (Nat.le_refl _) (Obj.cells #[Value.bool bj, Value.slice Aj nj cj] 130)).trans (B6.mono (by simp)); have d0 := (KB6.cell (p := ⟨g, j * 2, none⟩) hgr).trans c0; have d1 := (KB6.cell (p := ⟨g, j * 2 + 1, none⟩) hgr).trans c1; have d2 := (KB6.frozen (p := ⟨g, j * 2, none⟩) hgr).trans f0; have d3 := (KB6.frozen (p := ⟨g, j * 2 + 1, none⟩) hgr).trans f1'; obtain ⟨A3, n3, c3, rfl⟩ := hL.form)
          go_roundw
          case rel =>
            exact ⟨j + 1, _, by omega, by go_num, fun t ht => by
              by_cases e : t = j
              · subst e; rw [upd_same, HZ2.out t (Nat.le_refl _)]
              · rw [upd_other e]; exact HZ1.out t (by omega), fun t ht => by
              rw [upd_other (by omega)]; exact HZ2.out t (by omega), (HR.out.below (Nat.le_refl _) KB6).set hlt hL, ((hBi.trans (KB6.mono hBi.size)).setCell hge _).setCell hge _⟩
          case measure => simp [intOf]; omega
        · obtain rfl : j = mr := by omega
          have HR8 := Lib.hid (HR.out.congr (y := fun i => -r i) (fun i hi => HZ1.out i hi))
          clear HZ1 HZ2 HR
          go_wp2
          go_roundw
          case rel =>
            refine ⟨k + 1, ml, j, f1, zl, _, Al, _, cl, _, acc ++ [(ml, zl)], rfl, rfl, hml, by omega, by omega, by omega, by simp [hacc], ((HPl4.out.below (Nat.le_refl _) hBi).more ?_), PA.of HR8.out, by have h0 := HS4.out.below hBi; rw [hacc] at h0; exact h0, by rw [List.append_assoc]; exact HC3.out, hB4.trans (hBi.mono hB4.size)⟩
            have h1 : 8 ^ k ≤ 8 ^ (k + 1) := Nat.pow_le_pow_right (by omega) (by omega)
            omega
          case measure => simp [lenOfS]; omega
    · obtain rfl : ml = 0 := by omega
      have HC2 := HC.out
      rw [chainR_zero, List.append_nil] at HC2
      subst HC2
      have HS2 := HS.out.st
      go_wp2
      go_ret
      exact ⟨gs, cs, by first | rfl | (rw [hacc]; rfl) | (simp [hacc]; done), HS2, by omega, hB⟩

end Go.Proofs.Ytdlddfmodbcnmaa
