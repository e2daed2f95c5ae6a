/- Walks: the reference's changes of signs, and its chain. -/
import Derived.Test.YtfnmnnbmhfbkbaaVA
import Derived.Test.YtfnmnnbmhfbkbaaV8
set_option linter.unusedVariables false
set_option linter.unusedSimpArgs false
namespace Go.Proofs.Ytfnmnnbmhfbkbaa
open Go.RowKit

set_option maxRecDepth 100000 in
set_option maxHeartbeats 4000000 in
theorem changesW_any (A : Option Addr) (l : List (Nat × Row)) (n c : Nat) (L : Nat) (N D : Int) (w : World) (hA : WT w A l L) (hT : ∀ p, p ∈ l → TopP p) (hl : l.length = n) (hn : n ≤ 1000) (hL : L ≤ 90000000) (hN : -100000000000000000 ≤ N) (hN' : N ≤ 100000000000000000) (hD : -100000000000000000 ≤ D) (hD' : D ≤ 100000000000000000) :
    Calls Try.prog 112 #[.slice A n c, .int .i64 N, .int .i64 D] w fun e w' => e = .returned (.int .i64 (chgR N D l)) ∧ Below w.heap.size w w' := by
  have HL := Bx.mk hl
  have HT0 := Bx.mk hT
  have HA := Bx.mk hA
  clear hl hT hA
  go_enter Try.func112, Try.ntmps112
  go_wp2
  go_loopw [7, 8, 9] (fun ch bf i wr => ∃ k : Nat, k ≤ n ∧ i = .int .i64 k ∧ ch = .int .i64 (chgL N D (l.take k)).1 ∧ bf = .int .i64 (chgL N D (l.take k)).2 ∧ Bx (Below w.heap.size w wr)) (fun _ _ i _ => n - (intOf i).toNat)
  case atStart => exact ⟨0, by omega, rfl, rfl, rfl, ⟨Below.refl _ _⟩⟩
  case round =>
    obtain ⟨k, hk, rfl, rfl, rfl, hB⟩ := hrel
    by_cases hlt : k < n
    · have hlt' : (k : Int) < n := by omega
      obtain ⟨g, rfl, hg, hi⟩ := (HA.out.below (Nat.le_refl _) hB.out) (by rw [HL.out]; omega)
      obtain ⟨p, hp⟩ : ∃ p, l[k]? = some p := ⟨_, List.getElem?_eq_getElem (by rw [HL.out]; exact hlt)⟩
      obtain ⟨Ai, ci, c0, hPA, hpn⟩ := hi k p hp
      have HT := Bx.mk (show chgL N D (l.take (k + 1)) = chgStep N D (chgL N D (l.take k)) p by rw [List.take_add_one, hp, Option.toList_some, chgL_snoc])
      have hbd := chgL_bd N D (l.take k)
      have hlen : ((l.take k).length : Int) ≤ 1000 := by rw [List.length_take]; omega
      have hsb := sgBehind_bd N D p.1 p.2
      have hne := (HT0.out p (List.mem_of_getElem? hp)).ne N D
      obtain ⟨pn, pz⟩ := p
      dsimp only at *
      have HPA := Bx.mk hPA
      clear hi hp hPA
      generalize hcc : chgL N D (l.take k) = cc at *
      clear hcc
      obtain ⟨h1, h2, h3, h4⟩ := hbd
      obtain ⟨s1, s2⟩ := hsb
      obtain ⟨sg, hsg⟩ : ∃ sg, sgBehind N D pn pz = sg := ⟨_, rfl⟩
      rw [hsg] at s1 s2 hne
      have HSG := Bx.mk hsg
      clear hsg
      have hmul := mul_bd (x := sg) (y := cc.2) (A := 1) (B := 1) (by omega) (by omega) (by omega) (by omega)
      have hsne : (sg != 0) = true := by simpa using hne
      clear hne
      by_cases hneg : sg * cc.2 < 0
      · have HS := Bx.mk (show chgStep N D cc (pn, pz) = (cc.1 + 1, sg) by unfold chgStep; dsimp only; rw [HSG.out, if_pos (by rw [Int.mul_comm]; exact hneg)])
        go_wp2_with (go_at_call 135; (with_reducible refine (behindW_any Ai pn ci pz L N D _ HPA.out hpn hL hN hN' hD hD').mono ?_); rw [HSG.out]; rintro e w1 ⟨rfl, B1⟩; have HB1 := Bx.mk B1; clear B1)
        go_roundw
        case rel => exact ⟨k + 1, by omega, by go_num, by rw [HT.out, HS.out], by rw [HT.out, HS.out], ⟨hB.out.trans (HB1.out.mono hB.out.size)⟩⟩
        case measure => simp [intOf]; omega
      · have HS := Bx.mk (show chgStep N D cc (pn, pz) = (cc.1, sg) by unfold chgStep; dsimp only; rw [HSG.out, if_neg (by rw [Int.mul_comm]; exact hneg)])
        go_wp2_with (go_at_call 135; (with_reducible refine (behindW_any Ai pn ci pz L N D _ HPA.out hpn hL hN hN' hD hD').mono ?_); rw [HSG.out]; rintro e w1 ⟨rfl, B1⟩; have HB1 := Bx.mk B1; clear B1)
        go_roundw
        case rel => exact ⟨k + 1, by omega, by go_num, by rw [HT.out, HS.out], by rw [HT.out, HS.out], ⟨hB.out.trans (HB1.out.mono hB.out.size)⟩⟩
        case measure => simp [intOf]; omega
    · obtain rfl : k = n := by omega
      go_wp2
      go_ret
      exact ⟨ret_int (by rw [List.take_of_length_le (by rw [HL.out]; omega)]; rfl), hB.out⟩

theorem boundW (k nb : Nat) (hn : nb ≤ 7) : 7 * 8 ^ k - 2 + nb * (7 * 8 ^ k - 2 + 2) ≤ 7 * 8 ^ (k + 1) - 2 := by
  have h1 : 1 ≤ 8 ^ k := Nat.le_trans Nat.one_le_two_pow (Nat.pow_le_pow_left (show 2 ≤ 8 by omega) k)
  rw [Nat.pow_succ, show 7 * 8 ^ k - 2 + 2 = 7 * 8 ^ k by omega]
  have h2 := Nat.mul_le_mul_right (7 * 8 ^ k) hn
  omega
theorem boundW6 (k : Nat) (hk : k ≤ 6) : 7 * 8 ^ k - 2 ≤ 1835006 := by
  have h1 : 8 ^ k ≤ 8 ^ 6 := Nat.pow_le_pow_right (by omega) hk
  omega
/-- Two lists in blocks of their own. -/
def Disj (u v : Value) : Prop := ∀ g, u.ownBlock = some g → v.ownBlock ≠ some g
theorem Disj.nil (v : Value) : Disj (.slice none 0 0) v := fun g h => by simp [Value.ownBlock] at h
theorem Disj.symm {u v : Value} (h : Disj u v) : Disj v u := fun g h1 h2 => h g h2 h1

set_option maxRecDepth 100000 in
set_option maxHeartbeats 8000000 in
theorem chainW_any (A : Option Addr) (n c : Nat) (p : Row) (w : World) (hA : IS w A n p) (hn : 1 ≤ n) (hn' : n ≤ 7) (htop : p (n - 1) ≠ 0) (hsz : ∀ i, i < n → sz (p i) ≤ 1000000) :
    Calls Try.prog 108 #[.slice A n c] w fun e w' => ∃ g c', e = .returned (.slice (some ⟨g, 0, none⟩) (sturmR n p).length c') ∧ WT w' (some ⟨g, 0, none⟩) (sturmR n p) 1835006 ∧ (sturmR n p).length ≤ 8 ∧ Below w.heap.size w w' := by
  obtain ⟨i0, hi0, hz0, hz1, hz2⟩ := info_wide_parts
  obtain ⟨j0, hj0, hy0, hy1, hy2⟩ := info_list_parts
  have HA := Bx.mk hA
  have HTP := Bx.mk htop
  have HSZ := Bx.mk hsz
  obtain ⟨bp, off, rfl, hbp, hcp⟩ := hA.2 (by omega)
  have HCP := Bx.mk hcp
  clear hA htop hsz hcp
  go_enter Try.func108, Try.ntmps108
  go_wp2
  go_loopw [3, 4, 5] (fun av bv i wr => ∃ t : Nat, t ≤ n ∧ i = .int .i64 t ∧ Bx (WPO wr w.heap.size av t p 5) ∧ Bx (WPO wr w.heap.size bv (t - 1) (dRow p) 5) ∧ Bx (Disj av bv) ∧ Bx (Below w.heap.size w wr)) (fun _ _ i _ => n - (intOf i).toNat)
  case atStart => exact ⟨0, by omega, rfl, ⟨WPO.nil _ _ _ _⟩, ⟨WPO.nil _ _ _ _⟩, ⟨Disj.nil _⟩, ⟨Below.refl _ _⟩⟩
  case round =>
    obtain ⟨t, ht, rfl, HO, HP, HD, HB⟩ := hrel
    obtain ⟨Aa, ca, rfl⟩ := HO.out.form
    obtain ⟨Ab, cb, rfl⟩ := HP.out.form
    by_cases hlt : t < n
    · have hlt' : (t : Int) < n := by omega
      have c0 := (HB.out.cell (p := ⟨bp, off + t, none⟩) hbp).trans (HCP.out t hlt)
      have hpz := HSZ.out t hlt
      have hp1 : -1000000 ≤ p t ∧ p t ≤ 1000000 := by unfold sz at hpz; omega
      obtain ⟨hp1, hp2⟩ := hp1
      clear hpz
      obtain ⟨xs, ho, hx⟩ := HO.out.2
      have HX := Bx.mk hx
      have HOW := Bx.mk ho
      clear ho hx
      obtain ⟨ys, ho2, hy⟩ := HP.out.2
      have HPW := Bx.mk ho2
      clear ho2 hy
      rcases Nat.eq_zero_or_pos t with h0 | h0
      · subst h0
        have c00 : wr.cell? ⟨bp, off, none⟩ = some (.int .i64 (p 0)) := c0
        have hn0 : (0 : Int) < n := by omega
        go_wp2_with (first
          | (go_at_call 126; (with_reducible refine (wideOf_any (p 0) _ (by omega) (by omega)).mono ?_); rintro e w1 ⟨b1, s1, rfl, G1, B1⟩; obtain ⟨A1, n1, d1, rfl⟩ := G1.form; have HG1 := Bx.mk G1; have HB1 := Bx.mk B1; have HZB := Bx.mk (show w.heap.size ≤ w1.heap.size from Nat.le_trans HB.out.size B1.size); have HKA := Bx.mk (show Below wr.heap.size wr (w1.alloc (.cells #[.int .i64 b1, .slice A1 n1 d1] 138)) from B1.alloc B1.size _); clear G1 B1)
          | (at_builtin; refine wpList_append_lies _ rfl _ _ _ rfl w.heap.size 138 i0 _ 2 32 Try.underlying114 hi0 hz0 hz1 hz2 rfl (by omega) (.slice Aa 0 ca) 0 xs rfl (owns_below HOW.out HKA.out) ⟨w1.heap.size, 0, none⟩ 1 1 [.int .i64 b1, .slice A1 n1 d1] rfl rfl (World.news_of_block (cs := #[.int .i64 b1, .slice A1 n1 d1]) (t := 138) (fr := (0, 0)) (heap_alloc_new w1 _)) (by simp [Value.oneCell']) (by omega) (by simp only [maxLen]; omega) (by omega) (by have := HZB.out; simp; omega) (w1.heap.size + 1) (by simp) ?_))
        intro gg cap w4 hown4 hgrow4 hat4 hlt4
        have HF := HO.out.below HKA.out
        have P4 := Bx.mk (WPO.more1 HF (HG1.out.below (Nat.le_refl _) ((Below.refl _ _).alloc (Nat.le_refl _) _)) (show p 0 = (p 0) from rfl) xs (owns_below HOW.out HKA.out) (fun i hi => by
          obtain ⟨b, sv, k1, k2, k3⟩ := HX.out i hi
          exact ⟨b, sv, k1, k2, k3.below (Nat.le_refl _) HKA.out⟩) hown4 hgrow4)
        have hlt5 := HOW.out.lt
        have hB4 := Bx.mk (show Below w.heap.size w w4 from (HB.out.trans (HKA.out.mono HB.out.size)).grown hgrow4 (by have := HZB.out; simp; omega) (fun j hj => (hlt5 j hj).1))
        have Q4 := Bx.mk ((HP.out.below HKA.out).grownO hgrow4 HF.first (fun g h1 h2 => HD.out g h2 h1))
        have HD4 := Bx.mk (show Disj (.slice (some ⟨gg, 0, none⟩) (0 + 1) cap) (.slice Ab (0 - 1) cb) from fun g h1 h2 => by
          simp only [Value.ownBlock, Option.some.injEq] at h1
          subst h1
          rcases hat4 with e | e
          · exact HD.out _ e h2
          · have h3 := (HPW.out.lt _ h2).2
            have h4 := HB1.out.size
            omega)
        have HLT4 := Bx.mk hlt4
        clear hown4 hgrow4 hlt5 hat4 HF hlt4
        go_wp2
        go_roundw
        case rel => exact ⟨1, by omega, rfl, P4, Q4, HD4, hB4⟩
        case measure => simp [intOf]; omega
      · have h0' : (0 : Int) < t := by omega
        go_wp2_with (first
          | (go_at_call 126; (with_reducible refine (wideOf_any (p t) _ (by omega) (by omega)).mono ?_); rintro e w1 ⟨b1, s1, rfl, G1, B1⟩; obtain ⟨A1, n1, d1, rfl⟩ := G1.form; have HG1 := Bx.mk G1; have HB1 := Bx.mk B1; have HZB := Bx.mk (show w.heap.size ≤ w1.heap.size from Nat.le_trans HB.out.size B1.size); have HKA := Bx.mk (show Below wr.heap.size wr (w1.alloc (.cells #[.int .i64 b1, .slice A1 n1 d1] 138)) from B1.alloc B1.size _); clear G1 B1)
          | (at_builtin; refine wpList_append_lies _ rfl _ _ _ rfl w.heap.size 138 i0 _ 2 32 Try.underlying114 hi0 hz0 hz1 hz2 rfl (by omega) (.slice Aa t ca) t xs rfl (owns_below HOW.out HKA.out) ⟨w1.heap.size, 0, none⟩ 1 1 [.int .i64 b1, .slice A1 n1 d1] rfl rfl (World.news_of_block (cs := #[.int .i64 b1, .slice A1 n1 d1]) (t := 138) (fr := (0, 0)) (heap_alloc_new w1 _)) (by simp [Value.oneCell']) (by omega) (by simp only [maxLen]; omega) (by omega) (by have := HZB.out; simp; omega) (w1.heap.size + 1) (by simp) ?_))
        intro gg cap w4 hown4 hgrow4 hat4 hlt4
        have HF := HO.out.below HKA.out
        have P4 := Bx.mk (WPO.more1 HF (HG1.out.below (Nat.le_refl _) ((Below.refl _ _).alloc (Nat.le_refl _) _)) (show p t = (p t) from rfl) xs (owns_below HOW.out HKA.out) (fun i hi => by
          obtain ⟨b, sv, k1, k2, k3⟩ := HX.out i hi
          exact ⟨b, sv, k1, k2, k3.below (Nat.le_refl _) HKA.out⟩) hown4 hgrow4)
        have hlt5 := HOW.out.lt
        have hB4 := Bx.mk (show Below w.heap.size w w4 from (HB.out.trans (HKA.out.mono HB.out.size)).grown hgrow4 (by have := HZB.out; simp; omega) (fun j hj => (hlt5 j hj).1))
        have Q4 := Bx.mk ((HP.out.below HKA.out).grownO hgrow4 HF.first (fun g h1 h2 => HD.out g h2 h1))
        have HD4 := Bx.mk (show Disj (.slice (some ⟨gg, 0, none⟩) (t + 1) cap) (.slice Ab (t - 1) cb) from fun g h1 h2 => by
          simp only [Value.ownBlock, Option.some.injEq] at h1
          subst h1
          rcases hat4 with e | e
          · exact HD.out _ e h2
          · have h3 := (HPW.out.lt _ h2).2
            have h4 := HB1.out.size
            omega)
        have HLT4 := Bx.mk hlt4
        clear hown4 hgrow4 hlt5 hat4 HF hlt4
        have c4 := (hB4.out.cell (p := ⟨bp, off + t, none⟩) hbp).trans (HCP.out t hlt)
        have hmu := mul_bd (x := (t : Int)) (y := p t) (A := 7) (B := 1000000) (by omega) (by omega) (by omega) (by omega)
        obtain ⟨hmu1, hmu2⟩ := hmu
        obtain ⟨zs, ho6, hx6⟩ := Q4.out.2
        have HX6 := Bx.mk hx6
        have HOW6 := Bx.mk ho6
        clear ho6 hx6 HZB
        go_wp2_with (first
          | (go_at_call 126; (with_reducible refine (wideOf_any ((t : Int) * p t) _ (by omega) (by omega)).mono ?_); rintro e w5 ⟨b5, s5, rfl, G5, B5⟩; obtain ⟨A5, n5, d5, rfl⟩ := G5.form; have HG5 := Bx.mk G5; have HB5 := Bx.mk B5; have HZB := Bx.mk (show w.heap.size ≤ w5.heap.size from Nat.le_trans hB4.out.size B5.size); have HKB := Bx.mk (show Below w4.heap.size w4 (w5.alloc (.cells #[.int .i64 b5, .slice A5 n5 d5] 138)) from B5.alloc B5.size _); clear G5 B5)
          | (at_builtin; refine wpList_append_lies _ rfl _ _ _ rfl w.heap.size 138 i0 _ 2 32 Try.underlying114 hi0 hz0 hz1 hz2 rfl (by omega) (.slice Ab (t - 1) cb) (t - 1) zs rfl (owns_below HOW6.out HKB.out) ⟨w5.heap.size, 0, none⟩ 1 1 [.int .i64 b5, .slice A5 n5 d5] rfl rfl (World.news_of_block (cs := #[.int .i64 b5, .slice A5 n5 d5]) (t := 138) (fr := (0, 0)) (heap_alloc_new w5 _)) (by simp [Value.oneCell']) (by omega) (by simp only [maxLen]; omega) (by omega) (by have := HZB.out; simp; omega) (w5.heap.size + 1) (by simp) ?_))
        intro g6 cap6 w6 hown6 hgrow6 hat6 hlt6
        have HF6 := Q4.out.below HKB.out
        have P6 := Bx.mk (WPO.more1 HF6 (HG5.out.below (Nat.le_refl _) ((Below.refl _ _).alloc (Nat.le_refl _) _)) (show dRow p (t - 1) = (t : Int) * p t by rw [dRow_eq p t h0, Int.mul_comm]) zs (owns_below HOW6.out HKB.out) (fun i hi => by
          obtain ⟨b, sv, k1, k2, k3⟩ := HX6.out i hi
          exact ⟨b, sv, k1, k2, k3.below (Nat.le_refl _) HKB.out⟩) hown6 hgrow6)
        have hlt5 := HOW6.out.lt
        have hB6 := Bx.mk (show Below w.heap.size w w6 from (hB4.out.trans (HKB.out.mono hB4.out.size)).grown hgrow6 (by have := HZB.out; simp; omega) (fun j hj => (hlt5 j hj).1))
        have Q6 := Bx.mk ((P4.out.below HKB.out).grownO hgrow6 HF6.first (fun g h1 h2 => HD4.out g h1 h2))
        have HD6 := Bx.mk (show Disj (.slice (some ⟨gg, 0, none⟩) (t + 1) cap) (.slice (some ⟨g6, 0, none⟩) (t - 1 + 1) cap6) from fun g h1 h2 => by
          have h1' := h1
          simp only [Value.ownBlock, Option.some.injEq] at h1 h2
          subst h2
          rcases hat6 with e | e
          · exact HD4.out _ h1' e
          · have h3 := HLT4.out
            have h4 := HB5.out.size
            omega)
        clear hown6 hgrow6 hlt5 hat6 HF6 hlt6
        go_wp2
        go_roundw
        case rel => exact ⟨t + 1, by omega, by go_num, Q6, ⟨by rw [show t + 1 - 1 = t - 1 + 1 by omega]; exact P6.out⟩, HD6, hB6⟩
        case measure => simp [intOf]; omega
    · obtain rfl : t = n := by omega
      have HPA := Bx.mk (show WPA (wr.alloc (.cells #[.slice Aa t ca] 114)) Aa t p 5 from (HO.out.pa).alloc _)
      have HPB := Bx.mk (show WPA (wr.alloc (.cells #[.slice Aa t ca] 114)) Ab (t - 1) (dRow p) 5 from (HP.out.pa).alloc _)
      have HS0 := Bx.mk (WO.new (base := w.heap.size) (c := ca) HB.out.size ((HO.out.pa).more (show 5 ≤ 1835006 by omega)) (show t ≤ 100 by omega))
      have HB0 := Bx.mk (show Below w.heap.size w (wr.alloc (.cells #[.slice Aa t ca] 114)) from HB.out.alloc HB.out.size _)
      have HTQ := Bx.mk (show 0 < t - 1 → dRow p (t - 1 - 1) ≠ 0 from fun h => by
        obtain ⟨u, rfl⟩ : ∃ u, t = u + 2 := ⟨t - 2, by omega⟩
        exact dRow_top HTP.out)
      clear HO HP HD HB
      go_wp2
      go_loopw [3, 4, 6] (fun av bv ov wi => ∃ (k nb ml f : Nat) (zb zl : Row) (Ab Al : Option Addr) (cb cl : Nat) (acc : List (Nat × Row)), av = .slice Ab nb cb ∧ bv = .slice Al ml cl ∧ 1 ≤ nb ∧ nb ≤ 7 ∧ ml ≤ nb ∧ ml ≤ f ∧ k + ml ≤ 6 ∧ acc.length = k + 1 ∧ Bx (WPA wi Ab nb zb (7 * 8 ^ k - 2)) ∧ Bx (WPA wi Al ml zl (7 * 8 ^ k - 2)) ∧ Bx (0 < ml → zl (ml - 1) ≠ 0) ∧ Bx (WO wi w.heap.size ov acc 1835006) ∧ Bx (acc ++ chainR f nb zb ml zl = sturmR t p) ∧ Bx (Below w.heap.size w wi)) (fun _ bv _ _ => lenOfS bv)
      case atStart => exact ⟨0, t, t - 1, t, p, dRow p, _, _, _, _, [(t, p)], rfl, rfl, hn, hn', by omega, by omega, by omega, rfl, HPA, HPB, HTQ, HS0, ⟨rfl⟩, HB0⟩
      case round =>
        obtain ⟨k, nb, ml, f, zb, zl, Ab, Al, cb, cl, acc, rfl, rfl, hnb, hnb', hmn, hmf, hkm, hacc, HPb, HPl, HTl, HS, HC, hB⟩ := hrel
        clear HPA HPB HTQ HS0 HB0
        obtain ⟨gs, cs, rfl⟩ := HS.out.form (by omega)
        by_cases hml : 1 ≤ ml
        · have hml' : (0 : Int) < ml := by omega
          obtain ⟨f1, hf1⟩ : ∃ f1, f = f1 + 1 := ⟨f - 1, by omega⟩
          subst hf1
          have HC2 := HC.out
          rw [chainR_step f1 nb ml zb zl hml] at HC2
          have hmr := restR_lt (q := zl) hml nb nb zb (Nat.le_refl _)
          have HTR := Bx.mk (restR_top (q := zl) hml nb nb zb hmn (Nat.le_refl _))
          have HC3 := Bx.mk HC2
          clear HC2 HC
          obtain ⟨xs, ho, hx⟩ := HS.out
          have HX := Bx.mk hx
          have HOW := Bx.mk ho
          clear hx ho
          have hb6 := boundW6 k (by omega)
          have HB8 := Bx.mk (boundW k nb hnb')
          have HPW := Bx.mk (show 7 * 8 ^ k - 2 ≤ 7 * 8 ^ (k + 1) - 2 by
            have h1 : 8 ^ k ≤ 8 ^ (k + 1) := Nat.pow_le_pow_right (by omega) (by omega)
            omega)
          generalize 7 * 8 ^ k - 2 = X at *
          have HZB := Bx.mk hB.out.size
          go_wp2_with (at_builtin; refine wpList_append_lies _ rfl _ _ _ rfl w.heap.size 114 j0 _ 1 24 Try.underlying115 hj0 hy0 hy1 hy2 rfl (by omega) (.slice (some ⟨gs, 0, none⟩) acc.length cs) acc.length xs rfl (owns_below HOW.out ((Below.refl _ _).alloc (Nat.le_refl _) _)) ⟨wr.heap.size, 0, none⟩ 1 1 [.slice Al ml cl] rfl rfl (World.news_of_block (cs := #[.slice Al ml cl]) (t := 114) (fr := (0, 0)) (heap_alloc_new wr _)) (by simp [Value.oneCell']) (by omega) (by simp only [maxLen]; omega) (by omega) (by have := HZB.out; simp; omega) (wr.heap.size + 1) (by simp) ?_)
          intro gg cap w4 hown4 hgrow4 hat4 hlt4
          rw [← hacc] at hown4
          have KA : Below wr.heap.size wr (wr.alloc (.cells #[.slice Al ml cl] 114)) := (Below.refl _ _).alloc (Nat.le_refl _) _
          have hSA := HS.out.below KA
          have hf := hSA.first (by omega)
          have HS4 := Bx.mk (WO.more1 hSA (by omega) xs (owns_below HOW.out KA) (fun i p hp => by
            obtain ⟨Ai, ci, k1, k2, k3⟩ := HX.out i p hp
            exact ⟨Ai, ci, k1, k2.below (Nat.le_refl _) KA, k3⟩) ((HPl.out.below (Nat.le_refl _) KA).more hb6) (by omega) hown4 hgrow4)
          have HPb4 := Bx.mk ((HPb.out.below (Nat.le_refl _) KA).grownL hgrow4 hf)
          have HPl4 := Bx.mk ((HPl.out.below (Nat.le_refl _) KA).grownL hgrow4 hf)
          have hlt5 := HOW.out.lt
          have hB4 := Bx.mk (show Below w.heap.size w w4 from (hB.out.trans (KA.mono hB.out.size)).grown hgrow4 (by have := HZB.out; simp; omega) (fun j hj => (hlt5 j hj).1))
          clear hown4 hlt5 hat4 hSA hf KA HPb HPl HS HX HOW hgrow4 hlt4
          obtain ⟨R, hR⟩ : ∃ R, restR ml zl nb nb zb = R := ⟨_, rfl⟩
          have HR := Bx.mk hR
          rw [hR] at hmr HTR HC3
          clear hR
          obtain ⟨mr, r⟩ := R
          dsimp only at *
          go_wp2_with (first
            | (go_at_call 130; (with_reducible refine (remW_any Ab Al nb ml cb cl zb zl X X _ HPb4.out HPl4.out hml (by omega) (by omega) (by omega) (by omega) (HTl.out (by omega))).mono ?_); rw [HR.out]; rintro e w5 ⟨A5, c5, rfl, P5, _, B5⟩; have HP5 := Bx.mk P5; have HB5 := Bx.mk B5; clear P5 B5)
            | (go_at_call 129; (with_reducible refine (oppositeW_any A5 mr c5 r _ _ HP5.out (by omega)).mono ?_); rintro e w6 ⟨A6, c6, rfl, P6, B6⟩; have HP6 := Bx.mk P6; have HB6 := Bx.mk B6; clear P6 B6))
          have HB56 := Bx.mk (show Below w4.heap.size w4 w6 from HB5.out.trans (HB6.out.mono HB5.out.size))
          go_roundw
          case rel =>
            exact ⟨k + 1, ml, mr, f1, zl, _, Al, A6, cl, c6, acc ++ [(ml, zl)], rfl, rfl, hml, by omega, by omega, by omega, by omega, by simp [hacc], ⟨(HPl4.out.below (Nat.le_refl _) HB56.out).more HPW.out⟩, ⟨HP6.out.more HB8.out⟩, ⟨fun h e => HTR.out h (by omega)⟩, ⟨by have h0 := HS4.out.below HB56.out; rw [hacc] at h0; exact h0⟩, ⟨by rw [List.append_assoc]; exact HC3.out⟩, ⟨hB4.out.trans (HB56.out.mono hB4.out.size)⟩⟩
          case measure => simp [lenOfS]; omega
        · obtain rfl : ml = 0 := by omega
          have HC2 := HC.out
          rw [chainR_zero, List.append_nil] at HC2
          subst HC2
          have HS2 := Bx.mk HS.out.st
          go_wp2
          go_ret
          exact ⟨gs, cs, by first | rfl | (rw [hacc]; rfl) | (simp [hacc]; done), HS2.out, by omega, hB.out⟩

end Go.Proofs.Ytfnmnnbmhfbkbaa
