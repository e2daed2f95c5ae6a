/- Chapter 4, plain: the shortest sequence; more damage takes no fewer minutes. -/
import Derived.Test.YtjhclaollpkdgaaKQ
import Derived.Test.YtjhclaollpkdgaaKq
set_option linter.unusedVariables false
set_option linter.unusedSimpArgs false
namespace Go.Proofs.Ytjhclaollpkdgaa.Vg
open Go Go.Proofs.Ytjhclaollpkdgaa.Ev Go.Proofs.Ytjhclaollpkdgaa.Vv
theorem up_p (k : Nat) {n b : Int} (hn : 0 ≤ n ∧ n ≤ 1000000) (hb : 1 ≤ b ∧ b ≤ 100000) : ngrind_up k n b = some (upQ n b) := by
  have h1 : 0 ≤ (n + b - 1) / b := Int.ediv_nonneg (by omega) (by omega)
  have h2 : (n + b - 1) / b ≤ n + b - 1 := Int.ediv_le_self _ (by omega)
  unfold ngrind_up upQ
  rw [if_pos (by omega), w64_id (n := n + b) (by omega) (by omega), w64_id (n := n + b - 1) (by omega) (by omega), Int.tdiv_eq_ediv_of_nonneg (by omega), w64_id (by omega) (by omega)]
theorem cmp_any (k : Nat) (a b : Int) : ncmp_Compare_int_ k a b = some (if a < b then -1 else if b < a then 1 else 0) := by
  unfold ncmp_Compare_int_ ncmp_isNaN_int_
  simp only [Option.bind_some, decide_true, Bool.not_true]
  rw [if_neg (by decide), if_neg (by decide)]
  split
  · rfl
  · split <;> rfl
theorem or_two (k : Nat) (hk : 100 < k) (x y : Int) : ncmp_Or_int_ k [x, y] = some (if x = 0 then y else x) := by
  obtain ⟨g, rfl⟩ : ∃ g, k = g + 3 := ⟨k - 3, by omega⟩
  have l : ncmp_Or_int__l0_0 (g + 3) [x, y] (g + 3) 0 = some (if x = 0 then (if y = 0 then .inr () else .inl y) else .inl x) := by
    rw [ncmp_Or_int__l0_0.eq_2, if_pos (by simp), if_pos (by simp), show List.getD [x, y] ((0 : Int)).toNat 0 = x from rfl]
    by_cases c : x = 0
    · rw [if_pos c, if_pos c, show w64 (0 + 1) = 1 from by decide, ncmp_Or_int__l0_0.eq_2, if_pos (by simp), if_pos (by simp), show List.getD [x, y] ((1 : Int)).toNat 0 = y from rfl]
      by_cases d : y = 0
      · rw [if_pos d, if_pos d, show w64 (1 + 1) = 2 from by decide, ncmp_Or_int__l0_0.eq_2, if_neg (by simp)]
      · rw [if_neg d, if_neg d]
    · rw [if_neg c, if_neg c]
  unfold ncmp_Or_int_
  rw [l, Option.bind_some]
  by_cases c : x = 0
  · rw [if_pos c, if_pos c]
    by_cases d : y = 0
    · rw [if_pos d, d]
    · rw [if_neg d]
  · rw [if_neg c, if_neg c]
theorem shorter_any (k : Nat) (hk : 100 < k) (w v : Swork) : ∃ b, n_grind_work_isShorter k w v = some b ∧ (b = true → w.minutes ≤ v.minutes) ∧ (b = false → v.minutes ≤ w.minutes) := by
  unfold n_grind_work_isShorter
  rw [cmp_any, Option.bind_some, cmp_any, Option.bind_some, or_two k hk, Option.bind_some]
  refine ⟨_, rfl, fun h => ?_, fun h => ?_⟩
  · have h := of_decide_eq_true h
    rcases Int.lt_or_le v.minutes w.minutes with c | c
    · rw [if_neg (show ¬ w.minutes < v.minutes by omega), if_pos c, if_neg (by decide)] at h
      exact absurd h (by decide)
    · exact c
  · have h := of_decide_eq_false h
    rcases Int.lt_or_le w.minutes v.minutes with c | c
    · rw [if_pos c, if_neg (by decide)] at h
      exact absurd (show (-1 : Int) < 0 by decide) h
    · exact c
/-- what the rounds keep. -/
def SInv (l : List SGrit) (W D : Int) (i : Nat) (b : Int) (f : Bool) : Prop := (f = true → Pa l W D b) ∧ ∀ j, j < i → ∀ g, l[j]? = some g → g.Damage < D → ∀ m', Pa l W g.Damage m' → f = true ∧ b ≤ upQ D g.Rate + m'
theorem rounds (k : Nat) (hk : 100 < k) {l : List SGrit} (hl : GL l) (hlen : l.length ≤ 12) {W D : Int} (hW : 0 ≤ W) (hWD : W < D) (hD : D ≤ 1000000) (self : List SGrit → Int → Int → Option (Swork × Bool))
    (hs : ∀ g ∈ l, g.Damage < D → ∃ w ok, self l g.Damage W = some (w, ok) ∧ Least l W g.Damage ok w.minutes ∧ w.sequence.length ≤ g.Damage.toNat) :
    ∀ (d fuel i : Nat) (b0 : List Int) (b1 : Int) (f : Bool), l.length = i + d → d < fuel → SInv l W D i b1 f → b0.length ≤ D.toNat →
      ∃ b0' b1' f', ngrind_shortest_l0_0 k self l D W fuel b0 b1 (i : Int) f = some (f', b0', b1') ∧ SInv l W D l.length b1' f' ∧ b0'.length ≤ D.toNat := by
  intro d
  induction d with
  | zero =>
    intro fuel i b0 b1 f h hf hI hb
    obtain ⟨g, rfl⟩ : ∃ g, fuel = g + 1 := ⟨fuel - 1, by omega⟩
    rw [ngrind_shortest_l0_0.eq_2, if_neg (by omega)]
    obtain rfl : i = l.length := by omega
    exact ⟨b0, b1, f, rfl, hI, hb⟩
  | succ d ih =>
    intro fuel i b0 b1 f h hf hI hb
    obtain ⟨g, rfl⟩ : ∃ g, fuel = g + 1 := ⟨fuel - 1, by omega⟩
    have hi : i < l.length := by omega
    have hget : l[i]? = some l[i] := List.getElem?_eq_getElem hi
    have hmem : l[i] ∈ l := List.getElem_mem hi
    have e : l.getD ((i : Int)).toNat default = l[i] := by
      rw [Int.toNat_natCast, List.getD_eq_getElem?_getD, hget]; rfl
    obtain ⟨g1, g2⟩ := gritB_t (hl.all _ hmem)
    rw [ngrind_shortest_l0_0.eq_2, if_pos (show (i : Int) < l.length by omega), if_pos (show (0 : Int) ≤ (i : Int) ∧ (i : Int) < l.length by omega), e, w64_succ (by omega)]
    -- one more round
    have step : ∀ {b1' : Int} {f' : Bool}, (f' = true → Pa l W D b1') → (∀ j, j < i → ∀ g, l[j]? = some g → g.Damage < D → ∀ m', Pa l W g.Damage m' → f' = true ∧ b1' ≤ upQ D g.Rate + m') → (l[i].Damage < D → ∀ m', Pa l W l[i].Damage m' → f' = true ∧ b1' ≤ upQ D l[i].Rate + m') → SInv l W D (i + 1) b1' f' := by
      intro b1' f' h1 h2 h3
      refine ⟨h1, fun j hj x hx hd m' hm => ?_⟩
      by_cases c : j = i
      · subst c
        rw [hget] at hx
        injection hx with hx
        subst hx
        exact h3 hd m' hm
      · exact h2 j (by omega) x hx hd m' hm
    by_cases c : D ≤ l[i].Damage
    · rw [if_pos c]
      exact ih g (i + 1) b0 b1 f (by omega) (by omega) (step hI.1 hI.2 (fun h => by omega)) hb
    · obtain ⟨w, ok, s1, s2, s3⟩ := hs _ hmem (by omega)
      have u := upQ_bd (n := D) (b := l[i].Rate) g2.1 (by omega)
      rw [if_neg c, s1, Option.bind_some]
      dsimp only
      rw [if_pos (by simp; omega), up_p k (by omega) g2, Option.bind_some]
      have hlen2 : (([(i : Int)] : List Int) ++ w.sequence).length ≤ D.toNat := by simp; omega
      cases ok with
      | false =>
        rw [if_neg (by decide)]
        have s2' : ∀ m', ¬ Pa l W l[i].Damage m' := s2
        exact ih g (i + 1) b0 b1 f (by omega) (by omega) (step hI.1 hI.2 (fun _ m' hm => absurd hm (s2' m'))) hb
      | true =>
        have s2' : Pa l W l[i].Damage w.minutes ∧ ∀ m', Pa l W l[i].Damage m' → w.minutes ≤ m' := s2
        have bw := s2'.1.bd hl hW
        have wm : w.minutes ≤ 1000000000000 := by
          rcases Int.lt_or_le W l[i].Damage with h | h
          · have := bw.2.1 h
            have := Int.mul_le_mul (show l[i].Damage ≤ 1000000 by omega) (show l[i].Damage ≤ 1000000 by omega) g1.1 (by decide)
            omega
          · have := bw.2.2 h; omega
        have new := Pa.cons hmem (by omega) hWD s2'.1
        rw [if_pos rfl, w64_id (n := upQ D l[i].Rate + w.minutes) (by omega) (by omega)]
        have here : ∀ m', Pa l W l[i].Damage m' → upQ D l[i].Rate + w.minutes ≤ upQ D l[i].Rate + m' := fun m' hm => by have := s2'.2 m' hm; omega
        cases f with
        | false =>
          rw [if_neg (by decide)]
          exact ih g (i + 1) _ _ true (by omega) (by omega) (step (fun _ => new) (fun j hj x hx hd m' hm => by
            have := (hI.2 j hj x hx hd m' hm).1; cases this) (fun _ m' hm => ⟨rfl, here m' hm⟩)) hlen2
        | true =>
          obtain ⟨b, t1, t2, t3⟩ := shorter_any k hk ⟨([(i : Int)] : List Int) ++ w.sequence, upQ D l[i].Rate + w.minutes⟩ ⟨b0, b1⟩
          rw [if_pos rfl, t1, Option.bind_some]
          cases b with
          | true =>
            have t2 := t2 rfl
            dsimp only at t2
            rw [if_pos rfl]
            exact ih g (i + 1) _ _ true (by omega) (by omega) (step (fun _ => new) (fun j hj x hx hd m' hm => ⟨rfl, by have := (hI.2 j hj x hx hd m' hm).2; omega⟩) (fun _ m' hm => ⟨rfl, here m' hm⟩)) hlen2
          | false =>
            have t3 := t3 rfl
            dsimp only at t3
            rw [if_neg (by decide)]
            exact ih g (i + 1) _ _ true (by omega) (by omega) (step hI.1 hI.2 (fun _ m' hm => ⟨rfl, by have := here m' hm; omega⟩)) hb
theorem shortest_least {l : List SGrit} (hl : GL l) (hlen : l.length ≤ 12) {W : Int} (hW : 0 ≤ W) : ∀ (N : Nat) (k : Nat) (D : Int), 0 ≤ D → D ≤ 1000000 → D < (N : Int) → N + 200 ≤ k →
    ∃ w ok, ngrind_shortest k l D W = some (w, ok) ∧ Least l W D ok w.minutes ∧ w.sequence.length ≤ D.toNat := by
  intro N
  induction N with
  | zero => intro k D h1 h2 h3; omega
  | succ N ih =>
    intro k D h1 h2 h3 h4
    obtain ⟨g, rfl⟩ : ∃ g, k = g + 1 := ⟨k - 1, by omega⟩
    rw [ngrind_shortest.eq_2]
    unfold ngrind_shortest_s
    by_cases c : D ≤ W
    · rw [if_pos c]
      refine ⟨_, _, rfl, ?_, by simp⟩
      exact ⟨.nil c, fun m' hm => (hm.bd hl hW).1⟩
    · rw [if_neg c]
      obtain ⟨b0, b1, f, e, I, hb⟩ := rounds g (by omega) hl hlen hW (by omega) h2 (ngrind_shortest g) (fun x hx hd => by
        obtain ⟨g1, _⟩ := gritB_t (hl.all x hx)
        exact ih g x.Damage g1.1 g1.2 (by omega) (by omega)) l.length g 0 [] 0 false (by omega) (by omega) ⟨fun h => (nomatch h), fun j hj => by omega⟩ (by simp)
      rw [show ngrind_shortest_l0_0 g (ngrind_shortest g) l D W g [] 0 0 false = _ from e, Option.bind_some]
      refine ⟨_, _, rfl, ?_, hb⟩
      have all : ∀ m', Pa l W D m' → f = true ∧ b1 ≤ m' := by
        intro m' hm
        cases hm with
        | nil h => omega
        | cons hg hd hw hp =>
          obtain ⟨j, hj⟩ := List.getElem?_of_mem hg
          have hj2 : j < l.length := (List.getElem?_eq_some_iff.1 hj).1
          exact I.2 j hj2 _ hj hd _ hp
      cases f with
      | true => exact ⟨I.1 rfl, fun m' hm => (all m' hm).2⟩
      | false => exact fun m' hm => by have := (all m' hm).1; cases this
/-- what Shortest says. -/
theorem shortest_any {l : List SGrit} (hE : gritE l = 0) (t : A23) (h0 : 0 ≤ t.e0 ∧ t.e0 ≤ 1000000) (h1 : 0 ≤ t.e1 ∧ t.e1 ≤ 1000000) : ∃ s m e, ngrind_Shortest 100000000000000000000 l t = some (s, m, e) ∧ ((e = 0 ∧ Least l t.e1 t.e0 true m) ∨ (e = 12 ∧ Least l t.e1 t.e0 false 0)) := by
  obtain ⟨z1, z2⟩ := gritE_zero hE
  have hl : GL l := ⟨fun g hg => by
    obtain ⟨j, hj⟩ := List.getElem?_of_mem hg
    have hj2 : j < l.length := (List.getElem?_eq_some_iff.1 hj).1
    have := z2 j hj2
    rwa [List.getD_eq_getElem?_getD, hj] at this⟩
  obtain ⟨w, ok, e, L, _⟩ := shortest_least hl z1 h1.1 1000001 100000000000000000000 t.e0 h0.1 h0.2 (by omega) (by omega)
  unfold ngrind_Shortest ngrind_validGrits ngrind_within ngrind_firstOf_c0_Lgrind_validGrits_1_grind_within_1 ngrind_validGrits_1
  rw [Option.bind_some, Option.bind_some]
  dsimp only
  rw [checkGrits_p _ (by decide) (Nat.le_refl _) l (by omega) (by omega), Option.bind_some, Option.bind_some, hE, if_pos rfl, within1 _ _ _ _ (by simp) (by simp), Option.bind_some]
  have hin : ([t.e0, t.e1] : List Int).all (inR 0 1000000) = true := by
    simp only [List.all_cons, List.all_nil, Bool.and_true]
    rw [inR_t.2 h0, inR_t.2 h1]; rfl
  rw [hin]
  dsimp only
  rw [if_pos rfl, Option.bind_some, if_pos rfl, e, Option.bind_some]
  cases ok with
  | true => exact ⟨_, _, _, rfl, .inl ⟨rfl, L⟩⟩
  | false => exact ⟨_, _, _, rfl, .inr ⟨rfl, L⟩⟩
theorem shortest_bad {l : List SGrit} (hl : l.length ≤ 100) (hE : gritE l ≠ 0) (t : A23) : ngrind_Shortest 100000000000000000000 l t = some ([], 0, gritE l) := by
  unfold ngrind_Shortest ngrind_validGrits ngrind_within ngrind_firstOf_c0_Lgrind_validGrits_1_grind_within_1 ngrind_validGrits_1
  rw [Option.bind_some, Option.bind_some]
  dsimp only
  rw [checkGrits_p _ (by decide) (Nat.le_refl _) l (by omega) (by omega), Option.bind_some, Option.bind_some, if_neg hE, Option.bind_some, if_neg hE]
theorem seen_tail (x : SGrit) (l : List SGrit) (i : Nat) (n : ByteArray) (h : seenG l i n = true) : seenG (x :: l) (i + 1) n = true := by
  unfold seenG at h ⊢
  rw [List.take_succ_cons, List.any_cons, h, Bool.or_true]
theorem chk_tail (x : SGrit) (l : List SGrit) : ∀ (d i : Nat), chkG (x :: l) d (i + 1) = 0 → chkG l d i = 0
  | 0, _, _ => rfl
  | d + 1, i, h => by
    simp only [chkG] at h ⊢
    have e : (x :: l).getD (i + 1) default = l.getD i default := rfl
    rw [e] at h
    cases hn : nameB (l.getD i default).Name with
    | false => rw [hn] at h; simp at h
    | true =>
      rw [hn] at h
      dsimp only at h ⊢
      cases hs : seenG (x :: l) (i + 1) (l.getD i default).Name with
      | true => rw [hs] at h; simp at h
      | false =>
        rw [hs] at h
        have hs2 : seenG l i (l.getD i default).Name = false := by
          cases c : seenG l i (l.getD i default).Name with
          | false => rfl
          | true => rw [seen_tail x l i _ c] at hs; cases hs
        rw [hs2]
        dsimp only at h ⊢
        cases hg : gritB (l.getD i default) with
        | false => rw [hg] at h; simp at h
        | true =>
          rw [hg] at h
          exact chk_tail x l d (i + 1) h
theorem gritE_tail {x : SGrit} {l : List SGrit} (h : gritE (x :: l) = 0) : gritE l = 0 := by
  obtain ⟨h12, _⟩ := gritE_zero h
  simp only [List.length_cons] at h12
  unfold gritE at h ⊢
  rw [decide_eq_true (show (x :: l).length ≤ 12 by simp; omega)] at h
  rw [decide_eq_true (show l.length ≤ 12 by omega)]
  dsimp only at h ⊢
  rw [List.length_cons] at h
  simp only [chkG] at h
  cases hn : nameB ((x :: l).getD 0 default).Name with
  | false => rw [hn] at h; simp at h
  | true =>
    rw [hn] at h
    dsimp only at h
    cases hs : seenG (x :: l) 0 ((x :: l).getD 0 default).Name with
    | true => rw [hs] at h; simp at h
    | false =>
      rw [hs] at h
      dsimp only at h
      cases hg : gritB ((x :: l).getD 0 default) with
      | false => rw [hg] at h; simp at h
      | true =>
        rw [hg] at h
        exact chk_tail x l l.length 0 h
theorem gritE_ne (l : List SGrit) : gritE l ≠ 12 := by
  unfold gritE
  cases decide (l.length ≤ 12) with
  | false => exact (show (8 : Int) ≠ 12 by decide)
  | true => rcases chkG_ne l l.length 0 with h | h | h | h <;> (dsimp only; rw [h]; decide)
theorem GL.of {l : List SGrit} (h : gritE l = 0) : GL l := ⟨fun g hg => by
  obtain ⟨_, z2⟩ := gritE_zero h
  obtain ⟨j, hj⟩ := List.getElem?_of_mem hg
  have hj2 : j < l.length := (List.getElem?_eq_some_iff.1 hj).1
  have := z2 j hj2
  rwa [List.getD_eq_getElem?_getD, hj] at this⟩
theorem law_deeper (l : List SGrit) (hl : l.length ≤ 9223372036854775807) (t m : A23) : nspeculumlaw04_GrindDeeper 100000000000000000000 l t m = some true := by
  unfold nspeculumlaw04_GrindDeeper nawake
  rw [Option.bind_some, if_pos rfl]
  by_cases c1 : 6 < (l.length : Int)
  · rw [if_pos c1]
  rw [if_neg c1]
  obtain ⟨b, hb, _⟩ := gritty_any 100000000000000000000 l hl (by omega)
  rw [hb, Option.bind_some]
  by_cases cb : b = true
  case neg => rw [if_neg cb]
  rw [if_pos cb, wib, Option.bind_some]
  by_cases c2 : inR 0 1000 m.e0 = true
  case neg => rw [if_neg c2]
  rw [if_pos c2, wib, Option.bind_some]
  by_cases c3 : inR 0 1000 m.e1 = true
  case neg => rw [if_neg c3]
  rw [if_pos c3, wib, Option.bind_some]
  by_cases c4 : inR 0 1000000 t.e0 = true
  case neg => rw [if_neg c4]
  rw [if_pos c4, wib, Option.bind_some]
  by_cases c5 : inR 0 1000000 t.e1 = true
  case neg => rw [if_neg c5]
  rw [if_pos c5, grits_copy _ l (by omega), Option.bind_some]
  have q2 := inR_t.1 c2; have q3 := inR_t.1 c3; have q4 := inR_t.1 c4; have q5 := inR_t.1 c5
  by_cases hE : gritE l = 0
  case neg =>
    rw [shortest_bad (by omega) hE, Option.bind_some]
    dsimp only
    rw [if_neg hE, if_neg (gritE_ne l)]
  have G := GL.of hE
  obtain ⟨s1, m1, e1, x1, y1⟩ := shortest_any hE t q4 q5
  have d0 : t.e0 ≤ minI 1000000 (w64 (t.e0 + m.e0)) ∧ minI 1000000 (w64 (t.e0 + m.e0)) ≤ 1000000 := by
    rw [w64_id (by omega) (by omega)]; unfold minI; split <;> omega
  have d1 : 0 ≤ maxI 0 (w64 (t.e1 - m.e1)) ∧ maxI 0 (w64 (t.e1 - m.e1)) ≤ t.e1 := by
    rw [w64_id (by omega) (by omega)]; unfold maxI; split <;> omega
  obtain ⟨s2, m2, e2, x2, y2⟩ := shortest_any hE ⟨minI 1000000 (w64 (t.e0 + m.e0)), maxI 0 (w64 (t.e1 - m.e1))⟩ (by dsimp only; omega) (by dsimp only; omega)
  rw [x1, Option.bind_some]
  dsimp only
  -- the third one
  have third : ∀ h : ¬ (l.length : Int) = 0, ∃ s3 m3 e3, nspeculumlaw04_grits 100000000000000000000 (sl l (((1 : Int)).toNat) l.length) = some (l.drop 1) ∧ ngrind_Shortest 100000000000000000000 (l.drop 1) t = some (s3, m3, e3) ∧ ((e3 = 0 ∧ Pa l t.e1 t.e0 m3) ∨ e3 = 12) := by
    intro h
    have es : sl l (((1 : Int)).toNat) l.length = l.drop 1 := by
      unfold sl
      rw [List.take_of_length_le (by rw [List.length_drop]; exact Nat.le_refl _)]; rfl
    cases l with
    | nil => exact absurd rfl h
    | cons x l' =>
      obtain ⟨s3, m3, e3, x3, y3⟩ := shortest_any (gritE_tail hE) t q4 q5
      refine ⟨s3, m3, e3, by rw [es]; exact grits_copy _ _ (by rw [List.length_drop]; omega), x3, ?_⟩
      rcases y3 with ⟨z, L⟩ | ⟨z, _⟩
      · exact .inl ⟨z, L.1.more (fun g hg => List.mem_cons_of_mem _ hg)⟩
      · exact .inr z
  have back : ∀ m', Pa l (maxI 0 (w64 (t.e1 - m.e1))) (minI 1000000 (w64 (t.e0 + m.e0))) m' → ∃ m0, m0 ≤ m' ∧ Pa l t.e1 t.e0 m0 := by
    intro m' hp
    obtain ⟨a, a1, a2⟩ := hp.deeper G d1.1 t.e0 d0.1
    obtain ⟨c, c1, c2⟩ := a2.looser G d1.1 d1.2
    exact ⟨c, by omega, c2⟩
  rcases y1 with ⟨z1, L1⟩ | ⟨z1, L1⟩
  · have L1' : Pa l t.e1 t.e0 m1 ∧ ∀ m', Pa l t.e1 t.e0 m' → m1 ≤ m' := L1
    have fin : (if (l.length : Int) = 0 then (some true) else (if 0 ≤ (1 : Int) ∧ (1 : Int) ≤ (l.length : Int) ∧ (l.length : Int) ≤ (l.length : Int) then ((nspeculumlaw04_grits 100000000000000000000 (sl l (((1 : Int)).toNat) l.length)).bind fun r1400 => ((ngrind_Shortest 100000000000000000000 r1400 t).bind fun r1403 => (if r1403.2.2 = 12 then (some true) else (if r1403.2.2 = 0 then (some (decide (m1 ≤ r1403.2.1))) else (some false))))) else none)) = some true := by
      by_cases h : (l.length : Int) = 0
      · rw [if_pos h]
      · obtain ⟨s3, m3, e3, w1, w2, w3⟩ := third h
        rw [if_neg h, if_pos (by omega), w1, Option.bind_some, w2, Option.bind_some]
        dsimp only
        rcases w3 with ⟨w3, w4⟩ | w3
        · rw [if_neg (by omega), if_pos w3, decide_eq_true (L1'.2 m3 w4)]
        · rw [if_pos w3]
    rw [if_pos z1, x2, Option.bind_some]
    dsimp only
    rcases y2 with ⟨z2, L2⟩ | ⟨z2, _⟩
    · have L2' : Pa l (maxI 0 (w64 (t.e1 - m.e1))) (minI 1000000 (w64 (t.e0 + m.e0))) m2 := L2.1
      obtain ⟨m0, n1, n2⟩ := back m2 L2'
      have := L1'.2 m0 n2
      rw [if_pos z2, if_neg (by omega)]
      exact fin
    · rw [if_neg (by omega), if_pos z2]
      exact fin
  · have L1' : ∀ m', ¬ Pa l t.e1 t.e0 m' := L1
    rw [if_neg (by omega), if_pos z1, x2, Option.bind_some]
    dsimp only
    rcases y2 with ⟨z2, L2⟩ | ⟨z2, _⟩
    · obtain ⟨m0, _, n2⟩ := back m2 L2.1
      exact absurd n2 (L1' m0)
    · rw [if_neg (by omega), if_pos z2]
      by_cases h : (l.length : Int) = 0
      · rw [if_pos h]
      · obtain ⟨s3, m3, e3, w1, w2, w3⟩ := third h
        rw [if_neg h, if_pos (by omega), w1, Option.bind_some, w2, Option.bind_some]
        dsimp only
        rcases w3 with ⟨w3, w4⟩ | w3
        · exact absurd w4 (L1' m3)
        · rw [if_pos w3]
theorem vc_deeper (l : List SGrit) (t m : A23) (hl : l.length ≤ 9223372036854775807) : VC Go.Proofs.Try.prog 4 [VV.tr (l.flatMap c_SGrit) l.length, VV.ag (c_A23 t), VV.ag (c_A23 m)] (vb true) := nspeculumlaw04_GrindDeeper_ok _ _ _ _ _ (law_deeper l hl t m)
end Go.Proofs.Ytjhclaollpkdgaa.Vg
