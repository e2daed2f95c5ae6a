/- Walks: the comparison of words. -/
import Derived.Test.YtdlddfmodbcnmaaBack
set_option linter.unusedVariables false
set_option linter.unusedSimpArgs false
namespace Go.Proofs.Ytdlddfmodbcnmaa
open Go.RowKit Go.Shelf
attribute [local go_sem] Oper.semAt_some

set_option maxHeartbeats 400000 in
theorem cmpU64_any (a b : Int) (w : World) : Calls Try.prog 152 #[.int .u64 a, .int .u64 b] w fun e w' => e = .returned (.int .i64 (cmpI a b)) ∧ w = w' := by
  rcases Int.lt_trichotomy a b with h | h | h
  · have HR := Lib.hid (show cmpI a b = -1 by unfold cmpI; rw [if_pos h])
    go_enter Try.func152, Try.ntmps152
    go_wp2
    go_ret
    exact ⟨ret_int HR.out.symm, rfl⟩
  · subst h
    have HR := Lib.hid (show cmpI a a = 0 by unfold cmpI; rw [if_neg (by omega), if_neg (by omega)])
    go_enter Try.func152, Try.ntmps152
    go_wp2
    go_ret
    exact ⟨ret_int HR.out.symm, rfl⟩
  · have HR := Lib.hid (show cmpI a b = 1 by unfold cmpI; rw [if_neg (by omega), if_pos h])
    go_enter Try.func152, Try.ntmps152
    go_wp2
    go_ret
    exact ⟨ret_int HR.out.symm, rfl⟩

theorem results_int_cell {fn : Func} {p : Tmp} (h : fn.results = #[.cell p 3]) (tmps : Array Value) (w : World) (b : Nat) (x : Value)
    (ht : tmps.getD p undef = .pointer (some ⟨b, 0, none⟩)) (h0 : w.cell? ⟨b, 0, none⟩ = some x) : (results fn tmps).run Try.prog w = .ok x w := by
  rw [results_cell1 h, ht]
  simp [go_sem, h0]

set_option maxHeartbeats 1000000 in
theorem compareWords_ne (A C : Option Addr) (n m c d : Nat) (f g : Nat → Int) (w : World) (hn : n ≤ 1000000000000) (hm : m ≤ 1000000000000) (hne : n ≠ m) :
    Calls Try.prog 141 #[.slice A n c, .slice C m d] w fun e w' => e = .returned (.int .i64 (cmpW n m f g)) ∧ Below w.heap.size w w' := by
  have HC := Lib.hid (show cmpW n m f g = cmpI n m by unfold cmpW; rw [if_neg hne])
  have hne' : (n != m) = true := by simpa using hne
  go_enter Try.func141, Try.ntmps141
  go_wp2_with (go_at_call 85; refine (cmpInt_any _ _ _).mono ?_; rintro e w' ⟨rfl, rfl⟩)
  refine bodyPost_ret (results_int_cell rfl _ _ _ _ rfl (by simp [go_sem]; rfl)) rfl ⟨by rw [HC.out], ?_⟩
  exact ((Below.refl w.heap.size w).alloc (Nat.le_refl _) _).alloc (by simp) _

set_option maxRecDepth 100000 in
set_option maxHeartbeats 2000000 in
theorem compareWords_eq (A C : Option Addr) (n c d : Nat) (f g : Nat → Int) (w : World) (hA : WS w A n f) (hC : WS w C n g) (hn : n ≤ 1000000000000) :
    Calls Try.prog 141 #[.slice A n c, .slice C n d] w fun e w' => e = .returned (.int .i64 (cmpI (vf f n) (vf g n))) ∧ Below w.heap.size w w' := by
  refine (callsIn_wide (n := 3)).1 ?_
  refine callsIn_of_wp_marks Try.func141 rfl trivial ?_ rfl
  simp only [Try.ntmps141, List.size_toArray, List.length_cons, List.length_nil, Nat.reduceAdd, Nat.reduceSub, Array.replicate_succ, Array.replicate_zero, List.push_toArray, List.append_toArray, List.nil_append, List.cons_append]
  gi_wp2_with (refine ⟨trivial, ?_⟩; gi_at_call 151; refine (backU_in Fence.wide _ trivial rfl _ _ _ _).mono ?_; rintro e w' ⟨rfl, rfl⟩)
  have bB := Boxed.new w 128 (.slice C n d)
  have bR := Boxed.new (w.alloc (.cells #[.slice C n d] 128)) 3 (.int .i64 0)
  have bN := Boxed.new ((w.alloc (.cells #[.slice C n d] 128)).alloc (.cells #[.int .i64 0] 3)) 128 (.slice A n c)
  rw [World.size_alloc] at bR
  rw [World.size_alloc, World.size_alloc] at bN
  have hB0 : Below w.heap.size w (((w.alloc (.cells #[.slice C n d] 128)).alloc (.cells #[.int .i64 0] 3)).alloc (.cells #[.slice A n c] 128)) := (((Below.refl _ w).alloc (Nat.le_refl _) _).alloc (by simp) _).alloc (by simp; omega) _
  have bB2 := (bB.alloc (.cells #[.int .i64 0] 3)).alloc (.cells #[.slice A n c] 128)
  have bR2 := bR.alloc (.cells #[.slice A n c] 128)
  generalize hWW : (((w.alloc (.cells #[.slice C n d] 128)).alloc (.cells #[.int .i64 0] 3)).alloc (.cells #[.slice A n c] 128)) = W0 at *
  have hsz : W0.heap.size = w.heap.size + 3 := by rw [← hWW]; simp
  clear hWW
  have HSZ := Lib.hid hsz
  clear hsz
  refine wpIn_rangeFunc_ownG rfl (by omega) (gf := 154) (lb := #[.pointer (some ⟨w.heap.size + 1 + 1, 0, none⟩)]) rfl trivial (enters_of Try.func154 (by kernel_rfl) rfl)
    (backU_stops Fence.wide _ trivial rfl (by omega) (w.heap.size + 1 + 1) (w.heap.size + 3) A n c f hn W0 (by omega) (by rw [HSZ.out]; omega) bN.cell (fun h => by
      obtain ⟨b, e, hb, hcs⟩ := (hA.below (Nat.le_refl _) hB0).2 h
      obtain ⟨b', e', hb', _⟩ := hA.2 h
      rw [e] at e'; injection e' with e'; injection e' with e'
      subst e'
      exact ⟨b, e, by omega, hcs⟩)) belowK_t (belowK_b (by rw [HSZ.out]; omega)) (Below.refl _ _) (fun _ => rfl)
    (fun pre W => ((∀ p ∈ pre, f p.1 = g p.1) ∧ W.cell? ⟨w.heap.size, 0, none⟩ = some (.slice C n d) ∧ W.cell? ⟨w.heap.size + 1, 0, none⟩ = some (.int .i64 0) ∧ W.frozen? ⟨w.heap.size + 1, 0, none⟩ = false) ∧ Below w.heap.size w W)
    (fun cc pre W => (cc = .ret ∧ ∃ ini last, pre = ini ++ [last] ∧ (∀ p ∈ ini, f p.1 = g p.1) ∧ f last.1 ≠ g last.1 ∧ W.cell? ⟨w.heap.size + 1, 0, none⟩ = some (.int .i64 (cmpI (f last.1) (g last.1)))) ∧ Below w.heap.size w W)
    (OwnFrom.and (Own.from (fun s A B row hs hg hr => ⟨hs.1, cell_kept hs.2.1 hg hr, cell_kept hs.2.2.1 hg hr, (frozen_kept hs.2.2.1 hg hr).trans hs.2.2.2⟩) _) (ownFrom_below (Nat.le_refl _) (by rw [HSZ.out]; omega)))
    (fun c => OwnFrom.and (Own.from (fun s A B row hs hg hr => by obtain ⟨hc, ini, last, e1, e2, e3, e4⟩ := hs; exact ⟨hc, ini, last, e1, e2, e3, cell_kept e4 hg hr⟩) _) (ownFrom_below (Nat.le_refl _) (by rw [HSZ.out]; omega)))
    ⟨⟨by simp, bB2.cell, bR2.cell, bR2.frozen⟩, hB0⟩
    (fun x => { tmps := #[.slice A n c, .slice C n d, undef, .pointer (some ⟨w.heap.size, 0, none⟩), .pointer (some ⟨w.heap.size + 1, 0, none⟩), .int .i64 (x.1 : Int), .int .u64 (f x.1), .slice A n c, .int .i64 n, .slice C n d, .int .i64 n, .bool false, undef, undef, undef, undef, undef, .slice A n c, .func (.func 154) #[] #[.pointer (some ⟨w.heap.size + 1 + 1, 0, none⟩)], .int .i64 (x.1 : Int), .int .u64 (f x.1), undef, undef, undef, undef, undef, undef, undef, undef, undef, undef, undef, undef], defers := [] }) ?assign ?body ?done ?stop
  case assign =>
    intro l x W K hK
    gi_wp2
    exact hK
  case body =>
    rintro l pre ⟨i, hi⟩ W ⟨⟨hp, hcb, hcr, hfr⟩, hB⟩ _
    dsimp only
    obtain ⟨b, rfl, hb, hcs⟩ := (hC.below (Nat.le_refl _) hB).2 (by omega)
    have hci := hcs i hi
    clear hcs
    have hHP := Lib.hid hp
    clear hp
    by_cases he : f i = g i
    · have he' : (f i != g i) = false := by simpa using he
      have HE := Lib.hid he
      clear he
      gi_wp2
      exact ⟨KeepsFrom.refl _ _, Below.refl _ _, ⟨fun p hp' => (List.mem_append.1 hp').elim (hHP.out p) (fun e => by simp at e; subst e; exact HE.out), hcb, hcr, hfr⟩, hB⟩
    · have he' : (f i != g i) = true := by simpa using he
      have HE := Lib.hid he
      clear he
      gi_wp2_with (refine ⟨trivial, ?_⟩; gi_at_call 152; refine (CallsIn.inRound l (callsIn_wide.2 (cmpU64_any _ _ _))).mono ?_; rintro e w' ⟨rfl, rfl⟩)
      exact ⟨(KeepsOthers.setCell _ _ _).from _, ⟨rfl, pre, ⟨i, hi⟩, rfl, hHP.out, HE.out, World.cell?_setCell_same' _ _ _ (by rw [hcr]; rfl)⟩, hB.setCell (p := ⟨w.heap.size + 1, 0, none⟩) (by simp) _⟩
  case done =>
    rintro D ys W hD rfl ⟨⟨hne, hcb, hcr, hfr⟩, hB⟩ hK
    have HN := Lib.hid hne
    clear hne
    gi_wp2
    have hK' := (KeepsOthers.setCell W ⟨w.heap.size + 1, 0, none⟩ (.int .i64 0)).same D _ hK rfl
    refine ⟨by simp, .inl ⟨_, _, rfl, run_takeDeferred hK', ?_⟩⟩
    have hc5 := cell_kept (World.cell?_setCell_same' W ⟨w.heap.size + 1, 0, none⟩ (.int .i64 0) (by rw [hcr]; rfl)) (grownBy_putObj' _ D (.deferred none)) (fun r e => by cases e; exact ⟨_, hK', rfl⟩)
    refine ⟨.int .i64 0, results_int_cell rfl _ _ _ _ rfl hc5, ?_, (hB.setCell (p := ⟨w.heap.size + 1, 0, none⟩) (by simp) _).trans (belowK_b (w := w) (Nat.le_refl _) _ D _ _ (by rw [HSZ.out] at hD; omega) hK' rfl rfl)⟩
    rw [vf_congr n (fun i hi => HN.out ⟨i, hi⟩ (bk_mem _)), cmpI_eq]
  case stop =>
    rintro D c pre W hD hpre ⟨⟨rfl, ini, last, e1, e2, e3, hcr⟩, hB⟩ hK
    have H2 := Lib.hid e2
    have H3 := Lib.hid e3
    clear e2 e3
    gi_wp2
    refine ⟨by simp, .inl ⟨_, _, rfl, run_takeDeferred hK, ?_⟩⟩
    have hc5 := cell_kept hcr (grownBy_putObj' _ D (.deferred none)) (fun r e => by cases e; exact ⟨_, hK, rfl⟩)
    refine ⟨_, results_int_cell rfl _ _ _ _ rfl hc5, ?_, hB.trans (belowK_b (w := w) (Nat.le_refl _) W D _ _ (by rw [HSZ.out] at hD; omega) hK rfl rfl)⟩
    rw [e1] at hpre
    rw [cmp_first last.2 hA.1 hC.1 (fun i hi hi' => H2.out ⟨i, hi'⟩ (bk_prefix hpre ⟨i, hi'⟩ hi)) H3.out]

theorem compareWords_any (A C : Option Addr) (n m c d : Nat) (f g : Nat → Int) (w : World) (hA : WS w A n f) (hC : WS w C m g) (hn : n ≤ 1000000000000) (hm : m ≤ 1000000000000) (hf : Can f n) (hg : Can g m) :
    Calls Try.prog 141 #[.slice A n c, .slice C m d] w fun e w' => e = .returned (.int .i64 (cmpI (vf f n) (vf g m))) ∧ Below w.heap.size w w' := by
  rw [← cmpW_is hf hg hA.1 hC.1]
  by_cases h : n = m
  · subst h
    have e : cmpW n n f g = cmpI (vf f n) (vf g n) := by unfold cmpW; rw [if_pos rfl]
    rw [e]
    exact compareWords_eq A C n c d f g w hA hC hn
  · exact compareWords_ne A C n m c d f g w hn hm h

end Go.Proofs.Ytdlddfmodbcnmaa
