/- BlankSchedules, plain. -/
import Derived.Test.YtejannnafdcgoaaAF
import Derived.Test.YtejannnafdcgoaaA6
set_option linter.unusedVariables false
set_option linter.unusedSimpArgs false
namespace Go.Proofs.Ytejannnafdcgoaa.Vg
open Go Go.Proofs.Ytejannnafdcgoaa.Ev Go.Proofs.Ytejannnafdcgoaa.Vv
/-- a circle: all numbers of bounds; the sum, if it is closed. -/
def inL (L : Nat) (c : List Int) : Bool := c.all fun n => inR 0 ((L : Int) - 1) n
def walkC (l : List SCoolBound) : List Int → Int → Int → Option Int
  | [], s, _ => some s
  | n :: c, s, at_ => if (l.getD n.toNat default).From = at_ then walkC l c (s + (l.getD n.toNat default).Most) (l.getD n.toNat default).To else none
def sumI (r : Option Int) : Sum Unit Int := match r with | some s => .inr s | none => .inl ()
def endC (l : List SCoolBound) (c : List Int) : Int := (l.getD (c.getD (c.length - 1) 0).toNat default).To
def circE (l : List SCoolBound) (c : List Int) : Int × Int := if inR 1 200 (c.length : Int) = true then (if inL l.length c = true then (match walkC l c 0 (endC l c) with
    | none => (0, 25)
    | some s => if 0 ≤ s then (0, 22) else (s, 0)) else (0, 6)) else (0, 10)
section
variable {l : List SCoolBound} {c : List Int}
theorem inL_b (k : Nat) (hl : l.length ≤ 1000) (hc : c.length ≤ 300) : ∀ (d fuel i : Nat), c.length = i + d → d < fuel → nblank_CheckCircle_l0_0 k c (l, 0) fuel (i : Int) = some (sumB (inL l.length (c.drop i))) := by
  intro d
  induction d with
  | zero =>
    intro fuel i he hf
    obtain ⟨f, rfl⟩ : ∃ f, fuel = f + 1 := ⟨fuel - 1, by omega⟩
    rw [nblank_CheckCircle_l0_0.eq_2, if_neg (by omega), List.drop_of_length_le (by omega)]; rfl
  | succ d ih =>
    intro fuel i he hf
    obtain ⟨f, rfl⟩ : ∃ f, fuel = f + 1 := ⟨fuel - 1, by omega⟩
    rw [nblank_CheckCircle_l0_0.eq_2, if_pos (by omega), if_pos (by omega), isWithin_b, Option.bind_some, drop_get (show i < c.length by omega) 0, Int.toNat_natCast]
    dsimp only
    rw [w64_id (by omega) (by omega)]
    unfold inL
    rw [List.all_cons]
    cases e : inR 0 ((l.length : Int) - 1) (c.getD i 0) with
    | false => rfl
    | true =>
      rw [if_pos rfl, w64_succ (by omega), Bool.true_and]
      exact ih f (i + 1) (by omega) (by omega)
theorem inL_get (h : inL l.length c = true) {i : Nat} (hi : i < c.length) : 0 ≤ c.getD i 0 ∧ c.getD i 0 < (l.length : Int) := by
  have := List.all_eq_true.1 h (c.getD i 0) (by rw [List.getD_eq_getElem?_getD, List.getElem?_eq_getElem hi]; exact List.getElem_mem hi)
  have := inR_t.1 this
  omega
theorem walk_b {N : Nat} (k : Nat) (hb : ∀ b ∈ l, BOK N b) (hi : inL l.length c = true) (hc : c.length ≤ 300) : ∀ (d fuel i : Nat) (s at_ : Int), c.length = i + d → d < fuel → (-(i : Int) * 1000000000000 ≤ s ∧ s ≤ (i : Int) * 1000000000000) →
    nblank_CheckCircle_l1_0 k c (l, 0) fuel s at_ (i : Int) = some (sumI (walkC l (c.drop i) s at_)) := by
  intro d
  induction d with
  | zero =>
    intro fuel i s at_ he hf hs
    obtain ⟨f, rfl⟩ : ∃ f, fuel = f + 1 := ⟨fuel - 1, by omega⟩
    rw [nblank_CheckCircle_l1_0.eq_2, if_neg (by omega), List.drop_of_length_le (by omega)]; rfl
  | succ d ih =>
    intro fuel i s at_ he hf hs
    obtain ⟨f, rfl⟩ : ∃ f, fuel = f + 1 := ⟨fuel - 1, by omega⟩
    have hg := inL_get hi (i := i) (by omega)
    have hB := (hb _ (mem_getD (l := l) (i := (c.getD i 0).toNat) (by omega))).m
    rw [nblank_CheckCircle_l1_0.eq_2, if_pos (by omega), if_pos (by omega), drop_get (show i < c.length by omega) 0, Int.toNat_natCast]
    dsimp only
    rw [if_pos hg]
    unfold walkC
    by_cases e : (l.getD (c.getD i 0).toNat default).From = at_
    · rw [if_pos e, if_pos e, w64_id (n := s + _) (by omega) (by omega), w64_succ (by omega)]
      exact ih f (i + 1) _ _ (by omega) (by omega) (by omega)
    · rw [if_neg e, if_neg e]; rfl
end
theorem circle_b {a : SAnnealing} {k : Nat} (hA : Ann a) (c0 : annE a = 0) (hl : Lg a k) (c : List Int) (hc : c.length ≤ 300) : nblank_CheckCircle k a c = some (circE (sysB a) c) := by
  have h1 := hA.ns
  have h2 := hA.nw
  have hk := hl.hk
  have h3 := sysB_len a
  unfold nblank_CheckCircle circE
  rw [cool_b hl, Option.bind_some, if_pos c0]
  dsimp only
  rw [if_pos rfl, isWithin_b, Option.bind_some]
  cases e1 : inR 1 200 (c.length : Int) with
  | false => rfl
  | true =>
    have e1 := inR_t.1 e1
    rw [if_pos rfl, if_pos rfl, show nblank_CheckCircle_l0_0 k c (sysB a, 0) k 0 = _ from inL_b k (by omega) hc c.length k 0 (by omega) (by omega), Option.bind_some, List.drop_zero]
    cases e2 : inL (sysB a).length c with
    | false => rfl
    | true =>
      have hg := inL_get e2 (i := c.length - 1) (by omega)
      rw [if_pos rfl, w64_id (n := (c.length : Int) - 1) (by omega) (by omega), show ((c.length : Int) - 1).toNat = c.length - 1 by omega]
      show (if _ then _ else _) = _
      rw [if_pos (by omega), if_pos hg, show nblank_CheckCircle_l1_0 k c (sysB a, 0) k 0 _ 0 = _ from walk_b k (sysB_ok hA) e2 hc c.length k 0 0 _ (by omega) (by omega) (by omega), Option.bind_some, List.drop_zero]
      show (match sumI (walkC (sysB a) c 0 (endC (sysB a) c)) with | .inl _ => _ | .inr _ => _) = _
      cases walkC (sysB a) c 0 (endC (sysB a) c) with
      | none => rfl
      | some s =>
        show (if 0 ≤ s then _ else _) = some (if 0 ≤ s then _ else _)
        split <;> rfl
theorem sysB_ne {a : SAnnealing} (h : Ann a) : ∀ b ∈ sysB a, fB b ≠ tB b := by
  have lv : ∀ (d i : Nat), ∀ b ∈ lvlB i d, fB b ≠ tB b := by
    intro d
    induction d with
    | zero => intro i b h; cases h
    | succ d ih =>
      intro i b h
      rcases List.mem_cons.1 h with e | e
      · subst e; unfold fB tB; dsimp only; omega
      · exact ih (i + 1) b e
  have sp : ∀ (d i : Nat), ∀ b ∈ stpB a i d, fB b ≠ tB b := by
    intro d
    induction d with
    | zero => intro i b h; cases h
    | succ d ih =>
      intro i b h
      rcases List.mem_cons.1 h with e | e
      · subst e; unfold fB tB; dsimp only; omega
      · rcases List.mem_cons.1 e with e | e
        · subst e; unfold fB tB; dsimp only; omega
        · exact ih (i + 1) b e
  have wn : ∀ l : List SCoolWindow, (∀ w ∈ l, 0 ≤ w.Level) → ∀ b ∈ winB l, fB b ≠ tB b := by
    intro l
    induction l with
    | nil => intro _ b h; cases h
    | cons w l ih =>
      intro hl b h
      have hw := hl w (by simp)
      rcases List.mem_cons.1 h with e | e
      · subst e; unfold fB tB; dsimp only; omega
      · rcases List.mem_cons.1 e with e | e
        · subst e; unfold fB tB; dsimp only; omega
        · exact ih (fun w h => hl w (by simp [h])) b e
  intro b hb
  unfold sysB at hb
  rcases List.mem_append.1 hb with hb | hb
  · rcases List.mem_append.1 hb with hb | hb
    · exact lv _ _ b hb
    · exact sp _ _ b hb
  · exact wn _ (fun w hw => (h.wi w hw).1) b hb
section
variable {N : Nat} {l : List SCoolBound}
theorem walk_pq (hb : ∀ b ∈ l, BOK N b) {x q : List Int} {T : Nat → Nat} {now : Nat} (hq : QOK N l q) (hC : Ch N l x q T now) : ∀ (n v : Nat) (s : Int), (∀ i, 0 < T (itN (stepG l q) i v)) → walkC l (pq l q n v) s ((v : Int) - 1) = some (s + msum l q n v)
  | 0, v, s, h => by show some s = some (s + 0); rw [Int.add_zero]
  | n + 1, v, s, h => by
    have hf := hC.f v (h 0)
    have hB := hb _ (bq_mem hq v)
    have h1 := hB.fN.2
    have h2 := hB.tN.2
    have h2 : (stepG l q v : Int) = (bq l q v).To + 1 := h2
    show (if (bq l q v).From = (v : Int) - 1 then walkC l (pq l q n (stepG l q v)) (s + (bq l q v).Most) (bq l q v).To else none) = some (s + ((bq l q v).Most + msum l q n (stepG l q v)))
    rw [if_pos (by rw [hf] at h1; omega), show (bq l q v).To = (stepG l q v : Int) - 1 by omega, walk_pq hb hq hC n _ _ (fun i => h (i + 1)), Int.add_assoc]
theorem circ_neg (hb : ∀ b ∈ l, BOK N b) (hne : ∀ b ∈ l, fB b ≠ tB b) {x q : List Int} {T : Nat → Nat} {now : Nat} (hq : QOK N l q) (hC : Ch N l x q T now) {n t : Nat} (hn : n + 1 ≤ 200) (hr : ∀ i, 0 < T (itN (stepG l q) i t)) (hc : itN (stepG l q) (n + 1) t = t) : (circE l (pq l q (n + 1) t)).2 = 0 := by
  unfold circE
  rw [if_pos (inR_t.2 (by rw [pq_len]; omega)), if_pos (show inL l.length (pq l q (n + 1) t) = true from List.all_eq_true.2 (fun m hm => inR_t.2 (by have := pq_mem hq _ _ m hm; omega)))]
  have he : endC l (pq l q (n + 1) t) = (t : Int) - 1 := by
    unfold endC
    rw [pq_len, Nat.add_sub_cancel, pq_last]
    have hB := hb _ (bq_mem hq (itN (stepG l q) n t))
    have h2 : (stepG l q (itN (stepG l q) n t) : Int) = (bq l q (itN (stepG l q) n t)).To + 1 := hB.tN.2
    have h3 : stepG l q (itN (stepG l q) n t) = t := (itN_succ (stepG l q) n t).symm.trans hc
    rw [h3] at h2
    show (bq l q (itN (stepG l q) n t)).To = _
    omega
  rw [he, walk_pq hb hq hC _ _ _ hr]
  have hw := (way hne hq hC (n + 1) t hr).2 (by omega)
  rw [hc] at hw
  have : ¬ 0 ≤ 0 + msum l q (n + 1) t := by
    rcases hw with h | h <;> omega
  dsimp only
  rw [if_neg this]
end
/-- a circle that proves that there are no times. -/
theorem earliest_c {a : SAnnealing} {k : Nat} (hA : Ann a) (c0 : annE a = 0) (hl : Lg a k) : (∃ x, nblank_Earliest k a = some (x.drop 1, [], 0) ∧ x.length = a.Steps.length + 2 ∧ Feas (a.Steps.length + 2) (sysB a) (gx x) ∧ ∀ d, Feas (a.Steps.length + 2) (sysB a) d → ∀ j, gx x j ≤ d j) ∨
    ∃ c, nblank_Earliest k a = some ([], c, 21) ∧ c.length ≤ 200 ∧ (circE (sysB a) c).2 = 0 ∧ ∀ d, ¬ Feas (a.Steps.length + 2) (sysB a) d := by
  have hs := hA.ns
  have hw := hA.nw
  have hk := hl.hk
  have hlen := sysB_len a
  have hb := sysB_ok hA
  have hne := sysB_ne hA
  have hN : 2 ≤ a.Steps.length + 2 := by omega
  obtain ⟨q, e1, e2, e3⟩ := new_n (a := a) k (by omega) (r := (sysB a, 0)) (L := (sysB a).length) (by omega) (a.Steps.length + 1) k 0 (List.replicate (a.Steps.length + 2) 0) (by omega) (by omega) (by simp) (fun j => by rw [gx_rep]; omega)
  have hq : QOK (a.Steps.length + 2) (sysB a) q := ⟨e2, e3⟩
  have hr := rounds_n (a := a) k hk (by omega) rfl hb (by omega) (a.Steps.length + 2) k 0 (List.replicate (a.Steps.length + 2) 0) q 0 (by omega) (by omega) (by simp) hq (fun j => by rw [gx_rep]; omega)
  have h0 : ∀ j, 0 ≤ gx (List.replicate (a.Steps.length + 2) 0) j := fun j => by rw [gx_rep]; omega
  have hE : nblank_Earliest k a = (match rdB (sysB a) (a.Steps.length + 2) (List.replicate (a.Steps.length + 2) 0) q 0 with | .inl r => some (r.1.drop 1, [], 0) | .inr r => (n_blank_schedule_circle k ⟨sysB a, r.2.1, r.2.2⟩ r.1).bind fun c => some ([], c, 21)) := by
    unfold nblank_Earliest
    rw [cool_b hl, Option.bind_some, if_pos c0]
    dsimp only
    rw [if_pos rfl, w64_id (n := (a.Steps.length : Int) + 1) (by omega) (by omega), w64_id (n := (a.Steps.length : Int) + 1 + 1) (by omega) (by omega), if_pos (by omega), show ((a.Steps.length : Int) + 1 + 1).toNat = a.Steps.length + 2 by omega]
    rw [show nblank_Earliest_i25_l0_0 k a (sysB a, 0) k (List.replicate (a.Steps.length + 2) 0) 0 = some q from e1, Option.bind_some, show nblank_Earliest_l0_0 k a (sysB a, 0) k (List.replicate (a.Steps.length + 2) 0) q 0 0 = _ from hr, Option.bind_some]
    cases rdB (sysB a) (a.Steps.length + 2) (List.replicate (a.Steps.length + 2) 0) q 0 <;> rfl
  cases hy : rdB (sysB a) (a.Steps.length + 2) (List.replicate (a.Steps.length + 2) 0) q 0 with
  | inl y =>
    obtain ⟨g1, g2, g3⟩ := rd_inl hb hN _ _ q 0 y (by simp) hq h0 hy
    refine .inl ⟨y.1, by rw [hE, hy], g1, g2, fun d hd j => g3 d hd (fun j => by rw [gx_rep]; exact hd.pos j) j⟩
  | inr y =>
    obtain ⟨g1, g2, g3, g4⟩ := rd_inr hb hN _ _ q 0 y (by simp) hq (by omega) hy
    obtain ⟨T, now, hC, hT⟩ := rd_ch hb hne hN (a.Steps.length + 2) 0 _ q 0 (fun _ => 0) y (by simp) hq ⟨fun _ => Nat.zero_le _, fun v w h => by omega, fun v h => by omega, fun v h => by omega, fun v h => by omega, fun v h => by omega, fun v h => by omega⟩ (fun j hj => .inr (by rw [if_neg (by omega)]; omega)) (by omega) hy
    obtain ⟨s, hs1, es⟩ : ∃ s : Nat, s < a.Steps.length + 2 ∧ y.1 = (s : Int) - 1 := ⟨(y.1 + 1).toNat, by omega, by omega⟩
    rw [es, show ((s : Int) - 1 + 1).toNat = s by omega, Nat.zero_add] at hT
    have hR := all_raised hb g2 hC hN hs1 hT
    obtain ⟨n, hn, hcl, ec⟩ := circle_e k hk (by omega) hb g1 g2 hs1
    refine .inr ⟨_, by rw [hE, hy]; dsimp only; rw [es, ec]; rfl, by rw [pq_len]; omega, circ_neg hb hne g2 hC (by omega) (fun i => by rw [← itN_add]; exact hR _) hcl, fun d hd => ?_⟩
    obtain ⟨z, hz⟩ := rd_done hb hN hd hq
    rw [hy] at hz; cases hz
end Go.Proofs.Ytejannnafdcgoaa.Vg
