/- BlankCircles, plain. -/
import Derived.Test.YtclabanknlmneaaAF
import Derived.Test.YtclabanknlmneaaA7
set_option linter.unusedVariables false
set_option linter.unusedSimpArgs false
namespace Go.Proofs.Ytclabanknlmneaa.Vg
open Go Go.Proofs.Ytclabanknlmneaa.Ev Go.Proofs.Ytclabanknlmneaa.Vv
theorem copy_any (k : Nat) {c : List Int} (h : c.length ≤ 1000000000) : nspeculumbase_CopyInts k c = some c := by
  unfold nspeculumbase_CopyInts
  rw [if_pos (by simp; omega)]; rfl
/-- a circle: all numbers of bounds; the sum, if it is closed. -/
def inL (L : Nat) (c : List Int) : Bool := c.all fun n => inR 0 ((L : Int) - 1) n
def walkC (l : List SCoolBound) : List Int → Int → Int → Option Int
  | [], s, _ => some s
  | n :: c, s, at_ => if (l.getD n.toNat default).From = at_ then walkC l c (s + (l.getD n.toNat default).Most) (l.getD n.toNat default).To else none
def sumI (r : Option Int) : Sum Unit Int := match r with | some s => .inr s | none => .inl ()
def endC (l : List SCoolBound) (c : List Int) : Int := (l.getD (c.getD (c.length - 1) 0).toNat default).To
def circE (l : List SCoolBound) (c : List Int) : Int × Int := if inR 1 200 (c.length : Int) = true then (if inL l.length c = true then (match walkC l c 0 (endC l c) with
    | none => (0, 25)
    | some s => if 0 ≤ s then (0, 22) else (s, 0)) else (0, 6)) else (0, 10)
section
variable {l : List SCoolBound} {c : List Int}
theorem inL_b (k : Nat) (hl : l.length ≤ 1000) (hc : c.length ≤ 300) : ∀ (d fuel i : Nat), c.length = i + d → d < fuel → nblank_CheckCircle_l0_0 k c (l, 0) fuel (i : Int) = some (sumB (inL l.length (c.drop i))) := by
  intro d
  induction d with
  | zero =>
    intro fuel i he hf
    obtain ⟨f, rfl⟩ : ∃ f, fuel = f + 1 := ⟨fuel - 1, by omega⟩
    rw [nblank_CheckCircle_l0_0.eq_2, if_neg (by omega), List.drop_of_length_le (by omega)]; rfl
  | succ d ih =>
    intro fuel i he hf
    obtain ⟨f, rfl⟩ : ∃ f, fuel = f + 1 := ⟨fuel - 1, by omega⟩
    rw [nblank_CheckCircle_l0_0.eq_2, if_pos (by omega), if_pos (by omega), isWithin_b, Option.bind_some, drop_get (show i < c.length by omega) 0, Int.toNat_natCast]
    dsimp only
    rw [w64_id (by omega) (by omega)]
    unfold inL
    rw [List.all_cons]
    cases e : inR 0 ((l.length : Int) - 1) (c.getD i 0) with
    | false => rfl
    | true =>
      rw [if_pos rfl, w64_succ (by omega), Bool.true_and]
      exact ih f (i + 1) (by omega) (by omega)
theorem inL_r (k : Nat) (hl : l.length ≤ 1000) (hc : c.length ≤ 300) : ∀ (d fuel i : Nat), c.length = i + d → d < fuel → nspeculumref03_CheckCircle_l0_0 k c l fuel (i : Int) = some (sumB (inL l.length (c.drop i))) := by
  intro d
  induction d with
  | zero =>
    intro fuel i he hf
    obtain ⟨f, rfl⟩ : ∃ f, fuel = f + 1 := ⟨fuel - 1, by omega⟩
    rw [nspeculumref03_CheckCircle_l0_0.eq_2, if_neg (by omega), List.drop_of_length_le (by omega)]; rfl
  | succ d ih =>
    intro fuel i he hf
    obtain ⟨f, rfl⟩ : ∃ f, fuel = f + 1 := ⟨fuel - 1, by omega⟩
    rw [nspeculumref03_CheckCircle_l0_0.eq_2, if_pos (by omega), if_pos (by omega), within_base, Option.bind_some, drop_get (show i < c.length by omega) 0, Int.toNat_natCast]
    rw [w64_id (by omega) (by omega)]
    unfold inL
    rw [List.all_cons]
    cases e : inR 0 ((l.length : Int) - 1) (c.getD i 0) with
    | false => rfl
    | true =>
      rw [if_pos rfl, w64_succ (by omega), Bool.true_and]
      exact ih f (i + 1) (by omega) (by omega)
theorem inL_get (h : inL l.length c = true) {i : Nat} (hi : i < c.length) : 0 ≤ c.getD i 0 ∧ c.getD i 0 < (l.length : Int) := by
  have := List.all_eq_true.1 h (c.getD i 0) (by rw [List.getD_eq_getElem?_getD, List.getElem?_eq_getElem hi]; exact List.getElem_mem hi)
  have := inR_t.1 this
  omega
theorem walk_b {N : Nat} (k : Nat) (hb : ∀ b ∈ l, BOK N b) (hi : inL l.length c = true) (hc : c.length ≤ 300) : ∀ (d fuel i : Nat) (s at_ : Int), c.length = i + d → d < fuel → (-(i : Int) * 1000000000000 ≤ s ∧ s ≤ (i : Int) * 1000000000000) →
    nblank_CheckCircle_l1_0 k c (l, 0) fuel s at_ (i : Int) = some (sumI (walkC l (c.drop i) s at_)) := by
  intro d
  induction d with
  | zero =>
    intro fuel i s at_ he hf hs
    obtain ⟨f, rfl⟩ : ∃ f, fuel = f + 1 := ⟨fuel - 1, by omega⟩
    rw [nblank_CheckCircle_l1_0.eq_2, if_neg (by omega), List.drop_of_length_le (by omega)]; rfl
  | succ d ih =>
    intro fuel i s at_ he hf hs
    obtain ⟨f, rfl⟩ : ∃ f, fuel = f + 1 := ⟨fuel - 1, by omega⟩
    have hg := inL_get hi (i := i) (by omega)
    have hB := (hb _ (mem_getD (l := l) (i := (c.getD i 0).toNat) (by omega))).m
    rw [nblank_CheckCircle_l1_0.eq_2, if_pos (by omega), if_pos (by omega), drop_get (show i < c.length by omega) 0, Int.toNat_natCast]
    dsimp only
    rw [if_pos hg]
    unfold walkC
    by_cases e : (l.getD (c.getD i 0).toNat default).From = at_
    · rw [if_pos e, if_pos e, w64_id (n := s + _) (by omega) (by omega), w64_succ (by omega)]
      exact ih f (i + 1) _ _ (by omega) (by omega) (by omega)
    · rw [if_neg e, if_neg e]; rfl
theorem walk_r {N : Nat} (k : Nat) (hb : ∀ b ∈ l, BOK N b) (hi : inL l.length c = true) (hc : c.length ≤ 300) : ∀ (d fuel i : Nat) (s at_ : Int), c.length = i + d → d < fuel → (-(i : Int) * 1000000000000 ≤ s ∧ s ≤ (i : Int) * 1000000000000) →
    nspeculumref03_CheckCircle_l1_0 k c l fuel (i : Int) s at_ = some (sumI (walkC l (c.drop i) s at_)) := by
  intro d
  induction d with
  | zero =>
    intro fuel i s at_ he hf hs
    obtain ⟨f, rfl⟩ : ∃ f, fuel = f + 1 := ⟨fuel - 1, by omega⟩
    rw [nspeculumref03_CheckCircle_l1_0.eq_2, if_neg (by omega), List.drop_of_length_le (by omega)]; rfl
  | succ d ih =>
    intro fuel i s at_ he hf hs
    obtain ⟨f, rfl⟩ : ∃ f, fuel = f + 1 := ⟨fuel - 1, by omega⟩
    have hg := inL_get hi (i := i) (by omega)
    have hB := (hb _ (mem_getD (l := l) (i := (c.getD i 0).toNat) (by omega))).m
    rw [nspeculumref03_CheckCircle_l1_0.eq_2, if_pos (by omega), if_pos (by omega), drop_get (show i < c.length by omega) 0, Int.toNat_natCast]
    rw [if_pos hg]
    unfold walkC
    by_cases e : (l.getD (c.getD i 0).toNat default).From = at_
    · rw [if_pos e, if_pos e, w64_id (n := s + _) (by omega) (by omega), w64_succ (by omega)]
      exact ih f (i + 1) _ _ (by omega) (by omega) (by omega)
    · rw [if_neg e, if_neg e]; rfl
end
theorem circle_b {a : SAnnealing} {k : Nat} (hA : Ann a) (c0 : annE a = 0) (hl : Lg a k) (c : List Int) (hc : c.length ≤ 300) : nblank_CheckCircle k a c = some (circE (sysB a) c) := by
  have h1 := hA.ns
  have h2 := hA.nw
  have hk := hl.hk
  have h3 := sysB_len a
  unfold nblank_CheckCircle circE
  rw [cool_b hl, Option.bind_some, if_pos c0]
  dsimp only
  rw [if_pos rfl, isWithin_b, Option.bind_some]
  cases e1 : inR 1 200 (c.length : Int) with
  | false => rfl
  | true =>
    have e1 := inR_t.1 e1
    rw [if_pos rfl, if_pos rfl, show nblank_CheckCircle_l0_0 k c (sysB a, 0) k 0 = _ from inL_b k (by omega) hc c.length k 0 (by omega) (by omega), Option.bind_some, List.drop_zero]
    cases e2 : inL (sysB a).length c with
    | false => rfl
    | true =>
      have hg := inL_get e2 (i := c.length - 1) (by omega)
      rw [if_pos rfl, w64_id (n := (c.length : Int) - 1) (by omega) (by omega), show ((c.length : Int) - 1).toNat = c.length - 1 by omega]
      show (if _ then _ else _) = _
      rw [if_pos (by omega), if_pos hg, show nblank_CheckCircle_l1_0 k c (sysB a, 0) k 0 _ 0 = _ from walk_b k (sysB_ok hA) e2 hc c.length k 0 0 _ (by omega) (by omega) (by omega), Option.bind_some, List.drop_zero]
      show (match sumI (walkC (sysB a) c 0 (endC (sysB a) c)) with | .inl _ => _ | .inr _ => _) = _
      cases walkC (sysB a) c 0 (endC (sysB a) c) with
      | none => rfl
      | some s =>
        show (if 0 ≤ s then _ else _) = some (if 0 ≤ s then _ else _)
        split <;> rfl
theorem circle_r {a : SAnnealing} {k : Nat} (hA : Ann a) (hk : 1000 < k) (c : List Int) (hc : c.length ≤ 300) : nspeculumref03_CheckCircle k a c = some (circE (sysB a) c) := by
  have h1 := hA.ns
  have h2 := hA.nw
  have h3 := sysB_len a
  unfold nspeculumref03_CheckCircle circE
  rw [cool_r hk hA, Option.bind_some, within_base, Option.bind_some]
  cases e1 : inR 1 200 (c.length : Int) with
  | false => rfl
  | true =>
    have e1 := inR_t.1 e1
    rw [if_pos rfl, if_pos rfl, show nspeculumref03_CheckCircle_l0_0 k c (sysB a) k 0 = _ from inL_r k (by omega) hc c.length k 0 (by omega) (by omega), Option.bind_some, List.drop_zero]
    cases e2 : inL (sysB a).length c with
    | false => rfl
    | true =>
      have hg := inL_get e2 (i := c.length - 1) (by omega)
      rw [if_pos rfl, w64_id (n := (c.length : Int) - 1) (by omega) (by omega), show ((c.length : Int) - 1).toNat = c.length - 1 by omega]
      show (if _ then _ else _) = _
      rw [if_pos (by omega), if_pos hg, show nspeculumref03_CheckCircle_l1_0 k c (sysB a) k 0 0 _ = _ from walk_r k (sysB_ok hA) e2 hc c.length k 0 0 _ (by omega) (by omega) (by omega), Option.bind_some, List.drop_zero]
      show (match sumI (walkC (sysB a) c 0 (endC (sysB a) c)) with | .inl _ => _ | .inr _ => _) = _
      cases walkC (sysB a) c 0 (endC (sysB a) c) with
      | none => rfl
      | some s =>
        show (if 0 ≤ s then _ else _) = some (if 0 ≤ s then _ else _)
        split <;> rfl
/-- where times keep all bounds no closed walk is negative. -/
theorem walk_sum {N : Nat} {l : List SCoolBound} (hb : ∀ b ∈ l, BOK N b) {d : Nat → Int} (hd : Feas N l d) : ∀ (c : List Int) (s at_ r : Int), (∀ n ∈ c, 0 ≤ n ∧ n < (l.length : Int)) → -1 ≤ at_ → walkC l c s at_ = some r → d ((c.getLast?.elim at_ (fun n => (l.getD n.toNat default).To) + 1).toNat) - d (at_ + 1).toNat ≤ r - s
  | [], s, at_, r, hn, ha, h => by
    injection h with h; subst h
    show d (at_ + 1).toNat - _ ≤ _
    omega
  | n :: c, s, at_, r, hn, ha, h => by
    have h1 := hn n (by simp)
    have hm := mem_getD (l := l) (i := n.toNat) (by omega)
    have hB := hb _ hm
    have hk := hd.kept _ hm
    unfold walkC at h
    split at h
    case isFalse => cases h
    rename_i e
    have ih := walk_sum hb hd c _ _ r (fun m hm => hn m (by simp [hm])) hB.t.1 h
    have e1 : (List.getLast? (n :: c)).elim at_ (fun n => (l.getD n.toNat default).To) = c.getLast?.elim (l.getD n.toNat default).To (fun n => (l.getD n.toNat default).To) := by
      cases c with
      | nil => rfl
      | cons m c => rw [List.getLast?_cons_cons]; cases h : (m :: c).getLast? with
        | none => simp at h
        | some x => rfl
    rw [e1]
    unfold fB tB at hk
    rw [e] at hk
    omega
theorem no_circle {N : Nat} {l : List SCoolBound} (hb : ∀ b ∈ l, BOK N b) {c : List Int} (h : (circE l c).2 = 0) : ∀ d, ¬ Feas N l d := by
  intro d hd
  unfold circE at h
  split at h
  case isFalse => cases h
  rename_i e1
  have e1 := inR_t.1 e1
  split at h
  case isFalse => cases h
  rename_i e2
  split at h
  · cases h
  rename_i s hs
  split at h
  · cases h
  have hn : ∀ n ∈ c, 0 ≤ n ∧ n < (l.length : Int) := fun n hn => by
    have := inR_t.1 (List.all_eq_true.1 e2 n hn); omega
  have hg := inL_get e2 (i := c.length - 1) (by omega)
  have hB := hb _ (mem_getD (l := l) (i := (c.getD (c.length - 1) 0).toNat) (by omega))
  have := walk_sum hb hd c 0 (endC l c) s hn hB.t.1 hs
  have e3 : c.getLast?.elim (endC l c) (fun n => (l.getD n.toNat default).To) = endC l c := by
    unfold endC
    rw [List.getLast?_eq_getElem?]
    cases h : c[c.length - 1]? with
    | none => rfl
    | some x =>
      have e : c.getD (c.length - 1) 0 = x := by rw [List.getD_eq_getElem?_getD, h]; rfl
      rw [e]; rfl
  rw [e3] at this
  omega
theorem circles (k : Nat) (hk : 1000 < k) (a : SAnnealing) (c : List Int) : nspeculumlaw03_BlankCircles k a c = some true := by
  unfold nspeculumlaw03_BlankCircles
  rw [show nawake k = some true from rfl, Option.bind_some, if_pos rfl, light_any, Option.bind_some]
  cases hL : lightB a with
  | false => rfl
  | true =>
  have hl := Lg.of hL hk
  rw [if_pos rfl]
  by_cases c1 : 203 < (c.length : Int)
  · simp only [if_pos c1]
    split
    · split <;> rfl
    · rfl
  simp only [if_neg c1, own_any k a hL, Option.bind_some, copy_any k (show c.length ≤ 1000000000 by omega), hl.r]
  have main : ((nblank_CheckCircle k a c).bind fun r => if annE a = 0 then (nspeculumref03_CheckCircle k a c).bind fun r2 => if r.2 = r2.2 then (if r.1 = r2.1 then (if r2.2 = 0 then (nblank_Earliest k a).bind fun r3 => (if r3.2.2 = 21 then some (decide (0 < (r3.2.1.length : Int))) else some false) else some true) else some false) else some false else (if r.2 = annE a then some (decide (r.1 = 0)) else some false)) = some true := by
    by_cases c0 : annE a = 0
    · have hA := Ann.of c0
      rw [circle_b hA c0 hl c (by omega), circle_r hA hk c (by omega), Option.bind_some, if_pos c0, Option.bind_some, if_pos rfl, if_pos rfl]
      by_cases c2 : (circE (sysB a) c).2 = 0
      · rw [if_pos c2]
        rcases earliest_any hA c0 hl with ⟨x, _, _, hx, _⟩ | ⟨y, hy, hy1, _⟩
        · exact absurd hx (no_circle (sysB_ok hA) c2 _)
        · rw [hy, Option.bind_some, if_pos rfl]
          congr 1
          exact decide_eq_true (by dsimp only; omega)
      · rw [if_neg c2]
    · unfold nblank_CheckCircle
      rw [cool_b hl, Option.bind_some, if_neg c0]
      dsimp only
      rw [if_neg c0, Option.bind_some, if_neg c0]
      simp
  split
  · split
    · rfl
    · exact main
  · exact main
theorem vc_circles (a : SAnnealing) (c : List Int) : VC Try.prog 10 [VV.ag (c_SAnnealing a), VV.tr (List.map vi c) c.length] (vb true) :=
  nspeculumlaw03_BlankCircles_ok 10000 a c true (circles 10000 (by decide) a c)
end Go.Proofs.Ytclabanknlmneaa.Vg
