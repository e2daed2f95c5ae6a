/- BlankThicker, plain. -/
import Derived.Test.YtclabanknlmneaaAF
import Derived.Test.YtclabanknlmneaaA6
set_option linter.unusedVariables false
set_option linter.unusedSimpArgs false
namespace Go.Proofs.Ytclabanknlmneaa.Vg
open Go Go.Proofs.Ytclabanknlmneaa.Ev Go.Proofs.Ytclabanknlmneaa.Vv
theorem leastOf0 {a : SAnnealing} {k : Nat} (hA : Ann a) (c0 : annE a = 0) (h : Lg a k) {i : Nat} (hi : i < a.Steps.length) : nblank_LeastMinutes k a (i : Int) = some (leastM a i, 0) := by
  have hs : stE a (i : Int) = 0 := by unfold stE; rw [if_pos c0, inR_t.2 (by omega)]; rfl
  unfold nblank_LeastMinutes
  rw [step_any h, Option.bind_some, if_pos hs, least_b hA k (by omega)]; rfl
def thickA (a : SAnnealing) (t : Int) : SAnnealing := ⟨t, a.Factor, a.Steps, a.Windows⟩
theorem thick_ann {a : SAnnealing} {t : Int} (c0 : annE a = 0) (ht : 1 ≤ t ∧ t ≤ 500) : annE (thickA a t) = 0 := by
  have hA := Ann.of c0
  unfold annE at c0 ⊢
  rw [if_pos (by rw [inR_t.2 hA.th, inR_t.2 hA.fa]; rfl)] at c0
  rw [if_pos (show (inR 1 500 (thickA a t).Thick && inR 0 1000 (thickA a t).Factor) = true from by show (inR 1 500 t && inR 0 1000 a.Factor) = true; rw [inR_t.2 ht, inR_t.2 hA.fa]; rfl)]
  exact c0
theorem work_mono {a : SAnnealing} {t : Int} (hA : Ann a) (ht : a.Thick ≤ t) {i : Nat} (hi : i < a.Steps.length) : work a i ≤ work (thickA a t) i := by
  have hf := hA.fa
  have hth := hA.th
  have hs := hA.st _ (mem_getD (l := a.Steps) (i := i) hi)
  show a.Factor * a.Thick * a.Thick * (a.Steps.getD (i : Int).toNat default).Drop ≤ a.Factor * t * t * (a.Steps.getD (i : Int).toNat default).Drop
  rw [Int.toNat_natCast]
  refine Int.mul_le_mul_of_nonneg_right ?_ (by omega)
  have h1 : a.Factor * a.Thick ≤ a.Factor * t := Int.mul_le_mul_of_nonneg_left ht hf.1
  have h2 : 0 ≤ a.Factor * t := Int.mul_nonneg hf.1 (by omega)
  exact Int.le_trans (Int.mul_le_mul_of_nonneg_right h1 (by omega)) (Int.mul_le_mul_of_nonneg_left ht h2)
theorem least_mono {a : SAnnealing} {t : Int} (hA : Ann a) (ht : a.Thick ≤ t) {i : Nat} (hi : i < a.Steps.length) : leastM a i ≤ leastM (thickA a t) i := by
  have hs := hA.st _ (mem_getD (l := a.Steps) (i := i) hi)
  have hL : 0 < (a.Steps.getD (i : Int).toNat default).Limit := by rw [Int.toNat_natCast]; omega
  have hw := work_mono hA ht hi
  have : cdiv (work a i) (a.Steps.getD (i : Int).toNat default).Limit ≤ cdiv (work (thickA a t) i) (a.Steps.getD (i : Int).toNat default).Limit := by
    rw [cdiv_le hL]
    exact Int.le_trans hw ((cdiv_le hL).1 (Int.le_refl _))
  unfold leastM maxI
  show (if 1 > cdiv (work a i) (a.Steps.getD (i : Int).toNat default).Limit then (1 : Int) else cdiv (work a i) (a.Steps.getD (i : Int).toNat default).Limit) ≤ (if 1 > cdiv (work (thickA a t) i) (a.Steps.getD (i : Int).toNat default).Limit then (1 : Int) else cdiv (work (thickA a t) i) (a.Steps.getD (i : Int).toNat default).Limit)
  split <;> split <;> omega
theorem stp_tr {a : SAnnealing} {t : Int} (hA : Ann a) (ht : a.Thick ≤ t) : ∀ (d i : Nat), i + d = a.Steps.length → ∀ b ∈ stpB a i d, ∃ b' ∈ stpB (thickA a t) i d, b'.From = b.From ∧ b'.To = b.To ∧ b'.Most ≤ b.Most
  | 0, i, _, b, h => by cases h
  | d + 1, i, hd, b, h => by
    rcases List.mem_cons.1 h with e | e
    · subst e; exact ⟨_, List.mem_cons_self, rfl, rfl, Int.le_refl _⟩
    · rcases List.mem_cons.1 e with e | e
      · subst e
        have := least_mono hA ht (i := i) (by omega)
        exact ⟨_, List.mem_cons_of_mem _ List.mem_cons_self, rfl, rfl, by dsimp only; omega⟩
      · obtain ⟨b', h1, h2⟩ := stp_tr hA ht d (i + 1) (by omega) b e
        exact ⟨b', List.mem_cons_of_mem _ (List.mem_cons_of_mem _ h1), h2⟩
theorem feas_tr {a : SAnnealing} {t : Int} (hA : Ann a) (ht : a.Thick ≤ t) {N : Nat} {d : Nat → Int} (h : Feas N (sysB (thickA a t)) d) : Feas N (sysB a) d := by
  refine ⟨h.pos, fun b hb => ?_⟩
  have key : ∃ b' ∈ sysB (thickA a t), b'.From = b.From ∧ b'.To = b.To ∧ b'.Most ≤ b.Most := by
    unfold sysB at hb ⊢
    rcases List.mem_append.1 hb with hb | hb
    · rcases List.mem_append.1 hb with hb | hb
      · exact ⟨b, List.mem_append_left _ (List.mem_append_left _ hb), rfl, rfl, Int.le_refl _⟩
      · obtain ⟨b', h1, h2⟩ := stp_tr hA ht _ 0 (by omega) b hb
        exact ⟨b', List.mem_append_left _ (List.mem_append_right _ h1), h2⟩
    · exact ⟨b, List.mem_append_right _ hb, rfl, rfl, Int.le_refl _⟩
  obtain ⟨b', h1, h2, h3, h4⟩ := key
  have := h.kept b' h1
  unfold fB tB at this ⊢
  rw [h2, h3] at this
  omega
theorem loop0 {a : SAnnealing} {m : Int} {k : Nat} (hA : Ann a) (c0 : annE a = 0) (hL : lightB a = true) (hk : 1000 < k) (ht : a.Thick ≤ minI 500 (w64 (a.Thick + m))) (ht2 : minI 500 (w64 (a.Thick + m)) ≤ 500) : ∀ (d fuel i : Nat), a.Steps.length = i + d → d < fuel →
    nspeculumlaw03_BlankThicker_l0_0 k a m a fuel (i : Int) = some (.inr (minI 500 (w64 (a.Thick + m)))) := by
  have hn := hA.ns
  have hth := hA.th
  have cb : annE (thickA a (minI 500 (w64 (a.Thick + m)))) = 0 := thick_ann c0 (by omega)
  have hb := Ann.of cb
  have lb : lightB (thickA a (minI 500 (w64 (a.Thick + m)))) = true := hL
  intro d
  induction d with
  | zero =>
    intro fuel i he hf
    obtain ⟨f, rfl⟩ : ∃ f, fuel = f + 1 := ⟨fuel - 1, by omega⟩
    rw [nspeculumlaw03_BlankThicker_l0_0.eq_2, if_neg (by omega)]
  | succ d ih =>
    intro fuel i he hf
    obtain ⟨f, rfl⟩ : ∃ f, fuel = f + 1 := ⟨fuel - 1, by omega⟩
    have hm := least_mono hA ht (i := i) (by omega)
    rw [nspeculumlaw03_BlankThicker_l0_0.eq_2, if_pos (by omega), own_any k a hL, Option.bind_some, leastOf0 hA c0 (Lg.of hL hk) (by omega), Option.bind_some,
      show (⟨minI 500 (w64 (a.Thick + m)), a.Factor, a.Steps, a.Windows⟩ : SAnnealing) = thickA a (minI 500 (w64 (a.Thick + m))) from rfl, own_any k _ lb, Option.bind_some, leastOf0 hb cb (Lg.of lb hk) (show i < a.Steps.length by omega), Option.bind_some]
    dsimp only
    rw [if_pos rfl, if_pos rfl, if_neg (by omega), w64_succ (by omega)]
    exact ih f (i + 1) (by omega) (by omega)
theorem drop_gx (x : List Int) (i : Nat) : (x.drop 1).getD i 0 = gx x (i + 1) := by
  unfold gx
  rw [List.getD_eq_getElem?_getD, List.getD_eq_getElem?_getD, List.getElem?_drop, Nat.add_comm]
theorem loop1 (k : Nat) {x y : List Int} {cx cy : List Int} {ex ey : Int} {N : Nat} (hx : x.length = N + 1) (hy : y.length = N + 1) (hN : N ≤ 1000) (hle : ∀ j, gx x j ≤ gx y j) : ∀ (d fuel i : Nat), N = i + d → d < fuel → nspeculumlaw03_BlankThicker_l1_0 k (x.drop 1, cx, ex) (y.drop 1, cy, ey) fuel (i : Int) = some (.inr ()) := by
  have h1 : (x.drop 1).length = N := by simp [hx]
  have h2 : (y.drop 1).length = N := by simp [hy]
  intro d
  induction d with
  | zero =>
    intro fuel i he hf
    obtain ⟨f, rfl⟩ : ∃ f, fuel = f + 1 := ⟨fuel - 1, by omega⟩
    rw [nspeculumlaw03_BlankThicker_l1_0.eq_2]
    dsimp only
    rw [h1, if_neg (by omega)]
  | succ d ih =>
    intro fuel i he hf
    obtain ⟨f, rfl⟩ : ∃ f, fuel = f + 1 := ⟨fuel - 1, by omega⟩
    rw [nspeculumlaw03_BlankThicker_l1_0.eq_2]
    dsimp only
    have := hle (i + 1)
    rw [h1, h2, if_pos (by omega), if_pos (by omega), if_pos (by omega), Int.toNat_natCast, drop_gx, drop_gx, if_neg (by omega), w64_succ (by omega)]
    exact ih f (i + 1) (by omega) (by omega)
theorem thicker (k : Nat) (hk : 1000 < k) (a : SAnnealing) (m : Int) : nspeculumlaw03_BlankThicker k a m = some true := by
  unfold nspeculumlaw03_BlankThicker
  rw [show nawake k = some true from rfl, Option.bind_some, if_pos rfl, light_any, Option.bind_some]
  cases hL : lightB a with
  | false => rfl
  | true =>
  have hl := Lg.of hL hk
  rw [if_pos rfl, within_base, Option.bind_some]
  cases hm : inR 0 100 m with
  | false => rfl
  | true =>
  rw [if_pos rfl, own_any k a hL, Option.bind_some]
  by_cases c1 : minI 500 (w64 (a.Thick + m)) < a.Thick
  · rw [if_pos c1]
  rw [if_neg c1, hl.b, Option.bind_some]
  by_cases c0 : annE a = 0
  · have hA := Ann.of c0
    have hn := hA.ns
    have hth := hA.th
    have ht2 : minI 500 (w64 (a.Thick + m)) ≤ 500 := by unfold minI; split <;> omega
    rw [if_pos c0, if_neg (by omega), show nspeculumlaw03_BlankThicker_l0_0 k a m a k 0 = _ from loop0 hA c0 hL hk (by omega) ht2 a.Steps.length k 0 (by omega) (by omega), Option.bind_some]
    dsimp only
    have cb : annE (thickA a (minI 500 (w64 (a.Thick + m)))) = 0 := thick_ann c0 (by omega)
    have lb : lightB (thickA a (minI 500 (w64 (a.Thick + m)))) = true := hL
    rw [show (⟨minI 500 (w64 (a.Thick + m)), a.Factor, a.Steps, a.Windows⟩ : SAnnealing) = thickA a (minI 500 (w64 (a.Thick + m))) from rfl, own_any k _ lb]
    rcases earliest_any (Ann.of cb) cb (Lg.of lb hk) with ⟨y, ey, hy, fy, _⟩ | ⟨c, ec, _, _⟩
    · have fy' := feas_tr hA (by omega) fy
      rcases earliest_any hA c0 hl with ⟨x, ex, hx, fx, hle⟩ | ⟨c, _, _, hno⟩
      · rw [ex, Option.bind_some, Option.bind_some, ey, Option.bind_some]
        dsimp only
        have hy : y.length = a.Steps.length + 2 := hy
        rw [if_pos rfl, if_pos rfl, if_pos (by simp [hx, hy]), show nspeculumlaw03_BlankThicker_l1_0 k (x.drop 1, [], 0) (y.drop 1, [], 0) k 0 = _ from loop1 k (N := a.Steps.length + 1) hx hy (by omega) (hle _ fy') (a.Steps.length + 1) k 0 (by omega) (by omega)]; rfl
      · exact absurd fy' (hno _)
    · rcases earliest_any hA c0 hl with ⟨x, ex, _⟩ | ⟨c, ex, _⟩
      · rw [ex, Option.bind_some, Option.bind_some, ec]; rfl
      · rw [ex, Option.bind_some, Option.bind_some, ec]; rfl
  · rw [if_neg c0]
theorem vc_thicker (a : SAnnealing) (m : Int) : VC Try.prog 11 [VV.ag (c_SAnnealing a), vi m] (vb true) :=
  nspeculumlaw03_BlankThicker_ok 10000 a m true (thicker 10000 (by decide) a m)
end Go.Proofs.Ytclabanknlmneaa.Vg
