/- Law of the least reflectance of a band. -/
import Derived.Test.YtpnlkhmnhjcgkaaU2
import Derived.Test.YtpnlkhmnhjcgkaaUb
set_option linter.unusedVariables false
set_option linter.unusedSimpArgs false
namespace Go.Proofs.Ytpnlkhmnhjcgkaa.Vg
open Go Go.Proofs.Ytpnlkhmnhjcgkaa.Ev Go.Proofs.Ytpnlkhmnhjcgkaa.Vv
def sel (a b : Int) (l : List SReflect) : List SRange := (l.filter fun x => inR a b x.Wave).map SReflect.Share
theorem sel_cons (a b : Int) (x : SReflect) (l : List SReflect) : sel a b (x :: l) = if inR a b x.Wave = true then x.Share :: sel a b l else sel a b l := by
  unfold sel
  rw [List.filter_cons]
  by_cases h : inR a b x.Wave = true
  · rw [if_pos h, if_pos h]; rfl
  · rw [if_neg h, if_neg h]
theorem sel_len (a b : Int) : ∀ l : List SReflect, (sel a b l).length ≤ l.length := fun l => by
  unfold sel; rw [List.length_map]; exact List.length_filter_le _ _
def mnL (f : SRange → Int) (acc : Int) (xs : List SRange) : Int := xs.foldl (fun a x => minI a (f x)) acc
theorem minI_le (a b : Int) : minI a b ≤ a ∧ minI a b ≤ b := by unfold minI; split <;> omega
theorem mnL_le (f : SRange → Int) : ∀ (xs : List SRange) (acc : Int), mnL f acc xs ≤ acc ∧ ∀ x ∈ xs, mnL f acc xs ≤ f x
  | [], acc => ⟨Int.le_refl _, fun x h => (by cases h)⟩
  | y :: xs, acc => by
    have ih := mnL_le f xs (minI acc (f y))
    have := minI_le acc (f y)
    show mnL f (minI acc (f y)) xs ≤ acc ∧ _
    refine ⟨by omega, fun x hx => ?_⟩
    show mnL f (minI acc (f y)) xs ≤ f x
    rcases List.mem_cons.1 hx with e | e
    · subst e; omega
    · exact ih.2 x e
theorem coat_l0 (k : Nat) (hk : 1 < k) (hk2 : k ≤ 1000000000) (l : List SReflect) (hl : l.length < 100000) (a b : Int) : ∀ (d fuel i : Nat) (y : List SRange), l.length = i + d → d < fuel → y.length ≤ 10 + i →
    ncoat_Least_l0_0 k l a b fuel y (i : Int) = some (y ++ sel a b (l.drop i)) := by
  intro d
  induction d with
  | zero =>
    intro fuel i y h hf _
    obtain ⟨g, rfl⟩ : ∃ g, fuel = g + 1 := ⟨fuel - 1, by omega⟩
    rw [ncoat_Least_l0_0.eq_2, if_neg (by omega), List.drop_eq_nil_of_le (by omega)]
    simp [sel]
  | succ d ih =>
    intro fuel i y h hf hy
    obtain ⟨g, rfl⟩ : ∃ g, fuel = g + 1 := ⟨fuel - 1, by omega⟩
    rw [ncoat_Least_l0_0.eq_2, if_pos (by omega), if_pos (by omega), areWithin_1 k _ _ _ hk hk2, Option.bind_some, w64_succ (by omega), drop_get (y := l) (i := i) (by omega) default, sel_cons]
    simp only [Int.toNat_natCast]
    by_cases h1 : inR a b (l.getD i default).Wave = true
    · rw [if_pos h1, if_pos h1, if_pos (by simp; omega), ih g (i + 1) _ (by omega) (by omega) (by simp; omega), List.append_assoc]; rfl
    · rw [if_neg h1, if_neg h1, ih g (i + 1) _ (by omega) (by omega) (by omega)]
theorem coat_l1 (k : Nat) (a b : Int) (xs : List SRange) (hl : xs.length < 1000000) : ∀ (d fuel i : Nat) (u v : Int), xs.length = i + d → d < fuel →
    ncoat_Least_l1_0 k a b xs fuel u v (i : Int) = some (mnL SRange.Lo u (xs.drop i), mnL SRange.Hi v (xs.drop i)) := by
  intro d
  induction d with
  | zero =>
    intro fuel i u v h hf
    obtain ⟨g, rfl⟩ : ∃ g, fuel = g + 1 := ⟨fuel - 1, by omega⟩
    rw [ncoat_Least_l1_0.eq_2, if_neg (by omega), List.drop_eq_nil_of_le (by omega)]; rfl
  | succ d ih =>
    intro fuel i u v h hf
    obtain ⟨g, rfl⟩ : ∃ g, fuel = g + 1 := ⟨fuel - 1, by omega⟩
    rw [ncoat_Least_l1_0.eq_2, if_pos (by omega), if_pos (by omega), w64_succ (by omega), ih g (i + 1) _ _ (by omega) (by omega), drop_get (y := xs) (i := i) (by omega) default]
    simp only [Int.toNat_natCast]
    rfl
theorem ref_l0 (k : Nat) (l : List SReflect) (hl : l.length < 1000000) (a b : Int) : ∀ (d fuel i : Nat) (u v : Int), l.length = i + d → d < fuel →
    nspeculumref08_Least_l0_0 k l a b fuel u v (i : Int) = some (mnL SRange.Lo u (sel a b (l.drop i)), mnL SRange.Hi v (sel a b (l.drop i))) := by
  intro d
  induction d with
  | zero =>
    intro fuel i u v h hf
    obtain ⟨g, rfl⟩ : ∃ g, fuel = g + 1 := ⟨fuel - 1, by omega⟩
    rw [nspeculumref08_Least_l0_0.eq_2, if_neg (by omega), List.drop_eq_nil_of_le (by omega)]; rfl
  | succ d ih =>
    intro fuel i u v h hf
    obtain ⟨g, rfl⟩ : ∃ g, fuel = g + 1 := ⟨fuel - 1, by omega⟩
    rw [nspeculumref08_Least_l0_0.eq_2, if_pos (by omega), if_pos (by omega), within_base, Option.bind_some, w64_succ (by omega), drop_get (y := l) (i := i) (by omega) default, sel_cons]
    simp only [Int.toNat_natCast]
    by_cases h1 : inR a b (l.getD i default).Wave = true
    · rw [if_pos h1, if_pos h1, ih g (i + 1) _ _ (by omega) (by omega)]; rfl
    · rw [if_neg h1, if_neg h1, ih g (i + 1) _ _ (by omega) (by omega)]
/-- quotients grow with what is divided. -/
theorem div_mono {n m d : Int} (hd : 0 < d) (h : n ≤ m) : n / d ≤ m / d := Int.ediv_le_ediv hd h
theorem cdiv_mono {n m d : Int} (hd : 0 < d) (h : n ≤ m) : cdiv n d ≤ cdiv m d := Int.ediv_le_ediv hd (by omega)
theorem cdiv_mul {a d : Int} (hd : 0 < d) : cdiv (a * d) d = a := by
  unfold cdiv
  rw [show a * d + d - 1 = (d - 1) + d * a by rw [Int.mul_comm]; omega, Int.add_mul_ediv_left _ _ (by omega), Int.ediv_eq_zero_of_lt (by omega) (by omega)]; omega
theorem mix_le {a b x y : Int} (ha : a ≤ 1000) (hb : b ≤ 1000) (hx : 0 ≤ x) (hy : 0 ≤ y) : mixS a b x y ≤ 1000 * (x + y) := by
  unfold mixS
  have h1 := Int.mul_le_mul_of_nonneg_right ha hx
  have h2 := Int.mul_le_mul_of_nonneg_right hb hy
  rw [Int.mul_add]; omega
theorem val_le {l : List SReflect} (R : Right l) {w : Int} {r : Nat} (A : At l w r) : (valS l w r).Lo ≤ 1000 ∧ (valS l w r).Hi ≤ 1000 := by
  have hp := A.p; have hq := A.q; have ha := A.a; have hb := A.b
  have e1 := R.pt r hq
  have e2 := R.pt (r - 1) (by omega)
  have e3 := R.up r (by omega) hq
  have m1 := mix_le (a := (sh l (r - 1)).Lo) (b := (sh l r).Lo) (x := wv l r - w) (y := w - wv l (r - 1)) (by omega) (by omega) (by omega) (by omega)
  have m2 := mix_le (a := (sh l (r - 1)).Hi) (b := (sh l r).Hi) (x := wv l r - w) (y := w - wv l (r - 1)) (by omega) (by omega) (by omega) (by omega)
  rw [show wv l r - w + (w - wv l (r - 1)) = wv l r - wv l (r - 1) by omega] at m1 m2
  have hd : 0 < wv l r - wv l (r - 1) := by omega
  constructor
  · have := div_mono hd m1
    rw [Int.mul_ediv_cancel _ (by omega)] at this
    exact this
  · have := cdiv_mono hd m2
    rw [cdiv_mul hd] at this
    exact this
theorem At.uniq {l : List SReflect} {w : Int} {r r' : Nat} (A : At l w r) (B : At l w r') : r = r' := by
  have := A.p; have := B.p; have h1 := A.b; have h2 := B.b
  rcases Nat.lt_trichotomy r r' with h | h | h
  · have := B.c r (by omega) h; omega
  · exact h
  · have := A.c r' (by omega) h; omega
/-- along a line nothing is below both ends. -/
theorem line {a b p q x y z : Int} (h1 : x ≤ y) (h2 : y ≤ z) : mixS a b (q - x) (x - p) ≤ mixS a b (q - y) (y - p) ∨ mixS a b (q - z) (z - p) ≤ mixS a b (q - y) (y - p) := by
  have e1 : (b - a) * (y - x) = mixS a b (q - y) (y - p) - mixS a b (q - x) (x - p) := by unfold mixS; grind
  have e2 : (a - b) * (z - y) = mixS a b (q - y) (y - p) - mixS a b (q - z) (z - p) := by unfold mixS; grind
  rcases Int.le_total a b with h | h
  · have := Int.mul_nonneg (show 0 ≤ b - a by omega) (show 0 ≤ y - x by omega); left; omega
  · have := Int.mul_nonneg (show 0 ≤ a - b by omega) (show 0 ≤ z - y by omega); right; omega
theorem mix_left {a b p q : Int} : mixS a b (q - p) (p - p) = a * (q - p) := by unfold mixS; grind
theorem mix_right {a b p q : Int} : mixS a b (q - q) (q - p) = b * (q - p) := by unfold mixS; grind
theorem val_left {l : List SReflect} {r : Nat} (hd : 0 < wv l r - wv l (r - 1)) : valS l (wv l (r - 1)) r = sh l (r - 1) := by
  unfold valS
  rw [mix_left, mix_left, Int.mul_ediv_cancel _ (by omega), cdiv_mul hd]
theorem val_right {l : List SReflect} {r : Nat} (hd : 0 < wv l r - wv l (r - 1)) : valS l (wv l r) r = sh l r := by
  unfold valS
  rw [mix_right, mix_right, Int.mul_ediv_cancel _ (by omega), cdiv_mul hd]
theorem val_line {l : List SReflect} {r : Nat} (hd : 0 < wv l r - wv l (r - 1)) {x y z : Int} (h1 : x ≤ y) (h2 : y ≤ z) :
    ((valS l x r).Lo ≤ (valS l y r).Lo ∨ (valS l z r).Lo ≤ (valS l y r).Lo) ∧ ((valS l x r).Hi ≤ (valS l y r).Hi ∨ (valS l z r).Hi ≤ (valS l y r).Hi) := by
  refine ⟨(line (a := (sh l (r - 1)).Lo) (b := (sh l r).Lo) (p := wv l (r - 1)) (q := wv l r) h1 h2).imp (fun h => ?_) (fun h => ?_), (line (a := (sh l (r - 1)).Hi) (b := (sh l r).Hi) (p := wv l (r - 1)) (q := wv l r) h1 h2).imp (fun h => ?_) (fun h => ?_)⟩
  · exact div_mono hd h
  · exact div_mono hd h
  · exact cdiv_mono hd h
  · exact cdiv_mono hd h
theorem sel_mem {a b : Int} {l : List SReflect} {j : Nat} (hj : j < l.length) (h : a ≤ wv l j ∧ wv l j ≤ b) : sh l j ∈ sel a b l := by
  unfold sel
  refine List.mem_map.2 ⟨l.getD j default, List.mem_filter.2 ⟨?_, inR_t.2 h⟩, rfl⟩
  rw [List.getD_eq_getElem?_getD, List.getElem?_eq_getElem hj]; exact List.getElem_mem hj
/-- the least ends of a band. -/
def leV (l : List SReflect) (a b : Int) : SRange :=
  ⟨mnL SRange.Lo (minI (valS l a (rt l a)).Lo (valS l b (rt l b)).Lo) (sel a b l), mnL SRange.Hi (minI (valS l a (rt l a)).Hi (valS l b (rt l b)).Hi) (sel a b l)⟩
theorem leV_at {l : List SReflect} (R : Right l) {a b w : Int} (ha : hasW l a = true) (hb : hasW l b = true) (h1 : a ≤ w) (h2 : w ≤ b) (hw : hasW l w = true) :
    (leV l a b).Lo ≤ (valS l w (rt l w)).Lo ∧ (leV l a b).Hi ≤ (valS l w (rt l w)).Hi := by
  obtain ⟨_, A⟩ := rt_ok R hw
  obtain ⟨_, Aa⟩ := rt_ok R ha
  obtain ⟨_, Ab⟩ := rt_ok R hb
  have hp := A.p; have hq := A.q; have hx := A.a; have hy := A.b
  have hup := R.up (rt l w) (by omega) hq
  have hd : 0 < wv l (rt l w) - wv l (rt l w - 1) := by omega
  have lo := mnL_le SRange.Lo (sel a b l) (minI (valS l a (rt l a)).Lo (valS l b (rt l b)).Lo)
  have hi := mnL_le SRange.Hi (sel a b l) (minI (valS l a (rt l a)).Hi (valS l b (rt l b)).Hi)
  have ml := minI_le (valS l a (rt l a)).Lo (valS l b (rt l b)).Lo
  have mh := minI_le (valS l a (rt l a)).Hi (valS l b (rt l b)).Hi
  have left : ∃ x, x ≤ w ∧ (leV l a b).Lo ≤ (valS l x (rt l w)).Lo ∧ (leV l a b).Hi ≤ (valS l x (rt l w)).Hi := by
    by_cases h : a ≤ wv l (rt l w - 1)
    · have hm := sel_mem (a := a) (b := b) (l := l) (j := rt l w - 1) (by omega) ⟨h, by omega⟩
      exact ⟨wv l (rt l w - 1), hx, by rw [val_left hd]; exact lo.2 _ hm, by rw [val_left hd]; exact hi.2 _ hm⟩
    · have B : At l a (rt l w) := ⟨hp, hq, by omega, by omega, fun j j1 j2 => by
        have := R.le (rt l w - 1 - j) j (by omega)
        rw [show j + (rt l w - 1 - j) = rt l w - 1 by omega] at this
        omega⟩
      have e := Aa.uniq B
      rw [e] at lo hi ml mh
      refine ⟨a, h1, ?_, ?_⟩
      · unfold leV; rw [e]; dsimp only; omega
      · unfold leV; rw [e]; dsimp only; omega
  have right : ∃ z, w ≤ z ∧ (leV l a b).Lo ≤ (valS l z (rt l w)).Lo ∧ (leV l a b).Hi ≤ (valS l z (rt l w)).Hi := by
    by_cases h : wv l (rt l w) ≤ b
    · have hm := sel_mem (a := a) (b := b) (l := l) (j := rt l w) (by omega) ⟨by omega, h⟩
      exact ⟨wv l (rt l w), hy, by rw [val_right hd]; exact lo.2 _ hm, by rw [val_right hd]; exact hi.2 _ hm⟩
    · have B : At l b (rt l w) := ⟨hp, hq, by omega, by omega, fun j j1 j2 => by have := A.c j j1 j2; omega⟩
      have e := Ab.uniq B
      rw [e] at lo hi ml mh
      refine ⟨b, h2, ?_, ?_⟩
      · unfold leV; rw [e]; dsimp only; omega
      · unfold leV; rw [e]; dsimp only; omega
  obtain ⟨x, x1, x2, x3⟩ := left
  obtain ⟨z, z1, z2, z3⟩ := right
  have := val_line hd x1 z1
  omega
theorem law_least (k : Nat) (hk : 1000 < k) (hk2 : k ≤ 1000000000) (l : List SReflect) (c : A44) (w : Int) : nspeculumlaw08_CoatLeast k l c w = some true := by
  obtain ⟨a, b⟩ := c
  unfold nspeculumlaw08_CoatLeast
  rw [show nawake k = some true from rfl, Option.bind_some, if_pos rfl, few_any, Option.bind_some]
  cases hf : fewB l with
  | false => rfl
  | true =>
    have hlen := few_le hf
    rw [if_pos rfl, table_any k (by omega), Option.bind_some]
    unfold ncoat_Least nspeculumref08_Least
    dsimp only
    rw [waves_coat k (by omega) hk2 l [a, b] (by simp), at_ref k (by omega), at_ref k (by omega), Option.bind_some, Option.bind_some, Option.bind_some]
    simp only [List.all_cons, List.all_nil, Bool.and_true]
    unfold atV
    by_cases hc : cvE l = 0
    · have R := Right.of hc
      rw [if_pos hc, decide_eq_true hc]
      dsimp only
      cases ha : hasW l a with
      | false => simp
      | true =>
        dsimp only
        cases hb : hasW l b with
        | false => simp
        | true =>
          obtain ⟨_, Aa⟩ := rt_ok R ha
          obtain ⟨_, Ab⟩ := rt_ok R hb
          dsimp only
          rw [if_pos (by rfl), if_pos rfl, if_pos rfl]
          by_cases hab : b < a
          · rw [if_pos hab, if_pos hab]; simp
          · have hsl := sel_len a b l
            have va := val_le R Aa
            have vb := val_le R Ab
            rw [if_neg hab, if_neg hab, at_coat k (by omega) R ha, Option.bind_some, at_coat k (by omega) R hb, Option.bind_some]
            rw [show ncoat_Least_l0_0 k l a b k [⟨(valS l a (rt l a)).Lo, (valS l a (rt l a)).Hi⟩, ⟨(valS l b (rt l b)).Lo, (valS l b (rt l b)).Hi⟩] 0 = _ from coat_l0 k (by omega) hk2 l (by omega) a b l.length k 0 _ (by omega) (by omega) (by simp), Option.bind_some, show ncoat_whole k = some ⟨1000, 1000⟩ from rfl, Option.bind_some, List.drop_zero]
            rw [show ∀ xs, ncoat_Least_l1_0 k a b xs k 1000 1000 0 = ncoat_Least_l1_0 k a b xs k 1000 1000 ((0 : Nat) : Int) from fun _ => rfl, coat_l1 k a b _ (by simp; omega) _ k 0 1000 1000 (Nat.zero_add _).symm (by simp; omega), Option.bind_some, show ∀ u v, nspeculumref08_Least_l0_0 k l a b k u v 0 = nspeculumref08_Least_l0_0 k l a b k u v ((0 : Nat) : Int) from fun _ _ => rfl, ref_l0 k l (by omega) a b l.length k 0 _ _ (by omega) (by omega), Option.bind_some, List.drop_zero, List.drop_zero]
            have e1 : mnL SRange.Lo 1000 ([⟨(valS l a (rt l a)).Lo, (valS l a (rt l a)).Hi⟩, ⟨(valS l b (rt l b)).Lo, (valS l b (rt l b)).Hi⟩] ++ sel a b l) = (leV l a b).Lo := by
              show mnL SRange.Lo (minI (minI 1000 (valS l a (rt l a)).Lo) (valS l b (rt l b)).Lo) (sel a b l) = _
              rw [show minI 1000 (valS l a (rt l a)).Lo = (valS l a (rt l a)).Lo by unfold minI; split <;> omega]; rfl
            have e2 : mnL SRange.Hi 1000 ([⟨(valS l a (rt l a)).Lo, (valS l a (rt l a)).Hi⟩, ⟨(valS l b (rt l b)).Lo, (valS l b (rt l b)).Hi⟩] ++ sel a b l) = (leV l a b).Hi := by
              show mnL SRange.Hi (minI (minI 1000 (valS l a (rt l a)).Hi) (valS l b (rt l b)).Hi) (sel a b l) = _
              rw [show minI 1000 (valS l a (rt l a)).Hi = (valS l a (rt l a)).Hi by unfold minI; split <;> omega]; rfl
            rw [e1, e2]
            dsimp only
            rw [show mnL SRange.Lo (minI (valS l a (rt l a)).Lo (valS l b (rt l b)).Lo) (sel a b l) = (leV l a b).Lo from rfl, show mnL SRange.Hi (minI (valS l a (rt l a)).Hi (valS l b (rt l b)).Hi) (sel a b l) = (leV l a b).Hi from rfl, Option.bind_some, Option.bind_some, if_pos rfl, if_pos (by simp), if_pos rfl, within_base, Option.bind_some]
            cases hw : inR a b w with
            | false => rfl
            | true =>
              have hw := inR_t.1 hw
              have hww : hasW l w = true := by
                have h1 := inR_t.1 ha; have h2 := inR_t.1 hb
                exact inR_t.2 ⟨by omega, by omega⟩
              have hL := leV_at R ha hb hw.1 hw.2 hww
              rw [if_pos rfl, At_coat k (by omega) hk2, Option.bind_some]
              unfold atV
              rw [decide_eq_true hc, hww]
              dsimp only
              rw [if_pos rfl, if_pos hL.1, decide_eq_true hL.2]
    · rw [if_neg hc, decide_eq_false hc]
      dsimp only
      rw [if_neg hc, if_neg hc]
      simp [hc]
theorem vc_least (l : List SReflect) (c : A44) (w : Int) : VC Go.Proofs.Try.prog 9 [VV.tr (l.flatMap c_SReflect) l.length, VV.ag [vi c.e0, vi c.e1], vi w] (vb true) :=
  nspeculumlaw08_CoatLeast_ok 10000 l c w true (law_least 10000 (by decide) (by decide) l c w)
end Go.Proofs.Ytpnlkhmnhjcgkaa.Vg
