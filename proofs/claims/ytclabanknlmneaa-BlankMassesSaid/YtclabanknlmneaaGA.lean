/- Chapter 3, plain: blanks. -/
import Derived.Test.YtclabanknlmneaaG1
import Derived.Test.YtclabanknlmneaaWb
set_option linter.unusedVariables false
set_option linter.unusedSimpArgs false
namespace Go.Proofs.Ytclabanknlmneaa.Vg
open Go Go.Proofs.Ytclabanknlmneaa.Ev Go.Proofs.Ytclabanknlmneaa.Vv
theorem w64_id {n : Int} (h1 : -9223372036854775808 ≤ n) (h2 : n ≤ 9223372036854775807) : w64 n = n := by
  unfold w64 IntKind.wrap
  simp [IntKind.signed, IntKind.bits]
  omega
theorem w64_succ {i : Nat} (h : i < 1000000000000) : w64 ((i : Int) + 1) = ((i + 1 : Nat) : Int) := by
  rw [w64_id (by omega) (by omega)]; omega
theorem drop_get {α : Type} {y : List α} {i : Nat} (h : i < y.length) (d : α) : y.drop i = y.getD i d :: y.drop (i + 1) := by
  rw [List.drop_eq_getElem_cons h, List.getD_eq_getElem?_getD, List.getElem?_eq_getElem h]; rfl
def sumB (b : Bool) : Sum Unit Unit := match b with | true => .inr () | false => .inl ()
def sumE (e : Int) : Sum Int Unit := if e = 0 then .inr () else .inl e
theorem sumE_0 : sumE 0 = .inr () := rfl
theorem sumE_n {e : Int} (h : e ≠ 0) : sumE e = .inl e := if_neg h
def inR (a b n : Int) : Bool := decide (a ≤ n ∧ n ≤ b)
theorem inR_t {a b n : Int} : inR a b n = true ↔ a ≤ n ∧ n ≤ b := by unfold inR; exact decide_eq_true_iff
theorem inR_f {a b n : Int} : inR a b n = false ↔ ¬(a ≤ n ∧ n ≤ b) := by unfold inR; exact decide_eq_false_iff_not
theorem within_base (k : Nat) (a b c : Int) : nspeculumbase_Within k a b c = some (inR b c a) := by
  unfold nspeculumbase_Within inR
  by_cases h : b ≤ a <;> simp [h]
theorem isWithin_b (k : Nat) (a b c : Int) : nblank_isWithin k a b c = some (inR b c a) := by
  unfold nblank_isWithin inR
  by_cases h : b ≤ a <;> simp [h]
theorem within_b (k : Nat) (n a b : Int) : nblank_within k n a b = some (inR a b n, 2) := by
  unfold nblank_within
  rw [isWithin_b]; rfl
theorem need1 (k : Nat) (b : Bool) (e : Int) : nblank_need_1 k b e = some (if b = true then 0 else e) := by
  unfold nblank_need_1
  cases b <;> rfl
/-- the first fault of a list. -/
def firstE {α : Type} (f : α → Int) : List α → Int
  | [] => 0
  | x :: xs => if f x = 0 then firstE f xs else f x
theorem firstE_zero {α : Type} {f : α → Int} : ∀ {l : List α}, firstE f l = 0 → ∀ x ∈ l, f x = 0
  | [], _, x, hx => by cases hx
  | y :: l, h, x, hx => by
    unfold firstE at h
    by_cases hy : f y = 0
    · rw [if_pos hy] at h
      rcases List.mem_cons.1 hx with rfl | hx
      · exact hy
      · exact firstE_zero h x hx
    · rw [if_neg hy] at h; exact absurd h hy
theorem tdiv_floor {n d : Int} (hd : 0 < d) : (if n.tmod d < 0 then n.tdiv d - 1 else n.tdiv d) = n / d := by
  have h := Int.mul_tdiv_add_tmod n d
  have h1 : n.tmod d < d := Int.tmod_lt_of_pos n hd
  have h2 : -d < n.tmod d := by
    have := Int.lt_tmod_of_pos n hd
    omega
  split
  · rename_i hn
    symm
    rw [Int.ediv_eq_iff_of_pos hd]
    constructor <;> (rw [Int.sub_mul, Int.mul_comm] ; omega)
  · symm
    rw [Int.ediv_eq_iff_of_pos hd]
    constructor <;> (rw [Int.mul_comm]; omega)
theorem div_bound {n d : Int} (hn : -9000000000000000000 ≤ n ∧ n ≤ 9000000000000000000) (hd : 0 < d) : -9000000000000000000 ≤ n / d ∧ n / d ≤ 9000000000000000000 := by
  constructor
  · refine Int.le_ediv_of_mul_le hd ?_
    have : (-9000000000000000000 : Int) * d ≤ -9000000000000000000 * 1 := Int.mul_le_mul_of_nonpos_left (by omega) (by omega)
    omega
  · refine Int.ediv_le_of_le_mul hd ?_
    have : (9000000000000000000 : Int) * 1 ≤ 9000000000000000000 * d := Int.mul_le_mul_of_nonneg_left (by omega) (by omega)
    omega
theorem tdiv_bound {n d : Int} (hn : -9000000000000000000 ≤ n ∧ n ≤ 9000000000000000000) (hd : 0 < d) : -9000000000000000001 ≤ n.tdiv d ∧ n.tdiv d ≤ 9000000000000000001 := by
  have h1 := tdiv_floor (n := n) hd
  have h2 := div_bound hn hd
  split at h1 <;> omega
/-- rounded up. -/
def cdiv (n d : Int) : Int := -((-n) / d)
def rnd (n d : Int) : SRange := ⟨n / d, cdiv n d⟩
theorem floor_any (k : Nat) {n d : Int} (hn : -9000000000000000000 ≤ n ∧ n ≤ 9000000000000000000) (hd : 0 < d) : nspeculumbase_Floor k n d = some (n / d) := by
  have hb := tdiv_bound hn hd
  unfold nspeculumbase_Floor
  rw [if_pos (by omega), ← tdiv_floor hd]
  simp only [w64_id (show -9223372036854775808 ≤ n.tdiv d by omega) (by omega), w64_id (show -9223372036854775808 ≤ n.tdiv d - 1 by omega) (by omega)]
  split <;> rfl
theorem ceil_any (k : Nat) {n d : Int} (hn : -9000000000000000000 ≤ n ∧ n ≤ 9000000000000000000) (hd : 0 < d) : nspeculumbase_Ceil k n d = some (cdiv n d) := by
  unfold nspeculumbase_Ceil cdiv
  have := div_bound (n := -n) (d := d) (by omega) hd
  rw [w64_id (by omega) (by omega), show 0 - n = -n by omega, floor_any k (by omega) hd, Option.bind_some, w64_id (by omega) (by omega)]
  congr 1; omega
theorem cdiv_tdiv {n d : Int} (hd : 0 < d) : (if 0 < n.tmod d then n.tdiv d + 1 else n.tdiv d) = cdiv n d := by
  unfold cdiv
  rw [← tdiv_floor hd, Int.neg_tmod, Int.neg_tdiv]
  by_cases c : 0 < n.tmod d
  · rw [if_pos c, if_pos (by omega)]; omega
  · rw [if_neg c, if_neg (by omega)]; omega
theorem enclose_any (k : Nat) {n d : Int} (hn : -9000000000000000000 ≤ n ∧ n ≤ 9000000000000000000) (hd : 0 < d) : nblank_enclose k n d = some (rnd n d) := by
  have hb := tdiv_bound hn hd
  unfold nblank_enclose rnd
  rw [if_pos (by omega), ← tdiv_floor hd, ← cdiv_tdiv hd]
  simp only [w64_id (show -9223372036854775808 ≤ n.tdiv d by omega) (by omega), w64_id (show -9223372036854775808 ≤ n.tdiv d - 1 by omega) (by omega), w64_id (show -9223372036854775808 ≤ n.tdiv d + 1 by omega) (by omega)]
  by_cases c1 : n.tmod d < 0 <;> by_cases c2 : 0 < n.tmod d <;> simp only [c1, c2, if_true, if_false]
theorem rounded_any (k : Nat) {n d : Int} (hn : -9000000000000000000 ≤ n ∧ n ≤ 9000000000000000000) (hd : 0 < d) : nspeculumref03_Rounded k n d = some (rnd n d) := by
  unfold nspeculumref03_Rounded rnd
  rw [floor_any k hn hd, Option.bind_some, ceil_any k hn hd]; rfl
theorem cdiv_le {n d c : Int} (hd : 0 < d) : cdiv n d ≤ c ↔ n ≤ c * d := by
  unfold cdiv
  have : -c ≤ (-n) / d ↔ -c * d ≤ -n := Int.le_ediv_iff_mul_le hd
  rw [Int.neg_mul] at this
  omega
theorem mem_getD {α : Type} [Inhabited α] {l : List α} {i : Nat} (h : i < l.length) : l.getD i default ∈ l := by
  rw [List.getD_eq_getElem?_getD, List.getElem?_eq_getElem h]; exact List.getElem_mem h
theorem mul_bd {x y A B : Int} (h1 : 0 ≤ x ∧ x ≤ A) (h2 : 0 ≤ y ∧ y ≤ B) : 0 ≤ x * y ∧ x * y ≤ A * B :=
  ⟨Int.mul_nonneg h1.1 h2.1, Int.mul_le_mul h1.2 h2.2 h2.1 (Int.le_trans h1.1 h1.2)⟩
def partE (p : SGlassPart) (t : Int) : Int := if (inR 1 1000 p.Outer && inR 0 (p.Outer - 1) p.Inner && inR 0 t p.From && inR 0 t p.To && inR 0 100 p.Count) = true then (if p.From < p.To then (if p.Count = 0 ∨ p.Inner = 0 then 0 else 3) else 9) else 2
def rimV (c : SGlassCap) : Int := match c.Up with | true => c.At + c.Height | false => c.At - c.Height
def capE (c : SGlassCap) (t : Int) : Int := if (inR 1 100000 c.Radius && inR 1 (minI c.Radius 500) c.Height && inR 0 t c.At && inR 0 t (rimV c)) = true then 0 else 2
/-- a number, or its opposite. -/
def sg (n : Int) (b : Bool) : Int := match b with | true => -n | false => n
def partV (p : SGlassPart) : Int := 3 * (p.Outer * p.Outer - p.Inner * p.Inner) * (p.To - p.From) * maxI p.Count 1
def capV (c : SGlassCap) : Int := 4 * c.Height * c.Height * (3 * c.Radius - c.Height)
def capD (c : SGlassCap) : Int := 2 * c.Height * c.Height * c.Height * (8 * c.Radius - 3 * c.Height)
def partS (p : SGlassPart) : Int := sg (partV p) p.Cut
def capS (c : SGlassCap) : Int := sg (capV c) c.Cut
def partM (p : SGlassPart) : Int := partS p * (p.From + p.To)
def capM (c : SGlassCap) : Int := 2 * capS c * c.At + sg (sg (capD c) c.Cut) (!c.Up)
def tsum {α : Type} (f : α → Int) : List α → Int
  | [] => 0
  | x :: l => f x + tsum f l
theorem tsum_bd {α : Type} {f : α → Int} {B : Int} (hB : 0 ≤ B) : ∀ {l : List α}, (∀ x ∈ l, -B ≤ f x ∧ f x ≤ B) → -(B * l.length) ≤ tsum f l ∧ tsum f l ≤ B * l.length
  | [], _ => by simp [tsum]
  | x :: l, h => by
    have h1 := h x (by simp)
    have h2 := tsum_bd hB (l := l) (fun y hy => h y (by simp [hy]))
    simp only [tsum, List.length_cons]
    have : B * ((l.length + 1 : Nat) : Int) = B * l.length + B := by rw [show ((l.length + 1 : Nat) : Int) = (l.length : Int) + 1 by omega, Int.mul_add]; omega
    rw [this]; omega
theorem tsum_app {α : Type} (f : α → Int) : ∀ (l r : List α), tsum f (l ++ r) = tsum f l + tsum f r
  | [], r => by simp [tsum]
  | x :: l, r => by simp only [List.cons_append, tsum, tsum_app f l r]; omega
def volV (g : SGlass) : Int := tsum partS g.Parts + tsum capS g.Caps
def momV (g : SGlass) : Int := tsum partM g.Parts + tsum capM g.Caps
structure PartOK (p : SGlassPart) (t : Int) : Prop where
  o : 1 ≤ p.Outer ∧ p.Outer ≤ 1000
  i : 0 ≤ p.Inner ∧ p.Inner ≤ p.Outer - 1
  f : 0 ≤ p.From ∧ p.From ≤ t
  t : 0 ≤ p.To ∧ p.To ≤ t
  c : 0 ≤ p.Count ∧ p.Count ≤ 100
  ft : p.From < p.To
  ci : p.Count = 0 ∨ p.Inner = 0
structure CapOK (c : SGlassCap) (t : Int) : Prop where
  r : 1 ≤ c.Radius ∧ c.Radius ≤ 100000
  h : 1 ≤ c.Height ∧ c.Height ≤ 500 ∧ c.Height ≤ c.Radius
  a : 0 ≤ c.At ∧ c.At ≤ t
  m : 0 ≤ rimV c ∧ rimV c ≤ t
theorem PartOK.of {p : SGlassPart} {t : Int} (h : partE p t = 0) : PartOK p t := by
  unfold partE at h
  split at h
  case isFalse => cases h
  rename_i h1
  split at h
  case isFalse => cases h
  split at h
  case isFalse => cases h
  simp only [Bool.and_eq_true, inR_t] at h1
  obtain ⟨⟨⟨⟨h1, h2⟩, h3⟩, h4⟩, h5⟩ := h1
  exact ⟨h1, h2, h3, h4, h5, ‹_›, ‹_›⟩
theorem minI_le (x y : Int) : minI x y ≤ x ∧ minI x y ≤ y := by unfold minI; split <;> omega
theorem CapOK.of {c : SGlassCap} {t : Int} (h : capE c t = 0) : CapOK c t := by
  unfold capE at h
  split at h
  case isFalse => cases h
  rename_i h1
  simp only [Bool.and_eq_true, inR_t] at h1
  obtain ⟨⟨⟨h1, h2⟩, h3⟩, h4⟩ := h1
  have := minI_le c.Radius 500
  exact ⟨h1, by omega, h3, h4⟩
theorem maxI_one {n : Int} (h : 0 ≤ n ∧ n ≤ 100) : 1 ≤ maxI n 1 ∧ maxI n 1 ≤ 100 := by unfold maxI; split <;> omega
structure PartB (p : SGlassPart) : Prop where
  b1 : 0 ≤ p.Outer * p.Outer ∧ p.Outer * p.Outer ≤ 1000 * 1000
  b2 : 0 ≤ p.Inner * p.Inner ∧ p.Inner * p.Inner ≤ 1000 * 1000
  b3 : 0 < p.Outer * p.Outer - p.Inner * p.Inner
  b4 : 0 ≤ 3 * (p.Outer * p.Outer - p.Inner * p.Inner) * (p.To - p.From) ∧ 3 * (p.Outer * p.Outer - p.Inner * p.Inner) * (p.To - p.From) ≤ 3000000 * 500
  b5 : 0 ≤ partV p ∧ partV p ≤ 3000000 * 500 * 100
  b6 : 0 < partV p
theorem PartOK.bd {p : SGlassPart} {t : Int} (h : PartOK p t) (ht : t ≤ 500) : PartB p := by
  have b1 := mul_bd (show 0 ≤ p.Outer ∧ p.Outer ≤ 1000 by have := h.o; omega) (show 0 ≤ p.Outer ∧ p.Outer ≤ 1000 by have := h.o; omega)
  have b2 := mul_bd (show 0 ≤ p.Inner ∧ p.Inner ≤ 1000 by have := h.o; have := h.i; omega) (show 0 ≤ p.Inner ∧ p.Inner ≤ 1000 by have := h.o; have := h.i; omega)
  have b3 : 0 < p.Outer * p.Outer - p.Inner * p.Inner := by
    have : p.Outer * p.Outer - p.Inner * p.Inner = (p.Outer - p.Inner) * (p.Outer + p.Inner) := by grind
    rw [this]; exact Int.mul_pos (by have := h.i; omega) (by have := h.i; have := h.o; omega)
  have b4 := mul_bd (show 0 ≤ 3 * (p.Outer * p.Outer - p.Inner * p.Inner) ∧ 3 * (p.Outer * p.Outer - p.Inner * p.Inner) ≤ 3000000 by omega) (show 0 ≤ p.To - p.From ∧ p.To - p.From ≤ 500 by have := h.f; have := h.t; have := h.ft; omega)
  have hm := maxI_one h.c
  have b5 := mul_bd b4 (show 0 ≤ maxI p.Count 1 ∧ maxI p.Count 1 ≤ 100 by omega)
  refine ⟨b1, b2, b3, b4, b5, ?_⟩
  exact Int.mul_pos (Int.mul_pos (by omega) (by have := h.ft; omega)) (by omega)
structure CapB (c : SGlassCap) : Prop where
  b1 : 0 ≤ 4 * c.Height * c.Height ∧ 4 * c.Height * c.Height ≤ 2000 * 500
  b2 : 0 ≤ capV c ∧ capV c ≤ 2000 * 500 * 300000
  b3 : 0 ≤ 2 * c.Height * c.Height ∧ 2 * c.Height * c.Height ≤ 1000 * 500
  b4 : 0 ≤ 2 * c.Height * c.Height * c.Height ∧ 2 * c.Height * c.Height * c.Height ≤ 1000 * 500 * 500
  b5 : 0 ≤ capD c ∧ capD c ≤ 1000 * 500 * 500 * 800000
theorem CapOK.bd {c : SGlassCap} {t : Int} (h : CapOK c t) : CapB c := by
  have hh := h.h
  have hr := h.r
  have b1 := mul_bd (show 0 ≤ 4 * c.Height ∧ 4 * c.Height ≤ 2000 by omega) (show 0 ≤ c.Height ∧ c.Height ≤ 500 by omega)
  have b2 := mul_bd b1 (show 0 ≤ 3 * c.Radius - c.Height ∧ 3 * c.Radius - c.Height ≤ 300000 by omega)
  have b3 := mul_bd (show 0 ≤ 2 * c.Height ∧ 2 * c.Height ≤ 1000 by omega) (show 0 ≤ c.Height ∧ c.Height ≤ 500 by omega)
  have b4 := mul_bd b3 (show 0 ≤ c.Height ∧ c.Height ≤ 500 by omega)
  have b5 := mul_bd b4 (show 0 ≤ 8 * c.Radius - 3 * c.Height ∧ 8 * c.Radius - 3 * c.Height ≤ 800000 by omega)
  exact ⟨b1, b2, b3, b4, b5⟩
theorem sg_bd {n B : Int} (h : 0 ≤ n ∧ n ≤ B) (b : Bool) : -B ≤ sg n b ∧ sg n b ≤ B := by cases b <;> simp only [sg] <;> omega
theorem signed_b (k : Nat) {n : Int} (h : -9000000000000000000 ≤ n ∧ n ≤ 9000000000000000000) (b : Bool) : nblank_signed k n b = some (sg n b) := by
  unfold nblank_signed sg
  cases b
  · rfl
  · rw [if_pos rfl, w64_id (by omega) (by omega)]
    show some (0 - n) = some (-n)
    congr 1; omega
theorem signed_r (k : Nat) {n : Int} (h : -9000000000000000000 ≤ n ∧ n ≤ 9000000000000000000) (b : Bool) : nspeculumref03_signed k n b = some (sg n b) := signed_b k h b
theorem partV_w {p : SGlassPart} {t : Int} (h : PartOK p t) (ht : t ≤ 500) : w64 ((w64 ((w64 (3 * (w64 ((w64 (p.Outer * p.Outer)) - (w64 (p.Inner * p.Inner)))))) * (w64 (p.To - p.From)))) * (maxI p.Count 1)) = partV p := by
  obtain ⟨b1, b2, b3, b4, b5, _⟩ := h.bd ht
  have hf := h.f
  have ht := h.t
  unfold partV at b5 ⊢
  rw [w64_id (n := p.Outer * p.Outer) (by omega) (by omega), w64_id (n := p.Inner * p.Inner) (by omega) (by omega), w64_id (n := p.Outer * p.Outer - p.Inner * p.Inner) (by omega) (by omega), w64_id (n := 3 * (p.Outer * p.Outer - p.Inner * p.Inner)) (by omega) (by omega), w64_id (n := p.To - p.From) (by omega) (by omega), w64_id (n := 3 * (p.Outer * p.Outer - p.Inner * p.Inner) * (p.To - p.From)) (by omega) (by omega), w64_id (by omega) (by omega)]
theorem part_b (k : Nat) {p : SGlassPart} {t : Int} (h : PartOK p t) (ht : t ≤ 500) : nblank_partVolume k p = some (partS p) := by
  have b5 := (h.bd ht).b5
  unfold nblank_partVolume
  rw [partV_w h ht, signed_b k (by omega)]; rfl
theorem part_r (k : Nat) {p : SGlassPart} {t : Int} (h : PartOK p t) (ht : t ≤ 500) : nspeculumref03_partVolume k p = some (partV p) := by
  unfold nspeculumref03_partVolume
  rw [partV_w h ht]
theorem capV_w {c : SGlassCap} {t : Int} (h : CapOK c t) : w64 ((w64 ((w64 (4 * c.Height)) * c.Height)) * (w64 ((w64 (3 * c.Radius)) - c.Height))) = capV c := by
  obtain ⟨b1, b2, _, _, _⟩ := h.bd
  have hh := h.h
  have hr := h.r
  unfold capV at b2 ⊢
  rw [w64_id (n := 4 * c.Height) (by omega) (by omega), w64_id (n := 4 * c.Height * c.Height) (by omega) (by omega), w64_id (n := 3 * c.Radius) (by omega) (by omega), w64_id (n := 3 * c.Radius - c.Height) (by omega) (by omega), w64_id (by omega) (by omega)]
theorem capD_w {c : SGlassCap} {t : Int} (h : CapOK c t) : w64 ((w64 ((w64 ((w64 (2 * c.Height)) * c.Height)) * c.Height)) * (w64 ((w64 (8 * c.Radius)) - (w64 (3 * c.Height))))) = capD c := by
  obtain ⟨_, _, b3, b4, b5⟩ := h.bd
  have hh := h.h
  have hr := h.r
  unfold capD at b5 ⊢
  rw [w64_id (n := 2 * c.Height) (by omega) (by omega), w64_id (n := 2 * c.Height * c.Height) (by omega) (by omega), w64_id (n := 2 * c.Height * c.Height * c.Height) (by omega) (by omega), w64_id (n := 8 * c.Radius) (by omega) (by omega), w64_id (n := 3 * c.Height) (by omega) (by omega), w64_id (n := 8 * c.Radius - 3 * c.Height) (by omega) (by omega), w64_id (by omega) (by omega)]
theorem cap_b (k : Nat) {c : SGlassCap} {t : Int} (h : CapOK c t) : nblank_capVolume k c = some (capS c) := by
  have b5 := h.bd.b2
  unfold nblank_capVolume
  rw [capV_w h, signed_b k (by omega)]; rfl
theorem cap_r (k : Nat) {c : SGlassCap} {t : Int} (h : CapOK c t) : nspeculumref03_capVolume k c = some (capV c) := by
  unfold nspeculumref03_capVolume
  rw [capV_w h]
/-- a blank that is as it should be, but for its volume. -/
structure GlO (g : SGlass) : Prop where
  de : 1 ≤ g.Density ∧ g.Density ≤ 10000
  th : 1 ≤ g.Thick ∧ g.Thick ≤ 500
  np : g.Parts.length ≤ 40
  nc : g.Caps.length ≤ 4
  pa : ∀ p ∈ g.Parts, PartOK p g.Thick
  ca : ∀ c ∈ g.Caps, CapOK c g.Thick
theorem GlO.partS {g : SGlass} (h : GlO g) : ∀ p ∈ g.Parts, -150000000000 ≤ partS p ∧ partS p ≤ 150000000000 := fun p hp => by
  have := ((h.pa p hp).bd h.th.2).b5
  have := sg_bd this p.Cut
  exact ⟨by unfold Vg.partS; omega, by unfold Vg.partS; omega⟩
theorem GlO.capS {g : SGlass} (h : GlO g) : ∀ c ∈ g.Caps, -300000000000 ≤ capS c ∧ capS c ≤ 300000000000 := fun c hc => by
  have := (h.ca c hc).bd.b2
  have := sg_bd this c.Cut
  exact ⟨by unfold Vg.capS; omega, by unfold Vg.capS; omega⟩
theorem mul_sb {x y A B : Int} (h1 : -A ≤ x ∧ x ≤ A) (h2 : 0 ≤ y ∧ y ≤ B) (hA : 0 ≤ A) : -(A * B) ≤ x * y ∧ x * y ≤ A * B := by
  have := Int.mul_le_mul_of_nonneg_right h1.2 h2.1
  have := Int.mul_le_mul_of_nonneg_right h1.1 h2.1
  have := Int.mul_le_mul_of_nonneg_left h2.2 hA
  rw [Int.neg_mul] at *
  omega
theorem GlO.partM {g : SGlass} (h : GlO g) : ∀ p ∈ g.Parts, -150000000000000 ≤ partM p ∧ partM p ≤ 150000000000000 := fun p hp => by
  have hp' := h.pa p hp
  have h1 := hp'.f
  have h2 := hp'.t
  have h3 := h.th
  have := mul_sb (h.partS p hp) (show 0 ≤ p.From + p.To ∧ p.From + p.To ≤ 1000 by omega) (by omega)
  unfold Vg.partM; omega
theorem GlO.capM {g : SGlass} (h : GlO g) : ∀ c ∈ g.Caps, -500000000000000 ≤ capM c ∧ capM c ≤ 500000000000000 := fun c hc => by
  have hc' := h.ca c hc
  have h1 := hc'.a
  have h3 := h.th
  have b5 := hc'.bd.b5
  have hs := h.capS c hc
  have := mul_sb (x := 2 * Vg.capS c) (A := 600000000000) (by omega) (show 0 ≤ c.At ∧ c.At ≤ 500 by omega) (by omega)
  have h5 : -200000000000000 ≤ sg (sg (capD c) c.Cut) (!c.Up) ∧ sg (sg (capD c) c.Cut) (!c.Up) ≤ 200000000000000 := by
    cases c.Cut <;> cases c.Up <;> simp only [sg, Bool.not_true, Bool.not_false] <;> omega
  unfold Vg.capM; omega
theorem tsum_b40 {α : Type} {f : α → Int} {B : Int} (hB : 0 ≤ B) {l : List α} {n : Nat} (hn : l.length ≤ n) (h : ∀ x ∈ l, -B ≤ f x ∧ f x ≤ B) : -(B * n) ≤ tsum f l ∧ tsum f l ≤ B * n := by
  have := tsum_bd hB h
  have h2 : B * (l.length : Int) ≤ B * n := Int.mul_le_mul_of_nonneg_left (by omega) hB
  omega
theorem take_succ_sum {α : Type} [Inhabited α] (f : α → Int) {l : List α} {i : Nat} (h : i < l.length) : tsum f (l.take i) + f (l.getD i default) = tsum f (l.take (i + 1)) := by
  rw [List.take_succ_eq_append_getElem h, tsum_app, List.getD_eq_getElem?_getD, List.getElem?_eq_getElem h]; simp [tsum]
theorem take_sub {α : Type} {l : List α} {p : α → Prop} (h : ∀ x ∈ l, p x) (i : Nat) : ∀ x ∈ l.take i, p x := fun x hx => h x (List.mem_of_mem_take hx)
section
variable {g : SGlass}
theorem GlO.vb (h : GlO g) (i j : Nat) : -10000000000000 ≤ tsum Vg.partS (g.Parts.take i) + tsum Vg.capS (g.Caps.take j) ∧ tsum Vg.partS (g.Parts.take i) + tsum Vg.capS (g.Caps.take j) ≤ 10000000000000 := by
  have h1 := tsum_b40 (n := 40) (by omega) (l := g.Parts.take i) (by have := h.np; simp; omega) (take_sub h.partS i)
  have h2 := tsum_b40 (n := 4) (by omega) (l := g.Caps.take j) (by have := h.nc; simp; omega) (take_sub h.capS j)
  omega
theorem GlO.mb (h : GlO g) (i j : Nat) : -8000000000000000 ≤ tsum Vg.partM (g.Parts.take i) + tsum Vg.capM (g.Caps.take j) ∧ tsum Vg.partM (g.Parts.take i) + tsum Vg.capM (g.Caps.take j) ≤ 8000000000000000 := by
  have h1 := tsum_b40 (n := 40) (by omega) (l := g.Parts.take i) (by have := h.np; simp; omega) (take_sub h.partM i)
  have h2 := tsum_b40 (n := 4) (by omega) (l := g.Caps.take j) (by have := h.nc; simp; omega) (take_sub h.capM j)
  omega
theorem vol_l0 (k : Nat) (h : GlO g) : ∀ (d fuel i : Nat), g.Parts.length = i + d → d < fuel → nblank_volumeOf_l0_0 k g fuel (i : Int) (tsum Vg.partS (g.Parts.take i)) = some (tsum Vg.partS g.Parts) := by
  have hn := h.np
  intro d
  induction d with
  | zero =>
    intro fuel i he hf
    obtain ⟨f, rfl⟩ : ∃ f, fuel = f + 1 := ⟨fuel - 1, by omega⟩
    rw [nblank_volumeOf_l0_0.eq_2, if_neg (by omega), List.take_of_length_le (by omega)]
  | succ d ih =>
    intro fuel i he hf
    obtain ⟨f, rfl⟩ : ∃ f, fuel = f + 1 := ⟨fuel - 1, by omega⟩
    have hb := h.vb (i + 1) 0
    simp only [List.take_zero, tsum] at hb
    rw [nblank_volumeOf_l0_0.eq_2, if_pos (by omega), if_pos (by omega), Int.toNat_natCast, part_b k (h.pa _ (mem_getD (by omega))) h.th.2, Option.bind_some, w64_succ (by omega), take_succ_sum Vg.partS (by omega), w64_id (by omega) (by omega)]
    exact ih f (i + 1) (by omega) (by omega)
theorem vol_l1 (k : Nat) (h : GlO g) : ∀ (d fuel i : Nat), g.Caps.length = i + d → d < fuel → nblank_volumeOf_l1_0 k g fuel (i : Int) (tsum Vg.partS g.Parts + tsum Vg.capS (g.Caps.take i)) = some (volV g) := by
  have hn := h.nc
  intro d
  induction d with
  | zero =>
    intro fuel i he hf
    obtain ⟨f, rfl⟩ : ∃ f, fuel = f + 1 := ⟨fuel - 1, by omega⟩
    rw [nblank_volumeOf_l1_0.eq_2, if_neg (by omega), List.take_of_length_le (by omega)]; rfl
  | succ d ih =>
    intro fuel i he hf
    obtain ⟨f, rfl⟩ : ∃ f, fuel = f + 1 := ⟨fuel - 1, by omega⟩
    have hb := h.vb g.Parts.length (i + 1)
    rw [List.take_of_length_le (Nat.le_refl g.Parts.length)] at hb
    rw [nblank_volumeOf_l1_0.eq_2, if_pos (by omega), if_pos (by omega), Int.toNat_natCast, cap_b k (h.ca _ (mem_getD (by omega))), Option.bind_some, w64_succ (by omega), Int.add_assoc, take_succ_sum Vg.capS (by omega), w64_id (by omega) (by omega)]
    exact ih f (i + 1) (by omega) (by omega)
theorem vol_b {k : Nat} (hk : 1000 < k) (h : GlO g) : nblank_volumeOf k g = some (volV g) := by
  have hn := h.np
  have hc := h.nc
  unfold nblank_volumeOf
  have e1 := vol_l0 k h g.Parts.length k 0 (by omega) (by omega)
  have e2 := vol_l1 k h g.Caps.length k 0 (by omega) (by omega)
  simp only [List.take_zero, tsum, Int.add_zero] at e1 e2
  rw [show nblank_volumeOf_l0_0 k g k 0 0 = _ from e1, Option.bind_some, show nblank_volumeOf_l1_0 k g k 0 _ = _ from e2]; rfl
theorem volR_l0 (k : Nat) (h : GlO g) : ∀ (d fuel i : Nat), g.Parts.length = i + d → d < fuel → nspeculumref03_Volume_l0_0 k g fuel (tsum Vg.partS (g.Parts.take i)) (i : Int) = some (tsum Vg.partS g.Parts) := by
  have hn := h.np
  intro d
  induction d with
  | zero =>
    intro fuel i he hf
    obtain ⟨f, rfl⟩ : ∃ f, fuel = f + 1 := ⟨fuel - 1, by omega⟩
    rw [nspeculumref03_Volume_l0_0.eq_2, if_neg (by omega), List.take_of_length_le (by omega)]
  | succ d ih =>
    intro fuel i he hf
    obtain ⟨f, rfl⟩ : ∃ f, fuel = f + 1 := ⟨fuel - 1, by omega⟩
    have hb := h.vb (i + 1) 0
    simp only [List.take_zero, tsum] at hb
    have hp := h.pa _ (mem_getD (l := g.Parts) (i := i) (by omega))
    have b5 := (hp.bd h.th.2).b5
    rw [nspeculumref03_Volume_l0_0.eq_2, if_pos (by omega), if_pos (by omega), Int.toNat_natCast, part_r k hp h.th.2, Option.bind_some, signed_r k (by omega), Option.bind_some, w64_succ (by omega)]
    have := take_succ_sum Vg.partS (l := g.Parts) (i := i) (by omega)
    unfold Vg.partS at this ⊢
    rw [this, w64_id (by unfold Vg.partS at hb; omega) (by unfold Vg.partS at hb; omega)]
    exact ih f (i + 1) (by omega) (by omega)
theorem volR_l1 (k : Nat) (h : GlO g) : ∀ (d fuel i : Nat), g.Caps.length = i + d → d < fuel → nspeculumref03_Volume_l1_0 k g fuel (tsum Vg.partS g.Parts + tsum Vg.capS (g.Caps.take i)) (i : Int) = some (volV g) := by
  have hn := h.nc
  intro d
  induction d with
  | zero =>
    intro fuel i he hf
    obtain ⟨f, rfl⟩ : ∃ f, fuel = f + 1 := ⟨fuel - 1, by omega⟩
    rw [nspeculumref03_Volume_l1_0.eq_2, if_neg (by omega), List.take_of_length_le (by omega)]; rfl
  | succ d ih =>
    intro fuel i he hf
    obtain ⟨f, rfl⟩ : ∃ f, fuel = f + 1 := ⟨fuel - 1, by omega⟩
    have hb := h.vb g.Parts.length (i + 1)
    rw [List.take_of_length_le (Nat.le_refl g.Parts.length)] at hb
    have hp := h.ca _ (mem_getD (l := g.Caps) (i := i) (by omega))
    have b5 := hp.bd.b2
    rw [nspeculumref03_Volume_l1_0.eq_2, if_pos (by omega), if_pos (by omega), Int.toNat_natCast, cap_r k hp, Option.bind_some, signed_r k (by omega), Option.bind_some, w64_succ (by omega), Int.add_assoc, show sg (capV (g.Caps.getD i default)) (g.Caps.getD i default).Cut = Vg.capS (g.Caps.getD i default) from rfl, take_succ_sum Vg.capS (by omega), w64_id (by omega) (by omega)]
    exact ih f (i + 1) (by omega) (by omega)
theorem vol_r {k : Nat} (hk : 1000 < k) (h : GlO g) : nspeculumref03_Volume k g = some (volV g) := by
  have hn := h.np
  have hc := h.nc
  unfold nspeculumref03_Volume
  have e1 := volR_l0 k h g.Parts.length k 0 (by omega) (by omega)
  have e2 := volR_l1 k h g.Caps.length k 0 (by omega) (by omega)
  simp only [List.take_zero, tsum, Int.add_zero] at e1 e2
  rw [show nspeculumref03_Volume_l0_0 k g k 0 0 = _ from e1, Option.bind_some, show nspeculumref03_Volume_l1_0 k g k _ 0 = _ from e2]; rfl
end
theorem checkPart_b (k : Nat) (p : SGlassPart) (t : Int) : nblank_checkPart k p t = some (partE p t) := by
  unfold nblank_checkPart
  simp only [within_b, Option.bind_some, nblank_need]
  unfold nblank_firstOf_c0_142 partE
  simp only [need1, Option.bind_some]
  cases ho : inR 1 1000 p.Outer with
  | false => by_cases hc : p.Count = 0 <;> simp [hc]
  | true =>
    have hr := inR_t.1 ho
    simp only [w64_id (show -9223372036854775808 ≤ p.Outer - 1 by omega) (by omega)]
    generalize inR 0 (p.Outer - 1) p.Inner = b2
    generalize inR 0 t p.From = b3
    generalize inR 0 t p.To = b4
    generalize inR 0 100 p.Count = b5
    cases b2 <;> cases b3 <;> cases b4 <;> cases b5 <;> by_cases hf : p.From < p.To <;> by_cases hc : p.Count = 0 <;> by_cases hi : p.Inner = 0 <;> simp [hf, hc, hi]
theorem checkPart_r (k : Nat) (p : SGlassPart) (t : Int) : nspeculumref03_checkPart k p t = some (partE p t) := by
  unfold nspeculumref03_checkPart
  simp only [within_base, Option.bind_some]
  unfold partE
  cases ho : inR 1 1000 p.Outer with
  | false => simp
  | true =>
    have hr := inR_t.1 ho
    simp only [w64_id (show -9223372036854775808 ≤ p.Outer - 1 by omega) (by omega)]
    generalize inR 0 (p.Outer - 1) p.Inner = b2
    generalize inR 0 t p.From = b3
    generalize inR 0 t p.To = b4
    generalize inR 0 100 p.Count = b5
    by_cases hf : p.From < p.To
    · have hf2 : ¬ p.To ≤ p.From := by omega
      cases b2 <;> cases b3 <;> cases b4 <;> cases b5 <;> by_cases hc : p.Count = 0 <;> by_cases hi : p.Inner = 0 <;> simp [hf, hf2, hc, hi]
    · have hf2 : p.To ≤ p.From := by omega
      cases b2 <;> cases b3 <;> cases b4 <;> cases b5 <;> by_cases hc : p.Count = 0 <;> by_cases hi : p.Inner = 0 <;> simp [hf, hf2, hc, hi]
theorem rim_w {c : SGlassCap} {t : Int} (ht : t ≤ 500) (h1 : inR 1 (minI c.Radius 500) c.Height = true) (h2 : inR 0 t c.At = true) : w64 (c.At + c.Height) = c.At + c.Height ∧ w64 (c.At - c.Height) = c.At - c.Height := by
  have h1 := inR_t.1 h1
  have h2 := inR_t.1 h2
  have := minI_le c.Radius 500
  exact ⟨w64_id (by omega) (by omega), w64_id (by omega) (by omega)⟩
theorem checkCap_b (k : Nat) (c : SGlassCap) (t : Int) (ht : t ≤ 500) : nblank_checkCap k c t = some (capE c t) := by
  have hrim : nblank_rim k c = some (match c.Up with | true => w64 (c.At + c.Height) | false => w64 (c.At - c.Height)) := by
    unfold nblank_rim
    cases c.Up <;> rfl
  unfold nblank_checkCap
  simp only [within_b, Option.bind_some, hrim]
  unfold nblank_firstOf_c0_143 capE
  simp only [need1, Option.bind_some]
  cases inR 1 100000 c.Radius with
  | false => simp
  | true =>
  cases h1 : inR 1 (minI c.Radius 500) c.Height with
  | false => simp
  | true =>
  cases h2 : inR 0 t c.At with
  | false => simp
  | true =>
    obtain ⟨e1, e2⟩ := rim_w ht h1 h2
    unfold rimV
    rw [e1, e2]
    cases c.Up
    · cases inR 0 t (c.At - c.Height) <;> simp
    · cases inR 0 t (c.At + c.Height) <;> simp
theorem checkCap_r (k : Nat) (c : SGlassCap) (t : Int) (ht : t ≤ 500) : nspeculumref03_checkCap k c t = some (capE c t) := by
  unfold nspeculumref03_checkCap
  simp only [within_base, Option.bind_some]
  unfold capE
  cases inR 1 100000 c.Radius with
  | false => simp
  | true =>
  cases h1 : inR 1 (minI c.Radius 500) c.Height with
  | false => simp
  | true =>
  cases h2 : inR 0 t c.At with
  | false => simp
  | true =>
    obtain ⟨e1, e2⟩ := rim_w ht h1 h2
    unfold rimV
    rw [e1, e2]
    cases c.Up
    · cases inR 0 t (c.At - c.Height) <;> simp
    · cases inR 0 t (c.At + c.Height) <;> simp
theorem glass1_b (k : Nat) (p : SGlassPart) (g : SGlass) : nblank_CheckGlass_1 k p g.Density g.Thick g.Parts g.Caps = some (partE p g.Thick) := by
  unfold nblank_CheckGlass_1
  rw [checkPart_b]; rfl
theorem glass2_b (k : Nat) (c : SGlassCap) (g : SGlass) (ht : g.Thick ≤ 500) : nblank_CheckGlass_2 k c g.Density g.Thick g.Parts g.Caps = some (capE c g.Thick) := by
  unfold nblank_CheckGlass_2
  rw [checkCap_b k c _ ht]; rfl
theorem parts_l (k : Nat) (g : SGlass) (ht : g.Thick ≤ 500) (hl : g.Parts.length < 1000000000) : ∀ (d fuel i : Nat), g.Parts.length = i + d → d < fuel →
    nblank_each_api_GlassPart_1_k22_136_l0_0 k g.Parts (g.Density, g.Thick, g.Parts, g.Caps) fuel (i : Int) = some (sumE (firstE (fun p => partE p g.Thick) (g.Parts.drop i))) := by
  intro d
  induction d with
  | zero =>
    intro fuel i h hf
    obtain ⟨f, rfl⟩ : ∃ f, fuel = f + 1 := ⟨fuel - 1, by omega⟩
    rw [nblank_each_api_GlassPart_1_k22_136_l0_0.eq_2, if_neg (by omega), List.drop_of_length_le (by omega)]; rfl
  | succ d ih =>
    intro fuel i h hf
    obtain ⟨f, rfl⟩ : ∃ f, fuel = f + 1 := ⟨fuel - 1, by omega⟩
    rw [nblank_each_api_GlassPart_1_k22_136_l0_0.eq_2, if_pos (by omega), if_pos (by omega), glass1_b, Option.bind_some, w64_succ (by omega), drop_get (show i < g.Parts.length by omega) default, Int.toNat_natCast]
    unfold firstE
    by_cases c : partE (g.Parts.getD i default) g.Thick = 0
    · rw [if_pos c, if_pos c]; exact ih f (i + 1) (by omega) (by omega)
    · rw [if_neg c, if_neg c, sumE_n c]
theorem caps_l (k : Nat) (g : SGlass) (ht : g.Thick ≤ 500) (hl : g.Caps.length < 1000000000) : ∀ (d fuel i : Nat), g.Caps.length = i + d → d < fuel →
    nblank_each_api_GlassCap_1_k23_138_l0_0 k g.Caps (g.Density, g.Thick, g.Parts, g.Caps) fuel (i : Int) = some (sumE (firstE (fun p => capE p g.Thick) (g.Caps.drop i))) := by
  intro d
  induction d with
  | zero =>
    intro fuel i h hf
    obtain ⟨f, rfl⟩ : ∃ f, fuel = f + 1 := ⟨fuel - 1, by omega⟩
    rw [nblank_each_api_GlassCap_1_k23_138_l0_0.eq_2, if_neg (by omega), List.drop_of_length_le (by omega)]; rfl
  | succ d ih =>
    intro fuel i h hf
    obtain ⟨f, rfl⟩ : ∃ f, fuel = f + 1 := ⟨fuel - 1, by omega⟩
    rw [nblank_each_api_GlassCap_1_k23_138_l0_0.eq_2, if_pos (by omega), if_pos (by omega), glass2_b k _ g ht, Option.bind_some, w64_succ (by omega), drop_get (show i < g.Caps.length by omega) default, Int.toNat_natCast]
    unfold firstE
    by_cases c : capE (g.Caps.getD i default) g.Thick = 0
    · rw [if_pos c, if_pos c]; exact ih f (i + 1) (by omega) (by omega)
    · rw [if_neg c, if_neg c, sumE_n c]
theorem partsR_l (k : Nat) (g : SGlass) (ht : g.Thick ≤ 500) (hl : g.Parts.length < 1000000000) : ∀ (d fuel i : Nat), g.Parts.length = i + d → d < fuel →
    nspeculumref03_CheckGlass_l0_0 k g fuel (i : Int) = some (sumE (firstE (fun p => partE p g.Thick) (g.Parts.drop i))) := by
  intro d
  induction d with
  | zero =>
    intro fuel i h hf
    obtain ⟨f, rfl⟩ : ∃ f, fuel = f + 1 := ⟨fuel - 1, by omega⟩
    rw [nspeculumref03_CheckGlass_l0_0.eq_2, if_neg (by omega), List.drop_of_length_le (by omega)]; rfl
  | succ d ih =>
    intro fuel i h hf
    obtain ⟨f, rfl⟩ : ∃ f, fuel = f + 1 := ⟨fuel - 1, by omega⟩
    rw [nspeculumref03_CheckGlass_l0_0.eq_2, if_pos (by omega), if_pos (by omega), checkPart_r, Option.bind_some, w64_succ (by omega), drop_get (show i < g.Parts.length by omega) default, Int.toNat_natCast]
    unfold firstE
    by_cases c : partE (g.Parts.getD i default) g.Thick = 0
    · rw [if_pos c, if_pos c]; exact ih f (i + 1) (by omega) (by omega)
    · rw [if_neg c, if_neg c, sumE_n c]
theorem capsR_l (k : Nat) (g : SGlass) (ht : g.Thick ≤ 500) (hl : g.Caps.length < 1000000000) : ∀ (d fuel i : Nat), g.Caps.length = i + d → d < fuel →
    nspeculumref03_CheckGlass_l1_0 k g fuel (i : Int) = some (sumE (firstE (fun p => capE p g.Thick) (g.Caps.drop i))) := by
  intro d
  induction d with
  | zero =>
    intro fuel i h hf
    obtain ⟨f, rfl⟩ : ∃ f, fuel = f + 1 := ⟨fuel - 1, by omega⟩
    rw [nspeculumref03_CheckGlass_l1_0.eq_2, if_neg (by omega), List.drop_of_length_le (by omega)]; rfl
  | succ d ih =>
    intro fuel i h hf
    obtain ⟨f, rfl⟩ : ∃ f, fuel = f + 1 := ⟨fuel - 1, by omega⟩
    rw [nspeculumref03_CheckGlass_l1_0.eq_2, if_pos (by omega), if_pos (by omega), checkCap_r k _ _ ht, Option.bind_some, w64_succ (by omega), drop_get (show i < g.Caps.length by omega) default, Int.toNat_natCast]
    unfold firstE
    by_cases c : capE (g.Caps.getD i default) g.Thick = 0
    · rw [if_pos c, if_pos c]; exact ih f (i + 1) (by omega) (by omega)
    · rw [if_neg c, if_neg c, sumE_n c]
def glE0 (g : SGlass) : Int := if (inR 1 10000 g.Density && inR 1 500 g.Thick) = true then (if (g.Parts.length : Int) ≤ 40 then (if firstE (fun p => partE p g.Thick) g.Parts = 0 then (if (g.Caps.length : Int) ≤ 4 then firstE (fun c => capE c g.Thick) g.Caps else 8) else firstE (fun p => partE p g.Thick) g.Parts) else 8) else 2
def glE (g : SGlass) : Int := if glE0 g = 0 then (if 0 < volV g then 0 else 11) else glE0 g
theorem GlO.of {g : SGlass} (h : glE0 g = 0) : GlO g := by
  unfold glE0 at h
  split at h
  case isFalse => cases h
  rename_i h1
  split at h
  case isFalse => cases h
  split at h
  case isFalse => rename_i h3; exact absurd h h3
  rename_i h3
  split at h
  case isFalse => cases h
  simp only [Bool.and_eq_true, inR_t] at h1
  exact ⟨h1.1, h1.2, by omega, by omega, fun p hp => .of (firstE_zero h3 p hp), fun c hc => .of (firstE_zero h c hc)⟩
structure Lk (g : SGlass) (k : Nat) : Prop where
  l1 : g.Parts.length < 1000
  l2 : g.Caps.length < 1000
  hk : 1000 < k
theorem each_sum {e : Int} : ((some (sumE e)).bind fun r => (match r with | .inl r => some r | .inr _ => some 0 : Option Int)) = some e := by
  by_cases c : e = 0
  · rw [c]; rfl
  · rw [sumE_n c]; rfl
theorem Lk.b {g : SGlass} {k : Nat} (h : Lk g k) : nblank_CheckGlass k g = some (glE g) := by
  obtain ⟨h1, h2, hk⟩ := h
  have e1 : g.Thick ≤ 500 → nblank_each_api_GlassPart_1_k22_136 k g.Parts (g.Density, g.Thick, g.Parts, g.Caps) = some (firstE (fun p => partE p g.Thick) g.Parts) := fun ht => by
    unfold nblank_each_api_GlassPart_1_k22_136
    have := parts_l k g ht (by omega) g.Parts.length k 0 (by omega) (by omega)
    rw [show ((0 : Nat) : Int) = 0 from rfl, List.drop_zero] at this
    rw [this]; exact each_sum
  have e2 : g.Thick ≤ 500 → nblank_each_api_GlassCap_1_k23_138 k g.Caps (g.Density, g.Thick, g.Parts, g.Caps) = some (firstE (fun c => capE c g.Thick) g.Caps) := fun ht => by
    unfold nblank_each_api_GlassCap_1_k23_138
    have := caps_l k g ht (by omega) g.Caps.length k 0 (by omega) (by omega)
    rw [show ((0 : Nat) : Int) = 0 from rfl, List.drop_zero] at this
    rw [this]; exact each_sum
  have e3 : GlO g → nblank_CheckGlass_3 k g.Density g.Thick g.Parts g.Caps = some (if 0 < volV g then 0 else 11) := fun hg => by
    unfold nblank_CheckGlass_3
    rw [show (⟨g.Density, g.Thick, g.Parts, g.Caps⟩ : SGlass) = g from rfl, vol_b hk hg]
    simp only [Option.bind_some, nblank_need, need1]
    by_cases c : 0 < volV g <;> simp [c]
  unfold nblank_CheckGlass
  simp only [within_b, Option.bind_some, nblank_need, nblank_each_api_GlassPart__c1_136, nblank_each_api_GlassCap__c1_138]
  unfold nblank_firstOf_c0_141
  simp only [need1, Option.bind_some]
  cases d1 : inR 1 10000 g.Density with
  | false => unfold glE glE0; rw [d1]; simp
  | true =>
  cases d2 : inR 1 500 g.Thick with
  | false => unfold glE glE0; rw [d1, d2]; simp
  | true =>
  have ht := (inR_t.1 d2).2
  simp only [e1 ht, e2 ht, Option.bind_some, if_true]
  by_cases c0 : glE0 g = 0
  · rw [e3 (.of c0)]
    unfold glE
    rw [if_pos c0]
    have hc0 := c0
    unfold glE0 at hc0
    rw [d1, d2] at hc0
    simp only [Bool.and_self, if_true] at hc0
    split at hc0
    case isFalse => cases hc0
    rename_i c1
    split at hc0
    case isFalse => rename_i c2; exact absurd hc0 c2
    rename_i c2
    split at hc0
    case isFalse => cases hc0
    rename_i c3
    simp only [c1, c2, c3, hc0, decide_true, if_true, Option.bind_some]
    by_cases c4 : 0 < volV g <;> simp [c4]
  · unfold glE
    rw [if_neg c0]
    unfold glE0 at c0 ⊢
    rw [d1, d2] at c0 ⊢
    simp only [Bool.and_self, if_true] at c0 ⊢
    by_cases c1 : (g.Parts.length : Int) ≤ 40
    · simp only [c1, if_true, decide_true] at c0 ⊢
      by_cases c2 : firstE (fun p => partE p g.Thick) g.Parts = 0
      · simp only [c2, if_true] at c0 ⊢
        by_cases c3 : (g.Caps.length : Int) ≤ 4
        · simp only [c3, if_true, decide_true] at c0 ⊢
          rw [if_neg c0]; rfl
        · simp [c3]
      · simp [c2]
    · simp [c1]
theorem Lk.r {g : SGlass} {k : Nat} (h : Lk g k) : nspeculumref03_CheckGlass k g = some (glE g) := by
  obtain ⟨h1, h2, hk⟩ := h
  unfold nspeculumref03_CheckGlass
  simp only [within_base, Option.bind_some]
  cases d1 : inR 1 10000 g.Density with
  | false => unfold glE glE0; rw [d1]; simp
  | true =>
  cases d2 : inR 1 500 g.Thick with
  | false => unfold glE glE0; rw [d1, d2]; simp
  | true =>
  have ht := (inR_t.1 d2).2
  have e1 := partsR_l k g ht (by omega) g.Parts.length k 0 (by omega) (by omega)
  have e2 := capsR_l k g ht (by omega) g.Caps.length k 0 (by omega) (by omega)
  rw [show ((0 : Nat) : Int) = 0 from rfl, List.drop_zero] at e1 e2
  simp only [e1, e2, Option.bind_some, if_true]
  by_cases c0 : glE0 g = 0
  · rw [vol_r hk (.of c0)]
    unfold glE
    rw [if_pos c0]
    have hc0 := c0
    unfold glE0 at hc0
    rw [d1, d2] at hc0
    simp only [Bool.and_self, if_true] at hc0
    split at hc0
    case isFalse => cases hc0
    rename_i c1
    split at hc0
    case isFalse => rename_i c2; exact absurd hc0 c2
    rename_i c2
    split at hc0
    case isFalse => cases hc0
    rename_i c3
    rw [if_neg (by omega), c2, sumE_0]
    dsimp only
    rw [if_neg (by omega), hc0, sumE_0]
    dsimp only [Option.bind_some]
    by_cases c4 : 0 < volV g
    · rw [if_pos c4, if_neg (by omega)]
    · rw [if_neg c4, if_pos (by omega)]
  · unfold glE
    rw [if_neg c0]
    unfold glE0 at c0 ⊢
    rw [d1, d2] at c0 ⊢
    simp only [Bool.and_self, if_true] at c0 ⊢
    by_cases c1 : (g.Parts.length : Int) ≤ 40
    · simp only [c1, if_true] at c0 ⊢
      rw [if_neg (by omega)]
      by_cases c2 : firstE (fun p => partE p g.Thick) g.Parts = 0
      · simp only [c2, if_true] at c0 ⊢
        rw [sumE_0]
        dsimp only
        by_cases c3 : (g.Caps.length : Int) ≤ 4
        · simp only [c3, if_true] at c0 ⊢
          rw [if_neg (by omega), sumE_n c0]
        · rw [if_pos (by omega), if_neg c3]
      · rw [sumE_n c2, if_neg c2]
    · rw [if_pos (by omega), if_neg c1]
def fewB (g : SGlass) : Bool := decide ((g.Parts.length ≤ 8 ∨ 40 < g.Parts.length ∧ g.Parts.length ≤ 43) ∧ g.Caps.length ≤ 7)
theorem few_any (k : Nat) (g : SGlass) : nspeculumlaw03_Few k g = some (fewB g) := by
  unfold nspeculumlaw03_Few fewB
  by_cases h1 : g.Parts.length ≤ 8
  · rw [if_pos (by omega)]; congr 1; rw [decide_eq_decide]; omega
  · rw [if_neg (by omega)]
    by_cases h4 : 40 < g.Parts.length
    · rw [if_pos (by omega)]
      by_cases h5 : g.Parts.length ≤ 43
      · rw [if_pos (by omega)]; congr 1; rw [decide_eq_decide]; omega
      · rw [if_neg (by omega)]; congr 1; symm; rw [decide_eq_false_iff_not]; omega
    · rw [if_neg (by omega)]; congr 1; symm; rw [decide_eq_false_iff_not]; omega
theorem copied_any (k : Nat) (g : SGlass) (h1 : g.Parts.length < 1000) (h2 : g.Caps.length < 1000) : nspeculumlaw03_copied k g = some g := by
  unfold nspeculumlaw03_copied
  rw [if_pos (by omega), if_pos (by omega)]
theorem Lk.of {g : SGlass} {k : Nat} (h : fewB g = true) (hk : 1000 < k) : Lk g k := by
  unfold fewB at h
  have h := of_decide_eq_true h
  exact ⟨by omega, by omega, hk⟩
structure Gl (g : SGlass) : Prop where
  o : GlO g
  v : 0 < volV g
theorem Gl.of {g : SGlass} (h : glE g = 0) : Gl g := by
  unfold glE at h
  split at h
  case isFalse => rename_i c; exact absurd h c
  rename_i c
  split at h
  case isFalse => cases h
  exact ⟨.of c, ‹_›⟩
theorem GlO.vol {g : SGlass} (h : GlO g) : -10000000000000 ≤ volV g ∧ volV g ≤ 10000000000000 := by
  have := h.vb g.Parts.length g.Caps.length
  rw [List.take_of_length_le (Nat.le_refl _), List.take_of_length_le (Nat.le_refl _)] at this
  exact this
theorem GlO.mom {g : SGlass} (h : GlO g) : -8000000000000000 ≤ momV g ∧ momV g ≤ 8000000000000000 := by
  have := h.mb g.Parts.length g.Caps.length
  rw [List.take_of_length_le (Nat.le_refl _), List.take_of_length_le (Nat.le_refl _)] at this
  exact this
section
variable {g : SGlass}
theorem capM_b (k : Nat) {c : SGlassCap} {t : Int} (h : CapOK c t) (ht : t ≤ 500) : nblank_capMoment k c = some (capM c) := by
  obtain ⟨_, b2, b3, b4, b5⟩ := h.bd
  have hs := sg_bd b2 c.Cut
  have hd := sg_bd b5 c.Cut
  have ha := h.a
  have hm := mul_sb (x := 2 * capS c) (A := 600000000000) (by unfold capS; omega) (show 0 ≤ c.At ∧ c.At ≤ 500 by omega) (by omega)
  have h5 : -200000000000000 ≤ sg (sg (capD c) c.Cut) (!c.Up) ∧ sg (sg (capD c) c.Cut) (!c.Up) ≤ 200000000000000 := by
    cases c.Cut <;> cases c.Up <;> simp only [sg, Bool.not_true, Bool.not_false] <;> omega
  unfold nblank_capMoment
  rw [capD_w h, signed_b k (by omega), Option.bind_some, cap_b k h, Option.bind_some, signed_b k (by omega), Option.bind_some]
  have hS : -300000000000 ≤ capS c ∧ capS c ≤ 300000000000 := by unfold capS; omega
  rw [w64_id (n := 2 * capS c) (by omega) (by omega), w64_id (n := 2 * capS c * c.At) (by omega) (by omega), w64_id (by omega) (by omega)]; rfl
theorem mom_l0 (k : Nat) (h : GlO g) : ∀ (d fuel i : Nat), g.Parts.length = i + d → d < fuel → nblank_momentOf_l0_0 k g fuel (i : Int) (tsum Vg.partM (g.Parts.take i)) = some (tsum Vg.partM g.Parts) := by
  have hn := h.np
  intro d
  induction d with
  | zero =>
    intro fuel i he hf
    obtain ⟨f, rfl⟩ : ∃ f, fuel = f + 1 := ⟨fuel - 1, by omega⟩
    rw [nblank_momentOf_l0_0.eq_2, if_neg (by omega), List.take_of_length_le (by omega)]
  | succ d ih =>
    intro fuel i he hf
    obtain ⟨f, rfl⟩ : ∃ f, fuel = f + 1 := ⟨fuel - 1, by omega⟩
    have hb := h.mb (i + 1) 0
    simp only [List.take_zero, tsum] at hb
    have hm := mem_getD (l := g.Parts) (i := i) (by omega)
    have hp := h.pa _ hm
    have h1 := hp.f
    have h2 := hp.t
    have h3 := h.th
    have h4 := h.partM _ hm
    rw [nblank_momentOf_l0_0.eq_2, if_pos (by omega), if_pos (by omega), Int.toNat_natCast, part_b k hp h.th.2, Option.bind_some, w64_succ (by omega), w64_id (n := (g.Parts.getD i default).From + (g.Parts.getD i default).To) (by omega) (by omega), show Vg.partS (g.Parts.getD i default) * ((g.Parts.getD i default).From + (g.Parts.getD i default).To) = Vg.partM (g.Parts.getD i default) from rfl, w64_id (n := Vg.partM (g.Parts.getD i default)) (by omega) (by omega), take_succ_sum Vg.partM (by omega), w64_id (by omega) (by omega)]
    exact ih f (i + 1) (by omega) (by omega)
theorem mom_l1 (k : Nat) (h : GlO g) : ∀ (d fuel i : Nat), g.Caps.length = i + d → d < fuel → nblank_momentOf_l1_0 k g fuel (i : Int) (tsum Vg.partM g.Parts + tsum Vg.capM (g.Caps.take i)) = some (momV g) := by
  have hn := h.nc
  intro d
  induction d with
  | zero =>
    intro fuel i he hf
    obtain ⟨f, rfl⟩ : ∃ f, fuel = f + 1 := ⟨fuel - 1, by omega⟩
    rw [nblank_momentOf_l1_0.eq_2, if_neg (by omega), List.take_of_length_le (by omega)]; rfl
  | succ d ih =>
    intro fuel i he hf
    obtain ⟨f, rfl⟩ : ∃ f, fuel = f + 1 := ⟨fuel - 1, by omega⟩
    have hb := h.mb g.Parts.length (i + 1)
    rw [List.take_of_length_le (Nat.le_refl g.Parts.length)] at hb
    rw [nblank_momentOf_l1_0.eq_2, if_pos (by omega), if_pos (by omega), Int.toNat_natCast, capM_b k (h.ca _ (mem_getD (by omega))) h.th.2, Option.bind_some, w64_succ (by omega), Int.add_assoc, take_succ_sum Vg.capM (by omega), w64_id (by omega) (by omega)]
    exact ih f (i + 1) (by omega) (by omega)
theorem mom_b {k : Nat} (hk : 1000 < k) (h : GlO g) : nblank_momentOf k g = some (momV g) := by
  have hn := h.np
  have hc := h.nc
  unfold nblank_momentOf
  have e1 := mom_l0 k h g.Parts.length k 0 (by omega) (by omega)
  have e2 := mom_l1 k h g.Caps.length k 0 (by omega) (by omega)
  simp only [List.take_zero, tsum, Int.add_zero] at e1 e2
  rw [show nblank_momentOf_l0_0 k g k 0 0 = _ from e1, Option.bind_some, show nblank_momentOf_l1_0 k g k 0 _ = _ from e2]; rfl
theorem volume_b {k : Nat} (h : Lk g k) : nblank_Volume k g = some (if glE g = 0 then (volV g, 0) else (0, glE g)) := by
  unfold nblank_Volume
  rw [h.b, Option.bind_some]
  by_cases c : glE g = 0
  · rw [if_pos c, if_pos c, vol_b h.hk (Gl.of c).o]; rfl
  · rw [if_neg c, if_neg c]
def massV (g : SGlass) : SRange := rnd (g.Density * volV g) 1000000000
def cenV (g : SGlass) : SRange := rnd (1000 * momV g) (2 * volV g)
theorem GlO.dv (h : GlO g) : -100000000000000000 ≤ g.Density * volV g ∧ g.Density * volV g ≤ 100000000000000000 := by
  have := mul_sb h.vol (show 0 ≤ g.Density ∧ g.Density ≤ 10000 by have := h.de; omega) (by omega)
  rw [Int.mul_comm]; omega
theorem mass_b {k : Nat} (h : Lk g k) : nblank_Mass k g = some (if glE g = 0 then (massV g, 0) else (⟨0, 0⟩, glE g)) := by
  unfold nblank_Mass
  rw [h.b, Option.bind_some]
  by_cases c : glE g = 0
  · have hg := (Gl.of c).o
    have := hg.dv
    rw [if_pos c, if_pos c, vol_b h.hk hg, Option.bind_some, w64_id (by omega) (by omega), enclose_any k (by omega) (by omega)]; rfl
  · rw [if_neg c, if_neg c]
theorem centre_b {k : Nat} (h : Lk g k) : nblank_Centre k g = some (if glE g = 0 then (cenV g, 0) else (⟨0, 0⟩, glE g)) := by
  unfold nblank_Centre
  rw [h.b, Option.bind_some]
  by_cases c : glE g = 0
  · have hg := (Gl.of c).o
    have hv := (Gl.of c).v
    have h1 := hg.mom
    have h2 := hg.vol
    rw [if_pos c, if_pos c, mom_b h.hk hg, Option.bind_some, vol_b h.hk hg, Option.bind_some, w64_id (n := 1000 * momV g) (by omega) (by omega), w64_id (n := 2 * volV g) (by omega) (by omega), enclose_any k (by omega) (by omega)]; rfl
  · rw [if_neg c, if_neg c]
end
end Go.Proofs.Ytclabanknlmneaa.Vg
