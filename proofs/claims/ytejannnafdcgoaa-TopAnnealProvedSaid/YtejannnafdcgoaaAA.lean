/- Chapter 3, plain: annealings. -/
import Derived.Test.YtejannnafdcgoaaA1
import Derived.Test.YtejannnafdcgoaaWb
set_option linter.unusedVariables false
set_option linter.unusedSimpArgs false
namespace Go.Proofs.Ytejannnafdcgoaa.Vg
open Go Go.Proofs.Ytejannnafdcgoaa.Ev Go.Proofs.Ytejannnafdcgoaa.Vv
theorem w64_id {n : Int} (h1 : -9223372036854775808 ≤ n) (h2 : n ≤ 9223372036854775807) : w64 n = n := by
  unfold w64 IntKind.wrap
  simp [IntKind.signed, IntKind.bits]
  omega
theorem w64_succ {i : Nat} (h : i < 1000000000000) : w64 ((i : Int) + 1) = ((i + 1 : Nat) : Int) := by
  rw [w64_id (by omega) (by omega)]; omega
theorem drop_get {α : Type} {y : List α} {i : Nat} (h : i < y.length) (d : α) : y.drop i = y.getD i d :: y.drop (i + 1) := by
  rw [List.drop_eq_getElem_cons h, List.getD_eq_getElem?_getD, List.getElem?_eq_getElem h]; rfl
def sumB (b : Bool) : Sum Unit Unit := match b with | true => .inr () | false => .inl ()
def sumE (e : Int) : Sum Int Unit := if e = 0 then .inr () else .inl e
theorem sumE_0 : sumE 0 = .inr () := rfl
theorem sumE_n {e : Int} (h : e ≠ 0) : sumE e = .inl e := if_neg h
def inR (a b n : Int) : Bool := decide (a ≤ n ∧ n ≤ b)
theorem inR_t {a b n : Int} : inR a b n = true ↔ a ≤ n ∧ n ≤ b := by unfold inR; exact decide_eq_true_iff
theorem inR_f {a b n : Int} : inR a b n = false ↔ ¬(a ≤ n ∧ n ≤ b) := by unfold inR; exact decide_eq_false_iff_not
theorem within_base (k : Nat) (a b c : Int) : nspeculumbase_Within k a b c = some (inR b c a) := by
  unfold nspeculumbase_Within inR
  by_cases h : b ≤ a <;> simp [h]
theorem isWithin_b (k : Nat) (a b c : Int) : nblank_isWithin k a b c = some (inR b c a) := by
  unfold nblank_isWithin inR
  by_cases h : b ≤ a <;> simp [h]
theorem within_b (k : Nat) (n a b : Int) : nblank_within k n a b = some (inR a b n, 2) := by
  unfold nblank_within
  rw [isWithin_b]; rfl
theorem need1 (k : Nat) (b : Bool) (e : Int) : nblank_need_1 k b e = some (if b = true then 0 else e) := by
  unfold nblank_need_1
  cases b <;> rfl
/-- the first fault of a list. -/
def firstE {α : Type} (f : α → Int) : List α → Int
  | [] => 0
  | x :: xs => if f x = 0 then firstE f xs else f x
theorem firstE_zero {α : Type} {f : α → Int} : ∀ {l : List α}, firstE f l = 0 → ∀ x ∈ l, f x = 0
  | [], _, x, hx => by cases hx
  | y :: l, h, x, hx => by
    unfold firstE at h
    by_cases hy : f y = 0
    · rw [if_pos hy] at h
      rcases List.mem_cons.1 hx with rfl | hx
      · exact hy
      · exact firstE_zero h x hx
    · rw [if_neg hy] at h; exact absurd h hy
theorem tdiv_floor {n d : Int} (hd : 0 < d) : (if n.tmod d < 0 then n.tdiv d - 1 else n.tdiv d) = n / d := by
  have h := Int.mul_tdiv_add_tmod n d
  have h1 : n.tmod d < d := Int.tmod_lt_of_pos n hd
  have h2 : -d < n.tmod d := by
    have := Int.lt_tmod_of_pos n hd
    omega
  split
  · rename_i hn
    symm
    rw [Int.ediv_eq_iff_of_pos hd]
    constructor <;> (rw [Int.sub_mul, Int.mul_comm] ; omega)
  · symm
    rw [Int.ediv_eq_iff_of_pos hd]
    constructor <;> (rw [Int.mul_comm]; omega)
theorem div_bound {n d : Int} (hn : -9000000000000000000 ≤ n ∧ n ≤ 9000000000000000000) (hd : 0 < d) : -9000000000000000000 ≤ n / d ∧ n / d ≤ 9000000000000000000 := by
  constructor
  · refine Int.le_ediv_of_mul_le hd ?_
    have : (-9000000000000000000 : Int) * d ≤ -9000000000000000000 * 1 := Int.mul_le_mul_of_nonpos_left (by omega) (by omega)
    omega
  · refine Int.ediv_le_of_le_mul hd ?_
    have : (9000000000000000000 : Int) * 1 ≤ 9000000000000000000 * d := Int.mul_le_mul_of_nonneg_left (by omega) (by omega)
    omega
theorem tdiv_bound {n d : Int} (hn : -9000000000000000000 ≤ n ∧ n ≤ 9000000000000000000) (hd : 0 < d) : -9000000000000000001 ≤ n.tdiv d ∧ n.tdiv d ≤ 9000000000000000001 := by
  have h1 := tdiv_floor (n := n) hd
  have h2 := div_bound hn hd
  split at h1 <;> omega
/-- rounded up. -/
def cdiv (n d : Int) : Int := -((-n) / d)
def rnd (n d : Int) : SRange := ⟨n / d, cdiv n d⟩
theorem cdiv_tdiv {n d : Int} (hd : 0 < d) : (if 0 < n.tmod d then n.tdiv d + 1 else n.tdiv d) = cdiv n d := by
  unfold cdiv
  rw [← tdiv_floor hd, Int.neg_tmod, Int.neg_tdiv]
  by_cases c : 0 < n.tmod d
  · rw [if_pos c, if_pos (by omega)]; omega
  · rw [if_neg c, if_neg (by omega)]; omega
theorem enclose_any (k : Nat) {n d : Int} (hn : -9000000000000000000 ≤ n ∧ n ≤ 9000000000000000000) (hd : 0 < d) : nblank_enclose k n d = some (rnd n d) := by
  have hb := tdiv_bound hn hd
  unfold nblank_enclose rnd
  rw [if_pos (by omega), ← tdiv_floor hd, ← cdiv_tdiv hd]
  simp only [w64_id (show -9223372036854775808 ≤ n.tdiv d by omega) (by omega), w64_id (show -9223372036854775808 ≤ n.tdiv d - 1 by omega) (by omega), w64_id (show -9223372036854775808 ≤ n.tdiv d + 1 by omega) (by omega)]
  by_cases c1 : n.tmod d < 0 <;> by_cases c2 : 0 < n.tmod d <;> simp only [c1, c2, if_true, if_false]
theorem cdiv_le {n d c : Int} (hd : 0 < d) : cdiv n d ≤ c ↔ n ≤ c * d := by
  unfold cdiv
  have : -c ≤ (-n) / d ↔ -c * d ≤ -n := Int.le_ediv_iff_mul_le hd
  rw [Int.neg_mul] at this
  omega
theorem mem_getD {α : Type} [Inhabited α] {l : List α} {i : Nat} (h : i < l.length) : l.getD i default ∈ l := by
  rw [List.getD_eq_getElem?_getD, List.getElem?_eq_getElem h]; exact List.getElem_mem h
theorem mul_bd {x y A B : Int} (h1 : 0 ≤ x ∧ x ≤ A) (h2 : 0 ≤ y ∧ y ≤ B) : 0 ≤ x * y ∧ x * y ≤ A * B :=
  ⟨Int.mul_nonneg h1.1 h2.1, Int.mul_le_mul h1.2 h2.2 h2.1 (Int.le_trans h1.1 h1.2)⟩
def stepE (s : SCoolStep) : Int := if (inR 1 1000 s.Drop && inR 1 1000000000 s.Limit && inR 1 100000 s.Most) = true then 0 else 2
def winE (n : Nat) (w : SCoolWindow) : Int := if inR 0 n w.Level = true then (if (inR 0 1000000 w.From && inR 0 1000000 w.To) = true then (if w.From ≤ w.To then 0 else 9) else 2) else 6
def annE (a : SAnnealing) : Int := if (inR 1 500 a.Thick && inR 0 1000 a.Factor) = true then (if inR 1 30 (a.Steps.length : Int) = true then (if firstE stepE a.Steps = 0 then (if (a.Windows.length : Int) ≤ 60 then firstE (winE a.Steps.length) a.Windows else 8) else 2) else 10) else 2
theorem stepE_cases (s : SCoolStep) : stepE s = 0 ∨ stepE s = 2 := by
  unfold stepE; split <;> simp
theorem firstE_step : ∀ (l : List SCoolStep), firstE stepE l = 0 ∨ firstE stepE l = 2
  | [] => .inl rfl
  | s :: l => by
    unfold firstE
    rcases stepE_cases s with h | h
    · rw [if_pos h]; exact firstE_step l
    · rw [if_neg (by omega), h]; exact .inr rfl
theorem step_b (k : Nat) (s : SCoolStep) : nblank_CheckAnnealing_1 k s = some (stepE s) := by
  unfold nblank_CheckAnnealing_1
  simp only [within_b, Option.bind_some]
  unfold nblank_firstOf_c0_151 stepE
  simp only [need1, Option.bind_some]
  cases inR 1 1000 s.Drop <;> cases inR 1 1000000000 s.Limit <;> cases inR 1 100000 s.Most <;> rfl
theorem win_b (k : Nat) (w : SCoolWindow) (a : SAnnealing) : nblank_CheckAnnealing_2 k w a.Thick a.Factor a.Steps a.Windows = some (winE a.Steps.length w) := by
  unfold nblank_CheckAnnealing_2
  simp only [within_b, isWithin_b, Option.bind_some, nblank_need]
  unfold nblank_firstOf_c0_152 winE
  simp only [need1, Option.bind_some]
  by_cases hw : w.From ≤ w.To
  · rw [show decide (w.From ≤ w.To) = true from decide_eq_true hw, if_pos hw]
    cases inR 0 (a.Steps.length : Int) w.Level <;> cases inR 0 1000000 w.From <;> cases inR 0 1000000 w.To <;> rfl
  · rw [show decide (w.From ≤ w.To) = false from decide_eq_false hw, if_neg hw]
    cases inR 0 (a.Steps.length : Int) w.Level <;> cases inR 0 1000000 w.From <;> cases inR 0 1000000 w.To <;> rfl
theorem steps_l (k : Nat) (l : List SCoolStep) (hl : l.length < 1000000000) : ∀ (d fuel i : Nat), l.length = i + d → d < fuel →
    nblank_each_api_CoolStep_1_k22_146_l0_0 k l fuel (i : Int) = some (sumE (firstE stepE (l.drop i))) := by
  intro d
  induction d with
  | zero =>
    intro fuel i h hf
    obtain ⟨f, rfl⟩ : ∃ f, fuel = f + 1 := ⟨fuel - 1, by omega⟩
    rw [nblank_each_api_CoolStep_1_k22_146_l0_0.eq_2, if_neg (by omega), List.drop_of_length_le (by omega)]; rfl
  | succ d ih =>
    intro fuel i h hf
    obtain ⟨f, rfl⟩ : ∃ f, fuel = f + 1 := ⟨fuel - 1, by omega⟩
    rw [nblank_each_api_CoolStep_1_k22_146_l0_0.eq_2, if_pos (by omega), if_pos (by omega), step_b, Option.bind_some, w64_succ (by omega), drop_get (show i < l.length by omega) default, Int.toNat_natCast]
    unfold firstE
    by_cases c : stepE (l.getD i default) = 0
    · rw [if_pos c, if_pos c]; exact ih f (i + 1) (by omega) (by omega)
    · rw [if_neg c, if_neg c, sumE_n c]
theorem wins_l (k : Nat) (a : SAnnealing) (hl : a.Windows.length < 1000000000) : ∀ (d fuel i : Nat), a.Windows.length = i + d → d < fuel →
    nblank_each_api_CoolWindow_1_k23_148_l0_0 k a.Windows (a.Thick, a.Factor, a.Steps, a.Windows) fuel (i : Int) = some (sumE (firstE (winE a.Steps.length) (a.Windows.drop i))) := by
  intro d
  induction d with
  | zero =>
    intro fuel i h hf
    obtain ⟨f, rfl⟩ : ∃ f, fuel = f + 1 := ⟨fuel - 1, by omega⟩
    rw [nblank_each_api_CoolWindow_1_k23_148_l0_0.eq_2, if_neg (by omega), List.drop_of_length_le (by omega)]; rfl
  | succ d ih =>
    intro fuel i h hf
    obtain ⟨f, rfl⟩ : ∃ f, fuel = f + 1 := ⟨fuel - 1, by omega⟩
    rw [nblank_each_api_CoolWindow_1_k23_148_l0_0.eq_2, if_pos (by omega), if_pos (by omega), win_b, Option.bind_some, w64_succ (by omega), drop_get (show i < a.Windows.length by omega) default, Int.toNat_natCast]
    unfold firstE
    by_cases c : winE a.Steps.length (a.Windows.getD i default) = 0
    · rw [if_pos c, if_pos c]; exact ih f (i + 1) (by omega) (by omega)
    · rw [if_neg c, if_neg c, sumE_n c]
theorem ann_b (k : Nat) (a : SAnnealing) (h1 : a.Steps.length < 1000000000) (h2 : a.Windows.length < 1000000000) (k1 : a.Steps.length < k) (k2 : a.Windows.length < k) : nblank_CheckAnnealing k a = some (annE a) := by
  have e1 : nblank_each_api_CoolStep_1_k22_146 k a.Steps () = some (firstE stepE a.Steps) := by
    unfold nblank_each_api_CoolStep_1_k22_146
    have := steps_l k a.Steps h1 a.Steps.length k 0 (by omega) k1
    rw [show ((0 : Nat) : Int) = 0 from rfl, List.drop_zero] at this
    rw [this, Option.bind_some]
    by_cases c : firstE stepE a.Steps = 0
    · rw [c]; rfl
    · rw [sumE_n c]
  have e2 : nblank_each_api_CoolWindow_1_k23_148 k a.Windows (a.Thick, a.Factor, a.Steps, a.Windows) = some (firstE (winE a.Steps.length) a.Windows) := by
    unfold nblank_each_api_CoolWindow_1_k23_148
    have := wins_l k a h2 a.Windows.length k 0 (by omega) k2
    rw [show ((0 : Nat) : Int) = 0 from rfl, List.drop_zero] at this
    rw [this, Option.bind_some]
    by_cases c : firstE (winE a.Steps.length) a.Windows = 0
    · rw [c]; rfl
    · rw [sumE_n c]
  unfold nblank_CheckAnnealing
  simp only [within_b, isWithin_b, Option.bind_some, nblank_need, nblank_each_api_CoolStep__c1_146, nblank_each_api_CoolWindow__c1_148]
  unfold nblank_firstOf_c0_150
  simp only [need1, e1, e2, Option.bind_some]
  unfold annE
  cases inR 1 500 a.Thick
  · rfl
  cases inR 0 1000 a.Factor
  · rfl
  cases inR 1 30 (a.Steps.length : Int)
  · rfl
  simp only [if_true, Bool.and_self]
  rcases firstE_step a.Steps with c | c
  · rw [c]
    simp only [if_true]
    by_cases c2 : (a.Windows.length : Int) ≤ 60
    · simp only [c2, decide_true, if_true]
      by_cases c3 : firstE (winE a.Steps.length) a.Windows = 0
      · rw [if_pos c3, c3]; rfl
      · rw [if_neg c3]; rfl
    · simp [c2]
  · rw [c]; simp
theorem stepsR_l (k : Nat) (a : SAnnealing) (hl : a.Steps.length < 1000000000) : ∀ (d fuel i : Nat), a.Steps.length = i + d → d < fuel →
    nspeculumref03_CheckAnnealing_l0_0 k a fuel (i : Int) = some (sumB (decide (firstE stepE (a.Steps.drop i) = 0))) := by
  intro d
  induction d with
  | zero =>
    intro fuel i h hf
    obtain ⟨f, rfl⟩ : ∃ f, fuel = f + 1 := ⟨fuel - 1, by omega⟩
    rw [nspeculumref03_CheckAnnealing_l0_0.eq_2, if_neg (by omega), List.drop_of_length_le (by omega)]; rfl
  | succ d ih =>
    intro fuel i h hf
    obtain ⟨f, rfl⟩ : ∃ f, fuel = f + 1 := ⟨fuel - 1, by omega⟩
    rw [nspeculumref03_CheckAnnealing_l0_0.eq_2, if_pos (by omega), if_pos (by omega), w64_succ (by omega), drop_get (show i < a.Steps.length by omega) default, Int.toNat_natCast]
    simp only [within_base, Option.bind_some]
    have ih := ih f (i + 1) (by omega) (by omega)
    unfold firstE stepE
    cases inR 1 1000 (a.Steps.getD i default).Drop
    · rfl
    cases inR 1 1000000000 (a.Steps.getD i default).Limit
    · rfl
    cases inR 1 100000 (a.Steps.getD i default).Most
    · rfl
    simp only [if_true, Bool.and_self]
    exact ih
theorem winsR_l (k : Nat) (a : SAnnealing) (hl : a.Windows.length < 1000000000) : ∀ (d fuel i : Nat), a.Windows.length = i + d → d < fuel →
    nspeculumref03_CheckAnnealing_l1_0 k a fuel (i : Int) = some (sumE (firstE (winE a.Steps.length) (a.Windows.drop i))) := by
  intro d
  induction d with
  | zero =>
    intro fuel i h hf
    obtain ⟨f, rfl⟩ : ∃ f, fuel = f + 1 := ⟨fuel - 1, by omega⟩
    rw [nspeculumref03_CheckAnnealing_l1_0.eq_2, if_neg (by omega), List.drop_of_length_le (by omega)]; rfl
  | succ d ih =>
    intro fuel i h hf
    obtain ⟨f, rfl⟩ : ∃ f, fuel = f + 1 := ⟨fuel - 1, by omega⟩
    rw [nspeculumref03_CheckAnnealing_l1_0.eq_2, if_pos (by omega), if_pos (by omega), w64_succ (by omega), drop_get (show i < a.Windows.length by omega) default, Int.toNat_natCast]
    simp only [within_base, Option.bind_some]
    have ih := ih f (i + 1) (by omega) (by omega)
    unfold firstE
    generalize a.Windows.getD i default = x
    unfold winE
    cases inR 0 (a.Steps.length : Int) x.Level
    · rfl
    cases inR 0 1000000 x.From
    · rfl
    cases inR 0 1000000 x.To
    · rfl
    simp only [if_true, Bool.and_self]
    by_cases c : x.From ≤ x.To
    · rw [if_neg (by omega), if_pos c]; simp only [if_true]; exact ih
    · rw [if_pos (by omega), if_neg c]; rfl
theorem ann_r (k : Nat) (a : SAnnealing) (h1 : a.Steps.length < 1000000000) (h2 : a.Windows.length < 1000000000) (k1 : a.Steps.length < k) (k2 : a.Windows.length < k) : nspeculumref03_CheckAnnealing k a = some (annE a) := by
  unfold nspeculumref03_CheckAnnealing
  have e1 := stepsR_l k a h1 a.Steps.length k 0 (by omega) k1
  have e2 := winsR_l k a h2 a.Windows.length k 0 (by omega) k2
  rw [show ((0 : Nat) : Int) = 0 from rfl, List.drop_zero] at e1 e2
  simp only [within_base, Option.bind_some, e1, e2]
  unfold annE
  cases inR 1 500 a.Thick
  · rfl
  cases inR 0 1000 a.Factor
  · rfl
  cases inR 1 30 (a.Steps.length : Int)
  · rfl
  simp only [if_true, Bool.and_self]
  by_cases c : firstE stepE a.Steps = 0
  · rw [c]
    simp only [decide_true, sumB, if_true]
    by_cases c2 : (a.Windows.length : Int) ≤ 60
    · rw [if_neg (by omega), if_pos c2]
      by_cases c3 : firstE (winE a.Steps.length) a.Windows = 0
      · rw [c3]; rfl
      · rw [sumE_n c3]
    · rw [if_pos (by omega), if_neg c2]
  · simp [c, sumB]
/-- an annealing that is as it should be. -/
structure Ann (a : SAnnealing) : Prop where
  th : 1 ≤ a.Thick ∧ a.Thick ≤ 500
  fa : 0 ≤ a.Factor ∧ a.Factor ≤ 1000
  ns : 1 ≤ a.Steps.length ∧ a.Steps.length ≤ 30
  nw : a.Windows.length ≤ 60
  st : ∀ s ∈ a.Steps, 1 ≤ s.Drop ∧ s.Drop ≤ 1000 ∧ 1 ≤ s.Limit ∧ s.Limit ≤ 1000000000 ∧ 1 ≤ s.Most ∧ s.Most ≤ 100000
  wi : ∀ w ∈ a.Windows, 0 ≤ w.Level ∧ w.Level ≤ a.Steps.length ∧ 0 ≤ w.From ∧ w.From ≤ w.To ∧ w.To ≤ 1000000
theorem Ann.of {a : SAnnealing} (h : annE a = 0) : Ann a := by
  unfold annE at h
  split at h
  case isFalse => cases h
  rename_i h1
  split at h
  case isFalse => cases h
  rename_i h2
  split at h
  case isFalse => cases h
  rename_i h3
  split at h
  case isFalse => cases h
  rename_i h4
  simp only [Bool.and_eq_true, inR_t] at h1 h2
  refine ⟨h1.1, h1.2, by omega, by omega, fun s hs => ?_, fun w hw => ?_⟩
  · have := firstE_zero h3 s hs
    unfold stepE at this
    split at this
    case isFalse => cases this
    rename_i h5
    simp only [Bool.and_eq_true, inR_t] at h5
    omega
  · have := firstE_zero h w hw
    unfold winE at this
    split at this
    case isFalse => cases this
    rename_i h5
    split at this
    case isFalse => cases this
    rename_i h6
    split at this
    case isFalse => cases this
    simp only [Bool.and_eq_true, inR_t] at h5 h6
    omega
def lightB (a : SAnnealing) : Bool := decide ((a.Steps.length ≤ 8 ∨ 30 < a.Steps.length ∧ a.Steps.length ≤ 33) ∧ (a.Windows.length ≤ 8 ∨ 60 < a.Windows.length ∧ a.Windows.length ≤ 63))
theorem light_any (k : Nat) (a : SAnnealing) : nspeculumlaw03_Light k a = some (lightB a) := by
  unfold nspeculumlaw03_Light lightB
  by_cases h1 : a.Steps.length ≤ 8
  · rw [if_pos (by omega)]
    by_cases h2 : a.Windows.length ≤ 8
    · rw [if_pos (by omega)]; simp [h1, h2]
    · rw [if_neg (by omega)]
      by_cases h3 : 60 < a.Windows.length
      · rw [if_pos (by omega)]; congr 1; rw [decide_eq_decide]; omega
      · rw [if_neg (by omega)]; congr 1; symm; rw [decide_eq_false_iff_not]; omega
  · rw [if_neg (by omega)]
    by_cases h4 : 30 < a.Steps.length
    · rw [if_pos (by omega)]
      by_cases h5 : a.Steps.length ≤ 33
      · rw [if_pos (by omega)]
        by_cases h2 : a.Windows.length ≤ 8
        · rw [if_pos (by omega)]; congr 1; symm; rw [decide_eq_true_iff]; omega
        · rw [if_neg (by omega)]
          by_cases h3 : 60 < a.Windows.length
          · rw [if_pos (by omega)]; congr 1; rw [decide_eq_decide]; omega
          · rw [if_neg (by omega)]; congr 1; symm; rw [decide_eq_false_iff_not]; omega
      · rw [if_neg (by omega)]; congr 1; symm; rw [decide_eq_false_iff_not]; omega
    · rw [if_neg (by omega)]; congr 1; symm; rw [decide_eq_false_iff_not]; omega
def stE (a : SAnnealing) (i : Int) : Int := if annE a = 0 then (if inR 0 ((a.Steps.length : Int) - 1) i = true then 0 else 6) else annE a
structure Lg (a : SAnnealing) (k : Nat) : Prop where
  l1 : a.Steps.length < 1000
  l2 : a.Windows.length < 1000
  hk : 1000 < k
theorem Lg.of {a : SAnnealing} {k : Nat} (h : lightB a = true) (hk : 1000 < k) : Lg a k := by
  unfold lightB at h
  have h := of_decide_eq_true h
  exact ⟨by omega, by omega, hk⟩
theorem Lg.b {a : SAnnealing} {k : Nat} (h : Lg a k) : nblank_CheckAnnealing k a = some (annE a) := by
  obtain ⟨h1, h2, h3⟩ := h
  exact ann_b k a (by omega) (by omega) (by omega) (by omega)
theorem Lg.r {a : SAnnealing} {k : Nat} (h : Lg a k) : nspeculumref03_CheckAnnealing k a = some (annE a) := by
  obtain ⟨h1, h2, h3⟩ := h
  exact ann_r k a (by omega) (by omega) (by omega) (by omega)
theorem step_any {a : SAnnealing} {k : Nat} (h : Lg a k) (i : Int) : nblank_checkStep k a i = some (stE a i) := by
  have hl := h.l1
  unfold nblank_checkStep
  rw [isWithin_b, Option.bind_some, w64_id (by omega) (by omega)]
  show (nblank_firstOf_c0_154 k ((a.Thick, a.Factor, a.Steps, a.Windows), (inR 0 ((a.Steps.length : Int) - 1) i, 6))).bind _ = _
  unfold nblank_firstOf_c0_154 nblank_checkStep_1
  simp only [need1]
  rw [show (⟨a.Thick, a.Factor, a.Steps, a.Windows⟩ : SAnnealing) = a from rfl, h.b]
  simp only [Option.bind_some]
  unfold stE
  by_cases c : annE a = 0
  · rw [if_pos c, if_pos c]
    cases inR 0 ((a.Steps.length : Int) - 1) i <;> rfl
  · rw [if_neg c, if_neg c]; rfl
def work (a : SAnnealing) (i : Int) : Int := a.Factor * a.Thick * a.Thick * (a.Steps.getD i.toNat default).Drop
structure Wk3 (a : SAnnealing) (i : Int) : Prop where
  f1 : 0 ≤ a.Factor * a.Thick ∧ a.Factor * a.Thick ≤ 1000 * 500
  f2 : 0 ≤ a.Factor * a.Thick * a.Thick ∧ a.Factor * a.Thick * a.Thick ≤ 1000 * 500 * 500
  f3 : 0 ≤ work a i ∧ work a i ≤ 1000 * 500 * 500 * 1000
  li : 1 ≤ (a.Steps.getD i.toNat default).Limit ∧ (a.Steps.getD i.toNat default).Limit ≤ 1000000000
theorem Ann.wk {a : SAnnealing} (h : Ann a) {i : Int} (hi : 0 ≤ i ∧ i < (a.Steps.length : Int)) : Wk3 a i := by
  have hm := h.st _ (mem_getD (l := a.Steps) (i := i.toNat) (by omega))
  have f1 := mul_bd h.fa (show 0 ≤ a.Thick ∧ a.Thick ≤ 500 by have := h.th; omega)
  have f2 := mul_bd f1 (show 0 ≤ a.Thick ∧ a.Thick ≤ 500 by have := h.th; omega)
  exact ⟨f1, f2, mul_bd f2 (show 0 ≤ (a.Steps.getD i.toNat default).Drop ∧ _ by omega), by omega⟩
theorem stress_b {a : SAnnealing} (h : Ann a) (k : Nat) {i : Int} (hi : 0 ≤ i ∧ i < (a.Steps.length : Int)) : nblank_minuteStress k a i = some (work a i) := by
  obtain ⟨f1, f2, f3, _⟩ := h.wk hi
  unfold work at f3
  unfold nblank_minuteStress work
  rw [if_pos hi, w64_id (n := a.Factor * a.Thick) (by omega) (by omega), w64_id (n := a.Factor * a.Thick * a.Thick) (by omega) (by omega), w64_id (by omega) (by omega)]
def leastM (a : SAnnealing) (i : Int) : Int := maxI (cdiv (work a i) (a.Steps.getD i.toNat default).Limit) 1
theorem least_b {a : SAnnealing} (h : Ann a) (k : Nat) {i : Int} (hi : 0 ≤ i ∧ i < (a.Steps.length : Int)) : nblank_leastMinutes k a i = some (leastM a i) := by
  obtain ⟨_, _, f3, f4⟩ := h.wk hi
  unfold nblank_leastMinutes
  rw [stress_b h k hi, Option.bind_some, if_pos hi, enclose_any k (by omega) (by omega)]; rfl
end Go.Proofs.Ytejannnafdcgoaa.Vg
