import Derived.Test.YtjfkkcldffgekaaJR
import Derived.Test.YtjfkkcldffgekaaZ2
set_option linter.unusedVariables false
set_option linter.unusedSimpArgs false
namespace Go.Proofs.Ytjfkkcldffgekaa.Vg
open Go Go.Proofs.Ytjfkkcldffgekaa.Ev Go.Proofs.Ytjfkkcldffgekaa.Vv
theorem Qtz (i : Int) : ∀ (d : Nat) (j : Int) (x : Int × Int), x ∈ Qfn i j d ↔ x.1 = i /\ j <= x.2 /\ x.2 < j + d /\ x.2 ≠ i := by
 intro d
 induction d with
 | zero => intro j x; simp only [Qfn, List.not_mem_nil, false_iff]; omega
 | succ d ih =>
   intro j x
   rw [Qj9]
   by_cases h : i = j
   ·rw [if_pos h, ih]
    constructor
    ·rintro ⟨h1, h2, h3, h4⟩; exact ⟨h1, by omega, by omega, h4⟩
    ·rintro ⟨h1, h2, h3, h4⟩; exact ⟨h1, by omega, by omega, h4⟩
   ·rw [if_neg h, List.mem_cons, ih]
    constructor
    ·rintro (rfl | ⟨h1, h2, h3, h4⟩)
     ·exact ⟨rfl, Int.le_refl _, by show j < _; omega, fun e => h e.symm⟩
     ·exact ⟨h1, by omega, by omega, h4⟩
    ·rintro ⟨h1, h2, h3, h4⟩
     by_cases e : x.2 = j
     ·left; obtain ⟨x1, x2⟩ := x; simp only at h1 e; rw [h1, e]
     ·right; exact ⟨h1, by omega, by omega, h4⟩
theorem Qt0 (n : Nat) : ∀ (d : Nat) (i : Int) (x : Int × Int), x ∈ Qhv n i d ↔ i <= x.1 /\ x.1 < i + d /\ 0 <= x.2 /\ x.2 < n /\ x.2 ≠ x.1 := by
 intro d
 induction d with
 | zero => intro i x; simp only [Qhv, List.not_mem_nil, false_iff]; omega
 | succ d ih =>
   intro i x
   rw [Qn7, List.mem_append, ih, Qtz]
   constructor
   ·rintro (⟨h1, h2, h3, h4⟩ | ⟨h1, h2, h3, h4, h5⟩)
    ·exact ⟨by omega, by omega, by omega, by omega, by omega⟩
    ·exact ⟨by omega, by omega, by omega, by omega, by omega⟩
   ·rintro ⟨h1, h2, h3, h4, h5⟩
    by_cases e : x.1 = i
    ·left; exact ⟨e, by omega, by omega, by omega⟩
    ·right; exact ⟨by omega, by omega, by omega, by omega, by omega⟩
theorem Qf4 (n : Nat) (x : Int × Int) : x ∈ Qf5 (n : Int) ↔ 0 <= x.1 /\ x.1 < n /\ 0 <= x.2 /\ x.2 < n /\ x.2 ≠ x.1 := by
 unfold Qf5
 rw [Qt0, Int.toNat_natCast, Int.zero_add]
theorem Qeu (k : Nat) (a b c : Int) : X9 k a b c = some (inR b c a) := by
 unfold X9 inR
 by_cases h : b <= a <;> simp [h]
structure TL (t : Qg) : Prop where
 p : 0 <= t.Peak /\ t.Peak <= 200000
 s : 0 <= t.Slope /\ t.Slope <= 200000
theorem Q2v (k : Nat) (t : Qg) : ∃ e, Xo k t = some e /\ (e = 0 -> TL t) := by
 unfold Xo
 rw [Yd, Option.bind_some, Yd, Option.bind_some]
 by_cases c1 : inR 0 200000 t.Peak = true
 ·rw [if_pos c1]
  by_cases c2 : inR 0 200000 t.Slope = true
  ·rw [if_pos c2]; exact ⟨_, rfl, fun _ => ⟨Qco.1 c1, Qco.1 c2⟩⟩
  ·rw [if_neg c2]; exact ⟨_, rfl, fun e => by cases e⟩
 ·rw [if_neg c1]; exact ⟨_, rfl, fun e => by cases e⟩
theorem Q02 (k : Nat) {t : Qg} (h : TL t) : X5 k t = some 0 := by
 unfold X5
 rw [Qeu, Option.bind_some, Qeu, Option.bind_some, if_pos (Qco.2 h.p), if_pos (Qco.2 h.s)]
def lo (b : List Ql) (i : Nat) : Int := (b.getD i default).Lo
def hi (b : List Ql) (i : Nat) : Int := (b.getD i default).Hi
structure BX (n : Nat) (b : List Ql) : Prop where
 len : b.length = n
 r : ∀ i, i < n -> -100000 <= lo b i /\ lo b i <= hi b i /\ hi b i <= 100000
theorem Q03 (k : Nat) (b : List Ql) (hb : b.length <= 1000) : ∀ (d fuel i : Nat), b.length = i + d -> d < fuel -> ∃ r, Qy k b fuel (i : Int) = some r /\ ((∃ e, r = .inl e /\ e ≠ 0) \/ r = .inr () /\ ∀ j, i <= j -> j < b.length -> -100000 <= lo b j /\ lo b j <= hi b j /\ hi b j <= 100000) := by
 intro d
 induction d with
 | zero =>
   intro fuel i he hf
   obtain ⟨f, rfl⟩ : ∃ f, fuel = f + 1 := ⟨fuel - 1, by omega⟩
   exact ⟨_, by rw [Qy.eq_2, if_neg (by omega)], .inr ⟨rfl, fun j h1 h2 => by omega⟩⟩
 | succ d ih =>
   intro fuel i he hf
   obtain ⟨f, rfl⟩ : ∃ f, fuel = f + 1 := ⟨fuel - 1, by omega⟩
   rw [Qy.eq_2, if_pos (by omega), if_pos (by omega), Int.toNat_natCast]
   unfold Jo
   rw [Yd, Yd]
   simp only [Option.bind_some]
   rw [show (b.getD i default).Lo = lo b i from rfl, show (b.getD i default).Hi = hi b i from rfl]
   by_cases c1 : inR (-100000) 100000 (lo b i) = true
   case neg => rw [if_neg c1]; exact ⟨_, rfl, .inl ⟨2, rfl, by decide⟩⟩
   rw [if_pos c1]
   by_cases c2 : inR (-100000) 100000 (hi b i) = true
   case neg => rw [if_neg c2]; exact ⟨_, rfl, .inl ⟨2, rfl, by decide⟩⟩
   rw [if_pos c2]
   by_cases c3 : hi b i < lo b i
   ·rw [if_pos c3]; exact ⟨_, rfl, .inl ⟨9, rfl, by decide⟩⟩
   rw [if_neg c3, J8 (by omega)]
   obtain ⟨r, e1, e2⟩ := ih f (i + 1) (by omega) (by omega)
   refine ⟨r, e1, ?_⟩
   rcases e2 with e2 | ⟨e2, e3⟩
   ·exact .inl e2
   ·refine .inr ⟨e2, fun j h1 h2 => ?_⟩
    rw [Qco] at c1 c2
    by_cases e : j = i
    ·rw [e]; omega
    ·exact e3 j (by omega) h2
theorem Q2w {k : Nat} (hk : 2000 < k) (b : List Ql) (hb : b.length <= 1000) : ∃ e, Xp k b = some e /\ (e = 0 -> BX b.length b) := by
 unfold Xp
 rw [Yd, Option.bind_some]
 by_cases c : inR 1 40 (b.length : Int) = true
 ·rw [if_pos c]
  obtain ⟨r, e1, e2⟩ := Q03 k b hb b.length k 0 (by omega) (by omega)
  rw [show Qy k b k 0 = _ from e1, Option.bind_some]
  rcases e2 with ⟨e, rfl, e2⟩ | ⟨rfl, e2⟩
  ·exact ⟨_, rfl, fun h => absurd h e2⟩
  ·exact ⟨_, rfl, fun _ => ⟨rfl, fun i hi => e2 i (by omega) hi⟩⟩
 ·rw [if_neg c]; exact ⟨_, rfl, fun e => by cases e⟩
theorem Q04 (k : Nat) (a : List Int) (ha : a.length <= 1000) (hh : ∀ j, j < a.length -> -100000 <= a.getD j 0 /\ a.getD j 0 <= 100000) : ∀ (d fuel i : Nat), a.length = i + d -> d < fuel -> Z5 k a fuel (i : Int) = some (.inr ()) := by
 intro d
 induction d with
 | zero =>
   intro fuel i he hf
   obtain ⟨f, rfl⟩ : ∃ f, fuel = f + 1 := ⟨fuel - 1, by omega⟩
   rw [Z5.eq_2, if_neg (by omega)]
 | succ d ih =>
   intro fuel i he hf
   obtain ⟨f, rfl⟩ : ∃ f, fuel = f + 1 := ⟨fuel - 1, by omega⟩
   rw [Z5.eq_2, if_pos (by omega), if_pos (by omega), Qeu, Option.bind_some, Int.toNat_natCast, if_pos (Qco.2 (hh i (by omega))), J8 (by omega)]
   exact ih f (i + 1) (by omega) (by omega)
theorem areH {k : Nat} (hk : 2000 < k) (a : List Int) (ha : a.length <= 1000) (hh : ∀ j, j < a.length -> -100000 <= a.getD j 0 /\ a.getD j 0 <= 100000) : Yo k a = some true := by
 unfold Yo
 rw [show Z5 k a k 0 = _ from Q04 k a ha hh a.length k 0 (by omega) (by omega)]; rfl
theorem Q05 {k : Nat} (hk : 2000 < k) {n : Nat} {b : List Ql} (B : BX n b) (hn : n <= 40) : ∀ (d fuel i : Nat), n = i + d -> d < fuel -> Zm k b fuel (i : Int) = some (.inr ()) := by
 have hl := B.len
 intro d
 induction d with
 | zero =>
   intro fuel i he hf
   obtain ⟨f, rfl⟩ : ∃ f, fuel = f + 1 := ⟨fuel - 1, by omega⟩
   rw [Zm.eq_2, if_neg (by omega)]
 | succ d ih =>
   intro fuel i he hf
   obtain ⟨f, rfl⟩ : ∃ f, fuel = f + 1 := ⟨fuel - 1, by omega⟩
   have hr := B.r i (by omega)
   rw [Zm.eq_2, if_pos (by omega), if_pos (by omega), Int.toNat_natCast, show (b.getD i default).Lo = lo b i from rfl, show (b.getD i default).Hi = hi b i from rfl]
   rw [areH hk [lo b i, hi b i] (by simp) (fun j hj => by
    match j, hj with
    | 0, _ => exact ⟨by simp; omega, by simp; omega⟩
    | 1, _ => exact ⟨by simp; omega, by simp; omega⟩), Option.bind_some, if_pos rfl, if_neg (by omega), J8 (by omega)]
   exact ih f (i + 1) (by omega) (by omega)
theorem Q2x {k : Nat} (hk : 2000 < k) {n : Nat} {b : List Ql} {t : Qg} (B : BX n b) (hn : 1 <= n /\ n <= 40) (ht : TL t) : Jp k b t = some 0 := by
 have hl := B.len
 unfold Jp Wu
 rw [Qeu, Option.bind_some, if_pos (Qco.2 (by omega)), show Zm k b k 0 = _ from Q05 hk B hn.2 n k 0 (by omega) (by omega)]
 simp only [Option.bind_some]
 rw [if_pos trivial, Q02 k ht]; rfl
def sz (n : Int) : Int := maxI n (0 - n)
def bnd (t : Qg) (x : Int × Int) : Int := minI t.Peak (t.Slope * sz (x.1 - x.2))
theorem Q06 (n : Int) : sz (0 - n) = sz n := by
 unfold sz maxI; split <;> split <;> omega
theorem Qy6 (t : Qg) (i j : Int) : bnd t (i, j) = bnd t (j, i) := by
 unfold bnd
 dsimp only
 rw [show i - j = 0 - (j - i) by omega, Q06]
theorem Qya (k : Nat) {a : Int} (ha : a.natAbs <= 1000000) : Qb4 k a = some (sz a) := by
 unfold Qb4 sz
 rw [Y7 (by omega) (by omega)]
theorem Q2y {a : Int} {m : Int} (h : -m <= a /\ a <= m) : 0 <= sz a /\ sz a <= m := by
 unfold sz maxI; split <;> omega
theorem Qt1 (k : Nat) {n : Nat} (hn : n <= 40) {t : Qg} (ht : TL t) {x : Int × Int} (h1 : 0 <= x.1 /\ x.1 < n) (h2 : 0 <= x.2 /\ x.2 < n) : Qax k t x.1 x.2 = some (bnd t x) := by
 have hs := Q2y (a := x.1 - x.2) (m := 40) (by omega)
 have hp := ht.s
 have hm : 0 <= t.Slope * sz (x.1 - x.2) /\ t.Slope * sz (x.1 - x.2) <= 200000 * 40 := ⟨Int.mul_nonneg hp.1 hs.1, Int.mul_le_mul hp.2 hs.2 hs.1 (by omega)⟩
 unfold Qax bnd
 rw [Y7 (n := x.1 - x.2) (by omega) (by omega), Qya k (by omega), Option.bind_some, Y7 (n := t.Slope * _) (by omega) (by omega)]
def lst (b : List Ql) (x : Int × Int) : Int := lo b x.1.toNat - hi b x.2.toNat
def mst (b : List Ql) (x : Int × Int) : Int := hi b x.1.toNat - lo b x.2.toNat
section
variable {k n : Nat} {b : List Ql} {t : Qg}
theorem Qy7 (B : BX n b) (hn : n <= 40) (ht : TL t) (r : Int) : ∀ xs : List (Int × Int), (∀ x, x ∈ xs -> (0 <= x.1 /\ x.1 < n) /\ 0 <= x.2 /\ x.2 < n) -> ∀ b2 b3 b4 a : Int, (a = 0 \/ a = 1) ->
 ∃ r', J4 k b t r xs b2 b3 b4 a = some r' /\ ((∃ z, r' = .inr z /\ z.1 = -1 /\ ∃ x, x ∈ xs /\ bnd t x < lst b x) \/ (∃ z, r' = .inl z /\ (z.2.2.2 = 0 \/ z.2.2.2 = 1 /\ a = 1 /\ ∀ x, x ∈ xs -> mst b x <= bnd t x))) := by
 have hl := B.len
 intro xs
 induction xs with
 | nil => intro _ b2 b3 b4 a ha; exact ⟨_, rfl, .inr ⟨_, rfl, by rcases ha with h | h; exact .inl h; exact .inr ⟨h, h, fun x hx => by cases hx⟩⟩⟩
 | cons x xs ih =>
   intro hx b2 b3 b4 a ha
   obtain ⟨h1, h2⟩ := hx x (by simp)
   have g1 := B.r x.1.toNat (by omega)
   have g2 := B.r x.2.toNat (by omega)
   have ih := ih (fun y hy => hx y (by simp [hy]))
   rw [J4.eq_2]
   unfold Qb8 Qa9 Qbj
   rw [if_pos (show 0 <= x.1 /\ x.1 < (b.length : Int) by omega), if_pos (show 0 <= x.2 /\ x.2 < (b.length : Int) by omega), if_pos (show 0 <= x.1 /\ x.1 < (b.length : Int) by omega), if_pos (show 0 <= x.2 /\ x.2 < (b.length : Int) by omega), Qt1 k hn ht h1 h2]
   rw [show (b.getD x.1.toNat default).Lo - (b.getD x.2.toNat default).Hi = lst b x from rfl, show (b.getD x.1.toNat default).Hi - (b.getD x.2.toNat default).Lo = mst b x from rfl, Y7 (n := lst b x) (by unfold lst; omega) (by unfold lst; omega), Y7 (n := mst b x) (by unfold mst; omega) (by unfold mst; omega)]
   simp only [Option.bind_some]
   by_cases c1 : bnd t x < lst b x
   ·rw [if_pos (decide_eq_true c1)]
    exact ⟨_, rfl, .inl ⟨_, rfl, rfl, x, by simp, c1⟩⟩
   rw [if_neg (by simpa using c1)]
   by_cases c2 : bnd t x < mst b x
   ·rw [if_pos c2]
    obtain ⟨r', e1, e2⟩ := ih b2 b3 b4 0 (.inl rfl)
    refine ⟨r', e1, ?_⟩
    rcases e2 with ⟨z, z1, z2, y, z3, z4⟩ | ⟨z, z1, z2⟩
    ·exact .inl ⟨z, z1, z2, y, by simp [z3], z4⟩
    ·exact .inr ⟨z, z1, .inl (by rcases z2 with z2 | ⟨_, z2, _⟩; exact z2; cases z2)⟩
   ·rw [if_neg c2]
    obtain ⟨r', e1, e2⟩ := ih b2 b3 b4 a ha
    refine ⟨r', e1, ?_⟩
    rcases e2 with ⟨z, z1, z2, y, z3, z4⟩ | ⟨z, z1, z2⟩
    ·exact .inl ⟨z, z1, z2, y, by simp [z3], z4⟩
    ·refine .inr ⟨z, z1, ?_⟩
     rcases z2 with z2 | ⟨z2, z3, z4⟩
     ·exact .inl z2
     ·refine .inr ⟨z2, z3, fun y hy => ?_⟩
      rcases List.mem_cons.1 hy with rfl | hy
      ·omega
      ·exact z4 y hy
def JA (n : Nat) (b : List Ql) (t : Qg) (a : Int) : Prop := (a = -1 /\ ∃ x, x ∈ Qf5 (n : Int) /\ bnd t x < lst b x) \/ a = 0 \/ (a = 1 /\ ∀ x, x ∈ Qf5 (n : Int) -> mst b x <= bnd t x)
theorem Qpp (B : BX n b) (hn : n <= 40) (ht : TL t) : ∃ a p, Ja k b t = some (a, p) /\ JA n b t a := by
 have hl := B.len
 unfold Ja
 rw [show Qbk k (b.length : Int) = some (b.length : Int) from rfl, Option.bind_some, if_pos (by omega), hl]
 obtain ⟨r, e1, e2⟩ := Qy7 (k := k) B hn ht (n : Int) (Qf5 (n : Int)) (fun x hx => by
  obtain ⟨a1, a2, a3, a4, _⟩ := (Qf4 n x).1 hx; exact ⟨⟨a1, a2⟩, a3, a4⟩) 0 0 0 1 (.inr rfl)
 rw [e1, Option.bind_some]
 rcases e2 with ⟨z, rfl, z1, z2⟩ | ⟨z, rfl, z1⟩
 ·exact ⟨_, _, rfl, .inl ⟨z1, z2⟩⟩
 ·rcases z1 with z1 | ⟨z1, _, z2⟩
  ·exact ⟨_, _, rfl, .inr (.inl z1)⟩
  ·exact ⟨_, _, rfl, .inr (.inr ⟨z1, z2⟩)⟩
theorem Qpq (hk : 2000 < k) (B : BX n b) (hn : 1 <= n /\ n <= 40) (ht : TL t) {a : Int} {p : A39} (h : Ja k b t = some (a, p)) : Jq k b t = some (a, p, 0) := by
 unfold Jq
 rw [Q2x hk B hn ht, Option.bind_some, if_pos rfl, h]; rfl
def hd (h : List Int) (x : Int × Int) : Int := sz (h.getD x.1.toNat 0 - h.getD x.2.toNat 0)
theorem Qy8 {h : List Int} (hl : h.length = n) (hn : n <= 40) (hh : ∀ j, j < n -> -100000 <= h.getD j 0 /\ h.getD j 0 <= 100000) (ht : TL t) (r : Int) : ∀ xs : List (Int × Int), (∀ x, x ∈ xs -> (0 <= x.1 /\ x.1 < n) /\ 0 <= x.2 /\ x.2 < n) -> ∀ b2 b3 b4 : Int,
 ∃ r', Yr k h t r xs b2 b3 b4 = some r' /\ ((∃ z, r' = .inr z /\ z.2.2 = 26 /\ ∃ x, x ∈ xs /\ bnd t x < hd h x) \/ (∃ z, r' = .inl z /\ ∀ x, x ∈ xs -> hd h x <= bnd t x)) := by
 intro xs
 induction xs with
 | nil => intro _ b2 b3 b4; exact ⟨_, rfl, .inr ⟨_, rfl, fun x hx => by cases hx⟩⟩
 | cons x xs ih =>
   intro hx b2 b3 b4
   obtain ⟨h1, h2⟩ := hx x (by simp)
   have g1 := hh x.1.toNat (by omega)
   have g2 := hh x.2.toNat (by omega)
   rw [Yr.eq_2, if_pos (by omega), if_pos (by omega), Y7 (n := h.getD x.1.toNat 0 - h.getD x.2.toNat 0) (by omega) (by omega), Qya k (by omega), Option.bind_some, Qt1 k hn ht h1 h2, Option.bind_some]
   show ∃ r', (if bnd t x < hd h x then _ else _) = _ /\ _
   by_cases c : bnd t x < hd h x
   ·rw [if_pos c]
    exact ⟨_, rfl, .inl ⟨_, rfl, rfl, x, by simp, c⟩⟩
   ·rw [if_neg c]
    obtain ⟨r', e1, e2⟩ := ih (fun y hy => hx y (by simp [hy])) b2 b3 b4
    refine ⟨r', e1, ?_⟩
    rcases e2 with ⟨z, z1, z2, y, z3, z4⟩ | ⟨z, z1, z2⟩
    ·exact .inl ⟨z, z1, z2, y, by simp [z3], z4⟩
    ·refine .inr ⟨z, z1, fun y hy => ?_⟩
     rcases List.mem_cons.1 hy with rfl | hy
     ·omega
     ·exact z2 y hy
def MA (n : Nat) (h : List Int) (t : Qg) (g : Int) : Prop := (g = 26 /\ ∃ x, x ∈ Qf5 (n : Int) /\ bnd t x < hd h x) \/ (g = 0 /\ ∀ x, x ∈ Qf5 (n : Int) -> hd h x <= bnd t x)
theorem Qy9 (hk : 2000 < k) {h : List Int} (hl : h.length = n) (hn : 1 <= n /\ n <= 40) (hh : ∀ j, j < n -> -100000 <= h.getD j 0 /\ h.getD j 0 <= 100000) (ht : TL t) : ∃ p g, Qb9 k h t = some (p, g) /\ MA n h t g := by
 have hc : Yv k h = some 0 := by
  unfold Yv
  rw [Qeu, Option.bind_some, if_pos (Qco.2 (by omega)), areH hk h (by omega) (fun j hj => hh j (by omega))]; rfl
 unfold Qb9
 rw [hc, Option.bind_some, if_pos rfl, Q02 k ht, Option.bind_some, if_pos rfl, show Qbk k (h.length : Int) = some (h.length : Int) from rfl, Option.bind_some, if_pos (by omega), hl]
 obtain ⟨r, e1, e2⟩ := Qy8 (k := k) hl hn.2 hh ht (n : Int) (Qf5 (n : Int)) (fun x hx => by
  obtain ⟨a1, a2, a3, a4, _⟩ := (Qf4 n x).1 hx; exact ⟨⟨a1, a2⟩, a3, a4⟩) 0 0 0
 rw [e1, Option.bind_some]
 rcases e2 with ⟨z, rfl, z1, z2⟩ | ⟨z, rfl, z1⟩
 ·exact ⟨_, _, rfl, .inl ⟨z1, z2⟩⟩
 ·exact ⟨_, _, rfl, .inr ⟨rfl, z1⟩⟩
theorem Qka {h : List Int} (hin : ∀ j, j < n -> lo b j <= h.getD j 0 /\ h.getD j 0 <= hi b j) {a g : Int} (ha : JA n b t a) (hg : MA n h t g) : (a = 1 -> g = 0) /\ (a = -1 -> g = 26) := by
 constructor
 ·intro e
  rcases ha with ⟨e1, _⟩ | e1 | ⟨_, hall⟩
  ·omega
  ·omega
  rcases hg with ⟨_, x, hx, hlt⟩ | ⟨hg, _⟩
  ·exfalso
   obtain ⟨a1, a2, a3, a4, a5⟩ := (Qf4 n x).1 hx
   have p1 := hall x hx
   have p2 := hall (x.2, x.1) ((Qf4 n _).2 ⟨a3, a4, a1, a2, fun e => a5 e.symm⟩)
   rw [Qy6] at p2
   have p2 : mst b (x.2, x.1) <= bnd t x := p2
   have i1 := hin x.1.toNat (by omega)
   have i2 := hin x.2.toNat (by omega)
   unfold mst at p1 p2
   dsimp only at p2
   unfold hd sz maxI at hlt
   split at hlt <;> omega
  ·exact hg
 ·intro e
  rcases ha with ⟨_, x, hx, hlt⟩ | e1 | ⟨e1, _⟩
  ·rcases hg with ⟨hg, _⟩ | ⟨_, hall⟩
   ·exact hg
   ·exfalso
    obtain ⟨a1, a2, a3, a4, a5⟩ := (Qf4 n x).1 hx
    have i1 := hin x.1.toNat (by omega)
    have i2 := hin x.2.toNat (by omega)
    have p := hall x hx
    unfold lst at hlt
    unfold hd sz maxI at p
    split at p <;> omega
  ·omega
  ·omega
theorem BX.set (B : BX n b) {i : Nat} (hi' : i < n) {v : Int} (hv : -100000 <= v /\ v <= 100000) : BX n (b.set i ⟨v, v⟩) := by
 refine ⟨by rw [List.length_set]; exact B.len, fun j hj => ?_⟩
 have hl := B.len
 have h := B.r j hj
 unfold lo hi at *
 rw [Qgu (by omega)]
 split
 ·exact ⟨hv.1, Int.le_refl _, hv.2⟩
 ·exact h
theorem Q07 {h : List Int} {i : Nat} (hi' : i < n) (hl : b.length = n) (hin : ∀ j, j < n -> lo b j <= h.getD j 0 /\ h.getD j 0 <= hi b j) : ∀ j, j < n -> lo (b.set i ⟨h.getD i 0, h.getD i 0⟩) j <= h.getD j 0 /\ h.getD j 0 <= hi (b.set i ⟨h.getD i 0, h.getD i 0⟩) j := fun j hj => by
 have := hin j hj
 unfold lo hi at *
 rw [Qgu (by omega)]
 split
 ·rename_i e; subst e; exact ⟨Int.le_refl _, Int.le_refl _⟩
 ·exact this
theorem Qt2 (hn : n <= 40) (B : BX n b) (ht : TL t) {i : Nat} (hi' : i < n) : ∀ (d fuel : Nat) (v : Int) (y : List Ql), hi b i + 1 = v + d -> d < fuel -> lo b i <= v -> y.length = n -> (∀ w, y.set i w = b.set i w) ->
 ∃ r, Xr k b t (i : Int) fuel y v = some r /\ (r = .inl () \/ r = .inr () /\ ∀ u, v <= u -> u <= hi b i -> ∃ a p, Ja k (b.set i ⟨u, u⟩) t = some (a, p) /\ a ≠ 0) := by
 have hl := B.len
 have hr := B.r i hi'
 intro d
 induction d with
 | zero =>
   intro fuel v y he hf _ hy hs
   obtain ⟨f, rfl⟩ : ∃ f, fuel = f + 1 := ⟨fuel - 1, by omega⟩
   refine ⟨_, by rw [Xr.eq_2, if_pos (by omega), Int.toNat_natCast, show (b.getD i default).Hi = hi b i from rfl, if_neg (by omega)], .inr ⟨rfl, fun u h1 h2 => by omega⟩⟩
 | succ d ih =>
   intro fuel v y he hf hv hy hs
   obtain ⟨f, rfl⟩ : ∃ f, fuel = f + 1 := ⟨fuel - 1, by omega⟩
   obtain ⟨a, p, e1, _⟩ := Qpp (k := k) (B.set hi' (v := v) (by omega)) hn ht
   rw [Xr.eq_2, if_pos (by omega), Int.toNat_natCast, show (b.getD i default).Hi = hi b i from rfl, if_pos (by omega), if_pos (by omega), hs, e1, Option.bind_some]
   dsimp only
   by_cases c : a = 0
   ·rw [if_pos c]; exact ⟨_, rfl, .inl rfl⟩
   ·rw [if_neg c, Y7 (n := v + 1) (by omega) (by omega)]
    obtain ⟨r, e2, e3⟩ := ih f (v + 1) (b.set i ⟨v, v⟩) (by omega) (by omega) (by omega) (by rw [List.length_set]; exact hl) (fun w => by rw [List.set_set])
    refine ⟨r, e2, ?_⟩
    rcases e3 with e3 | ⟨e3, e4⟩
    ·exact .inl e3
    ·refine .inr ⟨e3, fun u h1 h2 => ?_⟩
     by_cases e : u = v
     ·rw [e]; exact ⟨a, p, e1, c⟩
     ·exact e4 u (by omega) h2
theorem Qt3 (hk : 300000 < k) (hn : n <= 40) (B : BX n b) (ht : TL t) {i : Nat} (hi' : i < n) : ∃ r, Qbb k b t (i : Int) = some r /\ (r = true -> ∀ u, lo b i <= u -> u <= hi b i -> ∃ a p, Ja k (b.set i ⟨u, u⟩) t = some (a, p) /\ a ≠ 0) := by
 have hl := B.len
 have hr := B.r i hi'
 unfold Qbb
 have hc : Xc k b = some b := by
  unfold Xc
  rw [if_pos (by simp; omega)]; rfl
 rw [hc, Option.bind_some, if_pos (by omega), Int.toNat_natCast, show (b.getD i default).Lo = lo b i from rfl]
 obtain ⟨r, e1, e2⟩ := Qt2 (k := k) hn B ht hi' (hi b i + 1 - lo b i).toNat k (lo b i) b (by omega) (by omega) (Int.le_refl _) hl (fun w => rfl)
 rw [e1, Option.bind_some]
 rcases e2 with rfl | ⟨rfl, e2⟩
 ·exact ⟨_, rfl, fun e => by cases e⟩
 ·exact ⟨_, rfl, fun _ => e2⟩
def DA (k n : Nat) (b : List Ql) (t : Qg) (z : Int) : Prop := ∃ i : Nat, i < n /\ z = i /\ ∀ u, lo b i <= u -> u <= hi b i -> ∃ a p, Ja k (b.set i ⟨u, u⟩) t = some (a, p) /\ a ≠ 0
theorem Qsj (hk : 300000 < k) (hn : n <= 40) (B : BX n b) (ht : TL t) : ∀ (d fuel i : Nat), n = i + d -> d < fuel -> ∃ r, Xd k b t fuel (i : Int) = some r /\ ((∃ z, r = .inl z /\ DA k n b t z) \/ r = .inr ()) := by
 have hl := B.len
 intro d
 induction d with
 | zero =>
   intro fuel i he hf
   obtain ⟨f, rfl⟩ : ∃ f, fuel = f + 1 := ⟨fuel - 1, by omega⟩
   exact ⟨_, by rw [Xd.eq_2, if_neg (by omega)], .inr rfl⟩
 | succ d ih =>
   intro fuel i he hf
   obtain ⟨f, rfl⟩ : ∃ f, fuel = f + 1 := ⟨fuel - 1, by omega⟩
   obtain ⟨r, e1, e2⟩ := Qt3 hk hn B ht (i := i) (by omega)
   rw [Xd.eq_2, if_pos (by omega), e1, Option.bind_some]
   cases r with
   | true => rw [if_pos rfl]; exact ⟨_, rfl, .inl ⟨_, rfl, i, by omega, rfl, e2 rfl⟩⟩
   | false =>
     rw [if_neg (by decide), J8 (by omega)]
     exact ih f (i + 1) (by omega) (by omega)
theorem Q2z (hb : b.length <= 1000) : ∀ (d fuel i : Nat), b.length = i + d -> d < fuel -> ∃ r, Qj k b fuel (i : Int) = some r := by
 intro d
 induction d with
 | zero =>
   intro fuel i he hf
   obtain ⟨f, rfl⟩ : ∃ f, fuel = f + 1 := ⟨fuel - 1, by omega⟩
   exact ⟨_, by rw [Qj.eq_2, if_neg (by omega)]⟩
 | succ d ih =>
   intro fuel i he hf
   obtain ⟨f, rfl⟩ : ∃ f, fuel = f + 1 := ⟨fuel - 1, by omega⟩
   rw [Qj.eq_2, if_pos (by omega), if_pos (by omega)]
   unfold Qba
   rw [Option.bind_some]
   split
   ·exact ⟨_, rfl⟩
   ·rw [J8 (by omega)]
    exact ih f (i + 1) (by omega) (by omega)
theorem Qsk (hk : 2000 < k) (hb : b.length <= 1000) : ∃ r, Qr k b () = some r := by
 unfold Qr Zc
 obtain ⟨r, e⟩ := Q2z (k := k) hb b.length k 0 (by omega) (by omega)
 rw [show Qj k b k 0 = _ from e]
 cases r <;> exact ⟨_, rfl⟩
theorem Qsl (hk : 300000 < k) (hn : 1 <= n /\ n <= 40) (B : BX n b) (ht : TL t) {a : Int} {p : A39} (h : Ja k b t = some (a, p)) : ∃ z d, Jb k b t = some (z, d) /\ ((a ≠ 0 /\ d = 24) \/ (a = 0 /\ (d = 8 \/ d = 12)) \/ (a = 0 /\ d = 0 /\ DA k n b t z)) := by
 have hl := B.len
 unfold Jb
 rw [Qpq (by omega) B hn ht h, Option.bind_some]
 dsimp only
 rw [if_pos rfl]
 by_cases c : a = 0
 ·rw [if_pos c]
  obtain ⟨r, e⟩ := Qsk (k := k) (b := b) (by omega) (by omega)
  rw [e, Option.bind_some]
  cases r with
  | true => rw [if_pos rfl]; exact ⟨_, _, rfl, .inr (.inl ⟨c, .inl rfl⟩)⟩
  | false =>
    obtain ⟨r, e1, e2⟩ := Qsj hk hn.2 B ht n k 0 (by omega) (by omega)
    rw [if_neg (by decide), show Xd k b t k 0 = _ from e1, Option.bind_some]
    rcases e2 with ⟨z, rfl, e2⟩ | rfl
    ·exact ⟨_, _, rfl, .inr (.inr ⟨c, rfl, e2⟩)⟩
    ·exact ⟨_, _, rfl, .inr (.inl ⟨c, .inr rfl⟩)⟩
 ·rw [if_neg c]; exact ⟨_, _, rfl, .inl ⟨c, rfl⟩⟩
def hts (m : Ze) (n : Nat) : List Int := (List.range n).map fun i => gx m.Heights i - gx m.Heights 0
theorem Qir (m : Ze) (n : Nat) : (hts m n).length = n := by simp [hts]
theorem Qpr (m : Ze) {n i : Nat} (h : i < n) : (hts m n).getD i 0 = gx m.Heights i - gx m.Heights 0 := by
 simp [hts, List.getD_eq_getElem?_getD, List.getElem?_map, List.getElem?_range h]
theorem Q20 {m : Ze} (v : V m) (x : List Ql × List Int × Int) : ∀ (d fuel i : Nat), m.Heights.length = i + d -> d < fuel -> (∀ j, j < i -> -100000 <= gx m.Heights j - gx m.Heights 0 /\ gx m.Heights j - gx m.Heights 0 <= 100000) ->
 ∃ r, Q7 k m t x fuel (hts m i) (i : Int) = some r /\ (r = .inl () \/ r = .inr (hts m m.Heights.length) /\ ∀ j, j < m.Heights.length -> -100000 <= gx m.Heights j - gx m.Heights 0 /\ gx m.Heights j - gx m.Heights 0 <= 100000) := by
 have hn := v.n
 intro d
 induction d with
 | zero =>
   intro fuel i he hf hp
   obtain ⟨f, rfl⟩ : ∃ f, fuel = f + 1 := ⟨fuel - 1, by omega⟩
   refine ⟨_, by rw [Q7.eq_2, if_neg (by omega)], .inr ⟨by rw [show m.Heights.length = i by omega], fun j hj => hp j (by omega)⟩⟩
 | succ d ih =>
   intro fuel i he hf hp
   obtain ⟨f, rfl⟩ : ∃ f, fuel = f + 1 := ⟨fuel - 1, by omega⟩
   have h1 := v.h i (by omega)
   have h0 := v.h 0 (by omega)
   have ea : hts m i ++ [gx m.Heights i - gx m.Heights 0] = hts m (i + 1) := by simp [hts, List.range_succ]
   rw [Q7.eq_2, if_pos (by omega), if_pos (by omega), if_pos (by omega), Int.toNat_natCast, show m.Heights.getD i 0 = gx m.Heights i from rfl, show m.Heights.getD ((0 : Int)).toNat 0 = gx m.Heights 0 from rfl, Y7 (n := gx m.Heights i - gx m.Heights 0) (by omega) (by omega), ea, if_pos (by rw [Qir]; simp; omega), if_pos (by rw [Qir]; omega), if_pos (by rw [Qir]; omega), Yd, Option.bind_some, Qpr m (by omega)]
   by_cases c : inR (-100000) 100000 (gx m.Heights i - gx m.Heights 0) = true
   ·rw [if_pos c, J8 (by omega)]
    refine ih f (i + 1) (by omega) (by omega) (fun j hj => ?_)
    by_cases e : j = i
    ·rw [e]; exact Qco.1 c
    ·exact hp j (by omega)
   ·rw [if_neg c]; exact ⟨_, rfl, .inl rfl⟩
def tailE (k : Nat) (N : Int) (t : Qg) (b : List Ql) (h : List Int) (A G : Int) : Option Bool :=
 (Jb k b t).bind fun r3331 => (if r3331.2 = 0 then ((Qq k r3331.1 0 (w64 (N - 1))).bind fun r3336 => (if r3336 = true then ((Zx k b).bind fun r3340 => (if 0 <= r3331.1 /\ r3331.1 < (h.length : Int) then (if 0 <= r3331.1 /\ r3331.1 < (r3340.length : Int) then ((Jq k (r3340.set r3331.1.toNat (⟨(h.getD r3331.1.toNat 0), (h.getD r3331.1.toNat 0)⟩ : Ql)) t).bind fun r3349 => (if r3349.2.2 = 0 then (if r3349.1 = 0 then (some false) else (some ((decide (r3349.1 = 1)) == (decide (G = 0))))) else (some false))) else none) else none)) else (some false))) else (if A = 0 then (if r3331.2 = 8 then (some true) else (some (decide (r3331.2 = 12)))) else (some true)))
theorem Q08 (hk : 300000 < k) (hn : 1 <= n /\ n <= 40) (B : BX n b) (ht : TL t) {h : List Int} (hl : h.length = n) (hin : ∀ j, j < n -> lo b j <= h.getD j 0 /\ h.getD j 0 <= hi b j) {a : Int} {p : A39} (hj : Ja k b t = some (a, p)) {g : Int} (hg : MA n h t g) : tailE k (n : Int) t b h a g = some true := by
 have hbl := B.len
 obtain ⟨z, d, e1, e2⟩ := Qsl hk hn B ht hj
 unfold tailE
 rw [e1, Option.bind_some]
 dsimp only
 rcases e2 with ⟨c, rfl⟩ | ⟨c, hd⟩ | ⟨c, rfl, i, hi', rfl, hD⟩
 ·rw [if_neg (by decide), if_neg c]
 ·rcases hd with rfl | rfl
  ·rw [if_neg (by decide), if_pos c, if_pos rfl]
  ·rw [if_neg (by decide), if_pos c, if_neg (by decide)]; rfl
 ·have hi := hin i hi'
  have hr := B.r i hi'
  obtain ⟨a', p', f1, f2⟩ := hD (h.getD i 0) hi.1 hi.2
  have B' : BX n (b.set i ⟨h.getD i 0, h.getD i 0⟩) := B.set hi' (by omega)
  obtain ⟨a2, p2, g1, g2⟩ := Qpp (k := k) B' hn.2 ht
  rw [f1] at g1
  injection g1 with g1
  injection g1 with g1 _
  subst g1
  have hm := Qka (Q07 hi' hbl hin) g2 hg
  have hc : Zx k b = some b := by
   unfold Zx
   rw [if_pos (by simp; omega)]; rfl
  rw [if_pos rfl, Yd, Option.bind_some, Y7 (n := (n : Int) - 1) (by omega) (by omega), if_pos (Qco.2 (by omega)), hc, Option.bind_some, if_pos (by omega), if_pos (by omega), Int.toNat_natCast, Qpq (by omega) B' hn ht f1, Option.bind_some]
  dsimp only
  rw [if_pos rfl, if_neg f2]
  rcases g2 with ⟨ga, _⟩ | ga | ⟨ga, _⟩
  ·have := hm.2 ga
   rw [ga, this]; rfl
  ·exact absurd ga f2
  ·have := hm.1 ga
   rw [ga, this]; rfl
theorem Qt4 (k : Nat) (hk : 300000 < k) (m : Ze) (t : Qg) : Jk k m t = some true := by
 unfold Jk Qt5
 obtain ⟨r1, e1, c1⟩ := Qsm (k := k) (by omega) m (part := 1) (.inl rfl)
 rw [Option.bind_some, if_pos rfl, e1, Option.bind_some]
 rcases c1 with c1 | ⟨rfl, v⟩
 ·rw [if_neg (by rw [c1]; decide)]
 dsimp only
 obtain ⟨e, e2, e3⟩ := Q2v k t
 rw [if_pos rfl, e2, Option.bind_some]
 by_cases he : e = 0
 case neg => rw [if_neg he]
 rw [if_pos he]
 have T := e3 he
 have hn := v.n
 have q1 := Qza v (part := 1) (.inl rfl)
 have O1 := Q09 q1
 have P1 := Qwo O1 (Qwp v (.inl rfl))
 have hz : ((m.Heights.length : Int)).toNat = m.Heights.length := Int.toNat_natCast _
 by_cases hw : Whole m.Heights.length (legs (rds m 1 m.Pairs.length) 0)
 case neg =>
  rw [Qwq (by omega) O1 q1 ⟨_, P1⟩ (by rw [hz]; exact hw), Option.bind_some]
  dsimp only
  rw [if_neg (by decide)]
 have E1 := Q1b (k := k) (by omega) O1 q1 ⟨_, P1⟩ (by rw [hz]; exact hw)
 have hD := fun j (hj : j < m.Heights.length) => Qwr O1 P1 (by rw [hz]; exact hw) (j := j) (by rw [hz]; exact hj)
 rw [hz] at E1 hD
 rw [E1, Option.bind_some]
 dsimp only
 have hbl := Qq1 m.Heights.length (legs (rds m 1 m.Pairs.length) 0)
 have hbg := fun j (hj : j < m.Heights.length) => Qq2 (L := legs (rds m 1 m.Pairs.length) 0) hj
 generalize hbe : encl m.Heights.length (legs (rds m 1 m.Pairs.length) 0) = b at *
 obtain ⟨e', e4, e5⟩ := Q2w (k := k) (by omega) b (by omega)
 rw [if_pos rfl, e4, Option.bind_some]
 by_cases he' : e' = 0
 case neg => rw [if_neg he']
 have B : BX m.Heights.length b := by have := e5 he'; rw [hbl] at this; exact this
 rw [if_pos he', if_pos (by omega)]
 obtain ⟨r, f1, f2⟩ := Q20 (k := k) (t := t) v (b, [], 0) m.Heights.length k 0 (by omega) (by omega) (fun j hj => by omega)
 have f1' : Q7 k m t (b, [], 0) k ([] : List Int) 0 = some r := f1
 rw [f1', Option.bind_some]
 rcases f2 with rfl | ⟨rfl, hh⟩
 ·rfl
 dsimp only
 have hin : ∀ j, j < m.Heights.length -> lo b j <= (hts m m.Heights.length).getD j 0 /\ (hts m m.Heights.length).getD j 0 <= hi b j := fun j hj => by
  rw [Qpr m hj]
  unfold lo hi
  rw [hbg j hj]
  exact ⟨(hD j hj).1, (hD j hj).2.1⟩
 obtain ⟨a, p, j1, j2⟩ := Qpp (k := k) B (by omega) T
 obtain ⟨p', g, m1, m2⟩ := Qy9 (k := k) (by omega) (Qir m m.Heights.length) (by omega) (fun j hj => by rw [Qpr m hj]; exact hh j hj) T
 have hc : X6 k (hts m m.Heights.length) = some (hts m m.Heights.length) := Qws k (by rw [Qir]; omega)
 have tl := Q08 hk (by omega) B T (Qir m m.Heights.length) hin j1 m2
 obtain ⟨jm1, jm2⟩ := Qka hin j2 m2
 rw [Qpq (by omega) B (by omega) T j1, Option.bind_some, hc, Option.bind_some, m1, Option.bind_some]
 dsimp only
 rw [if_pos rfl]
 rcases m2 with ⟨rfl, _⟩ | ⟨rfl, _⟩
 ·rw [if_neg (show ¬ (26 : Int) = 0 by decide), if_pos rfl, if_neg (fun h => by have := jm1 h; omega)]
  by_cases c : a = -1
  ·rw [if_pos c]; exact tl
  ·rw [if_neg c]; exact tl
 ·rw [if_pos rfl]
  by_cases c : a = 1
  ·rw [if_pos c, if_neg (by omega)]; exact tl
  ·rw [if_neg c, if_neg (fun h => by have := jm2 h; omega)]; exact tl
end
theorem Qwt (m : Ze) (t : Qg) : VC Try.prog 3 [.ag (Jr m), .ag (Qb t)] (vb true) :=
 Qcp 400000 m t true (Qt4 400000 (by omega) m t)
end Go.Proofs.Ytjfkkcldffgekaa.Vg
