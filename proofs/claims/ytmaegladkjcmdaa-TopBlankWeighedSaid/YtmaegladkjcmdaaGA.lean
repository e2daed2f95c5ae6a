import Derived.Test.YtmaegladkjcmdaaG1
import Derived.Test.YtmaegladkjcmdaaWb
set_option linter.unusedVariables false
set_option linter.unusedSimpArgs false
namespace Go.Proofs.Ytmaegladkjcmdaa.Vg
open Go Go.Proofs.Ytmaegladkjcmdaa.Ev Go.Proofs.Ytmaegladkjcmdaa.Vv
theorem Jv {n : Int} (h1 : -9223372036854775808 <= n) (h2 : n <= 9223372036854775807) : w64 n = n := by
 unfold w64 IntKind.wrap
 simp [IntKind.signed, IntKind.bits]
 omega
theorem Qds {i : Nat} (h : i < 1000000000000) : w64 ((i : Int) + 1) = ((i + 1 : Nat) : Int) := by
 rw [Jv (by omega) (by omega)]; omega
theorem Qk7 {α : Type} {y : List α} {i : Nat} (h : i < y.length) (d : α) : y.drop i = y.getD i d :: y.drop (i + 1) := by
 rw [List.drop_eq_getElem_cons h, List.getD_eq_getElem?_getD, List.getElem?_eq_getElem h]; rfl
def sumE (e : Int) : Sum Int Unit := if e = 0 then .inr () else .inl e
theorem Qve : sumE 0 = .inr () := rfl
theorem Ql3 {e : Int} (h : e ≠ 0) : sumE e = .inl e := if_neg h
def inR (a b n : Int) : Bool := decide (a <= n /\ n <= b)
theorem Qi9 {a b n : Int} : inR a b n = true ↔ a <= n /\ n <= b := by unfold inR; exact decide_eq_true_iff
theorem Qi2 (k : Nat) (a b c : Int) : Z8 k a b c = some (inR b c a) := by
 unfold Z8 inR
 by_cases h : b <= a <;> simp [h]
theorem Qs7 (k : Nat) (a b c : Int) : Jt k a b c = some (inR b c a) := by
 unfold Jt inR
 by_cases h : b <= a <;> simp [h]
theorem Qn9 (k : Nat) (n a b : Int) : Zl k n a b = some (inR a b n, 2) := by
 unfold Zl
 rw [Qs7]; rfl
theorem Qwp (k : Nat) (b : Bool) (e : Int) : Zj k b e = some (if b = true then 0 else e) := by
 unfold Zj
 cases b <;> rfl
def Qdj {α : Type} (f : α -> Int) : List α -> Int
 | [] => 0
 | x :: xs => if f x = 0 then Qdj f xs else f x
theorem Qhi {α : Type} {f : α -> Int} : ∀ {l : List α}, Qdj f l = 0 -> ∀ x ∈ l, f x = 0
 | [], _, x, hx => by cases hx
 | y :: l, h, x, hx => by
   unfold Qdj at h
   by_cases hy : f y = 0
   ·rw [if_pos hy] at h
    rcases List.mem_cons.1 hx with rfl | hx
    ·exact hy
    ·exact Qhi h x hx
   ·rw [if_neg hy] at h; exact absurd h hy
theorem Qii {n d : Int} (hd : 0 < d) : (if n.tmod d < 0 then n.tdiv d - 1 else n.tdiv d) = n / d := by
 have h := Int.mul_tdiv_add_tmod n d
 have h1 : n.tmod d < d := Int.tmod_lt_of_pos n hd
 have h2 : -d < n.tmod d := by
  have := Int.lt_tmod_of_pos n hd
  omega
 split
 ·rename_i hn
  symm
  rw [Int.ediv_eq_iff_of_pos hd]
  constructor <;> (rw [Int.sub_mul, Int.mul_comm] ; omega)
 ·symm
  rw [Int.ediv_eq_iff_of_pos hd]
  constructor <;> (rw [Int.mul_comm]; omega)
theorem Qpd {n d : Int} (hn : -9000000000000000000 <= n /\ n <= 9000000000000000000) (hd : 0 < d) : -9000000000000000000 <= n / d /\ n / d <= 9000000000000000000 := by
 constructor
 ·refine Int.le_ediv_of_mul_le hd ?_
  have : (-9000000000000000000 : Int) * d <= -9000000000000000000 * 1 := Int.mul_le_mul_of_nonpos_left (by omega) (by omega)
  omega
 ·refine Int.ediv_le_of_le_mul hd ?_
  have : (9000000000000000000 : Int) * 1 <= 9000000000000000000 * d := Int.mul_le_mul_of_nonneg_left (by omega) (by omega)
  omega
theorem Qmz {n d : Int} (hn : -9000000000000000000 <= n /\ n <= 9000000000000000000) (hd : 0 < d) : -9000000000000000001 <= n.tdiv d /\ n.tdiv d <= 9000000000000000001 := by
 have h1 := Qii (n := n) hd
 have h2 := Qpd hn hd
 split at h1 <;> omega
def cdiv (n d : Int) : Int := -((-n) / d)
def rnd (n d : Int) : Qct := ⟨n / d, cdiv n d⟩
theorem Qpe (k : Nat) {n d : Int} (hn : -9000000000000000000 <= n /\ n <= 9000000000000000000) (hd : 0 < d) : Qan k n d = some (n / d) := by
 have hb := Qmz hn hd
 unfold Qan
 rw [if_pos (by omega), <- Qii hd]
 simp only [Jv (show -9223372036854775808 <= n.tdiv d by omega) (by omega), Jv (show -9223372036854775808 <= n.tdiv d - 1 by omega) (by omega)]
 split <;> rfl
theorem Qwq (k : Nat) {n d : Int} (hn : -9000000000000000000 <= n /\ n <= 9000000000000000000) (hd : 0 < d) : Qb9 k n d = some (cdiv n d) := by
 unfold Qb9 cdiv
 have := Qpd (n := -n) (d := d) (by omega) hd
 rw [Jv (by omega) (by omega), show 0 - n = -n by omega, Qpe k (by omega) hd, Option.bind_some, Jv (by omega) (by omega)]
 congr 1; omega
theorem Qvf {n d : Int} (hd : 0 < d) : (if 0 < n.tmod d then n.tdiv d + 1 else n.tdiv d) = cdiv n d := by
 unfold cdiv
 rw [<- Qii hd, Int.neg_tmod, Int.neg_tdiv]
 by_cases c : 0 < n.tmod d
 ·rw [if_pos c, if_pos (by omega)]; omega
 ·rw [if_neg c, if_neg (by omega)]; omega
theorem Qqi (k : Nat) {n d : Int} (hn : -9000000000000000000 <= n /\ n <= 9000000000000000000) (hd : 0 < d) : Qda k n d = some (rnd n d) := by
 have hb := Qmz hn hd
 unfold Qda rnd
 rw [if_pos (by omega), <- Qii hd, <- Qvf hd]
 simp only [Jv (show -9223372036854775808 <= n.tdiv d by omega) (by omega), Jv (show -9223372036854775808 <= n.tdiv d - 1 by omega) (by omega), Jv (show -9223372036854775808 <= n.tdiv d + 1 by omega) (by omega)]
 by_cases c1 : n.tmod d < 0 <;> by_cases c2 : 0 < n.tmod d <;> simp only [c1, c2, if_true, if_false]
theorem cdiv_le {n d c : Int} (hd : 0 < d) : cdiv n d <= c ↔ n <= c * d := by
 unfold cdiv
 have : -c <= (-n) / d ↔ -c * d <= -n := Int.le_ediv_iff_mul_le hd
 rw [Int.neg_mul] at this
 omega
theorem Qhj {α : Type} [Inhabited α] {l : List α} {i : Nat} (h : i < l.length) : l.getD i default ∈ l := by
 rw [List.getD_eq_getElem?_getD, List.getElem?_eq_getElem h]; exact List.getElem_mem h
theorem Qjt {x y A B : Int} (h1 : 0 <= x /\ x <= A) (h2 : 0 <= y /\ y <= B) : 0 <= x * y /\ x * y <= A * B :=
 ⟨Int.mul_nonneg h1.1 h2.1, Int.mul_le_mul h1.2 h2.2 h2.1 (Int.le_trans h1.1 h1.2)⟩
def Qf8 (p : Qk) (t : Int) : Int := if (inR 1 1000 p.Outer && inR 0 (p.Outer - 1) p.Inner && inR 0 t p.From && inR 0 t p.To && inR 0 100 p.Count) = true then (if p.From < p.To then (if p.Count = 0 \/ p.Inner = 0 then 0 else 3) else 9) else 2
def rimV (c : Qr) : Int := match c.Up with | true => c.At + c.Height | false => c.At - c.Height
def capE (c : Qr) (t : Int) : Int := if (inR 1 100000 c.Radius && inR 1 (minI c.Radius 500) c.Height && inR 0 t c.At && inR 0 t (rimV c)) = true then 0 else 2
def sg (n : Int) (b : Bool) : Int := match b with | true => -n | false => n
def Qd9 (p : Qk) : Int := 3 * (p.Outer * p.Outer - p.Inner * p.Inner) * (p.To - p.From) * maxI p.Count 1
def capV (c : Qr) : Int := 4 * c.Height * c.Height * (3 * c.Radius - c.Height)
def capD (c : Qr) : Int := 2 * c.Height * c.Height * c.Height * (8 * c.Radius - 3 * c.Height)
def Qcq (p : Qk) : Int := sg (Qd9 p) p.Cut
def capS (c : Qr) : Int := sg (capV c) c.Cut
def Qd8 (p : Qk) : Int := Qcq p * (p.From + p.To)
def capM (c : Qr) : Int := 2 * capS c * c.At + sg (sg (capD c) c.Cut) (!c.Up)
def tsum {α : Type} (f : α -> Int) : List α -> Int
 | [] => 0
 | x :: l => f x + tsum f l
theorem Qvg {α : Type} {f : α -> Int} {B : Int} (hB : 0 <= B) : ∀ {l : List α}, (∀ x ∈ l, -B <= f x /\ f x <= B) -> -(B * l.length) <= tsum f l /\ tsum f l <= B * l.length
 | [], _ => by simp [tsum]
 | x :: l, h => by
   have h1 := h x (by simp)
   have h2 := Qvg hB (l := l) (fun y hy => h y (by simp [hy]))
   simp only [tsum, List.length_cons]
   have : B * ((l.length + 1 : Nat) : Int) = B * l.length + B := by rw [show ((l.length + 1 : Nat) : Int) = (l.length : Int) + 1 by omega, Int.mul_add]; omega
   rw [this]; omega
theorem Qr1 {α : Type} (f : α -> Int) : ∀ (l r : List α), tsum f (l ++ r) = tsum f l + tsum f r
 | [], r => by simp [tsum]
 | x :: l, r => by simp only [List.cons_append, tsum, Qr1 f l r]; omega
def volV (g : Zd) : Int := tsum Qcq g.Parts + tsum capS g.Caps
def momV (g : Zd) : Int := tsum Qd8 g.Parts + tsum capM g.Caps
structure Qju (p : Qk) (t : Int) : Prop where
 o : 1 <= p.Outer /\ p.Outer <= 1000
 i : 0 <= p.Inner /\ p.Inner <= p.Outer - 1
 f : 0 <= p.From /\ p.From <= t
 t : 0 <= p.To /\ p.To <= t
 c : 0 <= p.Count /\ p.Count <= 100
 ft : p.From < p.To
 ci : p.Count = 0 \/ p.Inner = 0
structure Qmn (c : Qr) (t : Int) : Prop where
 r : 1 <= c.Radius /\ c.Radius <= 100000
 h : 1 <= c.Height /\ c.Height <= 500 /\ c.Height <= c.Radius
 a : 0 <= c.At /\ c.At <= t
 m : 0 <= rimV c /\ rimV c <= t
theorem Qju.of {p : Qk} {t : Int} (h : Qf8 p t = 0) : Qju p t := by
 unfold Qf8 at h
 split at h
 case isFalse => cases h
 rename_i h1
 split at h
 case isFalse => cases h
 split at h
 case isFalse => cases h
 simp only [Bool.and_eq_true, Qi9] at h1
 obtain ⟨⟨⟨⟨h1, h2⟩, h3⟩, h4⟩, h5⟩ := h1
 exact ⟨h1, h2, h3, h4, h5, ‹_›, ‹_›⟩
theorem Qvh (x y : Int) : minI x y <= x /\ minI x y <= y := by unfold minI; split <;> omega
theorem Qmn.of {c : Qr} {t : Int} (h : capE c t = 0) : Qmn c t := by
 unfold capE at h
 split at h
 case isFalse => cases h
 rename_i h1
 simp only [Bool.and_eq_true, Qi9] at h1
 obtain ⟨⟨⟨h1, h2⟩, h3⟩, h4⟩ := h1
 have := Qvh c.Radius 500
 exact ⟨h1, by omega, h3, h4⟩
theorem Qr2 {n : Int} (h : 0 <= n /\ n <= 100) : 1 <= maxI n 1 /\ maxI n 1 <= 100 := by unfold maxI; split <;> omega
structure Q2p (p : Qk) : Prop where
 b1 : 0 <= p.Outer * p.Outer /\ p.Outer * p.Outer <= 1000 * 1000
 b2 : 0 <= p.Inner * p.Inner /\ p.Inner * p.Inner <= 1000 * 1000
 b3 : 0 < p.Outer * p.Outer - p.Inner * p.Inner
 b4 : 0 <= 3 * (p.Outer * p.Outer - p.Inner * p.Inner) * (p.To - p.From) /\ 3 * (p.Outer * p.Outer - p.Inner * p.Inner) * (p.To - p.From) <= 3000000 * 500
 b5 : 0 <= Qd9 p /\ Qd9 p <= 3000000 * 500 * 100
 b6 : 0 < Qd9 p
theorem Qju.bd {p : Qk} {t : Int} (h : Qju p t) (ht : t <= 500) : Q2p p := by
 have b1 := Qjt (show 0 <= p.Outer /\ p.Outer <= 1000 by have := h.o; omega) (show 0 <= p.Outer /\ p.Outer <= 1000 by have := h.o; omega)
 have b2 := Qjt (show 0 <= p.Inner /\ p.Inner <= 1000 by have := h.o; have := h.i; omega) (show 0 <= p.Inner /\ p.Inner <= 1000 by have := h.o; have := h.i; omega)
 have b3 : 0 < p.Outer * p.Outer - p.Inner * p.Inner := by
  have : p.Outer * p.Outer - p.Inner * p.Inner = (p.Outer - p.Inner) * (p.Outer + p.Inner) := by grind
  rw [this]; exact Int.mul_pos (by have := h.i; omega) (by have := h.i; have := h.o; omega)
 have b4 := Qjt (show 0 <= 3 * (p.Outer * p.Outer - p.Inner * p.Inner) /\ 3 * (p.Outer * p.Outer - p.Inner * p.Inner) <= 3000000 by omega) (show 0 <= p.To - p.From /\ p.To - p.From <= 500 by have := h.f; have := h.t; have := h.ft; omega)
 have hm := Qr2 h.c
 have b5 := Qjt b4 (show 0 <= maxI p.Count 1 /\ maxI p.Count 1 <= 100 by omega)
 refine ⟨b1, b2, b3, b4, b5, ?_⟩
 exact Int.mul_pos (Int.mul_pos (by omega) (by have := h.ft; omega)) (by omega)
structure CapB (c : Qr) : Prop where
 b1 : 0 <= 4 * c.Height * c.Height /\ 4 * c.Height * c.Height <= 2000 * 500
 b2 : 0 <= capV c /\ capV c <= 2000 * 500 * 300000
 b3 : 0 <= 2 * c.Height * c.Height /\ 2 * c.Height * c.Height <= 1000 * 500
 b4 : 0 <= 2 * c.Height * c.Height * c.Height /\ 2 * c.Height * c.Height * c.Height <= 1000 * 500 * 500
 b5 : 0 <= capD c /\ capD c <= 1000 * 500 * 500 * 800000
theorem Qmn.bd {c : Qr} {t : Int} (h : Qmn c t) : CapB c := by
 have hh := h.h
 have hr := h.r
 have b1 := Qjt (show 0 <= 4 * c.Height /\ 4 * c.Height <= 2000 by omega) (show 0 <= c.Height /\ c.Height <= 500 by omega)
 have b2 := Qjt b1 (show 0 <= 3 * c.Radius - c.Height /\ 3 * c.Radius - c.Height <= 300000 by omega)
 have b3 := Qjt (show 0 <= 2 * c.Height /\ 2 * c.Height <= 1000 by omega) (show 0 <= c.Height /\ c.Height <= 500 by omega)
 have b4 := Qjt b3 (show 0 <= c.Height /\ c.Height <= 500 by omega)
 have b5 := Qjt b4 (show 0 <= 8 * c.Radius - 3 * c.Height /\ 8 * c.Radius - 3 * c.Height <= 800000 by omega)
 exact ⟨b1, b2, b3, b4, b5⟩
theorem Qwr {n B : Int} (h : 0 <= n /\ n <= B) (b : Bool) : -B <= sg n b /\ sg n b <= B := by cases b <;> simp only [sg] <;> omega
theorem Qjv (k : Nat) {n : Int} (h : -9000000000000000000 <= n /\ n <= 9000000000000000000) (b : Bool) : Qb6 k n b = some (sg n b) := by
 unfold Qb6 sg
 cases b
 ·rfl
 ·rw [if_pos rfl, Jv (by omega) (by omega)]
  show some (0 - n) = some (-n)
  congr 1; omega
theorem Qr3 (k : Nat) {n : Int} (h : -9000000000000000000 <= n /\ n <= 9000000000000000000) (b : Bool) : Qav k n b = some (sg n b) := Qjv k h b
theorem Qvi {p : Qk} {t : Int} (h : Qju p t) (ht : t <= 500) : w64 ((w64 ((w64 (3 * (w64 ((w64 (p.Outer * p.Outer)) - (w64 (p.Inner * p.Inner)))))) * (w64 (p.To - p.From)))) * (maxI p.Count 1)) = Qd9 p := by
 obtain ⟨b1, b2, b3, b4, b5, _⟩ := h.bd ht
 have hf := h.f
 have ht := h.t
 unfold Qd9 at b5 ⊢
 rw [Jv (n := p.Outer * p.Outer) (by omega) (by omega), Jv (n := p.Inner * p.Inner) (by omega) (by omega), Jv (n := p.Outer * p.Outer - p.Inner * p.Inner) (by omega) (by omega), Jv (n := 3 * (p.Outer * p.Outer - p.Inner * p.Inner)) (by omega) (by omega), Jv (n := p.To - p.From) (by omega) (by omega), Jv (n := 3 * (p.Outer * p.Outer - p.Inner * p.Inner) * (p.To - p.From)) (by omega) (by omega), Jv (by omega) (by omega)]
theorem Qxy (k : Nat) {p : Qk} {t : Int} (h : Qju p t) (ht : t <= 500) : Qbj k p = some (Qcq p) := by
 have b5 := (h.bd ht).b5
 unfold Qbj
 rw [Qvi h ht, Qjv k (by omega)]; rfl
theorem Q1p (k : Nat) {p : Qk} {t : Int} (h : Qju p t) (ht : t <= 500) : Yy k p = some (Qd9 p) := by
 unfold Yy
 rw [Qvi h ht]
theorem Qxz {c : Qr} {t : Int} (h : Qmn c t) : w64 ((w64 ((w64 (4 * c.Height)) * c.Height)) * (w64 ((w64 (3 * c.Radius)) - c.Height))) = capV c := by
 obtain ⟨b1, b2, _, _, _⟩ := h.bd
 have hh := h.h
 have hr := h.r
 unfold capV at b2 ⊢
 rw [Jv (n := 4 * c.Height) (by omega) (by omega), Jv (n := 4 * c.Height * c.Height) (by omega) (by omega), Jv (n := 3 * c.Radius) (by omega) (by omega), Jv (n := 3 * c.Radius - c.Height) (by omega) (by omega), Jv (by omega) (by omega)]
theorem Q1q {c : Qr} {t : Int} (h : Qmn c t) : w64 ((w64 ((w64 ((w64 (2 * c.Height)) * c.Height)) * c.Height)) * (w64 ((w64 (8 * c.Radius)) - (w64 (3 * c.Height))))) = capD c := by
 obtain ⟨_, _, b3, b4, b5⟩ := h.bd
 have hh := h.h
 have hr := h.r
 unfold capD at b5 ⊢
 rw [Jv (n := 2 * c.Height) (by omega) (by omega), Jv (n := 2 * c.Height * c.Height) (by omega) (by omega), Jv (n := 2 * c.Height * c.Height * c.Height) (by omega) (by omega), Jv (n := 8 * c.Radius) (by omega) (by omega), Jv (n := 3 * c.Height) (by omega) (by omega), Jv (n := 8 * c.Radius - 3 * c.Height) (by omega) (by omega), Jv (by omega) (by omega)]
theorem Q1r (k : Nat) {c : Qr} {t : Int} (h : Qmn c t) : Qb3 k c = some (capS c) := by
 have b5 := h.bd.b2
 unfold Qb3
 rw [Qxz h, Qjv k (by omega)]; rfl
theorem Q2q (k : Nat) {c : Qr} {t : Int} (h : Qmn c t) : Y8 k c = some (capV c) := by
 unfold Y8
 rw [Qxz h]
structure GlO (g : Zd) : Prop where
 de : 1 <= g.Density /\ g.Density <= 10000
 th : 1 <= g.Thick /\ g.Thick <= 500
 np : g.Parts.length <= 40
 nc : g.Caps.length <= 4
 pa : ∀ p ∈ g.Parts, Qju p g.Thick
 ca : ∀ c ∈ g.Caps, Qmn c g.Thick
theorem GlO.Qcq {g : Zd} (h : GlO g) : ∀ p ∈ g.Parts, -150000000000 <= Qcq p /\ Qcq p <= 150000000000 := fun p hp => by
 have := ((h.pa p hp).bd h.th.2).b5
 have := Qwr this p.Cut
 exact ⟨by unfold Vg.Qcq; omega, by unfold Vg.Qcq; omega⟩
theorem GlO.capS {g : Zd} (h : GlO g) : ∀ c ∈ g.Caps, -300000000000 <= capS c /\ capS c <= 300000000000 := fun c hc => by
 have := (h.ca c hc).bd.b2
 have := Qwr this c.Cut
 exact ⟨by unfold Vg.capS; omega, by unfold Vg.capS; omega⟩
theorem Qvj {x y A B : Int} (h1 : -A <= x /\ x <= A) (h2 : 0 <= y /\ y <= B) (hA : 0 <= A) : -(A * B) <= x * y /\ x * y <= A * B := by
 have := Int.mul_le_mul_of_nonneg_right h1.2 h2.1
 have := Int.mul_le_mul_of_nonneg_right h1.1 h2.1
 have := Int.mul_le_mul_of_nonneg_left h2.2 hA
 rw [Int.neg_mul] at *
 omega
theorem GlO.Qd8 {g : Zd} (h : GlO g) : ∀ p ∈ g.Parts, -150000000000000 <= Qd8 p /\ Qd8 p <= 150000000000000 := fun p hp => by
 have hp' := h.pa p hp
 have h1 := hp'.f
 have h2 := hp'.t
 have h3 := h.th
 have := Qvj (h.Qcq p hp) (show 0 <= p.From + p.To /\ p.From + p.To <= 1000 by omega) (by omega)
 unfold Vg.Qd8; omega
theorem GlO.capM {g : Zd} (h : GlO g) : ∀ c ∈ g.Caps, -500000000000000 <= capM c /\ capM c <= 500000000000000 := fun c hc => by
 have hc' := h.ca c hc
 have h1 := hc'.a
 have h3 := h.th
 have b5 := hc'.bd.b5
 have hs := h.capS c hc
 have := Qvj (x := 2 * Vg.capS c) (A := 600000000000) (by omega) (show 0 <= c.At /\ c.At <= 500 by omega) (by omega)
 have h5 : -200000000000000 <= sg (sg (capD c) c.Cut) (!c.Up) /\ sg (sg (capD c) c.Cut) (!c.Up) <= 200000000000000 := by
  cases c.Cut <;> cases c.Up <;> simp only [sg, Bool.not_true, Bool.not_false] <;> omega
 unfold Vg.capM; omega
theorem Qk8 {α : Type} {f : α -> Int} {B : Int} (hB : 0 <= B) {l : List α} {n : Nat} (hn : l.length <= n) (h : ∀ x ∈ l, -B <= f x /\ f x <= B) : -(B * n) <= tsum f l /\ tsum f l <= B * n := by
 have := Qvg hB h
 have h2 : B * (l.length : Int) <= B * n := Int.mul_le_mul_of_nonneg_left (by omega) hB
 omega
theorem Qcb {α : Type} [Inhabited α] (f : α -> Int) {l : List α} {i : Nat} (h : i < l.length) : tsum f (l.take i) + f (l.getD i default) = tsum f (l.take (i + 1)) := by
 rw [List.take_succ_eq_append_getElem h, Qr1, List.getD_eq_getElem?_getD, List.getElem?_eq_getElem h]; simp [tsum]
theorem Qk9 {α : Type} {l : List α} {p : α -> Prop} (h : ∀ x ∈ l, p x) (i : Nat) : ∀ x ∈ l.take i, p x := fun x hx => h x (List.mem_of_mem_take hx)
section
variable {g : Zd}
theorem GlO.vb (h : GlO g) (i j : Nat) : -10000000000000 <= tsum Vg.Qcq (g.Parts.take i) + tsum Vg.capS (g.Caps.take j) /\ tsum Vg.Qcq (g.Parts.take i) + tsum Vg.capS (g.Caps.take j) <= 10000000000000 := by
 have h1 := Qk8 (n := 40) (by omega) (l := g.Parts.take i) (by have := h.np; simp; omega) (Qk9 h.Qcq i)
 have h2 := Qk8 (n := 4) (by omega) (l := g.Caps.take j) (by have := h.nc; simp; omega) (Qk9 h.capS j)
 omega
theorem GlO.mb (h : GlO g) (i j : Nat) : -8000000000000000 <= tsum Vg.Qd8 (g.Parts.take i) + tsum Vg.capM (g.Caps.take j) /\ tsum Vg.Qd8 (g.Parts.take i) + tsum Vg.capM (g.Caps.take j) <= 8000000000000000 := by
 have h1 := Qk8 (n := 40) (by omega) (l := g.Parts.take i) (by have := h.np; simp; omega) (Qk9 h.Qd8 i)
 have h2 := Qk8 (n := 4) (by omega) (l := g.Caps.take j) (by have := h.nc; simp; omega) (Qk9 h.capM j)
 omega
theorem Q1s (k : Nat) (h : GlO g) : ∀ (d fuel i : Nat), g.Parts.length = i + d -> d < fuel -> J4 k g fuel (i : Int) (tsum Vg.Qcq (g.Parts.take i)) = some (tsum Vg.Qcq g.Parts) := by
 have hn := h.np
 intro d
 induction d with
 | zero =>
   intro fuel i he hf
   obtain ⟨f, rfl⟩ : ∃ f, fuel = f + 1 := ⟨fuel - 1, by omega⟩
   rw [J4.eq_2, if_neg (by omega), List.take_of_length_le (by omega)]
 | succ d ih =>
   intro fuel i he hf
   obtain ⟨f, rfl⟩ : ∃ f, fuel = f + 1 := ⟨fuel - 1, by omega⟩
   have hb := h.vb (i + 1) 0
   simp only [List.take_zero, tsum] at hb
   rw [J4.eq_2, if_pos (by omega), if_pos (by omega), Int.toNat_natCast, Qxy k (h.pa _ (Qhj (by omega))) h.th.2, Option.bind_some, Qds (by omega), Qcb Vg.Qcq (by omega), Jv (by omega) (by omega)]
   exact ih f (i + 1) (by omega) (by omega)
theorem Q1t (k : Nat) (h : GlO g) : ∀ (d fuel i : Nat), g.Caps.length = i + d -> d < fuel -> J5 k g fuel (i : Int) (tsum Vg.Qcq g.Parts + tsum Vg.capS (g.Caps.take i)) = some (volV g) := by
 have hn := h.nc
 intro d
 induction d with
 | zero =>
   intro fuel i he hf
   obtain ⟨f, rfl⟩ : ∃ f, fuel = f + 1 := ⟨fuel - 1, by omega⟩
   rw [J5.eq_2, if_neg (by omega), List.take_of_length_le (by omega)]; rfl
 | succ d ih =>
   intro fuel i he hf
   obtain ⟨f, rfl⟩ : ∃ f, fuel = f + 1 := ⟨fuel - 1, by omega⟩
   have hb := h.vb g.Parts.length (i + 1)
   rw [List.take_of_length_le (Nat.le_refl g.Parts.length)] at hb
   rw [J5.eq_2, if_pos (by omega), if_pos (by omega), Int.toNat_natCast, Q1r k (h.ca _ (Qhj (by omega))), Option.bind_some, Qds (by omega), Int.add_assoc, Qcb Vg.capS (by omega), Jv (by omega) (by omega)]
   exact ih f (i + 1) (by omega) (by omega)
theorem Qzg {k : Nat} (hk : 1000 < k) (h : GlO g) : Qbt k g = some (volV g) := by
 have hn := h.np
 have hc := h.nc
 unfold Qbt
 have e1 := Q1s k h g.Parts.length k 0 (by omega) (by omega)
 have e2 := Q1t k h g.Caps.length k 0 (by omega) (by omega)
 simp only [List.take_zero, tsum, Int.add_zero] at e1 e2
 rw [show J4 k g k 0 0 = _ from e1, Option.bind_some, show J5 k g k 0 _ = _ from e2]; rfl
theorem Qzh (k : Nat) (h : GlO g) : ∀ (d fuel i : Nat), g.Parts.length = i + d -> d < fuel -> Xz k g fuel (tsum Vg.Qcq (g.Parts.take i)) (i : Int) = some (tsum Vg.Qcq g.Parts) := by
 have hn := h.np
 intro d
 induction d with
 | zero =>
   intro fuel i he hf
   obtain ⟨f, rfl⟩ : ∃ f, fuel = f + 1 := ⟨fuel - 1, by omega⟩
   rw [Xz.eq_2, if_neg (by omega), List.take_of_length_le (by omega)]
 | succ d ih =>
   intro fuel i he hf
   obtain ⟨f, rfl⟩ : ∃ f, fuel = f + 1 := ⟨fuel - 1, by omega⟩
   have hb := h.vb (i + 1) 0
   simp only [List.take_zero, tsum] at hb
   have hp := h.pa _ (Qhj (l := g.Parts) (i := i) (by omega))
   have b5 := (hp.bd h.th.2).b5
   rw [Xz.eq_2, if_pos (by omega), if_pos (by omega), Int.toNat_natCast, Q1p k hp h.th.2, Option.bind_some, Qr3 k (by omega), Option.bind_some, Qds (by omega)]
   have := Qcb Vg.Qcq (l := g.Parts) (i := i) (by omega)
   unfold Vg.Qcq at this ⊢
   rw [this, Jv (by unfold Vg.Qcq at hb; omega) (by unfold Vg.Qcq at hb; omega)]
   exact ih f (i + 1) (by omega) (by omega)
theorem Qzi (k : Nat) (h : GlO g) : ∀ (d fuel i : Nat), g.Caps.length = i + d -> d < fuel -> X0 k g fuel (tsum Vg.Qcq g.Parts + tsum Vg.capS (g.Caps.take i)) (i : Int) = some (volV g) := by
 have hn := h.nc
 intro d
 induction d with
 | zero =>
   intro fuel i he hf
   obtain ⟨f, rfl⟩ : ∃ f, fuel = f + 1 := ⟨fuel - 1, by omega⟩
   rw [X0.eq_2, if_neg (by omega), List.take_of_length_le (by omega)]; rfl
 | succ d ih =>
   intro fuel i he hf
   obtain ⟨f, rfl⟩ : ∃ f, fuel = f + 1 := ⟨fuel - 1, by omega⟩
   have hb := h.vb g.Parts.length (i + 1)
   rw [List.take_of_length_le (Nat.le_refl g.Parts.length)] at hb
   have hp := h.ca _ (Qhj (l := g.Caps) (i := i) (by omega))
   have b5 := hp.bd.b2
   rw [X0.eq_2, if_pos (by omega), if_pos (by omega), Int.toNat_natCast, Q2q k hp, Option.bind_some, Qr3 k (by omega), Option.bind_some, Qds (by omega), Int.add_assoc, show sg (capV (g.Caps.getD i default)) (g.Caps.getD i default).Cut = Vg.capS (g.Caps.getD i default) from rfl, Qcb Vg.capS (by omega), Jv (by omega) (by omega)]
   exact ih f (i + 1) (by omega) (by omega)
theorem Q2r {k : Nat} (hk : 1000 < k) (h : GlO g) : Qaw k g = some (volV g) := by
 have hn := h.np
 have hc := h.nc
 unfold Qaw
 have e1 := Qzh k h g.Parts.length k 0 (by omega) (by omega)
 have e2 := Qzi k h g.Caps.length k 0 (by omega) (by omega)
 simp only [List.take_zero, tsum, Int.add_zero] at e1 e2
 rw [show Xz k g k 0 0 = _ from e1, Option.bind_some, show X0 k g k _ 0 = _ from e2]; rfl
end
theorem Qqj (k : Nat) (p : Qk) (t : Int) : Qc8 k p t = some (Qf8 p t) := by
 unfold Qc8
 simp only [Qn9, Option.bind_some, Qy]
 unfold Qu Qf8
 simp only [Qwp, Option.bind_some]
 cases ho : inR 1 1000 p.Outer with
 | false => by_cases hc : p.Count = 0 <;> simp [hc]
 | true =>
   have hr := Qi9.1 ho
   simp only [Jv (show -9223372036854775808 <= p.Outer - 1 by omega) (by omega)]
   generalize inR 0 (p.Outer - 1) p.Inner = b2
   generalize inR 0 t p.From = b3
   generalize inR 0 t p.To = b4
   generalize inR 0 100 p.Count = b5
   cases b2 <;> cases b3 <;> cases b4 <;> cases b5 <;> by_cases hf : p.From < p.To <;> by_cases hc : p.Count = 0 <;> by_cases hi : p.Inner = 0 <;> simp [hf, hc, hi]
theorem Qqk (k : Nat) (p : Qk) (t : Int) : Y7 k p t = some (Qf8 p t) := by
 unfold Y7
 simp only [Qi2, Option.bind_some]
 unfold Qf8
 cases ho : inR 1 1000 p.Outer with
 | false => simp
 | true =>
   have hr := Qi9.1 ho
   simp only [Jv (show -9223372036854775808 <= p.Outer - 1 by omega) (by omega)]
   generalize inR 0 (p.Outer - 1) p.Inner = b2
   generalize inR 0 t p.From = b3
   generalize inR 0 t p.To = b4
   generalize inR 0 100 p.Count = b5
   by_cases hf : p.From < p.To
   ·have hf2 : ¬ p.To <= p.From := by omega
    cases b2 <;> cases b3 <;> cases b4 <;> cases b5 <;> by_cases hc : p.Count = 0 <;> by_cases hi : p.Inner = 0 <;> simp [hf, hf2, hc, hi]
   ·have hf2 : p.To <= p.From := by omega
    cases b2 <;> cases b3 <;> cases b4 <;> cases b5 <;> by_cases hc : p.Count = 0 <;> by_cases hi : p.Inner = 0 <;> simp [hf, hf2, hc, hi]
theorem Q1u {c : Qr} {t : Int} (ht : t <= 500) (h1 : inR 1 (minI c.Radius 500) c.Height = true) (h2 : inR 0 t c.At = true) : w64 (c.At + c.Height) = c.At + c.Height /\ w64 (c.At - c.Height) = c.At - c.Height := by
 have h1 := Qi9.1 h1
 have h2 := Qi9.1 h2
 have := Qvh c.Radius 500
 exact ⟨Jv (by omega) (by omega), Jv (by omega) (by omega)⟩
theorem Qs8 (k : Nat) (c : Qr) (t : Int) (ht : t <= 500) : Qdn k c t = some (capE c t) := by
 have hrim : Qg4 k c = some (match c.Up with | true => w64 (c.At + c.Height) | false => w64 (c.At - c.Height)) := by
  unfold Qg4
  cases c.Up <;> rfl
 unfold Qdn
 simp only [Qn9, Option.bind_some, hrim]
 unfold Qd capE
 simp only [Qwp, Option.bind_some]
 cases inR 1 100000 c.Radius with
 | false => simp
 | true =>
 cases h1 : inR 1 (minI c.Radius 500) c.Height with
 | false => simp
 | true =>
 cases h2 : inR 0 t c.At with
 | false => simp
 | true =>
   obtain ⟨e1, e2⟩ := Q1u ht h1 h2
   unfold rimV
   rw [e1, e2]
   cases c.Up
   ·cases inR 0 t (c.At - c.Height) <;> simp
   ·cases inR 0 t (c.At + c.Height) <;> simp
theorem Qs9 (k : Nat) (c : Qr) (t : Int) (ht : t <= 500) : Wq k c t = some (capE c t) := by
 unfold Wq
 simp only [Qi2, Option.bind_some]
 unfold capE
 cases inR 1 100000 c.Radius with
 | false => simp
 | true =>
 cases h1 : inR 1 (minI c.Radius 500) c.Height with
 | false => simp
 | true =>
 cases h2 : inR 0 t c.At with
 | false => simp
 | true =>
   obtain ⟨e1, e2⟩ := Q1u ht h1 h2
   unfold rimV
   rw [e1, e2]
   cases c.Up
   ·cases inR 0 t (c.At - c.Height) <;> simp
   ·cases inR 0 t (c.At + c.Height) <;> simp
theorem Qws (k : Nat) (p : Qk) (g : Zd) : Qbq k p g.Density g.Thick g.Parts g.Caps = some (Qf8 p g.Thick) := by
 unfold Qbq
 rw [Qqj]; rfl
theorem Qwt (k : Nat) (c : Qr) (g : Zd) (ht : g.Thick <= 500) : Qbs k c g.Density g.Thick g.Parts g.Caps = some (capE c g.Thick) := by
 unfold Qbs
 rw [Qs8 k c _ ht]; rfl
theorem Qzj (k : Nat) (g : Zd) (ht : g.Thick <= 500) (hl : g.Parts.length < 1000000000) : ∀ (d fuel i : Nat), g.Parts.length = i + d -> d < fuel ->
 Q8 k g.Parts (g.Density, g.Thick, g.Parts, g.Caps) fuel (i : Int) = some (sumE (Qdj (fun p => Qf8 p g.Thick) (g.Parts.drop i))) := by
 intro d
 induction d with
 | zero =>
   intro fuel i h hf
   obtain ⟨f, rfl⟩ : ∃ f, fuel = f + 1 := ⟨fuel - 1, by omega⟩
   rw [Q8.eq_2, if_neg (by omega), List.drop_of_length_le (by omega)]; rfl
 | succ d ih =>
   intro fuel i h hf
   obtain ⟨f, rfl⟩ : ∃ f, fuel = f + 1 := ⟨fuel - 1, by omega⟩
   rw [Q8.eq_2, if_pos (by omega), if_pos (by omega), Qws, Option.bind_some, Qds (by omega), Qk7 (show i < g.Parts.length by omega) default, Int.toNat_natCast]
   unfold Qdj
   by_cases c : Qf8 (g.Parts.getD i default) g.Thick = 0
   ·rw [if_pos c, if_pos c]; exact ih f (i + 1) (by omega) (by omega)
   ·rw [if_neg c, if_neg c, Ql3 c]
theorem Q1v (k : Nat) (g : Zd) (ht : g.Thick <= 500) (hl : g.Caps.length < 1000000000) : ∀ (d fuel i : Nat), g.Caps.length = i + d -> d < fuel ->
 Q9 k g.Caps (g.Density, g.Thick, g.Parts, g.Caps) fuel (i : Int) = some (sumE (Qdj (fun p => capE p g.Thick) (g.Caps.drop i))) := by
 intro d
 induction d with
 | zero =>
   intro fuel i h hf
   obtain ⟨f, rfl⟩ : ∃ f, fuel = f + 1 := ⟨fuel - 1, by omega⟩
   rw [Q9.eq_2, if_neg (by omega), List.drop_of_length_le (by omega)]; rfl
 | succ d ih =>
   intro fuel i h hf
   obtain ⟨f, rfl⟩ : ∃ f, fuel = f + 1 := ⟨fuel - 1, by omega⟩
   rw [Q9.eq_2, if_pos (by omega), if_pos (by omega), Qwt k _ g ht, Option.bind_some, Qds (by omega), Qk7 (show i < g.Caps.length by omega) default, Int.toNat_natCast]
   unfold Qdj
   by_cases c : capE (g.Caps.getD i default) g.Thick = 0
   ·rw [if_pos c, if_pos c]; exact ih f (i + 1) (by omega) (by omega)
   ·rw [if_neg c, if_neg c, Ql3 c]
theorem Qwu (k : Nat) (g : Zd) (ht : g.Thick <= 500) (hl : g.Parts.length < 1000000000) : ∀ (d fuel i : Nat), g.Parts.length = i + d -> d < fuel ->
 Xp k g fuel (i : Int) = some (sumE (Qdj (fun p => Qf8 p g.Thick) (g.Parts.drop i))) := by
 intro d
 induction d with
 | zero =>
   intro fuel i h hf
   obtain ⟨f, rfl⟩ : ∃ f, fuel = f + 1 := ⟨fuel - 1, by omega⟩
   rw [Xp.eq_2, if_neg (by omega), List.drop_of_length_le (by omega)]; rfl
 | succ d ih =>
   intro fuel i h hf
   obtain ⟨f, rfl⟩ : ∃ f, fuel = f + 1 := ⟨fuel - 1, by omega⟩
   rw [Xp.eq_2, if_pos (by omega), if_pos (by omega), Qqk, Option.bind_some, Qds (by omega), Qk7 (show i < g.Parts.length by omega) default, Int.toNat_natCast]
   unfold Qdj
   by_cases c : Qf8 (g.Parts.getD i default) g.Thick = 0
   ·rw [if_pos c, if_pos c]; exact ih f (i + 1) (by omega) (by omega)
   ·rw [if_neg c, if_neg c, Ql3 c]
theorem Qzk (k : Nat) (g : Zd) (ht : g.Thick <= 500) (hl : g.Caps.length < 1000000000) : ∀ (d fuel i : Nat), g.Caps.length = i + d -> d < fuel ->
 Xq k g fuel (i : Int) = some (sumE (Qdj (fun p => capE p g.Thick) (g.Caps.drop i))) := by
 intro d
 induction d with
 | zero =>
   intro fuel i h hf
   obtain ⟨f, rfl⟩ : ∃ f, fuel = f + 1 := ⟨fuel - 1, by omega⟩
   rw [Xq.eq_2, if_neg (by omega), List.drop_of_length_le (by omega)]; rfl
 | succ d ih =>
   intro fuel i h hf
   obtain ⟨f, rfl⟩ : ∃ f, fuel = f + 1 := ⟨fuel - 1, by omega⟩
   rw [Xq.eq_2, if_pos (by omega), if_pos (by omega), Qs9 k _ _ ht, Option.bind_some, Qds (by omega), Qk7 (show i < g.Caps.length by omega) default, Int.toNat_natCast]
   unfold Qdj
   by_cases c : capE (g.Caps.getD i default) g.Thick = 0
   ·rw [if_pos c, if_pos c]; exact ih f (i + 1) (by omega) (by omega)
   ·rw [if_neg c, if_neg c, Ql3 c]
def glE0 (g : Zd) : Int := if (inR 1 10000 g.Density && inR 1 500 g.Thick) = true then (if (g.Parts.length : Int) <= 40 then (if Qdj (fun p => Qf8 p g.Thick) g.Parts = 0 then (if (g.Caps.length : Int) <= 4 then Qdj (fun c => capE c g.Thick) g.Caps else 8) else Qdj (fun p => Qf8 p g.Thick) g.Parts) else 8) else 2
def glE (g : Zd) : Int := if glE0 g = 0 then (if 0 < volV g then 0 else 11) else glE0 g
theorem GlO.of {g : Zd} (h : glE0 g = 0) : GlO g := by
 unfold glE0 at h
 split at h
 case isFalse => cases h
 rename_i h1
 split at h
 case isFalse => cases h
 split at h
 case isFalse => rename_i h3; exact absurd h h3
 rename_i h3
 split at h
 case isFalse => cases h
 simp only [Bool.and_eq_true, Qi9] at h1
 exact ⟨h1.1, h1.2, by omega, by omega, fun p hp => .of (Qhi h3 p hp), fun c hc => .of (Qhi h c hc)⟩
structure Lk (g : Zd) (k : Nat) : Prop where
 l1 : g.Parts.length < 1000
 l2 : g.Caps.length < 1000
 hk : 1000 < k
theorem Qr4 {e : Int} : ((some (sumE e)).bind fun r => (match r with | .inl r => some r | .inr _ => some 0 : Option Int)) = some e := by
 by_cases c : e = 0
 ·rw [c]; rfl
 ·rw [Ql3 c]; rfl
theorem Lk.b {g : Zd} {k : Nat} (h : Lk g k) : Qbk k g = some (glE g) := by
 obtain ⟨h1, h2, hk⟩ := h
 have e1 : g.Thick <= 500 -> Xh k g.Parts (g.Density, g.Thick, g.Parts, g.Caps) = some (Qdj (fun p => Qf8 p g.Thick) g.Parts) := fun ht => by
  unfold Xh
  have := Qzj k g ht (by omega) g.Parts.length k 0 (by omega) (by omega)
  rw [show ((0 : Nat) : Int) = 0 from rfl, List.drop_zero] at this
  rw [this]; exact Qr4
 have e2 : g.Thick <= 500 -> Xj k g.Caps (g.Density, g.Thick, g.Parts, g.Caps) = some (Qdj (fun c => capE c g.Thick) g.Caps) := fun ht => by
  unfold Xj
  have := Q1v k g ht (by omega) g.Caps.length k 0 (by omega) (by omega)
  rw [show ((0 : Nat) : Int) = 0 from rfl, List.drop_zero] at this
  rw [this]; exact Qr4
 have e3 : GlO g -> Qbu k g.Density g.Thick g.Parts g.Caps = some (if 0 < volV g then 0 else 11) := fun hg => by
  unfold Qbu
  rw [show (⟨g.Density, g.Thick, g.Parts, g.Caps⟩ : Zd) = g from rfl, Qzg hk hg]
  simp only [Option.bind_some, Qy, Qwp]
  by_cases c : 0 < volV g <;> simp [c]
 unfold Qbk
 simp only [Qn9, Option.bind_some, Qy, X4, X8]
 unfold Qo
 simp only [Qwp, Option.bind_some]
 cases d1 : inR 1 10000 g.Density with
 | false => unfold glE glE0; rw [d1]; simp
 | true =>
 cases d2 : inR 1 500 g.Thick with
 | false => unfold glE glE0; rw [d1, d2]; simp
 | true =>
 have ht := (Qi9.1 d2).2
 simp only [e1 ht, e2 ht, Option.bind_some, if_true]
 by_cases c0 : glE0 g = 0
 ·rw [e3 (.of c0)]
  unfold glE
  rw [if_pos c0]
  have hc0 := c0
  unfold glE0 at hc0
  rw [d1, d2] at hc0
  simp only [Bool.and_self, if_true] at hc0
  split at hc0
  case isFalse => cases hc0
  rename_i c1
  split at hc0
  case isFalse => rename_i c2; exact absurd hc0 c2
  rename_i c2
  split at hc0
  case isFalse => cases hc0
  rename_i c3
  simp only [c1, c2, c3, hc0, decide_true, if_true, Option.bind_some]
  by_cases c4 : 0 < volV g <;> simp [c4]
 ·unfold glE
  rw [if_neg c0]
  unfold glE0 at c0 ⊢
  rw [d1, d2] at c0 ⊢
  simp only [Bool.and_self, if_true] at c0 ⊢
  by_cases c1 : (g.Parts.length : Int) <= 40
  ·simp only [c1, if_true, decide_true] at c0 ⊢
   by_cases c2 : Qdj (fun p => Qf8 p g.Thick) g.Parts = 0
   ·simp only [c2, if_true] at c0 ⊢
    by_cases c3 : (g.Caps.length : Int) <= 4
    ·simp only [c3, if_true, decide_true] at c0 ⊢
     rw [if_neg c0]; rfl
    ·simp [c3]
   ·simp [c2]
  ·simp [c1]
theorem Lk.r {g : Zd} {k : Nat} (h : Lk g k) : Yz k g = some (glE g) := by
 obtain ⟨h1, h2, hk⟩ := h
 unfold Yz
 simp only [Qi2, Option.bind_some]
 cases d1 : inR 1 10000 g.Density with
 | false => unfold glE glE0; rw [d1]; simp
 | true =>
 cases d2 : inR 1 500 g.Thick with
 | false => unfold glE glE0; rw [d1, d2]; simp
 | true =>
 have ht := (Qi9.1 d2).2
 have e1 := Qwu k g ht (by omega) g.Parts.length k 0 (by omega) (by omega)
 have e2 := Qzk k g ht (by omega) g.Caps.length k 0 (by omega) (by omega)
 rw [show ((0 : Nat) : Int) = 0 from rfl, List.drop_zero] at e1 e2
 simp only [e1, e2, Option.bind_some, if_true]
 by_cases c0 : glE0 g = 0
 ·rw [Q2r hk (.of c0)]
  unfold glE
  rw [if_pos c0]
  have hc0 := c0
  unfold glE0 at hc0
  rw [d1, d2] at hc0
  simp only [Bool.and_self, if_true] at hc0
  split at hc0
  case isFalse => cases hc0
  rename_i c1
  split at hc0
  case isFalse => rename_i c2; exact absurd hc0 c2
  rename_i c2
  split at hc0
  case isFalse => cases hc0
  rename_i c3
  rw [if_neg (by omega), c2, Qve]
  dsimp only
  rw [if_neg (by omega), hc0, Qve]
  dsimp only [Option.bind_some]
  by_cases c4 : 0 < volV g
  ·rw [if_pos c4, if_neg (by omega)]
  ·rw [if_neg c4, if_pos (by omega)]
 ·unfold glE
  rw [if_neg c0]
  unfold glE0 at c0 ⊢
  rw [d1, d2] at c0 ⊢
  simp only [Bool.and_self, if_true] at c0 ⊢
  by_cases c1 : (g.Parts.length : Int) <= 40
  ·simp only [c1, if_true] at c0 ⊢
   rw [if_neg (by omega)]
   by_cases c2 : Qdj (fun p => Qf8 p g.Thick) g.Parts = 0
   ·simp only [c2, if_true] at c0 ⊢
    rw [Qve]
    dsimp only
    by_cases c3 : (g.Caps.length : Int) <= 4
    ·simp only [c3, if_true] at c0 ⊢
     rw [if_neg (by omega), Ql3 c0]
    ·rw [if_pos (by omega), if_neg c3]
   ·rw [Ql3 c2, if_neg c2]
  ·rw [if_pos (by omega), if_neg c1]
def fewB (g : Zd) : Bool := decide ((g.Parts.length <= 8 \/ 40 < g.Parts.length /\ g.Parts.length <= 43) /\ g.Caps.length <= 7)
theorem Lk.of {g : Zd} {k : Nat} (h : fewB g = true) (hk : 1000 < k) : Lk g k := by
 unfold fewB at h
 have h := of_decide_eq_true h
 exact ⟨by omega, by omega, hk⟩
structure Gl (g : Zd) : Prop where
 o : GlO g
 v : 0 < volV g
theorem Gl.of {g : Zd} (h : glE g = 0) : Gl g := by
 unfold glE at h
 split at h
 case isFalse => rename_i c; exact absurd h c
 rename_i c
 split at h
 case isFalse => cases h
 exact ⟨.of c, ‹_›⟩
theorem GlO.vol {g : Zd} (h : GlO g) : -10000000000000 <= volV g /\ volV g <= 10000000000000 := by
 have := h.vb g.Parts.length g.Caps.length
 rw [List.take_of_length_le (Nat.le_refl _), List.take_of_length_le (Nat.le_refl _)] at this
 exact this
theorem GlO.mom {g : Zd} (h : GlO g) : -8000000000000000 <= momV g /\ momV g <= 8000000000000000 := by
 have := h.mb g.Parts.length g.Caps.length
 rw [List.take_of_length_le (Nat.le_refl _), List.take_of_length_le (Nat.le_refl _)] at this
 exact this
section
variable {g : Zd}
theorem Q1w (k : Nat) {c : Qr} {t : Int} (h : Qmn c t) (ht : t <= 500) : Qc9 k c = some (capM c) := by
 obtain ⟨_, b2, b3, b4, b5⟩ := h.bd
 have hs := Qwr b2 c.Cut
 have hd := Qwr b5 c.Cut
 have ha := h.a
 have hm := Qvj (x := 2 * capS c) (A := 600000000000) (by unfold capS; omega) (show 0 <= c.At /\ c.At <= 500 by omega) (by omega)
 have h5 : -200000000000000 <= sg (sg (capD c) c.Cut) (!c.Up) /\ sg (sg (capD c) c.Cut) (!c.Up) <= 200000000000000 := by
  cases c.Cut <;> cases c.Up <;> simp only [sg, Bool.not_true, Bool.not_false] <;> omega
 unfold Qc9
 rw [Q1q h, Qjv k (by omega), Option.bind_some, Q1r k h, Option.bind_some, Qjv k (by omega), Option.bind_some]
 have hS : -300000000000 <= capS c /\ capS c <= 300000000000 := by unfold capS; omega
 rw [Jv (n := 2 * capS c) (by omega) (by omega), Jv (n := 2 * capS c * c.At) (by omega) (by omega), Jv (by omega) (by omega)]; rfl
theorem Q1x (k : Nat) (h : GlO g) : ∀ (d fuel i : Nat), g.Parts.length = i + d -> d < fuel -> J6 k g fuel (i : Int) (tsum Vg.Qd8 (g.Parts.take i)) = some (tsum Vg.Qd8 g.Parts) := by
 have hn := h.np
 intro d
 induction d with
 | zero =>
   intro fuel i he hf
   obtain ⟨f, rfl⟩ : ∃ f, fuel = f + 1 := ⟨fuel - 1, by omega⟩
   rw [J6.eq_2, if_neg (by omega), List.take_of_length_le (by omega)]
 | succ d ih =>
   intro fuel i he hf
   obtain ⟨f, rfl⟩ : ∃ f, fuel = f + 1 := ⟨fuel - 1, by omega⟩
   have hb := h.mb (i + 1) 0
   simp only [List.take_zero, tsum] at hb
   have hm := Qhj (l := g.Parts) (i := i) (by omega)
   have hp := h.pa _ hm
   have h1 := hp.f
   have h2 := hp.t
   have h3 := h.th
   have h4 := h.Qd8 _ hm
   rw [J6.eq_2, if_pos (by omega), if_pos (by omega), Int.toNat_natCast, Qxy k hp h.th.2, Option.bind_some, Qds (by omega), Jv (n := (g.Parts.getD i default).From + (g.Parts.getD i default).To) (by omega) (by omega), show Vg.Qcq (g.Parts.getD i default) * ((g.Parts.getD i default).From + (g.Parts.getD i default).To) = Vg.Qd8 (g.Parts.getD i default) from rfl, Jv (n := Vg.Qd8 (g.Parts.getD i default)) (by omega) (by omega), Qcb Vg.Qd8 (by omega), Jv (by omega) (by omega)]
   exact ih f (i + 1) (by omega) (by omega)
theorem Q1y (k : Nat) (h : GlO g) : ∀ (d fuel i : Nat), g.Caps.length = i + d -> d < fuel -> J7 k g fuel (i : Int) (tsum Vg.Qd8 g.Parts + tsum Vg.capM (g.Caps.take i)) = some (momV g) := by
 have hn := h.nc
 intro d
 induction d with
 | zero =>
   intro fuel i he hf
   obtain ⟨f, rfl⟩ : ∃ f, fuel = f + 1 := ⟨fuel - 1, by omega⟩
   rw [J7.eq_2, if_neg (by omega), List.take_of_length_le (by omega)]; rfl
 | succ d ih =>
   intro fuel i he hf
   obtain ⟨f, rfl⟩ : ∃ f, fuel = f + 1 := ⟨fuel - 1, by omega⟩
   have hb := h.mb g.Parts.length (i + 1)
   rw [List.take_of_length_le (Nat.le_refl g.Parts.length)] at hb
   rw [J7.eq_2, if_pos (by omega), if_pos (by omega), Int.toNat_natCast, Q1w k (h.ca _ (Qhj (by omega))) h.th.2, Option.bind_some, Qds (by omega), Int.add_assoc, Qcb Vg.capM (by omega), Jv (by omega) (by omega)]
   exact ih f (i + 1) (by omega) (by omega)
theorem Q2s {k : Nat} (hk : 1000 < k) (h : GlO g) : Qdo k g = some (momV g) := by
 have hn := h.np
 have hc := h.nc
 unfold Qdo
 have e1 := Q1x k h g.Parts.length k 0 (by omega) (by omega)
 have e2 := Q1y k h g.Caps.length k 0 (by omega) (by omega)
 simp only [List.take_zero, tsum, Int.add_zero] at e1 e2
 rw [show J6 k g k 0 0 = _ from e1, Option.bind_some, show J7 k g k 0 _ = _ from e2]; rfl
theorem Qr5 {k : Nat} (h : Lk g k) : Qb7 k g = some (if glE g = 0 then (volV g, 0) else (0, glE g)) := by
 unfold Qb7
 rw [h.b, Option.bind_some]
 by_cases c : glE g = 0
 ·rw [if_pos c, if_pos c, Qzg h.hk (Gl.of c).o]; rfl
 ·rw [if_neg c, if_neg c]
def cenV (g : Zd) : Qct := rnd (1000 * momV g) (2 * volV g)
theorem Qr6 {k : Nat} (h : Lk g k) : Qb8 k g = some (if glE g = 0 then (cenV g, 0) else (⟨0, 0⟩, glE g)) := by
 unfold Qb8
 rw [h.b, Option.bind_some]
 by_cases c : glE g = 0
 ·have hg := (Gl.of c).o
  have hv := (Gl.of c).v
  have h1 := hg.mom
  have h2 := hg.vol
  rw [if_pos c, if_pos c, Q2s h.hk hg, Option.bind_some, Qzg h.hk hg, Option.bind_some, Jv (n := 1000 * momV g) (by omega) (by omega), Jv (n := 2 * volV g) (by omega) (by omega), Qqi k (by omega) (by omega)]; rfl
 ·rw [if_neg c, if_neg c]
end
end Go.Proofs.Ytmaegladkjcmdaa.Vg
