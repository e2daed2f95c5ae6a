import Derived.Test.YtclgijochagpdaaW1
set_option linter.unusedVariables false
set_option linter.unusedSimpArgs false
namespace Go.Proofs.Ytclgijochagpdaa.Vg
open Go Go.Proofs.Ytclgijochagpdaa.Ev Go.Proofs.Ytclgijochagpdaa.Vv
def fr (g : Sleg) : Nat := g.from_.toNat
def to (g : Sleg) : Nat := g.to.toNat
def ln (g : Sleg) : Int := g.length
def far : Int := 9223372036854775807
def gx (s : List Int) (j : Nat) : Int := s.getD j 0
theorem gx_set {s : List Int} {i j : Nat} {v : Int} (h : i < s.length) : gx (s.set i v) j = if i = j then v else gx s j := by
 unfold gx
 simp only [List.getD_eq_getElem?_getD]
 by_cases e : i = j
 ·subst e; rw [if_pos rfl, List.getElem?_set_self h]; rfl
 ·rw [if_neg e, List.getElem?_set_ne e]
theorem gx_ext {s t : List Int} (hl : s.length = t.length) (h : ∀ j, j < s.length -> gx s j = gx t j) : s = t := by
 apply List.ext_getElem hl
 intro i h1 h2
 have := h i h1
 unfold gx at this
 rwa [List.getD_eq_getElem?_getD, List.getD_eq_getElem?_getD, List.getElem?_eq_getElem h1, List.getElem?_eq_getElem h2] at this
def rlx (s : List Int) (g : Sleg) : List Int := if gx s (fr g) = far then s else if gx s (fr g) + (ln g) < gx s (to g) then s.set (to g) (gx s (fr g) + (ln g)) else s
def rnd (s : List Int) (l : List Sleg) : List Int := l.foldl rlx s
def OKL (n : Nat) (l : List Sleg) : Prop := ∀ g, g ∈ l -> (fr g) < n /\ (to g) < n
theorem rlx_len (s : List Int) (g : Sleg) : (rlx s g).length = s.length := by
 unfold rlx; split
 ·rfl
 ·split <;> simp
theorem rnd_len (l : List Sleg) : ∀ s : List Int, (rnd s l).length = s.length := by
 induction l with
 | nil => intro s; rfl
 | cons g l ih => intro s; show (rnd (rlx s g) l).length = _; rw [ih, rlx_len]
theorem rlx_le {s : List Int} {g : Sleg} (h : (to g) < s.length) (j : Nat) : gx (rlx s g) j <= gx s j := by
 unfold rlx; split
 ·exact Int.le_refl _
 ·split
  ·rename_i h2; rw [gx_set h]; split
   ·rename_i e; subst e; omega
   ·exact Int.le_refl _
  ·exact Int.le_refl _
theorem rnd_le {n : Nat} : ∀ {l : List Sleg}, OKL n l -> ∀ {s : List Int}, s.length = n -> ∀ j, gx (rnd s l) j <= gx s j
 | [], _, s, _, j => Int.le_refl _
 | g :: l, hl, s, hs, j => by
   have h1 := rnd_le (l := l) (fun x hx => hl x (by simp [hx])) (s := rlx s g) (by rw [rlx_len, hs]) j
   have h2 := rlx_le (s := s) (g := g) (by rw [hs]; exact (hl g (by simp)).2) j
   exact Int.le_trans h1 h2
structure Cl (l : List Sleg) (A : Nat -> Prop) (h : Nat -> Int) : Prop where
 out : ∀ g, g ∈ l -> A (fr g) -> A (to g) /\ h (to g) <= h (fr g) + (ln g)
def Inv (n : Nat) (A : Nat -> Prop) (h : Nat -> Int) (s : List Int) : Prop := ∀ z, z < n -> gx s z ≠ far -> A z /\ h z <= gx s z
theorem rlx_inv {n : Nat} {l : List Sleg} {A : Nat -> Prop} {h : Nat -> Int} (C : Cl l A h) {s : List Int} (hs : s.length = n) {g : Sleg} (hg : g ∈ l) (hn : (fr g) < n /\ (to g) < n) (I : Inv n A h s) : Inv n A h (rlx s g) := by
 unfold rlx; split
 ·exact I
 ·split
  ·rename_i h1 h2
   intro z hz hf
   rw [gx_set (by rw [hs]; exact hn.2)] at hf ⊢
   by_cases e : (to g) = z
   ·subst e
    rw [if_pos rfl]
    obtain ⟨a1, a2⟩ := I (fr g) hn.1 h1
    obtain ⟨b1, b2⟩ := C.out g hg a1
    exact ⟨b1, by omega⟩
   ·rw [if_neg e] at hf ⊢; exact I z hz hf
  ·exact I
theorem rnd_inv {n : Nat} {L : List Sleg} {A : Nat -> Prop} {h : Nat -> Int} (C : Cl L A h) (hL : OKL n L) : ∀ {l : List Sleg}, (∀ g, g ∈ l -> g ∈ L) -> ∀ {s : List Int}, s.length = n -> Inv n A h s -> Inv n A h (rnd s l)
 | [], _, s, _, I => I
 | g :: l, hl, s, hs, I => rnd_inv C hL (l := l) (fun x hx => hl x (by simp [hx])) (s := rlx s g) (by rw [rlx_len, hs]) (rlx_inv C hs (hl g (by simp)) (hL g (hl g (by simp))) I)
def it (l : List Sleg) : Nat -> List Int -> List Int
 | 0, s => s
 | k + 1, s => rnd (it l k s) l
theorem it_len (l : List Sleg) (s : List Int) : ∀ k, (it l k s).length = s.length
 | 0 => rfl
 | k + 1 => by rw [it, rnd_len, it_len l s k]
theorem it_inv {n : Nat} {l : List Sleg} {A : Nat -> Prop} {h : Nat -> Int} (C : Cl l A h) (hL : OKL n l) {s : List Int} (hs : s.length = n) (I : Inv n A h s) : ∀ k, Inv n A h (it l k s)
 | 0 => I
 | k + 1 => rnd_inv C hL (fun _ h => h) (by rw [it_len, hs]) (it_inv C hL hs I k)
theorem it_le {n : Nat} {l : List Sleg} (hL : OKL n l) {s : List Int} (hs : s.length = n) : ∀ k m j, gx (it l (k + m) s) j <= gx (it l k s) j
 | k, 0, j => Int.le_refl _
 | k, m + 1, j => Int.le_trans (rnd_le hL (by rw [it_len, hs]) j) (it_le hL hs k m j)
theorem fix_one {n : Nat} : ∀ {l : List Sleg}, OKL n l -> ∀ {s : List Int}, s.length = n -> rnd s l = s -> ∀ g, g ∈ l -> rlx s g = s
 | [], _, s, _, _, g, hg => absurd hg (by simp)
 | x :: l, hl, s, hs, h, g, hg => by
   have hl' : OKL n l := fun y hy => hl y (by simp [hy])
   have e : rlx s x = s := by
    apply gx_ext (rlx_len _ _)
    intro j hj
    have h1 := rnd_le hl' (s := rlx s x) (by rw [rlx_len, hs]) j
    have h2 := rlx_le (s := s) (g := x) (by rw [hs]; exact (hl x (by simp)).2) j
    have h3 : rnd (rlx s x) l = s := h
    rw [h3] at h1
    omega
   rcases List.mem_cons.1 hg with rfl | hg
   ·exact e
   ·have h3 : rnd (rlx s x) l = s := h
    rw [e] at h3
    exact fix_one hl' hs h3 g hg
theorem fix_cl {s : List Int} {n : Nat} (hs : s.length = n) {l : List Sleg} (hl : OKL n l) (hf : ∀ j, j < n -> gx s j <= far) (h : rnd s l = s) : ∀ g, g ∈ l -> gx s (fr g) ≠ far -> gx s (to g) <= gx s (fr g) + (ln g) := by
 intro g hg hne
 have e := fix_one hl hs h g hg
 unfold rlx at e
 rw [if_neg hne] at e
 rcases Int.lt_or_le (gx s (fr g) + (ln g)) (gx s (to g)) with c | c
 ·rw [if_pos c] at e
  have := congrArg (fun t => gx t (to g)) e
  rw [gx_set (by rw [hs]; exact (hl g hg).2), if_pos rfl] at this
  omega
 ·exact c
def tot (s : List Int) : Nat -> Int
 | 0 => 0
 | n + 1 => tot s n + gx s n
theorem tot_le {s t : List Int} : ∀ n, (∀ j, j < n -> gx s j <= gx t j) -> tot s n <= tot t n
 | 0, _ => Int.le_refl _
 | n + 1, h => by have := tot_le n (fun j hj => h j (by omega)); have := h n (by omega); unfold tot; omega
theorem tot_lt {s t : List Int} : ∀ n, (∀ j, j < n -> gx s j <= gx t j) -> (∃ j, j < n /\ gx s j < gx t j) -> tot s n < tot t n
 | 0, _, ⟨j, hj, _⟩ => absurd hj (by omega)
 | n + 1, h, ⟨j, hj, e⟩ => by
   have a := tot_le n (fun j hj => h j (by omega))
   have b := h n (by omega)
   unfold tot
   by_cases c : j = n
   ·subst c; omega
   ·have := tot_lt n (fun j hj => h j (by omega)) ⟨j, by omega, e⟩; omega
theorem tot_ge {s : List Int} {B : Int} : ∀ n : Nat, (∀ j, j < n -> B <= gx s j) -> (n : Int) * B <= tot s n
 | 0, _ => by simp [tot]
 | n + 1, h => by
   have a := tot_ge (B := B) n (fun j hj => h j (by omega))
   have b := h n (by omega)
   have e : ((n + 1 : Nat) : Int) * B = (n : Int) * B + B := by rw [Int.natCast_add, Int.add_mul]; simp
   rw [e]; unfold tot; omega
theorem lower_bound (h : Nat -> Int) : ∀ n, ∃ B, B <= 0 /\ ∀ z, z < n -> B <= h z
 | 0 => ⟨0, by omega, fun z hz => by omega⟩
 | n + 1 => by
   obtain ⟨B, b0, b⟩ := lower_bound h n
   refine ⟨min B (h n), by omega, fun z hz => ?_⟩
   by_cases c : z = n
   ·subst c; omega
   ·have := b z (by omega); omega
theorem ends {n : Nat} {l : List Sleg} (hL : OKL n l) {A : Nat -> Prop} {h : Nat -> Int} (C : Cl l A h) {s : List Int} (hs : s.length = n) (I : Inv n A h s) : ∃ k, it l (k + 1) s = it l k s := by
 obtain ⟨B, b0, b⟩ := lower_bound h n
 have lo : ∀ k z, z < n -> B <= gx (it l k s) z := fun k z hz => by
  by_cases e : gx (it l k s) z = far
  ·rw [e]; unfold far; omega
  ·exact Int.le_trans (b z hz) (it_inv C hL hs I k z hz e).2
 have main : ∀ m : Nat, ∀ k, (tot (it l k s) n - (n : Int) * B).toNat <= m -> ∃ k, it l (k + 1) s = it l k s := by
  intro m
  induction m with
  | zero =>
    intro k hk
    refine ⟨k, ?_⟩
    have g1 := tot_ge (s := it l (k + 1) s) n (fun j hj => lo (k + 1) j hj)
    apply gx_ext (by rw [it_len, it_len])
    intro j hj
    rw [it_len, hs] at hj
    have le := it_le hL hs k 1 j
    rcases Int.lt_or_le (gx (it l (k + 1) s) j) (gx (it l k s) j) with c | c
    ·have := tot_lt n (fun j _ => it_le hL hs k 1 j) ⟨j, hj, c⟩; omega
    ·omega
  | succ m ih =>
    intro k hk
    by_cases e : it l (k + 1) s = it l k s
    ·exact ⟨k, e⟩
    ·apply ih (k + 1)
     have : ∃ j, j < n /\ gx (it l (k + 1) s) j < gx (it l k s) j := by
      apply Classical.byContradiction
      intro hn
      apply e
      apply gx_ext (by rw [it_len, it_len])
      intro j hj
      rw [it_len, hs] at hj
      have le := it_le hL hs k 1 j
      rcases Int.lt_or_le (gx (it l (k + 1) s) j) (gx (it l k s) j) with c | c
      ·exact absurd ⟨j, hj, c⟩ hn
      ·omega
     have := tot_lt n (fun j _ => it_le hL hs k 1 j) this
     omega
 exact main _ 0 (Nat.le_refl _)
theorem it_fix {l : List Sleg} {s : List Int} {k : Nat} (h : it l (k + 1) s = it l k s) : ∀ m, it l (k + m) s = it l k s
 | 0 => rfl
 | m + 1 => by
   show rnd (it l (k + m) s) l = _
   rw [it_fix h m]; exact h
def cn (p : Nat -> Bool) : Nat -> Nat
 | 0 => 0
 | n + 1 => cn p n + (p n).toNat
theorem cn_le {p r : Nat -> Bool} : ∀ n, (∀ j, j < n -> p j = true -> r j = true) -> cn p n <= cn r n
 | 0, _ => Nat.le_refl _
 | n + 1, h => by
   have a := cn_le n (fun j hj => h j (by omega))
   have b := h n (by omega)
   unfold cn
   cases hp : p n
   ·simp; omega
   ·rw [b hp]; simp; omega
theorem cn_lt {p r : Nat -> Bool} : ∀ n, (∀ j, j < n -> p j = true -> r j = true) -> (∃ j, j < n /\ p j = false /\ r j = true) -> cn p n < cn r n
 | 0, _, ⟨j, hj, _⟩ => absurd hj (by omega)
 | n + 1, h, ⟨j, hj, e1, e2⟩ => by
   have a := cn_le n (fun j hj => h j (by omega))
   have b := h n (by omega)
   unfold cn
   by_cases c : j = n
   ·subst c; rw [e1, e2]; simp; omega
   ·have := cn_lt n (fun j hj => h j (by omega)) ⟨j, by omega, e1, e2⟩
    cases hp : p n
    ·simp; omega
    ·rw [b hp]; simp; omega
theorem cn_max (p : Nat -> Bool) : ∀ n, cn p n <= n
 | 0 => Nat.le_refl _
 | n + 1 => by have := cn_max p n; unfold cn; cases p n <;> simp <;> omega
theorem cn_zero {p : Nat -> Bool} : ∀ {n}, cn p n = 0 -> ∀ j, j < n -> p j = false
 | 0, _, j, hj => by omega
 | n + 1, h, j, hj => by
   unfold cn at h
   by_cases c : j = n
   ·subst c; cases hp : p j
    ·rfl
    ·rw [hp] at h; simp at h
   ·exact cn_zero (n := n) (by omega) j (by omega)
def Up (n : Nat) (M U : Int) (s : List Int) : Prop := ∀ z, z < n -> gx s z ≠ far -> gx s z <= U + (cn (fun j => gx s j != far) n : Int) * M
theorem Up.max {n : Nat} {M U : Int} (hM : 0 <= M) {s : List Int} (h : Up n M U s) : ∀ z, z < n -> gx s z ≠ far -> gx s z <= U + (n : Int) * M := fun z hz hf => by
 have a := h z hz hf
 have b := cn_max (fun j => gx s j != far) n
 have c : (cn (fun j => gx s j != far) n : Int) * M <= (n : Int) * M := Int.mul_le_mul_of_nonneg_right (by omega) hM
 omega
theorem rlx_up {n : Nat} {M U : Int} (hM : 0 <= M) (hU : U + (n : Int) * M + M < far) {s : List Int} (hs : s.length = n) (hsf : ∀ j, gx s j <= far) {g : Sleg} (hn : (fr g) < n /\ (to g) < n) (hg : (ln g) <= M) (h : Up n M U s) : Up n M U (rlx s g) := by
 unfold rlx; split
 ·exact h
 ·rename_i h1
  split
  ·rename_i h2
   have u1 := h (fr g) hn.1 h1
   have u2 := Up.max hM h (fr g) hn.1 h1
   have hnew : gx s (fr g) + (ln g) ≠ far := by omega
   have hle : cn (fun j => gx s j != far) n <= cn (fun j => gx (s.set (to g) (gx s (fr g) + (ln g))) j != far) n := cn_le n (fun j hj hp => by
    rw [gx_set (by rw [hs]; exact hn.2)]
    split
    ·simpa using hnew
    ·exact hp)
   have hle2 : (cn (fun j => gx s j != far) n : Int) * M <= (cn (fun j => gx (s.set (to g) (gx s (fr g) + (ln g))) j != far) n : Int) * M := Int.mul_le_mul_of_nonneg_right (by omega) hM
   intro z hz hf
   rw [gx_set (by rw [hs]; exact hn.2)] at hf ⊢
   by_cases e : (to g) = z
   ·subst e
    rw [if_pos rfl]
    by_cases c : gx s (to g) = far
    ·have hlt : cn (fun j => gx s j != far) n < cn (fun j => gx (s.set (to g) (gx s (fr g) + (ln g))) j != far) n := cn_lt n (fun j hj hp => by
      rw [gx_set (by rw [hs]; exact hn.2)]
      split
      ·simpa using hnew
      ·exact hp) ⟨(to g), hn.2, by simpa using c, by rw [gx_set (by rw [hs]; exact hn.2), if_pos rfl]; simpa using hnew⟩
     have hlt2 : ((cn (fun j => gx s j != far) n + 1 : Nat) : Int) * M <= (cn (fun j => gx (s.set (to g) (gx s (fr g) + (ln g))) j != far) n : Int) * M := Int.mul_le_mul_of_nonneg_right (by omega) hM
     have e : ((cn (fun j => gx s j != far) n + 1 : Nat) : Int) * M = (cn (fun j => gx s j != far) n : Int) * M + M := by rw [Int.natCast_add, Int.add_mul]; simp
     omega
    ·have := h (to g) hn.2 c
     omega
   ·rw [if_neg e] at hf ⊢
    have := h z hz hf
    omega
  ·exact h
theorem rnd_up {n : Nat} {M U : Int} (hM : 0 <= M) (hU : U + (n : Int) * M + M < far) : ∀ {l : List Sleg}, OKL n l -> (∀ g, g ∈ l -> (ln g) <= M) -> ∀ {s : List Int}, s.length = n -> (∀ j, gx s j <= far) -> Up n M U s -> Up n M U (rnd s l)
 | [], _, _, s, _, _, h => h
 | g :: l, hl, hm, s, hs, hsf, h => rnd_up hM hU (l := l) (fun x hx => hl x (by simp [hx])) (fun x hx => hm x (by simp [hx])) (s := rlx s g) (by rw [rlx_len, hs]) (fun j => Int.le_trans (rlx_le (by rw [hs]; exact (hl g (by simp)).2) j) (hsf j)) (rlx_up hM hU hs hsf (hl g (by simp)) (hm g (by simp)) h)
theorem it_far {n : Nat} {l : List Sleg} (hL : OKL n l) {s : List Int} (hs : s.length = n) (hsf : ∀ j, gx s j <= far) (k j : Nat) : gx (it l k s) j <= far := by
 have := it_le hL hs 0 k j
 rw [Nat.zero_add] at this
 exact Int.le_trans this (hsf j)
theorem it_up {n : Nat} {M U : Int} (hM : 0 <= M) (hU : U + (n : Int) * M + M < far) {l : List Sleg} (hL : OKL n l) (hm : ∀ g, g ∈ l -> (ln g) <= M) {s : List Int} (hs : s.length = n) (hsf : ∀ j, gx s j <= far) (h : Up n M U s) : ∀ k, Up n M U (it l k s)
 | 0 => h
 | k + 1 => rnd_up hM hU hL hm (by rw [it_len, hs]) (it_far hL hs hsf k) (it_up hM hU hL hm hs hsf h k)
theorem rlx_ge {n : Nat} {l : List Sleg} {D : Nat -> Int} (hcl : ∀ g, g ∈ l -> D (fr g) ≠ far -> D (to g) <= D (fr g) + (ln g)) {s : List Int} (hs : s.length = n) (hsf : ∀ j, gx s j <= far) (hd : ∀ j, D j <= gx s j) {g : Sleg} (hg : g ∈ l) (hn : (fr g) < n /\ (to g) < n) : ∀ j, D j <= gx (rlx s g) j := by
 intro j
 unfold rlx; split
 ·exact hd j
 ·rename_i h1
  split
  ·rw [gx_set (by rw [hs]; exact hn.2)]; split
   ·rename_i e; subst e
    have a := hd (fr g)
    have b := hsf (fr g)
    have := hcl g hg (by omega)
    omega
   ·exact hd j
  ·exact hd j
theorem rlx_far {s : List Int} {g : Sleg} (h : (to g) < s.length) (hsf : ∀ j, gx s j <= far) (j : Nat) : gx (rlx s g) j <= far := Int.le_trans (rlx_le h j) (hsf j)
theorem rnd_settles {n : Nat} {L : List Sleg} (hL : OKL n L) {D : Nat -> Int} (hcl : ∀ g, g ∈ L -> D (fr g) ≠ far -> D (to g) <= D (fr g) + (ln g)) : ∀ {l : List Sleg}, (∀ g, g ∈ l -> g ∈ L) -> ∀ {s : List Int}, s.length = n -> (∀ j, gx s j <= far) -> (∀ j, D j <= gx s j) ->
 (∀ j, D j <= gx (rnd s l) j) /\ (∀ j, gx s j = D j -> gx (rnd s l) j = D j) /\ ∀ g, g ∈ l -> gx s (fr g) = D (fr g) -> D (fr g) ≠ far -> D (fr g) + (ln g) = D (to g) -> gx (rnd s l) (to g) = D (to g)
 | [], _, s, _, _, hd => ⟨hd, fun _ h => h, fun g hg => absurd hg (by simp)⟩
 | x :: l, hl, s, hs, hsf, hd => by
   have hx := hL x (hl x (by simp))
   have hd' := rlx_ge hcl hs hsf hd (hl x (by simp)) hx
   obtain ⟨a, b, c⟩ := rnd_settles hL hcl (l := l) (fun y hy => hl y (by simp [hy])) (s := rlx s x) (by rw [rlx_len, hs]) (fun j => rlx_far (by rw [hs]; exact hx.2) hsf j) hd'
   have keep : ∀ j, gx s j = D j -> gx (rlx s x) j = D j := fun j hj => by
    have h1 := rlx_le (s := s) (g := x) (by rw [hs]; exact hx.2) j
    have h2 := hd' j
    omega
   refine ⟨a, fun j hj => b j (keep j hj), fun g hg h1 h2 h3 => ?_⟩
   rcases List.mem_cons.1 hg with rfl | hg
   ·apply b
    have h4 := hd' (to g)
    have h5 : gx (rlx s g) (to g) <= gx s (fr g) + (ln g) := by
     unfold rlx
     rw [if_neg (by rw [h1]; exact h2)]
     split
     ·rw [gx_set (by rw [hs]; exact hx.2), if_pos rfl]; exact Int.le_refl _
     ·rename_i h; omega
    omega
   ·exact c g hg (keep _ h1) h2 h3
def bump (p : Nat -> Bool) (D : Nat -> Int) (z : Nat) : Int := match p z with
 | true => D z
 | false => D z + 1
theorem bump_t {p : Nat -> Bool} {D : Nat -> Int} {z : Nat} (h : p z = true) : bump p D z = D z := by unfold bump; rw [h]
theorem bump_f {p : Nat -> Bool} {D : Nat -> Int} {z : Nat} (h : p z = false) : bump p D z = D z + 1 := by unfold bump; rw [h]
theorem bump_le (p : Nat -> Bool) (D : Nat -> Int) (z : Nat) : D z <= bump p D z /\ bump p D z <= D z + 1 := by
 cases h : p z with
 | true => rw [bump_t h]; omega
 | false => rw [bump_f h]; omega
theorem settle {n : Nat} (hn : 0 < n) {l : List Sleg} (hL : OKL n l) {A : Nat -> Prop} {h : Nat -> Int} (C : Cl l A h) {s : List Int} (hs : s.length = n) (hsf : ∀ j, gx s j <= far) (I : Inv n A h s) {M U : Int} (hM : 0 <= M) (hU : U + (n : Int) * M + M < far) (hm : ∀ g, g ∈ l -> (ln g) <= M) (hup : Up n M U s) : ∀ k, n <= k + 1 -> rnd (it l k s) l = it l k s := by
 obtain ⟨K, hK⟩ := ends hL C hs I
 have hfar := it_far hL hs hsf
 have hcl : ∀ g, g ∈ l -> gx (it l K s) (fr g) ≠ far -> gx (it l K s) (to g) <= gx (it l K s) (fr g) + (ln g) := fix_cl (by rw [it_len, hs]) hL (fun j _ => hfar K j) hK
 have below : ∀ k j, gx (it l K s) j <= gx (it l k s) j := fun k j => by
  rcases Nat.le_total k K with c | c
  ·have := it_le hL hs k (K - k) j
   rwa [show k + (K - k) = K by omega] at this
  ·have := it_fix hK (k - K)
   rw [show K + (k - K) = k by omega] at this
   rw [this]; exact Int.le_refl _
 generalize hD : (fun j => gx (it l K s) j) = D at *
 have hDj : ∀ j, D j = gx (it l K s) j := fun j => by rw [<- hD]
 have hcl' : ∀ g, g ∈ l -> D (fr g) ≠ far -> D (to g) <= D (fr g) + (ln g) := fun g hg h => by rw [hDj] at h; rw [hDj, hDj]; exact hcl g hg h
 have below' : ∀ k j, D j <= gx (it l k s) j := fun k j => by rw [hDj]; exact below k j
 clear hD
 have tight : ∀ k, (∃ j, j < n /\ gx (it l k s) j ≠ D j) -> ∃ g, g ∈ l /\ gx (it l k s) (fr g) = D (fr g) /\ D (fr g) ≠ far /\ D (fr g) + (ln g) = D (to g) /\ gx (it l k s) (to g) ≠ D (to g) := by
  intro k ⟨j, hj, hu⟩
  apply Classical.byContradiction
  intro hno
  have C' : Cl l (fun z => D z ≠ far) (bump (fun z => gx (it l k s) z == D z) D) := by
   constructor
   intro g hg ha
   have c1 := hcl' g hg ha
   have cf : D (to g) ≠ far := fun e => by
    have x1 := Up.max hM (it_up hM hU hL hm hs hsf hup K) (fr g) (hL g hg).1 (by rw [<- hDj]; exact ha)
    rw [<- hDj] at x1
    have x2 := hm g hg
    omega
   refine ⟨cf, ?_⟩
   have u1 := bump_le (fun z => gx (it l k s) z == D z) D (fr g)
   by_cases e1 : gx (it l k s) (to g) = D (to g)
   ·rw [bump_t (z := (to g)) (by simpa using e1)]; omega
   ·rw [bump_f (z := (to g)) (by simpa using e1)]
    by_cases e2 : gx (it l k s) (fr g) = D (fr g)
    ·rw [bump_t (z := (fr g)) (by simpa using e2)]
     have : D (fr g) + (ln g) ≠ D (to g) := fun e3 => hno ⟨g, hg, e2, ha, e3, e1⟩
     omega
    ·rw [bump_f (z := (fr g)) (by simpa using e2)]; omega
  have I' : Inv n (fun z => D z ≠ far) (bump (fun z => gx (it l k s) z == D z) D) s := by
   intro z hz hf
   have b0 := below' 0 z
   have f0 := hsf z
   have b1 := below' k z
   have b2 := it_le hL hs 0 k z
   rw [Nat.zero_add] at b2
   have b0' : D z <= gx s z := b0
   have b2' : gx (it l k s) z <= gx s z := b2
   refine ⟨by omega, ?_⟩
   by_cases e1 : gx (it l k s) z = D z
   ·rw [bump_t (z := z) (by simpa using e1)]; omega
   ·rw [bump_f (z := z) (by simpa using e1)]; omega
  have := it_inv C' hL hs I' K j hj
  have b1 := below' k j
  have f1 := hfar k j
  have hne : gx (it l K s) j ≠ far := by rw [<- hDj]; omega
  have := (this hne).2
  rw [bump_f (z := j) (by simpa using hu), <- hDj] at this
  omega
 have cnt : ∀ k, cn (fun j => gx (it l k s) j != D j) n + k + 1 <= n \/ ∀ j, j < n -> gx (it l k s) j = D j := by
  intro k
  have all : ∀ k, (¬∃ j, j < n /\ gx (it l k s) j ≠ D j) -> ∀ j, j < n -> gx (it l k s) j = D j := fun k h j hj => Classical.byContradiction fun e => h ⟨j, hj, e⟩
  have one : ∀ k, (∃ j, j < n /\ gx (it l k s) j ≠ D j) -> cn (fun j => gx (it l (k + 1) s) j != D j) n < cn (fun j => gx (it l k s) j != D j) n := fun k hu => by
   obtain ⟨g, hg, t1, t2, t3, t4⟩ := tight k hu
   obtain ⟨a, b, c⟩ := rnd_settles hL hcl' (fun _ h => h) (s := it l k s) (by rw [it_len, hs]) (hfar k) (below' k)
   refine cn_lt n (fun j _ hp => ?_) ⟨(to g), (hL g hg).2, ?_, by simpa using t4⟩
   ·cases e : gx (it l k s) j != D j with
    | true => rfl
    | false =>
      have := b j (by simpa using e)
      have hp' : gx (it l (k + 1) s) j ≠ D j := by simpa using hp
      exact absurd this hp'
   ·have := c g hg t1 t2 t3
    show (gx (rnd (it l k s) l) (to g) != D (to g)) = false
    rw [this]; simp
  induction k with
  | zero =>
    by_cases hu : ∃ j, j < n /\ gx (it l 0 s) j ≠ D j
    ·left
     obtain ⟨g, hg, t1, t2, t3, t4⟩ := tight 0 hu
     have h1 := cn_lt (p := fun j => gx (it l 0 s) j != D j) (r := fun _ => true) n (fun _ _ _ => rfl) ⟨(fr g), (hL g hg).1, by rw [t1]; simp, rfl⟩
     have h2 := cn_max (fun _ => true) n
     omega
    ·right; exact all 0 hu
  | succ k ih =>
    by_cases hu : ∃ j, j < n /\ gx (it l (k + 1) s) j ≠ D j
    ·left
     by_cases hv : ∃ j, j < n /\ gx (it l k s) j ≠ D j
     ·have := one k hv
      rcases ih with h | h
      ·omega
      ·obtain ⟨j, hj, e⟩ := hv
       exact absurd (h j hj) e
     ·obtain ⟨j, hj, e⟩ := hu
      obtain ⟨a, b, c⟩ := rnd_settles hL hcl' (fun _ h => h) (s := it l k s) (by rw [it_len, hs]) (hfar k) (below' k)
      exact absurd (b j (all k hv j hj)) e
    ·right; exact all _ hu
 intro k hk
 have e : it l k s = it l K s := by
  apply gx_ext (by rw [it_len, it_len])
  intro j hj
  rw [it_len, hs] at hj
  rw [<- hDj]
  rcases cnt k with c | c
  ·have z := cn_zero (p := fun j => gx (it l k s) j != D j) (n := n) (by omega) j hj
   simpa using z
  ·exact c j hj
 rw [e]; exact hK
inductive Wk (l : List Sleg) : Nat -> Nat -> Int -> Prop
 | nil (a : Nat) : Wk l a a 0
 | snoc {a : Nat} {s : Int} {g : Sleg} (h : Wk l a (fr g) s) (hg : g ∈ l) : Wk l a (to g) (s + ln g)
theorem Wk.app {l : List Sleg} {a b c : Nat} {s t : Int} (h : Wk l a b s) (k : Wk l b c t) : Wk l a c (s + t) := by
 induction k with
 | nil => rw [Int.add_zero]; exact h
 | snoc _ hg ih => rw [<- Int.add_assoc]; exact .snoc ih hg
theorem Wk.one {l : List Sleg} {g : Sleg} (hg : g ∈ l) : Wk l (fr g) (to g) (ln g) := by
 have := Wk.snoc (Wk.nil (l := l) (fr g)) hg
 rwa [Int.zero_add] at this
def Pot (l : List Sleg) (h : Nat -> Int) : Prop := ∀ g, g ∈ l -> h (to g) <= h (fr g) + ln g
theorem Pot.wk {l : List Sleg} {h : Nat -> Int} (H : Pot l h) {a b : Nat} {s : Int} (w : Wk l a b s) : h b <= h a + s := by
 induction w with
 | nil => omega
 | snoc _ hg ih => have := H _ hg; omega
theorem Pot.cl {l : List Sleg} {h : Nat -> Int} (H : Pot l h) : Cl l (fun _ => True) h := ⟨fun g hg _ => ⟨trivial, H g hg⟩⟩
def WI (l : List Sleg) (n z : Nat) (s : List Int) : Prop := ∀ j, j < n -> gx s j ≠ far -> Wk l z j (gx s j)
theorem rlx_wi {n z : Nat} {l : List Sleg} (hL : OKL n l) {s : List Int} (hs : s.length = n) {g : Sleg} (hg : g ∈ l) (I : WI l n z s) : WI l n z (rlx s g) := by
 unfold rlx; split
 ·exact I
 ·split
  ·rename_i h1 h2
   intro j hj hf
   rw [gx_set (by rw [hs]; exact (hL g hg).2)] at hf ⊢
   by_cases e : to g = j
   ·subst e
    rw [if_pos rfl]
    exact .snoc (I _ (hL g hg).1 h1) hg
   ·rw [if_neg e] at hf ⊢; exact I j hj hf
  ·exact I
theorem rnd_wi {n z : Nat} {L : List Sleg} (hL : OKL n L) : ∀ {l : List Sleg}, (∀ g, g ∈ l -> g ∈ L) -> ∀ {s : List Int}, s.length = n -> WI L n z s -> WI L n z (rnd s l)
 | [], _, s, _, I => I
 | g :: l, hl, s, hs, I => rnd_wi hL (l := l) (fun x hx => hl x (by simp [hx])) (s := rlx s g) (by rw [rlx_len, hs]) (rlx_wi hL hs (hl g (by simp)) I)
theorem it_wi {n z : Nat} {l : List Sleg} (hL : OKL n l) {s : List Int} (hs : s.length = n) (I : WI l n z s) : ∀ k, WI l n z (it l k s)
 | 0 => I
 | k + 1 => rnd_wi hL (fun _ h => h) (by rw [it_len, hs]) (it_wi hL hs I k)
theorem rlx_lo {M B : Int} (hM : 0 <= M) {s : List Int} {g : Sleg} (h2 : to g < s.length) (hg : -M <= ln g) (hB : ∀ j, j < s.length -> B <= gx s j) (h1 : fr g < s.length) : ∀ j, j < (rlx s g).length -> B - M <= gx (rlx s g) j := by
 intro j hj
 rw [rlx_len] at hj
 have := hB j hj
 unfold rlx; split
 ·omega
 ·split
  ·rw [gx_set h2]; split
   ·have := hB _ h1; omega
   ·omega
  ·omega
theorem rnd_lo {n : Nat} {M : Int} (hM : 0 <= M) : ∀ {l : List Sleg}, OKL n l -> (∀ g, g ∈ l -> -M <= ln g) -> ∀ {s : List Int} {B : Int}, s.length = n -> (∀ j, j < n -> B <= gx s j) -> ∀ j, j < n -> B - (l.length : Int) * M <= gx (rnd s l) j
 | [], _, _, s, B, _, hB, j, hj => by
   have h1 := hB j hj
   have e : (([] : List Sleg).length : Int) * M = 0 := by simp
   show _ <= gx s j
   rw [e]; omega
 | g :: l, hl, hm, s, B, hs, hB, j, hj => by
   have h1 := rlx_lo hM (s := s) (g := g) (by rw [hs]; exact (hl g (by simp)).2) (hm g (by simp)) (fun j hj => hB j (by omega)) (by rw [hs]; exact (hl g (by simp)).1)
   have h2 := rnd_lo hM (l := l) (fun x hx => hl x (by simp [hx])) (fun x hx => hm x (by simp [hx])) (s := rlx s g) (B := B - M) (by rw [rlx_len, hs]) (fun j hj => h1 j (by rw [rlx_len]; omega)) j hj
   show _ <= gx (rnd (rlx s g) l) j
   have e : ((g :: l).length : Int) * M = (l.length : Int) * M + M := by rw [List.length_cons, Int.natCast_add, Int.add_mul]; simp
   omega
theorem it_lo {n : Nat} {M : Int} (hM : 0 <= M) {l : List Sleg} (hL : OKL n l) (hm : ∀ g, g ∈ l -> -M <= ln g) {s : List Int} {B : Int} (hs : s.length = n) (hB : ∀ j, j < n -> B <= gx s j) : ∀ (k j : Nat), j < n -> B - (k : Int) * ((l.length : Int) * M) <= gx (it l k s) j
 | 0, j, hj => by have := hB j hj; simpa [it] using this
 | k + 1, j, hj => by
   have h1 := it_lo hM hL hm hs hB k
   have h2 := rnd_lo hM hL hm (s := it l k s) (by rw [it_len, hs]) h1 j hj
   have e : ((k + 1 : Nat) : Int) * ((l.length : Int) * M) = (k : Int) * ((l.length : Int) * M) + (l.length : Int) * M := by rw [Int.natCast_add, Int.add_mul]; simp
   rw [e]
   show _ <= gx (rnd (it l k s) l) j
   omega
structure Web (n : Nat) (l : List Sleg) : Prop where
 n0 : 0 < n
 n1 : n <= 40
 ok : OKL n l
 up : ∀ g, g ∈ l -> ln g <= 1000000
 lo : ∀ g, g ∈ l -> -1000000 <= ln g
 few : l.length <= 200
 two : ∀ g, g ∈ l -> fr g ≠ to g
section
variable {n : Nat} {l : List Sleg}
def zs (n : Nat) : List Int := List.replicate n 0
def fs (n z : Nat) : List Int := (List.replicate n far).set z 0
theorem zs_len : (zs n).length = n := List.length_replicate
theorem fs_len (z : Nat) : (fs n z).length = n := by unfold fs; simp
theorem gx_zs (j : Nat) : gx (zs n) j = 0 := by
 unfold gx zs
 rw [List.getD_eq_getElem?_getD, List.getElem?_replicate]; split <;> rfl
theorem gx_fs {z j : Nat} (hz : z < n) (hj : j < n) : gx (fs n z) j = if z = j then 0 else far := by
 unfold fs
 rw [gx_set (by simpa using hz)]
 split
 ·rfl
 ·unfold gx
  rw [List.getD_eq_getElem?_getD, List.getElem?_replicate, if_pos hj]; rfl
theorem fs_far (z j : Nat) : gx (fs n z) j <= far := by
 by_cases hz : z < n
 ·by_cases hj : j < n
  ·rw [gx_fs hz hj]; split <;> unfold far <;> omega
  ·unfold gx
   rw [List.getD_eq_getElem?_getD, List.getElem?_eq_none (by rw [fs_len]; omega)]
   show (0 : Int) <= far; unfold far; omega
 ·unfold fs
  rw [List.set_eq_of_length_le (by simpa using hz)]
  unfold gx
  rw [List.getD_eq_getElem?_getD, List.getElem?_replicate]
  split
  ·exact Int.le_refl _
  ·show (0 : Int) <= far; unfold far; omega
theorem zs_up : Up n 1000000 0 (zs n) := fun z _ _ => by
 rw [gx_zs]
 have : (0 : Int) <= (cn (fun j => gx (zs n) j != far) n : Int) * 1000000 := Int.mul_nonneg (by omega) (by omega)
 omega
theorem fs_up {z : Nat} (hz : z < n) : Up n 1000000 0 (fs n z) := fun j hj hf => by
 rw [gx_fs hz hj] at hf ⊢
 have : (0 : Int) <= (cn (fun j => gx (fs n z) j != far) n : Int) * 1000000 := Int.mul_nonneg (by omega) (by omega)
 split
 ·omega
 ·rename_i e; rw [if_neg e] at hf; exact absurd rfl hf
theorem small_up (W : Web n l) : (0 : Int) + (n : Int) * 1000000 + 1000000 < far := by
 have := W.n1; unfold far; omega
theorem zs_settle (W : Web n l) {h : Nat -> Int} (H : Pot l h) : ∀ k, n <= k + 1 -> rnd (it l k (zs n)) l = it l k (zs n) := by
 obtain ⟨B, b0, b⟩ := lower_bound (fun z => -(h z)) n
 have C : Cl l (fun _ => True) (fun z => h z + B) := ⟨fun g hg _ => ⟨trivial, by have := H g hg; omega⟩⟩
 exact settle W.n0 W.ok C zs_len (fun j => by rw [gx_zs]; unfold far; omega) (fun z hz _ => ⟨trivial, by rw [gx_zs]; have := b z hz; dsimp only at this ⊢; omega⟩) (by omega) (small_up W) W.up zs_up
theorem zs_pot (W : Web n l) {k : Nat} (hk : rnd (it l k (zs n)) l = it l k (zs n)) : Pot l (fun z => gx (it l k (zs n)) z) := by
 have hf : ∀ j, gx (it l k (zs n)) j <= 0 := fun j => by
  have := it_le W.ok (s := zs n) zs_len 0 k j
  rw [Nat.zero_add] at this
  have e : gx (it l 0 (zs n)) j = 0 := gx_zs j
  omega
 intro g hg
 refine fix_cl (n := n) (by rw [it_len, zs_len]) W.ok (fun j _ => ?_) hk g hg ?_
 ·have := hf j; unfold far; omega
 ·have := hf (fr g); unfold far; omega
theorem pot_bounded (W : Web n l) {h : Nat -> Int} (H : Pot l h) : ∃ h, Pot l h /\ ∀ z, z < n -> -8000000000 <= h z /\ h z <= 0 := by
 refine ⟨_, zs_pot W (k := n) (zs_settle W H n (by omega)), fun z hz => ⟨?_, ?_⟩⟩
 ·have h1 := it_lo (M := 1000000) (by omega) W.ok W.lo (s := zs n) (B := 0) zs_len (fun j _ => by rw [gx_zs]; omega) n z hz
  have h2 : (l.length : Int) * 1000000 <= 200000000 := by have := W.few; omega
  have h3 : (n : Int) * ((l.length : Int) * 1000000) <= 40 * 200000000 := Int.mul_le_mul (by have := W.n1; omega) h2 (by omega) (by omega)
  omega
 ·have := it_le W.ok (s := zs n) zs_len 0 n z
  rw [Nat.zero_add] at this
  have e : gx (it l 0 (zs n)) z = 0 := gx_zs z
  omega
def Dz (n : Nat) (l : List Sleg) (z j : Nat) : Int := gx (it l n (fs n z)) j
theorem Dz_wk (W : Web n l) {z j : Nat} (hz : z < n) (hj : j < n) (hf : Dz n l z j ≠ far) : Wk l z j (Dz n l z j) := by
 refine it_wi W.ok (fs_len z) (fun j hj hf => ?_) n j hj hf
 rw [gx_fs hz hj] at hf ⊢
 split
 ·rename_i e; subst e; exact .nil _
 ·rename_i e; rw [if_neg e] at hf; exact absurd rfl hf
theorem Dz_far (W : Web n l) (z j : Nat) : Dz n l z j <= far := it_far W.ok (fs_len z) (fs_far z) n j
theorem Dz_lo (W : Web n l) {h : Nat -> Int} (H : Pot l h) {z j : Nat} (hz : z < n) (hj : j < n) : -8000000000 <= Dz n l z j := by
 by_cases hf : Dz n l z j = far
 ·rw [hf]; unfold far; omega
 ·obtain ⟨h', H', hb⟩ := pot_bounded W H
  have := H'.wk (Dz_wk W hz hj hf)
  have h1 := hb z hz
  have h2 := hb j hj
  omega
def upd (Z : Int) (c : Nat) (d : Nat -> Nat -> Int) (a b : Nat) : Int := if d a c < Z /\ d c b < Z then max (min (d a b) (d a c + d c b)) (-Z) else d a b
def fw (Z : Int) (d : Nat -> Nat -> Int) : Nat -> Nat -> Nat -> Int
 | 0 => d
 | k + 1 => upd Z k (fw Z d k)
structure FI (n : Nat) (l : List Sleg) (Z : Int) (d : Nat -> Nat -> Int) : Prop where
 dg : ∀ a, a < n -> d a a = 0
 lo : ∀ a b, a < n -> b < n -> -Z <= d a b /\ d a b <= Z
 wk : ∀ a b, a < n -> b < n -> d a b < Z -> ∃ s, Wk l a b s /\ s <= d a b
 leg : ∀ g, g ∈ l -> d (fr g) (to g) <= ln g
inductive Pth (l : List Sleg) : Nat -> List Nat -> Nat -> Int -> Prop
 | one {g : Sleg} (hg : g ∈ l) : Pth l (fr g) [] (to g) (ln g)
 | cons {g : Sleg} {p : List Nat} {b : Nat} {s : Int} (hg : g ∈ l) (h : Pth l (to g) p b s) : Pth l (fr g) (to g :: p) b (ln g + s)
theorem Pth.split {k : Nat} {p2 : List Nat} {b : Nat} : ∀ {p1 : List Nat} {a : Nat} {s : Int}, Pth l a (p1 ++ k :: p2) b s -> ∃ s1 s2, Pth l a p1 k s1 /\ Pth l k p2 b s2 /\ s = s1 + s2
 | [], a, s, h => by
   generalize hp : ([] : List Nat) ++ k :: p2 = p at h
   cases h with
   | one => cases hp
   | @cons g p b s hg h =>
     injection hp with h1 h2
     subst h2; subst h1
     exact ⟨_, _, .one hg, h, rfl⟩
 | x :: p1, a, s, h => by
   generalize hp : (x :: p1) ++ k :: p2 = p at h
   cases h with
   | one => cases hp
   | @cons g p b s hg h =>
     injection hp with h1 h2
     subst h1; subst h2
     obtain ⟨s1, s2, g1, g2, g3⟩ := Pth.split h
     exact ⟨_, _, .cons hg g1, g2, by omega⟩
theorem Pth.ends (W : Web n l) {a : Nat} {p : List Nat} {b : Nat} {s : Int} (h : Pth l a p b s) : a < n /\ b < n /\ s <= ((p.length : Int) + 1) * 1000000 := by
 induction h with
 | one hg => have := W.up _ hg; exact ⟨(W.ok _ hg).1, (W.ok _ hg).2, by simp; omega⟩
 | cons hg h ih => have := W.up _ hg; exact ⟨(W.ok _ hg).1, ih.2.1, by rw [List.length_cons]; omega⟩
structure FT (n : Nat) (Z : Int) (k : Nat) (d : Nat -> Nat -> Int) : Prop where
 lo : ∀ a b, a < n -> b < n -> d a b < Z -> -8000000000 <= d a b
 tri : ∀ c a b X Y, c < k -> a < n -> b < n -> d a c <= X -> d c b <= Y -> X <= 500000000000 - (k : Int) * 8000000000 -> Y <= 500000000000 - (k : Int) * 8000000000 -> d a b <= X + Y
end
end Go.Proofs.Ytclgijochagpdaa.Vg
