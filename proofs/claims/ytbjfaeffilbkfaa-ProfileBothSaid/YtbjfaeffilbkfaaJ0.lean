/- Ways and sums over legs, lengths by passes, plain. -/
import Derived.Test.YtbjfaeffilbkfaaW1
set_option linter.unusedVariables false
set_option linter.unusedSimpArgs false
namespace Go.Proofs.Ytbjfaeffilbkfaa.Vg
open Go Go.Proofs.Ytbjfaeffilbkfaa.Ev Go.Proofs.Ytbjfaeffilbkfaa.Vv
def fr (g : Sleg) : Nat := g.from_.toNat
def to (g : Sleg) : Nat := g.to.toNat
def ln (g : Sleg) : Int := g.length
def far : Int := 9223372036854775807
def gx (s : List Int) (j : Nat) : Int := s.getD j 0
theorem gx_set {s : List Int} {i j : Nat} {v : Int} (h : i < s.length) : gx (s.set i v) j = if i = j then v else gx s j := by
  unfold gx
  simp only [List.getD_eq_getElem?_getD]
  by_cases e : i = j
  · subst e; rw [if_pos rfl, List.getElem?_set_self h]; rfl
  · rw [if_neg e, List.getElem?_set_ne e]
theorem gx_ext {s t : List Int} (hl : s.length = t.length) (h : ∀ j, j < s.length → gx s j = gx t j) : s = t := by
  apply List.ext_getElem hl
  intro i h1 h2
  have := h i h1
  unfold gx at this
  rwa [List.getD_eq_getElem?_getD, List.getD_eq_getElem?_getD, List.getElem?_eq_getElem h1, List.getElem?_eq_getElem h2] at this
def rlx (s : List Int) (g : Sleg) : List Int := if gx s (fr g) = far then s else if gx s (fr g) + (ln g) < gx s (to g) then s.set (to g) (gx s (fr g) + (ln g)) else s
def rnd (s : List Int) (l : List Sleg) : List Int := l.foldl rlx s
def OKL (n : Nat) (l : List Sleg) : Prop := ∀ g, g ∈ l → (fr g) < n ∧ (to g) < n
theorem rlx_len (s : List Int) (g : Sleg) : (rlx s g).length = s.length := by
  unfold rlx; split
  · rfl
  · split <;> simp
theorem rnd_len (l : List Sleg) : ∀ s : List Int, (rnd s l).length = s.length := by
  induction l with
  | nil => intro s; rfl
  | cons g l ih => intro s; show (rnd (rlx s g) l).length = _; rw [ih, rlx_len]
theorem rlx_le {s : List Int} {g : Sleg} (h : (to g) < s.length) (j : Nat) : gx (rlx s g) j ≤ gx s j := by
  unfold rlx; split
  · exact Int.le_refl _
  · split
    · rename_i h2; rw [gx_set h]; split
      · rename_i e; subst e; omega
      · exact Int.le_refl _
    · exact Int.le_refl _
theorem rnd_le {n : Nat} : ∀ {l : List Sleg}, OKL n l → ∀ {s : List Int}, s.length = n → ∀ j, gx (rnd s l) j ≤ gx s j
  | [], _, s, _, j => Int.le_refl _
  | g :: l, hl, s, hs, j => by
    have h1 := rnd_le (l := l) (fun x hx => hl x (by simp [hx])) (s := rlx s g) (by rw [rlx_len, hs]) j
    have h2 := rlx_le (s := s) (g := g) (by rw [hs]; exact (hl g (by simp)).2) j
    exact Int.le_trans h1 h2
/-- what holds at every end of ways. -/
structure Cl (l : List Sleg) (A : Nat → Prop) (h : Nat → Int) : Prop where
  out : ∀ g, g ∈ l → A (fr g) → A (to g) ∧ h (to g) ≤ h (fr g) + (ln g)
def Inv (n : Nat) (A : Nat → Prop) (h : Nat → Int) (s : List Int) : Prop := ∀ z, z < n → gx s z ≠ far → A z ∧ h z ≤ gx s z
theorem rlx_inv {n : Nat} {l : List Sleg} {A : Nat → Prop} {h : Nat → Int} (C : Cl l A h) {s : List Int} (hs : s.length = n) {g : Sleg} (hg : g ∈ l) (hn : (fr g) < n ∧ (to g) < n) (I : Inv n A h s) : Inv n A h (rlx s g) := by
  unfold rlx; split
  · exact I
  · split
    · rename_i h1 h2
      intro z hz hf
      rw [gx_set (by rw [hs]; exact hn.2)] at hf ⊢
      by_cases e : (to g) = z
      · subst e
        rw [if_pos rfl]
        obtain ⟨a1, a2⟩ := I (fr g) hn.1 h1
        obtain ⟨b1, b2⟩ := C.out g hg a1
        exact ⟨b1, by omega⟩
      · rw [if_neg e] at hf ⊢; exact I z hz hf
    · exact I
theorem rnd_inv {n : Nat} {L : List Sleg} {A : Nat → Prop} {h : Nat → Int} (C : Cl L A h) (hL : OKL n L) : ∀ {l : List Sleg}, (∀ g, g ∈ l → g ∈ L) → ∀ {s : List Int}, s.length = n → Inv n A h s → Inv n A h (rnd s l)
  | [], _, s, _, I => I
  | g :: l, hl, s, hs, I => rnd_inv C hL (l := l) (fun x hx => hl x (by simp [hx])) (s := rlx s g) (by rw [rlx_len, hs]) (rlx_inv C hs (hl g (by simp)) (hL g (hl g (by simp))) I)
def it (l : List Sleg) : Nat → List Int → List Int
  | 0, s => s
  | k + 1, s => rnd (it l k s) l
theorem it_len (l : List Sleg) (s : List Int) : ∀ k, (it l k s).length = s.length
  | 0 => rfl
  | k + 1 => by rw [it, rnd_len, it_len l s k]
theorem it_inv {n : Nat} {l : List Sleg} {A : Nat → Prop} {h : Nat → Int} (C : Cl l A h) (hL : OKL n l) {s : List Int} (hs : s.length = n) (I : Inv n A h s) : ∀ k, Inv n A h (it l k s)
  | 0 => I
  | k + 1 => rnd_inv C hL (fun _ h => h) (by rw [it_len, hs]) (it_inv C hL hs I k)
theorem it_le {n : Nat} {l : List Sleg} (hL : OKL n l) {s : List Int} (hs : s.length = n) : ∀ k m j, gx (it l (k + m) s) j ≤ gx (it l k s) j
  | k, 0, j => Int.le_refl _
  | k, m + 1, j => Int.le_trans (rnd_le hL (by rw [it_len, hs]) j) (it_le hL hs k m j)
/-- a round that changes nothing: no leg lowers. -/
theorem fix_one {n : Nat} : ∀ {l : List Sleg}, OKL n l → ∀ {s : List Int}, s.length = n → rnd s l = s → ∀ g, g ∈ l → rlx s g = s
  | [], _, s, _, _, g, hg => absurd hg (by simp)
  | x :: l, hl, s, hs, h, g, hg => by
    have hl' : OKL n l := fun y hy => hl y (by simp [hy])
    have e : rlx s x = s := by
      apply gx_ext (rlx_len _ _)
      intro j hj
      have h1 := rnd_le hl' (s := rlx s x) (by rw [rlx_len, hs]) j
      have h2 := rlx_le (s := s) (g := x) (by rw [hs]; exact (hl x (by simp)).2) j
      have h3 : rnd (rlx s x) l = s := h
      rw [h3] at h1
      omega
    rcases List.mem_cons.1 hg with rfl | hg
    · exact e
    · have h3 : rnd (rlx s x) l = s := h
      rw [e] at h3
      exact fix_one hl' hs h3 g hg
theorem fix_cl {s : List Int} {n : Nat} (hs : s.length = n) {l : List Sleg} (hl : OKL n l) (hf : ∀ j, j < n → gx s j ≤ far) (h : rnd s l = s) : ∀ g, g ∈ l → gx s (fr g) ≠ far → gx s (to g) ≤ gx s (fr g) + (ln g) := by
  intro g hg hne
  have e := fix_one hl hs h g hg
  unfold rlx at e
  rw [if_neg hne] at e
  rcases Int.lt_or_le (gx s (fr g) + (ln g)) (gx s (to g)) with c | c
  · rw [if_pos c] at e
    have := congrArg (fun t => gx t (to g)) e
    rw [gx_set (by rw [hs]; exact (hl g hg).2), if_pos rfl] at this
    omega
  · exact c
theorem cl_fix {n : Nat} : ∀ {l : List Sleg}, OKL n l → ∀ {s : List Int}, s.length = n → (∀ g, g ∈ l → gx s (fr g) ≠ far → gx s (to g) ≤ gx s (fr g) + (ln g)) → rnd s l = s
  | [], _, s, _, _ => rfl
  | x :: l, hl, s, hs, h => by
    have e : rlx s x = s := by
      unfold rlx; split
      · rfl
      · rename_i hne
        have := h x (by simp) hne
        rw [if_neg (by omega)]
    show rnd (rlx s x) l = s
    rw [e]
    exact cl_fix (fun y hy => hl y (by simp [hy])) hs (fun g hg => h g (by simp [hg]))
/-- the sum of what stands in the first places. -/
def tot (s : List Int) : Nat → Int
  | 0 => 0
  | n + 1 => tot s n + gx s n
theorem tot_le {s t : List Int} : ∀ n, (∀ j, j < n → gx s j ≤ gx t j) → tot s n ≤ tot t n
  | 0, _ => Int.le_refl _
  | n + 1, h => by have := tot_le n (fun j hj => h j (by omega)); have := h n (by omega); unfold tot; omega
theorem tot_lt {s t : List Int} : ∀ n, (∀ j, j < n → gx s j ≤ gx t j) → (∃ j, j < n ∧ gx s j < gx t j) → tot s n < tot t n
  | 0, _, ⟨j, hj, _⟩ => absurd hj (by omega)
  | n + 1, h, ⟨j, hj, e⟩ => by
    have a := tot_le n (fun j hj => h j (by omega))
    have b := h n (by omega)
    unfold tot
    by_cases c : j = n
    · subst c; omega
    · have := tot_lt n (fun j hj => h j (by omega)) ⟨j, by omega, e⟩; omega
theorem tot_ge {s : List Int} {B : Int} : ∀ n : Nat, (∀ j, j < n → B ≤ gx s j) → (n : Int) * B ≤ tot s n
  | 0, _ => by simp [tot]
  | n + 1, h => by
    have a := tot_ge (B := B) n (fun j hj => h j (by omega))
    have b := h n (by omega)
    have e : ((n + 1 : Nat) : Int) * B = (n : Int) * B + B := by rw [Int.natCast_add, Int.add_mul]; simp
    rw [e]; unfold tot; omega
theorem lower_bound (h : Nat → Int) : ∀ n, ∃ B, B ≤ 0 ∧ ∀ z, z < n → B ≤ h z
  | 0 => ⟨0, by omega, fun z hz => by omega⟩
  | n + 1 => by
    obtain ⟨B, b0, b⟩ := lower_bound h n
    refine ⟨min B (h n), by omega, fun z hz => ?_⟩
    by_cases c : z = n
    · subst c; omega
    · have := b z (by omega); omega
/-- rounds come to an end where there is a bound below. -/
theorem ends {n : Nat} {l : List Sleg} (hL : OKL n l) {A : Nat → Prop} {h : Nat → Int} (C : Cl l A h) {s : List Int} (hs : s.length = n) (I : Inv n A h s) : ∃ k, it l (k + 1) s = it l k s := by
  obtain ⟨B, b0, b⟩ := lower_bound h n
  have lo : ∀ k z, z < n → B ≤ gx (it l k s) z := fun k z hz => by
    by_cases e : gx (it l k s) z = far
    · rw [e]; unfold far; omega
    · exact Int.le_trans (b z hz) (it_inv C hL hs I k z hz e).2
  have main : ∀ m : Nat, ∀ k, (tot (it l k s) n - (n : Int) * B).toNat ≤ m → ∃ k, it l (k + 1) s = it l k s := by
    intro m
    induction m with
    | zero =>
      intro k hk
      refine ⟨k, ?_⟩
      have g1 := tot_ge (s := it l (k + 1) s) n (fun j hj => lo (k + 1) j hj)
      apply gx_ext (by rw [it_len, it_len])
      intro j hj
      rw [it_len, hs] at hj
      have le := it_le hL hs k 1 j
      rcases Int.lt_or_le (gx (it l (k + 1) s) j) (gx (it l k s) j) with c | c
      · have := tot_lt n (fun j _ => it_le hL hs k 1 j) ⟨j, hj, c⟩; omega
      · omega
    | succ m ih =>
      intro k hk
      by_cases e : it l (k + 1) s = it l k s
      · exact ⟨k, e⟩
      · apply ih (k + 1)
        have : ∃ j, j < n ∧ gx (it l (k + 1) s) j < gx (it l k s) j := by
          apply Classical.byContradiction
          intro hn
          apply e
          apply gx_ext (by rw [it_len, it_len])
          intro j hj
          rw [it_len, hs] at hj
          have le := it_le hL hs k 1 j
          rcases Int.lt_or_le (gx (it l (k + 1) s) j) (gx (it l k s) j) with c | c
          · exact absurd ⟨j, hj, c⟩ hn
          · omega
        have := tot_lt n (fun j _ => it_le hL hs k 1 j) this
        omega
  exact main _ 0 (Nat.le_refl _)
theorem it_fix {l : List Sleg} {s : List Int} {k : Nat} (h : it l (k + 1) s = it l k s) : ∀ m, it l (k + m) s = it l k s
  | 0 => rfl
  | m + 1 => by
    show rnd (it l (k + m) s) l = _
    rw [it_fix h m]; exact h
/-- how many places below n have p. -/
def cn (p : Nat → Bool) : Nat → Nat
  | 0 => 0
  | n + 1 => cn p n + (p n).toNat
theorem cn_le {p r : Nat → Bool} : ∀ n, (∀ j, j < n → p j = true → r j = true) → cn p n ≤ cn r n
  | 0, _ => Nat.le_refl _
  | n + 1, h => by
    have a := cn_le n (fun j hj => h j (by omega))
    have b := h n (by omega)
    unfold cn
    cases hp : p n
    · simp; omega
    · rw [b hp]; simp; omega
theorem cn_lt {p r : Nat → Bool} : ∀ n, (∀ j, j < n → p j = true → r j = true) → (∃ j, j < n ∧ p j = false ∧ r j = true) → cn p n < cn r n
  | 0, _, ⟨j, hj, _⟩ => absurd hj (by omega)
  | n + 1, h, ⟨j, hj, e1, e2⟩ => by
    have a := cn_le n (fun j hj => h j (by omega))
    have b := h n (by omega)
    unfold cn
    by_cases c : j = n
    · subst c; rw [e1, e2]; simp; omega
    · have := cn_lt n (fun j hj => h j (by omega)) ⟨j, by omega, e1, e2⟩
      cases hp : p n
      · simp; omega
      · rw [b hp]; simp; omega
theorem cn_max (p : Nat → Bool) : ∀ n, cn p n ≤ n
  | 0 => Nat.le_refl _
  | n + 1 => by have := cn_max p n; unfold cn; cases p n <;> simp <;> omega
theorem cn_zero {p : Nat → Bool} : ∀ {n}, cn p n = 0 → ∀ j, j < n → p j = false
  | 0, _, j, hj => by omega
  | n + 1, h, j, hj => by
    unfold cn at h
    by_cases c : j = n
    · subst c; cases hp : p j
      · rfl
      · rw [hp] at h; simp at h
    · exact cn_zero (n := n) (by omega) j (by omega)
/-- no more than so much for each place that is reached. -/
def Up (n : Nat) (M U : Int) (s : List Int) : Prop := ∀ z, z < n → gx s z ≠ far → gx s z ≤ U + (cn (fun j => gx s j != far) n : Int) * M
theorem Up.max {n : Nat} {M U : Int} (hM : 0 ≤ M) {s : List Int} (h : Up n M U s) : ∀ z, z < n → gx s z ≠ far → gx s z ≤ U + (n : Int) * M := fun z hz hf => by
  have a := h z hz hf
  have b := cn_max (fun j => gx s j != far) n
  have c : (cn (fun j => gx s j != far) n : Int) * M ≤ (n : Int) * M := Int.mul_le_mul_of_nonneg_right (by omega) hM
  omega
theorem rlx_up {n : Nat} {M U : Int} (hM : 0 ≤ M) (hU : U + (n : Int) * M + M < far) {s : List Int} (hs : s.length = n) (hsf : ∀ j, gx s j ≤ far) {g : Sleg} (hn : (fr g) < n ∧ (to g) < n) (hg : (ln g) ≤ M) (h : Up n M U s) : Up n M U (rlx s g) := by
  unfold rlx; split
  · exact h
  · rename_i h1
    split
    · rename_i h2
      have u1 := h (fr g) hn.1 h1
      have u2 := Up.max hM h (fr g) hn.1 h1
      have hnew : gx s (fr g) + (ln g) ≠ far := by omega
      have hle : cn (fun j => gx s j != far) n ≤ cn (fun j => gx (s.set (to g) (gx s (fr g) + (ln g))) j != far) n := cn_le n (fun j hj hp => by
        rw [gx_set (by rw [hs]; exact hn.2)]
        split
        · simpa using hnew
        · exact hp)
      have hle2 : (cn (fun j => gx s j != far) n : Int) * M ≤ (cn (fun j => gx (s.set (to g) (gx s (fr g) + (ln g))) j != far) n : Int) * M := Int.mul_le_mul_of_nonneg_right (by omega) hM
      intro z hz hf
      rw [gx_set (by rw [hs]; exact hn.2)] at hf ⊢
      by_cases e : (to g) = z
      · subst e
        rw [if_pos rfl]
        by_cases c : gx s (to g) = far
        · have hlt : cn (fun j => gx s j != far) n < cn (fun j => gx (s.set (to g) (gx s (fr g) + (ln g))) j != far) n := cn_lt n (fun j hj hp => by
            rw [gx_set (by rw [hs]; exact hn.2)]
            split
            · simpa using hnew
            · exact hp) ⟨(to g), hn.2, by simpa using c, by rw [gx_set (by rw [hs]; exact hn.2), if_pos rfl]; simpa using hnew⟩
          have hlt2 : ((cn (fun j => gx s j != far) n + 1 : Nat) : Int) * M ≤ (cn (fun j => gx (s.set (to g) (gx s (fr g) + (ln g))) j != far) n : Int) * M := Int.mul_le_mul_of_nonneg_right (by omega) hM
          have e : ((cn (fun j => gx s j != far) n + 1 : Nat) : Int) * M = (cn (fun j => gx s j != far) n : Int) * M + M := by rw [Int.natCast_add, Int.add_mul]; simp
          omega
        · have := h (to g) hn.2 c
          omega
      · rw [if_neg e] at hf ⊢
        have := h z hz hf
        omega
    · exact h
theorem rnd_up {n : Nat} {M U : Int} (hM : 0 ≤ M) (hU : U + (n : Int) * M + M < far) : ∀ {l : List Sleg}, OKL n l → (∀ g, g ∈ l → (ln g) ≤ M) → ∀ {s : List Int}, s.length = n → (∀ j, gx s j ≤ far) → Up n M U s → Up n M U (rnd s l)
  | [], _, _, s, _, _, h => h
  | g :: l, hl, hm, s, hs, hsf, h => rnd_up hM hU (l := l) (fun x hx => hl x (by simp [hx])) (fun x hx => hm x (by simp [hx])) (s := rlx s g) (by rw [rlx_len, hs]) (fun j => Int.le_trans (rlx_le (by rw [hs]; exact (hl g (by simp)).2) j) (hsf j)) (rlx_up hM hU hs hsf (hl g (by simp)) (hm g (by simp)) h)
theorem it_far {n : Nat} {l : List Sleg} (hL : OKL n l) {s : List Int} (hs : s.length = n) (hsf : ∀ j, gx s j ≤ far) (k j : Nat) : gx (it l k s) j ≤ far := by
  have := it_le hL hs 0 k j
  rw [Nat.zero_add] at this
  exact Int.le_trans this (hsf j)
theorem it_up {n : Nat} {M U : Int} (hM : 0 ≤ M) (hU : U + (n : Int) * M + M < far) {l : List Sleg} (hL : OKL n l) (hm : ∀ g, g ∈ l → (ln g) ≤ M) {s : List Int} (hs : s.length = n) (hsf : ∀ j, gx s j ≤ far) (h : Up n M U s) : ∀ k, Up n M U (it l k s)
  | 0 => h
  | k + 1 => rnd_up hM hU hL hm (by rw [it_len, hs]) (it_far hL hs hsf k) (it_up hM hU hL hm hs hsf h k)
theorem rlx_ge {n : Nat} {l : List Sleg} {D : Nat → Int} (hcl : ∀ g, g ∈ l → D (fr g) ≠ far → D (to g) ≤ D (fr g) + (ln g)) {s : List Int} (hs : s.length = n) (hsf : ∀ j, gx s j ≤ far) (hd : ∀ j, D j ≤ gx s j) {g : Sleg} (hg : g ∈ l) (hn : (fr g) < n ∧ (to g) < n) : ∀ j, D j ≤ gx (rlx s g) j := by
  intro j
  unfold rlx; split
  · exact hd j
  · rename_i h1
    split
    · rw [gx_set (by rw [hs]; exact hn.2)]; split
      · rename_i e; subst e
        have a := hd (fr g)
        have b := hsf (fr g)
        have := hcl g hg (by omega)
        omega
      · exact hd j
    · exact hd j
theorem rlx_far {s : List Int} {g : Sleg} (h : (to g) < s.length) (hsf : ∀ j, gx s j ≤ far) (j : Nat) : gx (rlx s g) j ≤ far := Int.le_trans (rlx_le h j) (hsf j)
/-- within a round: what is settled stays so, and the end of a tight leg is settled. -/
theorem rnd_settles {n : Nat} {L : List Sleg} (hL : OKL n L) {D : Nat → Int} (hcl : ∀ g, g ∈ L → D (fr g) ≠ far → D (to g) ≤ D (fr g) + (ln g)) : ∀ {l : List Sleg}, (∀ g, g ∈ l → g ∈ L) → ∀ {s : List Int}, s.length = n → (∀ j, gx s j ≤ far) → (∀ j, D j ≤ gx s j) →
    (∀ j, D j ≤ gx (rnd s l) j) ∧ (∀ j, gx s j = D j → gx (rnd s l) j = D j) ∧ ∀ g, g ∈ l → gx s (fr g) = D (fr g) → D (fr g) ≠ far → D (fr g) + (ln g) = D (to g) → gx (rnd s l) (to g) = D (to g)
  | [], _, s, _, _, hd => ⟨hd, fun _ h => h, fun g hg => absurd hg (by simp)⟩
  | x :: l, hl, s, hs, hsf, hd => by
    have hx := hL x (hl x (by simp))
    have hd' := rlx_ge hcl hs hsf hd (hl x (by simp)) hx
    obtain ⟨a, b, c⟩ := rnd_settles hL hcl (l := l) (fun y hy => hl y (by simp [hy])) (s := rlx s x) (by rw [rlx_len, hs]) (fun j => rlx_far (by rw [hs]; exact hx.2) hsf j) hd'
    have keep : ∀ j, gx s j = D j → gx (rlx s x) j = D j := fun j hj => by
      have h1 := rlx_le (s := s) (g := x) (by rw [hs]; exact hx.2) j
      have h2 := hd' j
      omega
    refine ⟨a, fun j hj => b j (keep j hj), fun g hg h1 h2 h3 => ?_⟩
    rcases List.mem_cons.1 hg with rfl | hg
    · apply b
      have h4 := hd' (to g)
      have h5 : gx (rlx s g) (to g) ≤ gx s (fr g) + (ln g) := by
        unfold rlx
        rw [if_neg (by rw [h1]; exact h2)]
        split
        · rw [gx_set (by rw [hs]; exact hx.2), if_pos rfl]; exact Int.le_refl _
        · rename_i h; omega
      omega
    · exact c g hg (keep _ h1) h2 h3
/-- one more where p is not. -/
def bump (p : Nat → Bool) (D : Nat → Int) (z : Nat) : Int := match p z with
  | true => D z
  | false => D z + 1
theorem bump_t {p : Nat → Bool} {D : Nat → Int} {z : Nat} (h : p z = true) : bump p D z = D z := by unfold bump; rw [h]
theorem bump_f {p : Nat → Bool} {D : Nat → Int} {z : Nat} (h : p z = false) : bump p D z = D z + 1 := by unfold bump; rw [h]
theorem bump_le (p : Nat → Bool) (D : Nat → Int) (z : Nat) : D z ≤ bump p D z ∧ bump p D z ≤ D z + 1 := by
  cases h : p z with
  | true => rw [bump_t h]; omega
  | false => rw [bump_f h]; omega
/-- after as many rounds as there are places, less one, nothing is lowered. -/
theorem settle {n : Nat} (hn : 0 < n) {l : List Sleg} (hL : OKL n l) {A : Nat → Prop} {h : Nat → Int} (C : Cl l A h) {s : List Int} (hs : s.length = n) (hsf : ∀ j, gx s j ≤ far) (I : Inv n A h s) {M U : Int} (hM : 0 ≤ M) (hU : U + (n : Int) * M + M < far) (hm : ∀ g, g ∈ l → (ln g) ≤ M) (hup : Up n M U s) : ∀ k, n ≤ k + 1 → rnd (it l k s) l = it l k s := by
  obtain ⟨K, hK⟩ := ends hL C hs I
  have hfar := it_far hL hs hsf
  have hcl : ∀ g, g ∈ l → gx (it l K s) (fr g) ≠ far → gx (it l K s) (to g) ≤ gx (it l K s) (fr g) + (ln g) := fix_cl (by rw [it_len, hs]) hL (fun j _ => hfar K j) hK
  have below : ∀ k j, gx (it l K s) j ≤ gx (it l k s) j := fun k j => by
    rcases Nat.le_total k K with c | c
    · have := it_le hL hs k (K - k) j
      rwa [show k + (K - k) = K by omega] at this
    · have := it_fix hK (k - K)
      rw [show K + (k - K) = k by omega] at this
      rw [this]; exact Int.le_refl _
  generalize hD : (fun j => gx (it l K s) j) = D at *
  have hDj : ∀ j, D j = gx (it l K s) j := fun j => by rw [← hD]
  have hcl' : ∀ g, g ∈ l → D (fr g) ≠ far → D (to g) ≤ D (fr g) + (ln g) := fun g hg h => by rw [hDj] at h; rw [hDj, hDj]; exact hcl g hg h
  have below' : ∀ k j, D j ≤ gx (it l k s) j := fun k j => by rw [hDj]; exact below k j
  clear hD
  -- where something is not settled there is a tight leg
  have tight : ∀ k, (∃ j, j < n ∧ gx (it l k s) j ≠ D j) → ∃ g, g ∈ l ∧ gx (it l k s) (fr g) = D (fr g) ∧ D (fr g) ≠ far ∧ D (fr g) + (ln g) = D (to g) ∧ gx (it l k s) (to g) ≠ D (to g) := by
    intro k ⟨j, hj, hu⟩
    apply Classical.byContradiction
    intro hno
    have C' : Cl l (fun z => D z ≠ far) (bump (fun z => gx (it l k s) z == D z) D) := by
      constructor
      intro g hg ha
      have c1 := hcl' g hg ha
      have cf : D (to g) ≠ far := fun e => by
        have x1 := Up.max hM (it_up hM hU hL hm hs hsf hup K) (fr g) (hL g hg).1 (by rw [← hDj]; exact ha)
        rw [← hDj] at x1
        have x2 := hm g hg
        omega
      refine ⟨cf, ?_⟩
      have u1 := bump_le (fun z => gx (it l k s) z == D z) D (fr g)
      by_cases e1 : gx (it l k s) (to g) = D (to g)
      · rw [bump_t (z := (to g)) (by simpa using e1)]; omega
      · rw [bump_f (z := (to g)) (by simpa using e1)]
        by_cases e2 : gx (it l k s) (fr g) = D (fr g)
        · rw [bump_t (z := (fr g)) (by simpa using e2)]
          have : D (fr g) + (ln g) ≠ D (to g) := fun e3 => hno ⟨g, hg, e2, ha, e3, e1⟩
          omega
        · rw [bump_f (z := (fr g)) (by simpa using e2)]; omega
    have I' : Inv n (fun z => D z ≠ far) (bump (fun z => gx (it l k s) z == D z) D) s := by
      intro z hz hf
      have b0 := below' 0 z
      have f0 := hsf z
      have b1 := below' k z
      have b2 := it_le hL hs 0 k z
      rw [Nat.zero_add] at b2
      have b0' : D z ≤ gx s z := b0
      have b2' : gx (it l k s) z ≤ gx s z := b2
      refine ⟨by omega, ?_⟩
      by_cases e1 : gx (it l k s) z = D z
      · rw [bump_t (z := z) (by simpa using e1)]; omega
      · rw [bump_f (z := z) (by simpa using e1)]; omega
    have := it_inv C' hL hs I' K j hj
    have b1 := below' k j
    have f1 := hfar k j
    have hne : gx (it l K s) j ≠ far := by rw [← hDj]; omega
    have := (this hne).2
    rw [bump_f (z := j) (by simpa using hu), ← hDj] at this
    omega
  have cnt : ∀ k, cn (fun j => gx (it l k s) j != D j) n + k + 1 ≤ n ∨ ∀ j, j < n → gx (it l k s) j = D j := by
    intro k
    have all : ∀ k, (¬∃ j, j < n ∧ gx (it l k s) j ≠ D j) → ∀ j, j < n → gx (it l k s) j = D j := fun k h j hj => Classical.byContradiction fun e => h ⟨j, hj, e⟩
    have one : ∀ k, (∃ j, j < n ∧ gx (it l k s) j ≠ D j) → cn (fun j => gx (it l (k + 1) s) j != D j) n < cn (fun j => gx (it l k s) j != D j) n := fun k hu => by
      obtain ⟨g, hg, t1, t2, t3, t4⟩ := tight k hu
      obtain ⟨a, b, c⟩ := rnd_settles hL hcl' (fun _ h => h) (s := it l k s) (by rw [it_len, hs]) (hfar k) (below' k)
      refine cn_lt n (fun j _ hp => ?_) ⟨(to g), (hL g hg).2, ?_, by simpa using t4⟩
      · cases e : gx (it l k s) j != D j with
        | true => rfl
        | false =>
          have := b j (by simpa using e)
          have hp' : gx (it l (k + 1) s) j ≠ D j := by simpa using hp
          exact absurd this hp'
      · have := c g hg t1 t2 t3
        show (gx (rnd (it l k s) l) (to g) != D (to g)) = false
        rw [this]; simp
    induction k with
    | zero =>
      by_cases hu : ∃ j, j < n ∧ gx (it l 0 s) j ≠ D j
      · left
        obtain ⟨g, hg, t1, t2, t3, t4⟩ := tight 0 hu
        have h1 := cn_lt (p := fun j => gx (it l 0 s) j != D j) (r := fun _ => true) n (fun _ _ _ => rfl) ⟨(fr g), (hL g hg).1, by rw [t1]; simp, rfl⟩
        have h2 := cn_max (fun _ => true) n
        omega
      · right; exact all 0 hu
    | succ k ih =>
      by_cases hu : ∃ j, j < n ∧ gx (it l (k + 1) s) j ≠ D j
      · left
        by_cases hv : ∃ j, j < n ∧ gx (it l k s) j ≠ D j
        · have := one k hv
          rcases ih with h | h
          · omega
          · obtain ⟨j, hj, e⟩ := hv
            exact absurd (h j hj) e
        · obtain ⟨j, hj, e⟩ := hu
          obtain ⟨a, b, c⟩ := rnd_settles hL hcl' (fun _ h => h) (s := it l k s) (by rw [it_len, hs]) (hfar k) (below' k)
          exact absurd (b j (all k hv j hj)) e
      · right; exact all _ hu
  intro k hk
  have e : it l k s = it l K s := by
    apply gx_ext (by rw [it_len, it_len])
    intro j hj
    rw [it_len, hs] at hj
    rw [← hDj]
    rcases cnt k with c | c
    · have z := cn_zero (p := fun j => gx (it l k s) j != D j) (n := n) (by omega) j hj
      simpa using z
    · exact c j hj
  rw [e]; exact hK
/-- ways along legs. -/
inductive Wk (l : List Sleg) : Nat → Nat → Int → Prop
  | nil (a : Nat) : Wk l a a 0
  | snoc {a : Nat} {s : Int} {g : Sleg} (h : Wk l a (fr g) s) (hg : g ∈ l) : Wk l a (to g) (s + ln g)
theorem Wk.app {l : List Sleg} {a b c : Nat} {s t : Int} (h : Wk l a b s) (k : Wk l b c t) : Wk l a c (s + t) := by
  induction k with
  | nil => rw [Int.add_zero]; exact h
  | snoc _ hg ih => rw [← Int.add_assoc]; exact .snoc ih hg
theorem Wk.one {l : List Sleg} {g : Sleg} (hg : g ∈ l) : Wk l (fr g) (to g) (ln g) := by
  have := Wk.snoc (Wk.nil (l := l) (fr g)) hg
  rwa [Int.zero_add] at this
/-- heights that keep all legs. -/
def Pot (l : List Sleg) (h : Nat → Int) : Prop := ∀ g, g ∈ l → h (to g) ≤ h (fr g) + ln g
theorem Pot.wk {l : List Sleg} {h : Nat → Int} (H : Pot l h) {a b : Nat} {s : Int} (w : Wk l a b s) : h b ≤ h a + s := by
  induction w with
  | nil => omega
  | snoc _ hg ih => have := H _ hg; omega
theorem Pot.cl {l : List Sleg} {h : Nat → Int} (H : Pot l h) : Cl l (fun _ => True) h := ⟨fun g hg _ => ⟨trivial, H g hg⟩⟩
/-- what relaxing keeps: each number that is there is the sum of a way. -/
def WI (l : List Sleg) (n z : Nat) (s : List Int) : Prop := ∀ j, j < n → gx s j ≠ far → Wk l z j (gx s j)
theorem rlx_wi {n z : Nat} {l : List Sleg} (hL : OKL n l) {s : List Int} (hs : s.length = n) {g : Sleg} (hg : g ∈ l) (I : WI l n z s) : WI l n z (rlx s g) := by
  unfold rlx; split
  · exact I
  · split
    · rename_i h1 h2
      intro j hj hf
      rw [gx_set (by rw [hs]; exact (hL g hg).2)] at hf ⊢
      by_cases e : to g = j
      · subst e
        rw [if_pos rfl]
        exact .snoc (I _ (hL g hg).1 h1) hg
      · rw [if_neg e] at hf ⊢; exact I j hj hf
    · exact I
theorem rnd_wi {n z : Nat} {L : List Sleg} (hL : OKL n L) : ∀ {l : List Sleg}, (∀ g, g ∈ l → g ∈ L) → ∀ {s : List Int}, s.length = n → WI L n z s → WI L n z (rnd s l)
  | [], _, s, _, I => I
  | g :: l, hl, s, hs, I => rnd_wi hL (l := l) (fun x hx => hl x (by simp [hx])) (s := rlx s g) (by rw [rlx_len, hs]) (rlx_wi hL hs (hl g (by simp)) I)
theorem it_wi {n z : Nat} {l : List Sleg} (hL : OKL n l) {s : List Int} (hs : s.length = n) (I : WI l n z s) : ∀ k, WI l n z (it l k s)
  | 0 => I
  | k + 1 => rnd_wi hL (fun _ h => h) (by rw [it_len, hs]) (it_wi hL hs I k)
/-- lower bounds: each relaxing lowers the least number by at most M. -/
theorem rlx_lo {M B : Int} (hM : 0 ≤ M) {s : List Int} {g : Sleg} (h2 : to g < s.length) (hg : -M ≤ ln g) (hB : ∀ j, j < s.length → B ≤ gx s j) (h1 : fr g < s.length) : ∀ j, j < (rlx s g).length → B - M ≤ gx (rlx s g) j := by
  intro j hj
  rw [rlx_len] at hj
  have := hB j hj
  unfold rlx; split
  · omega
  · split
    · rw [gx_set h2]; split
      · have := hB _ h1; omega
      · omega
    · omega
theorem rnd_lo {n : Nat} {M : Int} (hM : 0 ≤ M) : ∀ {l : List Sleg}, OKL n l → (∀ g, g ∈ l → -M ≤ ln g) → ∀ {s : List Int} {B : Int}, s.length = n → (∀ j, j < n → B ≤ gx s j) → ∀ j, j < n → B - (l.length : Int) * M ≤ gx (rnd s l) j
  | [], _, _, s, B, _, hB, j, hj => by
    have h1 := hB j hj
    have e : (([] : List Sleg).length : Int) * M = 0 := by simp
    show _ ≤ gx s j
    rw [e]; omega
  | g :: l, hl, hm, s, B, hs, hB, j, hj => by
    have h1 := rlx_lo hM (s := s) (g := g) (by rw [hs]; exact (hl g (by simp)).2) (hm g (by simp)) (fun j hj => hB j (by omega)) (by rw [hs]; exact (hl g (by simp)).1)
    have h2 := rnd_lo hM (l := l) (fun x hx => hl x (by simp [hx])) (fun x hx => hm x (by simp [hx])) (s := rlx s g) (B := B - M) (by rw [rlx_len, hs]) (fun j hj => h1 j (by rw [rlx_len]; omega)) j hj
    show _ ≤ gx (rnd (rlx s g) l) j
    have e : ((g :: l).length : Int) * M = (l.length : Int) * M + M := by rw [List.length_cons, Int.natCast_add, Int.add_mul]; simp
    omega
theorem it_lo {n : Nat} {M : Int} (hM : 0 ≤ M) {l : List Sleg} (hL : OKL n l) (hm : ∀ g, g ∈ l → -M ≤ ln g) {s : List Int} {B : Int} (hs : s.length = n) (hB : ∀ j, j < n → B ≤ gx s j) : ∀ (k j : Nat), j < n → B - (k : Int) * ((l.length : Int) * M) ≤ gx (it l k s) j
  | 0, j, hj => by have := hB j hj; simpa [it] using this
  | k + 1, j, hj => by
    have h1 := it_lo hM hL hm hs hB k
    have h2 := rnd_lo hM hL hm (s := it l k s) (by rw [it_len, hs]) h1 j hj
    have e : ((k + 1 : Nat) : Int) * ((l.length : Int) * M) = (k : Int) * ((l.length : Int) * M) + (l.length : Int) * M := by rw [Int.natCast_add, Int.add_mul]; simp
    rw [e]
    show _ ≤ gx (rnd (it l k s) l) j
    omega
/-- legs of a web with so many zones, none longer than a million; few. -/
structure Web (n : Nat) (l : List Sleg) : Prop where
  n0 : 0 < n
  n1 : n ≤ 40
  ok : OKL n l
  up : ∀ g, g ∈ l → ln g ≤ 1000000
  lo : ∀ g, g ∈ l → -1000000 ≤ ln g
  few : l.length ≤ 200
  two : ∀ g, g ∈ l → fr g ≠ to g
section
variable {n : Nat} {l : List Sleg}
def zs (n : Nat) : List Int := List.replicate n 0
def fs (n z : Nat) : List Int := (List.replicate n far).set z 0
theorem zs_len : (zs n).length = n := List.length_replicate
theorem fs_len (z : Nat) : (fs n z).length = n := by unfold fs; simp
theorem gx_zs (j : Nat) : gx (zs n) j = 0 := by
  unfold gx zs
  rw [List.getD_eq_getElem?_getD, List.getElem?_replicate]; split <;> rfl
theorem gx_fs {z j : Nat} (hz : z < n) (hj : j < n) : gx (fs n z) j = if z = j then 0 else far := by
  unfold fs
  rw [gx_set (by simpa using hz)]
  split
  · rfl
  · unfold gx
    rw [List.getD_eq_getElem?_getD, List.getElem?_replicate, if_pos hj]; rfl
theorem fs_far (z j : Nat) : gx (fs n z) j ≤ far := by
  by_cases hz : z < n
  · by_cases hj : j < n
    · rw [gx_fs hz hj]; split <;> unfold far <;> omega
    · unfold gx
      rw [List.getD_eq_getElem?_getD, List.getElem?_eq_none (by rw [fs_len]; omega)]
      show (0 : Int) ≤ far; unfold far; omega
  · unfold fs
    rw [List.set_eq_of_length_le (by simpa using hz)]
    unfold gx
    rw [List.getD_eq_getElem?_getD, List.getElem?_replicate]
    split
    · exact Int.le_refl _
    · show (0 : Int) ≤ far; unfold far; omega
theorem zs_up : Up n 1000000 0 (zs n) := fun z _ _ => by
  rw [gx_zs]
  have : (0 : Int) ≤ (cn (fun j => gx (zs n) j != far) n : Int) * 1000000 := Int.mul_nonneg (by omega) (by omega)
  omega
theorem fs_up {z : Nat} (hz : z < n) : Up n 1000000 0 (fs n z) := fun j hj hf => by
  rw [gx_fs hz hj] at hf ⊢
  have : (0 : Int) ≤ (cn (fun j => gx (fs n z) j != far) n : Int) * 1000000 := Int.mul_nonneg (by omega) (by omega)
  split
  · omega
  · rename_i e; rw [if_neg e] at hf; exact absurd rfl hf
theorem small_up (W : Web n l) : (0 : Int) + (n : Int) * 1000000 + 1000000 < far := by
  have := W.n1; unfold far; omega
/-- where heights keep all legs, nothing is lowered behind as many rounds as zones less one. -/
theorem zs_settle (W : Web n l) {h : Nat → Int} (H : Pot l h) : ∀ k, n ≤ k + 1 → rnd (it l k (zs n)) l = it l k (zs n) := by
  obtain ⟨B, b0, b⟩ := lower_bound (fun z => -(h z)) n
  have C : Cl l (fun _ => True) (fun z => h z + B) := ⟨fun g hg _ => ⟨trivial, by have := H g hg; omega⟩⟩
  exact settle W.n0 W.ok C zs_len (fun j => by rw [gx_zs]; unfold far; omega) (fun z hz _ => ⟨trivial, by rw [gx_zs]; have := b z hz; dsimp only at this ⊢; omega⟩) (by omega) (small_up W) W.up zs_up
theorem fs_settle (W : Web n l) {h : Nat → Int} (H : Pot l h) {z : Nat} (hz : z < n) : ∀ k, n ≤ k + 1 → rnd (it l k (fs n z)) l = it l k (fs n z) := by
  have C : Cl l (fun _ => True) (fun j => h j - h z) := ⟨fun g hg _ => ⟨trivial, by have := H g hg; omega⟩⟩
  refine settle W.n0 W.ok C (fs_len z) (fs_far z) (fun j hj hf => ⟨trivial, ?_⟩) (by omega) (small_up W) W.up (fs_up hz)
  rw [gx_fs hz hj] at hf ⊢
  split
  · rename_i e; subst e; dsimp only; omega
  · rename_i e; rw [if_neg e] at hf; exact absurd rfl hf
/-- rounds that end give heights that keep all legs. -/
theorem zs_pot (W : Web n l) {k : Nat} (hk : rnd (it l k (zs n)) l = it l k (zs n)) : Pot l (fun z => gx (it l k (zs n)) z) := by
  have hf : ∀ j, gx (it l k (zs n)) j ≤ 0 := fun j => by
    have := it_le W.ok (s := zs n) zs_len 0 k j
    rw [Nat.zero_add] at this
    have e : gx (it l 0 (zs n)) j = 0 := gx_zs j
    omega
  intro g hg
  refine fix_cl (n := n) (by rw [it_len, zs_len]) W.ok (fun j _ => ?_) hk g hg ?_
  · have := hf j; unfold far; omega
  · have := hf (fr g); unfold far; omega
/-- heights that keep all legs, bounded. -/
theorem pot_bounded (W : Web n l) {h : Nat → Int} (H : Pot l h) : ∃ h, Pot l h ∧ ∀ z, z < n → -8000000000 ≤ h z ∧ h z ≤ 0 := by
  refine ⟨_, zs_pot W (k := n) (zs_settle W H n (by omega)), fun z hz => ⟨?_, ?_⟩⟩
  · have h1 := it_lo (M := 1000000) (by omega) W.ok W.lo (s := zs n) (B := 0) zs_len (fun j _ => by rw [gx_zs]; omega) n z hz
    have h2 : (l.length : Int) * 1000000 ≤ 200000000 := by have := W.few; omega
    have h3 : (n : Int) * ((l.length : Int) * 1000000) ≤ 40 * 200000000 := Int.mul_le_mul (by have := W.n1; omega) h2 (by omega) (by omega)
    omega
  · have := it_le W.ok (s := zs n) zs_len 0 n z
    rw [Nat.zero_add] at this
    have e : gx (it l 0 (zs n)) z = 0 := gx_zs z
    omega
/-- the sums of a zone. -/
def Dz (n : Nat) (l : List Sleg) (z j : Nat) : Int := gx (it l n (fs n z)) j
theorem Dz_wk (W : Web n l) {z j : Nat} (hz : z < n) (hj : j < n) (hf : Dz n l z j ≠ far) : Wk l z j (Dz n l z j) := by
  refine it_wi W.ok (fs_len z) (fun j hj hf => ?_) n j hj hf
  rw [gx_fs hz hj] at hf ⊢
  split
  · rename_i e; subst e; exact .nil _
  · rename_i e; rw [if_neg e] at hf; exact absurd rfl hf
theorem Dz_far (W : Web n l) (z j : Nat) : Dz n l z j ≤ far := it_far W.ok (fs_len z) (fs_far z) n j
theorem Dz_up (W : Web n l) {z j : Nat} (hz : z < n) (hj : j < n) (hf : Dz n l z j ≠ far) : Dz n l z j ≤ 40000000 := by
  have := Up.max (by omega) (it_up (by omega) (small_up W) W.ok W.up (fs_len z) (fs_far z) (fs_up hz) n) j hj hf
  have := W.n1
  unfold Dz; omega
theorem Dz_cl (W : Web n l) {h : Nat → Int} (H : Pot l h) {z : Nat} (hz : z < n) : ∀ g, g ∈ l → Dz n l z (fr g) ≠ far → Dz n l z (to g) ≤ Dz n l z (fr g) + ln g :=
  fix_cl (by rw [it_len, fs_len]) W.ok (fun j _ => Dz_far W z j) (fs_settle W H hz n (by omega))
theorem Dz_self (W : Web n l) {h : Nat → Int} (H : Pot l h) {z : Nat} (hz : z < n) : Dz n l z z = 0 := by
  have h1 := it_le W.ok (fs_len z) 0 n z
  rw [Nat.zero_add] at h1
  have e : gx (it l 0 (fs n z)) z = 0 := by show gx (fs n z) z = 0; rw [gx_fs hz hz, if_pos rfl]
  have hf : Dz n l z z ≠ far := by unfold Dz; unfold far; omega
  have := H.wk (Dz_wk W hz hz hf)
  unfold Dz at *; omega
/-- no way is shorter. -/
theorem Dz_le (W : Web n l) {h : Nat → Int} (H : Pot l h) {z j : Nat} {s : Int} (hz : z < n) (w : Wk l z j s) : Dz n l z j ≠ far ∧ Dz n l z j ≤ s := by
  induction w with
  | nil => rw [Dz_self W H hz]; unfold far; omega
  | @snoc s g w hg ih =>
    have h1 := Dz_cl W H hz g hg ih.1
    have h2 := Dz_up W hz (W.ok g hg).1 ih.1
    have h3 := W.up g hg
    have h4 := ih.2
    refine ⟨?_, by omega⟩
    unfold far; omega
theorem Dz_lo (W : Web n l) {h : Nat → Int} (H : Pot l h) {z j : Nat} (hz : z < n) (hj : j < n) : -8000000000 ≤ Dz n l z j := by
  by_cases hf : Dz n l z j = far
  · rw [hf]; unfold far; omega
  · obtain ⟨h', H', hb⟩ := pot_bounded W H
    have := H'.wk (Dz_wk W hz hj hf)
    have h1 := hb z hz
    have h2 := hb j hj
    omega
/-- one pass of the reference's lengths. -/
def upd (Z : Int) (c : Nat) (d : Nat → Nat → Int) (a b : Nat) : Int := if d a c < Z ∧ d c b < Z then max (min (d a b) (d a c + d c b)) (-Z) else d a b
def fw (Z : Int) (d : Nat → Nat → Int) : Nat → Nat → Nat → Int
  | 0 => d
  | k + 1 => upd Z k (fw Z d k)
/-- what lengths are at first, and behind each pass. -/
structure FI (n : Nat) (l : List Sleg) (Z : Int) (d : Nat → Nat → Int) : Prop where
  dg : ∀ a, a < n → d a a = 0
  lo : ∀ a b, a < n → b < n → -Z ≤ d a b ∧ d a b ≤ Z
  wk : ∀ a b, a < n → b < n → d a b < Z → ∃ s, Wk l a b s ∧ s ≤ d a b
  leg : ∀ g, g ∈ l → d (fr g) (to g) ≤ ln g
theorem upd_FI {Z : Int} (hF : Z = 1000000000000) (W : Web n l) {c : Nat} (hc : c < n) {d : Nat → Nat → Int} (F : FI n l Z d) (hp : ∀ a, a < n → 0 ≤ upd Z c d a a) : FI n l Z (upd Z c d) := by
  refine ⟨fun a ha => ?_, fun a b ha hb => ?_, fun a b ha hb h => ?_, fun g hg => ?_⟩
  · have h1 := hp a ha
    have h2 := F.dg a ha
    unfold upd at h1 ⊢
    split
    · rename_i e; rw [if_pos e] at h1; omega
    · exact h2
  · have h1 := F.lo a b ha hb
    unfold upd; split <;> omega
  · unfold upd at h
    by_cases e : d a c < Z ∧ d c b < Z
    · rw [if_pos e] at h
      obtain ⟨s1, w1, h1⟩ := F.wk a c ha hc e.1
      obtain ⟨s2, w2, h2⟩ := F.wk c b hc hb e.2
      unfold upd; rw [if_pos e]
      by_cases e3 : d a b ≤ d a c + d c b
      · obtain ⟨s3, w3, h3⟩ := F.wk a b ha hb (by omega)
        exact ⟨s3, w3, by omega⟩
      · exact ⟨s1 + s2, w1.app w2, by omega⟩
    · rw [if_neg e] at h
      unfold upd; rw [if_neg e]
      exact F.wk a b ha hb h
  · have h1 := F.leg g hg
    have h2 := W.lo g hg
    unfold upd; split <;> omega
/-- ways with inner places. -/
inductive Pth (l : List Sleg) : Nat → List Nat → Nat → Int → Prop
  | one {g : Sleg} (hg : g ∈ l) : Pth l (fr g) [] (to g) (ln g)
  | cons {g : Sleg} {p : List Nat} {b : Nat} {s : Int} (hg : g ∈ l) (h : Pth l (to g) p b s) : Pth l (fr g) (to g :: p) b (ln g + s)
theorem Pth.split {k : Nat} {p2 : List Nat} {b : Nat} : ∀ {p1 : List Nat} {a : Nat} {s : Int}, Pth l a (p1 ++ k :: p2) b s → ∃ s1 s2, Pth l a p1 k s1 ∧ Pth l k p2 b s2 ∧ s = s1 + s2
  | [], a, s, h => by
    generalize hp : ([] : List Nat) ++ k :: p2 = p at h
    cases h with
    | one => cases hp
    | @cons g p b s hg h =>
      injection hp with h1 h2
      subst h2; subst h1
      exact ⟨_, _, .one hg, h, rfl⟩
  | x :: p1, a, s, h => by
    generalize hp : (x :: p1) ++ k :: p2 = p at h
    cases h with
    | one => cases hp
    | @cons g p b s hg h =>
      injection hp with h1 h2
      subst h1; subst h2
      obtain ⟨s1, s2, g1, g2, g3⟩ := Pth.split h
      exact ⟨_, _, .cons hg g1, g2, by omega⟩
theorem Pth.ends (W : Web n l) {a : Nat} {p : List Nat} {b : Nat} {s : Int} (h : Pth l a p b s) : a < n ∧ b < n ∧ s ≤ ((p.length : Int) + 1) * 1000000 := by
  induction h with
  | one hg => have := W.up _ hg; exact ⟨(W.ok _ hg).1, (W.ok _ hg).2, by simp; omega⟩
  | cons hg h ih => have := W.up _ hg; exact ⟨(W.ok _ hg).1, ih.2.1, by rw [List.length_cons]; omega⟩
theorem nodup_len : ∀ (k : Nat) (p : List Nat), p.Nodup → (∀ x, x ∈ p → x < k) → p.length ≤ k
  | 0, [], _, _ => Nat.le_refl _
  | 0, x :: p, _, h => absurd (h x (by simp)) (by omega)
  | k + 1, p, hn, h => by
    have h1 : (p.filter (· != k)).length ≤ k := nodup_len k _ (hn.filter _) (fun x hx => by
      rw [List.mem_filter] at hx
      have := h x hx.1
      have : x ≠ k := by simpa using hx.2
      omega)
    have h2 : p.length ≤ (p.filter (· != k)).length + 1 := by
      clear h1 h
      induction p with
      | nil => simp
      | cons x p ih =>
        rw [List.nodup_cons] at hn
        by_cases e : x = k
        · subst e
          have : p.filter (· != x) = p := List.filter_eq_self.2 (fun y hy => by
            have : y ≠ x := fun e => hn.1 (e ▸ hy)
            simpa using this)
          rw [List.filter_cons_of_neg (by simp), this, List.length_cons]; omega
        · rw [List.filter_cons_of_pos (by simpa using e), List.length_cons, List.length_cons]
          have := ih hn.2; omega
    omega
theorem fw_FI {Z : Int} (hF : Z = 1000000000000) (W : Web n l) {d : Nat → Nat → Int} (F : FI n l Z d) : ∀ k, k ≤ n → (∀ c a, c < k → a < n → 0 ≤ fw Z d (c + 1) a a) → FI n l Z (fw Z d k)
  | 0, _, _ => F
  | k + 1, hk, hp => upd_FI hF W (by omega) (fw_FI hF W F k (by omega) (fun c a hc ha => hp c a (by omega) ha)) (fun a ha => hp k a (by omega) ha)
theorem upd_le {Z : Int} {c : Nat} {d : Nat → Nat → Int} (a b : Nat) : upd Z c d a b ≤ max (d a b) (-Z) := by unfold upd; split <;> omega
/-- behind k passes no way with inner places below k is shorter, but for what is cut. -/
theorem fw_pth {Z : Int} (hF : Z = 1000000000000) (W : Web n l) {d : Nat → Nat → Int} (F : FI n l Z d) : ∀ k, k ≤ n → (∀ c a, c < k → a < n → 0 ≤ fw Z d (c + 1) a a) → ∀ a p b s, Pth l a p b s → p.Nodup → (∀ x, x ∈ p → x < k) → fw Z d k a b ≤ max s (-Z + ((p.length : Int) + 1) * 1000000)
  | 0, _, _, a, p, b, s, h, hn, hx => by
    cases p with
    | cons x p => exact absurd (hx x (by simp)) (by omega)
    | nil =>
      cases h with
      | one hg => have := F.leg _ hg; show d _ _ ≤ _; omega
  | k + 1, hk, hp, a, p, b, s, h, hn, hx => by
    have hp' := fun c a (hc : c < k) (ha : a < n) => hp c a (by omega) ha
    have ih := fw_pth hF W F k (by omega) hp'
    by_cases hm : k ∈ p
    · obtain ⟨p1, p2, rfl⟩ := List.append_of_mem hm
      obtain ⟨s1, s2, g1, g2, rfl⟩ := Pth.split h
      have hn1 : p1.Nodup ∧ p2.Nodup ∧ k ∉ p1 ∧ k ∉ p2 := by
        rw [List.nodup_append] at hn
        obtain ⟨n1, n2, n3⟩ := hn
        rw [List.nodup_cons] at n2
        exact ⟨n1, n2.2, fun h => n3 k h k (by simp) rfl, n2.1⟩
      have lt1 : ∀ x, x ∈ p1 → x < k := fun x h => by
        have h1 := hx x (by simp [h])
        have : x ≠ k := fun e => hn1.2.2.1 (e ▸ h)
        omega
      have lt2 : ∀ x, x ∈ p2 → x < k := fun x h => by
        have h1 := hx x (by simp [h])
        have : x ≠ k := fun e => hn1.2.2.2 (e ▸ h)
        omega
      have a1 := ih a p1 k s1 g1 hn1.1 lt1
      have a2 := ih k p2 b s2 g2 hn1.2.1 lt2
      have e1 := (g1.ends W).2.2
      have e2 := (g2.ends W).2.2
      have l1 := nodup_len k p1 hn1.1 lt1
      have l2 := nodup_len k p2 hn1.2.1 lt2
      have n1 := W.n1
      have hl : ((p1 ++ k :: p2).length : Int) = (p1.length : Int) + p2.length + 1 := by simp; omega
      rw [hl]
      show upd Z k (fw Z d k) a b ≤ _
      unfold upd
      rw [if_pos ⟨by omega, by omega⟩]
      omega
    · have a1 := ih a p b s h hn (fun x h => by
        have h1 := hx x h
        have : x ≠ k := fun e => hm (e ▸ h)
        omega)
      have a2 := upd_le (Z := Z) (c := k) (d := fw Z d k) a b
      show upd Z k (fw Z d k) a b ≤ _
      omega
/-- a circle below 0 is found. -/
theorem fw_circle {Z : Int} (hF : Z = 1000000000000) (W : Web n l) {d : Nat → Nat → Int} (F : FI n l Z d) {a : Nat} {p : List Nat} {s : Int} (h : Pth l a p a s) (hn : p.Nodup) (hs : s < 0) : ¬ ∀ c a, c < n → a < n → 0 ≤ fw Z d (c + 1) a a := by
  intro hp
  have hx : ∀ x, x ∈ p → x < n := by
    have : ∀ {a p b s}, Pth l a p b s → ∀ x, x ∈ p → x < n := by
      intro a p b s h
      induction h with
      | one => intro x hx; cases hx
      | cons hg h ih =>
        intro x hx
        rcases List.mem_cons.1 hx with rfl | hx
        · exact (W.ok _ hg).2
        · exact ih x hx
    exact this h
  have h1 := fw_pth hF W F n (Nat.le_refl _) (fun c a hc ha => hp c a hc ha) a p a s h hn hx
  have h2 := (fw_FI hF W F n (Nat.le_refl _) (fun c a hc ha => hp c a hc ha)).dg a (h.ends W).1
  have h3 := nodup_len n p hn hx
  have h4 := W.n1
  omega
/-- where heights keep all legs: sums within bounds. -/
structure FT (n : Nat) (Z : Int) (k : Nat) (d : Nat → Nat → Int) : Prop where
  lo : ∀ a b, a < n → b < n → d a b < Z → -8000000000 ≤ d a b
  tri : ∀ c a b X Y, c < k → a < n → b < n → d a c ≤ X → d c b ≤ Y → X ≤ 500000000000 - (k : Int) * 8000000000 → Y ≤ 500000000000 - (k : Int) * 8000000000 → d a b ≤ X + Y
theorem fw_FT {Z : Int} (hF : Z = 1000000000000) (W : Web n l) {h : Nat → Int} (H : Pot l h) {d : Nat → Nat → Int} (F : FI n l Z d) : ∀ k, k ≤ n → (∀ c a, c < k → a < n → 0 ≤ fw Z d (c + 1) a a) ∧ FT n Z k (fw Z d k)
  | 0, _ => by
    obtain ⟨h', H', hb⟩ := pot_bounded W H
    refine ⟨fun c a hc => absurd hc (by omega), fun a b ha hb' hf => ?_, fun c a b X Y hc => absurd hc (by omega)⟩
    obtain ⟨s, w, hs⟩ := F.wk a b ha hb' hf
    have := H'.wk w
    have h1 := hb a ha
    have h2 := hb b hb'
    show _ ≤ d a b
    omega
  | k + 1, hk => by
    obtain ⟨hp, T⟩ := fw_FT hF W H F k (by omega)
    have G := fw_FI hF W F k (by omega) hp
    obtain ⟨h', H', hb⟩ := pot_bounded W H
    have n1 := W.n1
    -- closed ways are not below 0
    have cyc : ∀ a b, a < n → b < n → fw Z d k a b < Z → fw Z d k b a < Z → 0 ≤ fw Z d k a b + fw Z d k b a := fun a b ha hb' h1 h2 => by
      obtain ⟨s1, w1, g1⟩ := G.wk a b ha hb' h1
      obtain ⟨s2, w2, g2⟩ := G.wk b a hb' ha h2
      have := H'.wk (w1.app w2)
      omega
    have val : ∀ a b, a < n → b < n → fw Z d k a k < Z → fw Z d k k b < Z → -8000000000 ≤ fw Z d k a k + fw Z d k k b := fun a b ha hb' h1 h2 => by
      obtain ⟨s1, w1, g1⟩ := G.wk a k ha (by omega) h1
      obtain ⟨s2, w2, g2⟩ := G.wk k b (by omega) hb' h2
      have := H'.wk (w1.app w2)
      have e1 := hb a ha
      have e2 := hb b hb'
      omega
    have hd0 : ∀ a, a < n → 0 ≤ fw Z d (k + 1) a a := fun a ha => by
      show 0 ≤ upd Z k (fw Z d k) a a
      have e1 := G.dg a ha
      unfold upd
      split
      · rename_i e
        have := cyc a k ha (by omega) e.1 e.2
        omega
      · omega
    have hp2 : ∀ c a, c < k + 1 → a < n → 0 ≤ fw Z d (c + 1) a a := fun c a hc ha => by
      by_cases e : c = k
      · subst e; exact hd0 a ha
      · exact hp c a (by omega) ha
    have G2 := fw_FI hF W F (k + 1) hk hp2
    refine ⟨hp2, fun a b ha hb' hf => ?_, fun c a b X Y hc ha hb' h1 h2 hX hY => ?_⟩
    · obtain ⟨s, w, hs⟩ := G2.wk a b ha hb' hf
      have := H'.wk w
      have e1 := hb a ha
      have e2 := hb b hb'
      omega
    · have kk := G.dg k (by omega)
      have ek : ((k + 1 : Nat) : Int) * 8000000000 = (k : Int) * 8000000000 + 8000000000 := by omega
      have kpos : (0 : Int) ≤ (k : Int) * 8000000000 := by omega
      -- what stands behind a value
      have two : ∀ a b X, a < n → b < n → upd Z k (fw Z d k) a b ≤ X → X < Z → (fw Z d k a b ≤ X) ∨ (fw Z d k a k < Z ∧ fw Z d k k b < Z ∧ fw Z d k a k + fw Z d k k b ≤ X) := fun a b X ha hb' h hX => by
        unfold upd at h
        by_cases e : fw Z d k a k < Z ∧ fw Z d k k b < Z
        · rw [if_pos e] at h
          have := val a b ha hb' e.1 e.2
          by_cases e3 : fw Z d k a b ≤ X
          · exact .inl e3
          · exact .inr ⟨e.1, e.2, by omega⟩
        · rw [if_neg e] at h; exact .inl h
      have via : fw Z d k a k < Z → fw Z d k k b < Z → ∀ R, fw Z d k a k + fw Z d k k b ≤ R → upd Z k (fw Z d k) a b ≤ R := fun e1 e2 R hR => by
        have := val a b ha hb' e1 e2
        unfold upd; rw [if_pos ⟨e1, e2⟩]; omega
      have keep : ∀ R, fw Z d k a b ≤ R → -Z ≤ R → upd Z k (fw Z d k) a b ≤ R := fun R hR hm => by
        have := upd_le (Z := Z) (c := k) (d := fw Z d k) a b
        omega
      show upd Z k (fw Z d k) a b ≤ X + Y
      have hcn : c < n := by omega
      have lo1 := T.lo
      have c1 := two a c X ha hcn h1 (by omega)
      have c2 := two c b Y hcn hb' h2 (by omega)
      by_cases e : c = k
      · subst e
        have d1 : fw Z d c a c ≤ X := by rcases c1 with h | ⟨_, _, h⟩ <;> omega
        have d2 : fw Z d c c b ≤ Y := by rcases c2 with h | ⟨_, _, h⟩ <;> omega
        exact via (by omega) (by omega) _ (by omega)
      · have hck : c < k := by omega
        rcases c1 with c1 | ⟨p1, p2, p3⟩
        · rcases c2 with c2 | ⟨r1, r2, r3⟩
          · have x1 := lo1 a c ha hcn (by omega)
            have x2 := lo1 c b hcn hb' (by omega)
            exact keep _ (T.tri c a b X Y hck ha hb' c1 c2 (by omega) (by omega)) (by omega)
          · have x1 := lo1 k b (by omega) hb' r2
            have x2 := T.tri c a k X (fw Z d k c k) hck ha (by omega) c1 (Int.le_refl _) (by omega) (by omega)
            exact via (by omega) r2 _ (by omega)
        · rcases c2 with c2 | ⟨r1, r2, r3⟩
          · have x1 := lo1 a k ha (by omega) p1
            have x2 := T.tri c k b (fw Z d k k c) Y hck (by omega) hb' (Int.le_refl _) c2 (by omega) (by omega)
            exact via p1 (by omega) _ (by omega)
          · have := cyc k c (by omega) hcn p2 r1
            exact via p1 r2 _ (by omega)
/-- the lengths of the reference are the sums of each zone. -/
theorem fw_Dz {Z : Int} (hF : Z = 1000000000000) (W : Web n l) {h : Nat → Int} (H : Pot l h) {d : Nat → Nat → Int} (F : FI n l Z d) {a b : Nat} (ha : a < n) (hb : b < n) : fw Z d n a b = if Dz n l a b = far then Z else Dz n l a b := by
  obtain ⟨hp, T⟩ := fw_FT hF W H F n (Nat.le_refl _)
  have G := fw_FI hF W F n (Nat.le_refl _) hp
  have n1 := W.n1
  have hfar : far = 9223372036854775807 := rfl
  -- not more than the sums
  have up : ∀ k j, j < n → gx (it l k (fs n a)) j ≠ far → fw Z d n a j ≤ gx (it l k (fs n a)) j := by
    have one : ∀ (s : List Int), s.length = n → (∀ j, j < n → gx s j ≠ far → fw Z d n a j ≤ gx s j) → (∀ j, j < n → gx s j ≠ far → gx s j ≤ 40000000) → ∀ g, g ∈ l → ∀ j, j < n → gx (rlx s g) j ≠ far → fw Z d n a j ≤ gx (rlx s g) j := by
      intro s hs h1 h2 g hg j hj hf
      unfold rlx at hf ⊢
      split
      · rename_i e; rw [if_pos e] at hf; exact h1 j hj hf
      · rename_i e
        rw [if_neg e] at hf
        split
        · rename_i e2
          rw [if_pos e2, gx_set (by rw [hs]; exact (W.ok g hg).2)] at hf
          rw [gx_set (by rw [hs]; exact (W.ok g hg).2)]
          by_cases e3 : to g = j
          · subst e3
            rw [if_pos rfl]
            have x1 := h1 (fr g) (W.ok g hg).1 e
            have x2 := h2 (fr g) (W.ok g hg).1 e
            have x3 := G.leg g hg
            have x4 := W.up g hg
            exact T.tri (fr g) a (to g) _ _ (W.ok g hg).1 ha (W.ok g hg).2 x1 x3 (by omega) (by omega)
          · rw [if_neg e3] at hf ⊢; exact h1 j hj hf
        · rename_i e2; rw [if_neg e2] at hf; exact h1 j hj hf
    have rn : ∀ (l2 : List Sleg), (∀ g, g ∈ l2 → g ∈ l) → ∀ (s : List Int), s.length = n → (∀ j, gx s j ≤ far) → Up n 1000000 0 s → (∀ j, j < n → gx s j ≠ far → fw Z d n a j ≤ gx s j) → ∀ j, j < n → gx (rnd s l2) j ≠ far → fw Z d n a j ≤ gx (rnd s l2) j := by
      intro l2
      induction l2 with
      | nil => intro _ s _ _ _ h; exact h
      | cons g l2 ih =>
        intro hl s hs hsf hu h
        have hg := hl g (by simp)
        refine ih (fun x hx => hl x (by simp [hx])) (rlx s g) (by rw [rlx_len, hs]) (fun j => rlx_far (by rw [hs]; exact (W.ok g hg).2) hsf j) (rlx_up (by omega) (small_up W) hs hsf (W.ok g hg) (W.up g hg) hu) (one s hs h (fun j hj hf => ?_) g hg)
        have := Up.max (by omega) hu j hj hf
        omega
    intro k
    induction k with
    | zero =>
      intro j hj hf
      have hf : gx (fs n a) j ≠ far := hf
      show _ ≤ gx (fs n a) j
      rw [gx_fs ha hj] at hf ⊢
      split
      · rename_i e; subst e; rw [G.dg a ha]; exact Int.le_refl _
      · rename_i e; rw [if_neg e] at hf; exact absurd rfl hf
    | succ k ih => exact rn l (fun _ h => h) (it l k (fs n a)) (by rw [it_len, fs_len]) (it_far W.ok (fs_len a) (fs_far a) k) (it_up (by omega) (small_up W) W.ok W.up (fs_len a) (fs_far a) (fs_up ha) k) ih
  split
  · rename_i e
    have g1 := (G.lo a b ha hb).2
    rcases Int.lt_or_le (fw Z d n a b) Z with c | c
    · obtain ⟨s, w, hs⟩ := G.wk a b ha hb c
      exact absurd e (Dz_le W H ha w).1
    · omega
  · rename_i e
    have h1 := up n b hb e
    have h1 : fw Z d n a b ≤ Dz n l a b := h1
    have h2 := Dz_up W ha hb e
    obtain ⟨s, w, hs⟩ := G.wk a b ha hb (by omega)
    have h3 := (Dz_le W H ha w).2
    omega
end
end Go.Proofs.Ytbjfaeffilbkfaa.Vg
