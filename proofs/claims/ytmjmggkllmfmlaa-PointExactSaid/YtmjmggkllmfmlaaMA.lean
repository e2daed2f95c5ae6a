import Derived.Test.YtmjmggkllmfmlaaWb
set_option linter.unusedVariables false
set_option linter.unusedSimpArgs false
namespace Go.Proofs.Ytmjmggkllmfmlaa.Mdl
def S (f : Nat -> Int) : Nat -> Int
 | 0 => 0
 | n + 1 => S f n + f n
theorem S_congr {f g : Nat -> Int} : ∀ n, (∀ i, i < n -> f i = g i) -> S f n = S g n
 | 0, _ => rfl
 | n + 1, h => by simp only [S]; rw [S_congr n (fun i hi => h i (by omega)), h n (by omega)]
theorem S_bd {f : Nat -> Int} {a : Int} : ∀ n : Nat, (∀ i, i < n -> -a <= f i /\ f i <= a) -> -((n : Int) * a) <= S f n /\ S f n <= (n : Int) * a
 | 0, _ => by simp [S]
 | n + 1, h => by
   have h1 := S_bd n (fun i hi => h i (by omega))
   have h2 := h n (by omega)
   simp only [S]
   rw [show ((n + 1 : Nat) : Int) * a = (n : Int) * a + a by rw [Int.natCast_add, Int.add_mul]; simp]
   omega
theorem S_nn {f : Nat -> Int} : ∀ n : Nat, (∀ i, i < n -> 0 <= f i) -> 0 <= S f n
 | 0, _ => Int.le_refl _
 | n + 1, h => by
   have h1 := S_nn n (fun i hi => h i (by omega))
   have h2 := h n (by omega)
   simp only [S]; omega
theorem sq_nn (x : Int) : 0 <= x * x := by
 rcases Int.le_total 0 x with h | h
 ·exact Int.mul_nonneg h h
 ·exact Int.mul_nonneg_of_nonpos_of_nonpos h h
structure M3 where
 a : Int
 b : Int
 c : Int
 d : Int
 e : Int
 f : Int
def D3 (g : M3) : Int := g.a * (g.d * g.f - g.e * g.e) + g.b * (g.e * g.c - g.b * g.f) + g.c * (g.b * g.e - g.d * g.c)
def N3 (g : M3) (u v w : Int) : Int := u * u * (g.d * g.f - g.e * g.e) + v * v * (g.a * g.f - g.c * g.c) + w * w * (g.a * g.d - g.b * g.b) + 2 * (u * v) * (g.c * g.e - g.b * g.f) + 2 * (u * w) * (g.b * g.e - g.c * g.d) + 2 * (v * w) * (g.b * g.c - g.a * g.e)
def P3 (g : M3) (u v w : Int) : Int := u * u * g.a + v * v * g.d + w * w * g.f + 2 * (u * v) * g.b + 2 * (u * w) * g.c + 2 * (v * w) * g.e
def up (g : M3) (u v w : Int) : M3 := ⟨g.a + u * u, g.b + u * v, g.c + u * w, g.d + v * v, g.e + v * w, g.f + w * w⟩
theorem D3_up (g : M3) (u v w : Int) : D3 (up g u v w) = D3 g + N3 g u v w := by unfold D3 up N3; grind
theorem N3_up (g : M3) (x y z u v w : Int) : N3 (up g u v w) x y z = N3 g x y z + P3 g (y * w - z * v) (z * u - x * w) (x * v - y * u) := by unfold N3 up P3; grind
theorem P3_up (g : M3) (x y z u v w : Int) : P3 (up g u v w) x y z = P3 g x y z + (x * u + y * v + z * w) * (x * u + y * v + z * w) := by unfold up P3; grind
structure PSD (g : M3) : Prop where
 d : 0 <= D3 g
 n : ∀ u v w, 0 <= N3 g u v w
 p : ∀ u v w, 0 <= P3 g u v w
theorem PSD.up {g : M3} (h : PSD g) (u v w : Int) : PSD (up g u v w) :=
 ⟨by rw [D3_up]; exact Int.add_nonneg h.d (h.n u v w), fun x y z => by rw [N3_up]; exact Int.add_nonneg (h.n x y z) (h.p _ _ _), fun x y z => by rw [P3_up]; exact Int.add_nonneg (h.p x y z) (sq_nn _)⟩
theorem PSD.diag {x y z : Int} (hx : 0 <= x) (hy : 0 <= y) (hz : 0 <= z) : PSD ⟨x, 0, 0, y, 0, z⟩ := by
 refine ⟨?_, fun u v w => ?_, fun u v w => ?_⟩
 ·have := Int.mul_nonneg hx (Int.mul_nonneg hy hz)
  unfold D3; dsimp only; simpa using this
 ·have h1 := Int.mul_nonneg (sq_nn u) (Int.mul_nonneg hy hz)
  have h2 := Int.mul_nonneg (sq_nn v) (Int.mul_nonneg hx hz)
  have h3 := Int.mul_nonneg (sq_nn w) (Int.mul_nonneg hx hy)
  unfold N3; dsimp only; simp; omega
 ·have h1 := Int.mul_nonneg (sq_nn u) hx
  have h2 := Int.mul_nonneg (sq_nn v) hy
  have h3 := Int.mul_nonneg (sq_nn w) hz
  unfold P3; dsimp only; simp; omega
def gram (s : Nat -> Nat -> Int) (g0 : M3) : Nat -> M3
 | 0 => g0
 | n + 1 => up (gram s g0 n) (s n 0) (s n 1) (s n 2)
theorem gram_psd {s : Nat -> Nat -> Int} {g0 : M3} (h : PSD g0) : ∀ n, PSD (gram s g0 n)
 | 0 => h
 | n + 1 => (gram_psd h n).up _ _ _
def X0 (g : M3) (p q r : Int) : Int := p * (g.d * g.f - g.e * g.e) + q * (g.e * g.c - g.b * g.f) + r * (g.b * g.e - g.d * g.c)
def X1 (g : M3) (p q r : Int) : Int := g.a * (q * g.f - r * g.e) + g.b * (r * g.c - p * g.f) + g.c * (p * g.e - q * g.c)
def X2 (g : M3) (p q r : Int) : Int := g.a * (g.d * r - g.e * q) + g.b * (g.e * p - g.b * r) + g.c * (g.b * q - g.d * p)
theorem gram_S (s : Nat -> Nat -> Int) (x y z : Int) : ∀ n, gram s ⟨x, 0, 0, y, 0, z⟩ n = ⟨x + S (fun p => s p 0 * s p 0) n, S (fun p => s p 0 * s p 1) n, S (fun p => s p 0 * s p 2) n, y + S (fun p => s p 1 * s p 1) n, S (fun p => s p 1 * s p 2) n, z + S (fun p => s p 2 * s p 2) n⟩
 | 0 => by simp [gram, S]
 | n + 1 => by rw [gram, gram_S s x y z n]; simp only [up, S, M3.mk.injEq]; refine ⟨?_, ?_, ?_, ?_, ?_, ?_⟩ <;> grind
theorem least {s : Nat -> Nat -> Int} {e x y : Nat -> Int} {D u v w : Int} {n : Nat} (hy : ∀ p, p < n -> y p * D = x p + (u * s p 0 + v * s p 1 + w * s p 2))
 (h0 : S (fun p => s p 0 * x p) n = 0) (h1 : S (fun p => s p 1 * x p) n = 0) (h2 : S (fun p => s p 2 * x p) n = 0) : S (fun p => x p * x p) n <= S (fun p => y p * y p) n * D * D := by
 have key : ∀ k, k <= n -> S (fun p => y p * y p) k * D * D = S (fun p => x p * x p) k + 2 * (u * S (fun p => s p 0 * x p) k + v * S (fun p => s p 1 * x p) k + w * S (fun p => s p 2 * x p) k) + S (fun p => (u * s p 0 + v * s p 1 + w * s p 2) * (u * s p 0 + v * s p 1 + w * s p 2)) k := by
  intro k
  induction k with
  | zero => intro _; simp [S]
  | succ k ih =>
    intro hk
    have h := hy k (by omega)
    have ih := ih (by omega)
    simp only [S]
    have h2 : y k * D * (y k * D) = (x k + (u * s k 0 + v * s k 1 + w * s k 2)) * (x k + (u * s k 0 + v * s k 1 + w * s k 2)) := by rw [h]
    grind
 have hk := key n (Nat.le_refl _)
 rw [h0, h1, h2] at hk
 have hz := S_nn (f := fun p => (u * s p 0 + v * s p 1 + w * s p 2) * (u * s p 0 + v * s p 1 + w * s p 2)) n (fun i _ => sq_nn _)
 rw [hk]; simp only [Int.mul_zero, Int.add_zero]; omega
end Go.Proofs.Ytmjmggkllmfmlaa.Mdl
