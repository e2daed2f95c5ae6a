/- A digit of a long division (base 2^32), no Go in sight. -/
import Derived.Test.YtlkfkekglmjhhaaBa
set_option linter.unusedVariables false
set_option linter.unusedSimpArgs false
namespace Go.Proofs.Ytlkfkekglmjhhaa

theorem dig_start {U V y1 y0 : Int} (h0 : 0 ≤ U) (hV' : V < 4294967296) (h1 : 1 ≤ y1) (hy : 0 ≤ y0) : U * 4294967296 + V < (U / y1 + 1) * (y1 * 4294967296 + y0) := by
  have a := Int.lt_ediv_add_one_mul_self U (show 0 < y1 by omega)
  have q0 : 0 ≤ U / y1 := Int.ediv_nonneg h0 (by omega)
  have b := Int.mul_nonneg (show 0 ≤ U / y1 + 1 by omega) hy
  rw [Int.mul_add, ← Int.mul_assoc]
  generalize (U / y1 + 1) * y1 = p at *
  omega
theorem dig_more {U V y1 y0 qh rh : Int} (hU : U = qh * y1 + rh) (h : 4294967296 * rh + V < qh * y0) : U * 4294967296 + V < qh * (y1 * 4294967296 + y0) := by
  rw [Int.mul_add, ← Int.mul_assoc]
  generalize qh * y1 = p at *
  omega
theorem dig_big {U V y qh : Int} (hU : U < y) (hV' : V < 4294967296) (h0 : 0 ≤ U) (h : 4294967296 ≤ qh) : U * 4294967296 + V < qh * y := by
  have a := Int.mul_le_mul_of_nonneg_right h (show 0 ≤ y by omega)
  generalize qh * y = p at *
  omega
theorem dig_fits {U V y1 y0 qh rh : Int} (hU : U = qh * y1 + rh) (h : qh * y0 ≤ 4294967296 * rh + V) : qh * (y1 * 4294967296 + y0) ≤ U * 4294967296 + V := by
  rw [Int.mul_add, ← Int.mul_assoc]
  generalize qh * y1 = p at *
  omega
theorem dig_break {V y0 qh rh : Int} (h : 4294967296 ≤ rh) (hq : qh ≤ 4294967296) (hq0 : 0 ≤ qh) (h0 : 0 ≤ y0) (h1 : y0 < 4294967296) (hV : 0 ≤ V) : qh * y0 ≤ 4294967296 * rh + V := by
  have a := Int.mul_le_mul hq (show y0 ≤ 4294967296 by omega) h0 (by omega)
  generalize qh * y0 = p at *
  omega
theorem dig_div {N y q : Int} (h1 : q * y ≤ N) (h2 : N < (q + 1) * y) : N / y = q := by
  have hy : 0 < y := by rw [Int.add_mul] at h2; omega
  rw [Int.ediv_eq_iff_of_pos hy]
  rw [Int.add_mul] at h2
  omega
theorem dig_first {U y1 y0 : Int} (h0 : 0 ≤ U) (h : U < y1 * 4294967296 + y0) (h1 : 2147483648 ≤ y1) (hy : y0 < 4294967296) : U / y1 ≤ 4294967297 := by
  have : U / y1 < 4294967298 := by
    rw [Int.ediv_lt_iff_lt_mul (by omega)]; omega
  omega

end Go.Proofs.Ytlkfkekglmjhhaa
