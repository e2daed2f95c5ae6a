/- Walks: the reference's error of a fraction. -/
import Derived.Test.YtdlddfmodbcnmaaW27
import Derived.Test.YtdlddfmodbcnmaaW02
set_option linter.unusedVariables false
set_option linter.unusedSimpArgs false
namespace Go.Proofs.Ytdlddfmodbcnmaa
open Go.RowKit

set_option maxHeartbeats 1000000 in
theorem checkFracR_any (n d : Int) (w : World) (hn : I64 n) (hd : I64 d) :
    Calls Try.prog 27 #[.agg #[.int .i64 n, .int .i64 d]] w fun e w' => e = .returned (.int .i64 (ckF n d)) ∧ Below w.heap.size w w' := by
  have n1 := hn.1
  have n2 := hn.2
  have d1 := hd.1
  have d2 := hd.2
  by_cases h1 : d ≤ 0
  · have h1' : d < 1 := by omega
    have HR := Lib.hid (show ckF n d = 3 by unfold ckF; rw [if_pos h1])
    go_enter Try.func27, Try.ntmps27
    go_wp2
    go_ret
    exact ⟨ret_int HR.out.symm, by repeat (first | exact Below.refl _ _ | refine Below.drew ?_ | refine Below.drewN' ?_ _ | refine Below.alloc ?_ (by first | exact Nat.le_refl _ | (simp; done) | (simp; omega)) _)⟩
  · have h1' : ¬ d < 1 := by omega
    have hz : sz n = if n < 0 then -n else n := by unfold sz; split <;> omega
    by_cases h2 : gcdI n d = 1
    · have hb : (gcdI n d != 1) = false := by rw [h2]; rfl
      have HR := Lib.hid (show ckF n d = if 1000000000 < sz n then 2 else if 1000000000 < d then 2 else 0 by unfold ckF; rw [if_neg h1, if_neg (by simp [h2])])
      have HZ := Lib.hid hz
      clear h2 hz
      by_cases k1 : n < -1000000000
      · have HF := Lib.hid (show ckF n d = 2 by rw [HR.out, if_pos (by rw [HZ.out]; split <;> omega)])
        go_enter Try.func27, Try.ntmps27
        go_wp2_with (go_at_call 88; refine (gcdB_any n d _ hn (by omega) (by omega) (.inl (by omega))).mono ?_; rintro e w1 ⟨rfl, kk, rfl⟩)
        go_ret
        exact ⟨ret_int HF.out.symm, by repeat (first | exact Below.refl _ _ | refine Below.drew ?_ | refine Below.drewN' ?_ _ | refine Below.alloc ?_ (by first | exact Nat.le_refl _ | (simp; done) | (simp; omega)) _)⟩
      · by_cases k2 : 1000000000 < n
        · have HF := Lib.hid (show ckF n d = 2 by rw [HR.out, if_pos (by rw [HZ.out]; split <;> omega)])
          go_enter Try.func27, Try.ntmps27
          go_wp2_with (go_at_call 88; refine (gcdB_any n d _ hn (by omega) (by omega) (.inl (by omega))).mono ?_; rintro e w1 ⟨rfl, kk, rfl⟩)
          go_ret
          exact ⟨ret_int HF.out.symm, by repeat (first | exact Below.refl _ _ | refine Below.drew ?_ | refine Below.drewN' ?_ _ | refine Below.alloc ?_ (by first | exact Nat.le_refl _ | (simp; done) | (simp; omega)) _)⟩
        · by_cases k3 : 1000000000 < d
          · have HF := Lib.hid (show ckF n d = 2 by rw [HR.out, if_neg (by rw [HZ.out]; split <;> omega), if_pos k3])
            go_enter Try.func27, Try.ntmps27
            go_wp2_with (go_at_call 88; refine (gcdB_any n d _ hn (by omega) (by omega) (.inl (by omega))).mono ?_; rintro e w1 ⟨rfl, kk, rfl⟩)
            go_ret
            exact ⟨ret_int HF.out.symm, by repeat (first | exact Below.refl _ _ | refine Below.drew ?_ | refine Below.drewN' ?_ _ | refine Below.alloc ?_ (by first | exact Nat.le_refl _ | (simp; done) | (simp; omega)) _)⟩
          · have HF := Lib.hid (show ckF n d = 0 by rw [HR.out, if_neg (by rw [HZ.out]; split <;> omega), if_neg k3])
            go_enter Try.func27, Try.ntmps27
            go_wp2_with (go_at_call 88; refine (gcdB_any n d _ hn (by omega) (by omega) (.inl (by omega))).mono ?_; rintro e w1 ⟨rfl, kk, rfl⟩)
            go_ret
            exact ⟨ret_int HF.out.symm, by repeat (first | exact Below.refl _ _ | refine Below.drew ?_ | refine Below.drewN' ?_ _ | refine Below.alloc ?_ (by first | exact Nat.le_refl _ | (simp; done) | (simp; omega)) _)⟩
    · have hb : (gcdI n d != 1) = true := by simpa using h2
      have HR := Lib.hid (show ckF n d = 3 by unfold ckF; rw [if_neg h1, if_pos h2])
      clear h2 hz
      go_enter Try.func27, Try.ntmps27
      go_wp2_with (go_at_call 88; refine (gcdB_any n d _ hn (by omega) (by omega) (.inl (by omega))).mono ?_; rintro e w1 ⟨rfl, kk, rfl⟩)
      go_ret
      exact ⟨ret_int HR.out.symm, by repeat (first | exact Below.refl _ _ | refine Below.drew ?_ | refine Below.drewN' ?_ _ | refine Below.alloc ?_ (by first | exact Nat.le_refl _ | (simp; done) | (simp; omega)) _)⟩

end Go.Proofs.Ytdlddfmodbcnmaa
