/- Walks: the long division of two words by one. -/
import Derived.Test.YtlkfkekglmjhhaaDq
import Derived.Test.YtlkfkekglmjhhaaBc
import Derived.Lib.BitFns
import Derived.Outline
set_option linter.unusedVariables false
set_option linter.unusedSimpArgs false
namespace Go.Proofs.Ytlkfkekglmjhhaa
open Go.RowKit

theorem idx8 (i : Int) (h0 : 0 ≤ i) (h1 : i ≤ 255) (w : World) : (Instr.index 9 (.string Lib.len8tab) (.int .u8 i)).run Try.prog w = .ok (.int .u8 (Lib.bitLen i.toNat)) w := by
  rw [Lib.run_index_len8tab w 9 .u8 i Try.underlying9 h0 h1, Lib.len8_of i h0 h1]
set_option maxHeartbeats 4000000 in
set_option maxRecDepth 100000 in
theorem len64_any (x : Int) (w : World) (h0 : 0 ≤ x) (h1 : x ≤ 4294967295) :
    Calls Try.prog 149 #[.int .u64 x] w fun e w' => e = .returned (.int .i64 (Lib.bitLen x.toNat)) ∧ w = w' := by
  rcases (by omega : x < 256 ∨ (256 ≤ x ∧ x < 65536) ∨ (65536 ≤ x ∧ x < 16777216) ∨ 16777216 ≤ x) with c | ⟨c, c'⟩ | ⟨c, c'⟩ | c
  · have a0 : 0 ≤ x := by omega
    have a1 : x ≤ 255 := by omega
    have e : (x).toNat = x.toNat := by omega
    have l := Lib.bitLen_le8' (x) a0 a1
    have ix := idx8 (x) a0 a1
    rw [e] at l ix
    generalize Lib.bitLen (x.toNat) = g at *
    clear e
    go_enter Try.func149, Try.ntmps149
    go_wp2
    go_ret
    refine ⟨congrArg Ending.returned (congrArg (Value.int IntKind.i64) ?_), rfl⟩
    omega
  · have a0 : 0 ≤ x / 256 := by omega
    have a1 : x / 256 ≤ 255 := by omega
    have e : (x / 256).toNat = x.toNat / 256 := by omega
    have l := Lib.bitLen_le8' (x / 256) a0 a1
    have ix := idx8 (x / 256) a0 a1
    have s := Lib.bitLen_shift8 x.toNat (by omega) (by omega)
    rw [e] at l ix
    generalize Lib.bitLen (x.toNat / 256) = g at *
    rw [s]
    clear s e
    go_enter Try.func149, Try.ntmps149
    go_wp2
    go_ret
    refine ⟨congrArg Ending.returned (congrArg (Value.int IntKind.i64) ?_), rfl⟩
    omega
  · have a0 : 0 ≤ x / 65536 := by omega
    have a1 : x / 65536 ≤ 255 := by omega
    have e : (x / 65536).toNat = x.toNat / 65536 := by omega
    have l := Lib.bitLen_le8' (x / 65536) a0 a1
    have ix := idx8 (x / 65536) a0 a1
    have s := Lib.bitLen_shift16 x.toNat (by omega) (by omega)
    rw [e] at l ix
    generalize Lib.bitLen (x.toNat / 65536) = g at *
    rw [s]
    clear s e
    have b1 : x / 65536 < 256 := by omega
    go_enter Try.func149, Try.ntmps149
    go_wp2
    go_ret
    refine ⟨congrArg Ending.returned (congrArg (Value.int IntKind.i64) ?_), rfl⟩
    omega
  · have a0 : 0 ≤ x / 65536 / 256 := by omega
    have a1 : x / 65536 / 256 ≤ 255 := by omega
    have e : (x / 65536 / 256).toNat = x.toNat / 16777216 := by omega
    have l := Lib.bitLen_le8' (x / 65536 / 256) a0 a1
    have ix := idx8 (x / 65536 / 256) a0 a1
    have s := Lib.bitLen_shift24 x.toNat (by omega) (by omega)
    rw [e] at l ix
    generalize Lib.bitLen (x.toNat / 16777216) = g at *
    rw [s]
    clear s e
    have b1 : ¬ x / 65536 < 256 := by omega
    go_enter Try.func149, Try.ntmps149
    go_wp2
    go_ret
    refine ⟨congrArg Ending.returned (congrArg (Value.int IntKind.i64) ?_), rfl⟩
    omega

theorem leading_any (x : Int) (w : World) (h0 : 0 ≤ x) (h1 : x ≤ 4294967295) :
    Calls Try.prog 136 #[.int .u64 x] w fun e w' => e = .returned (.int .i64 (64 - (Lib.bitLen x.toNat : Int))) ∧ w = w' := by
  have l := Lib.bitLen_le x.toNat 64 (by omega) (by omega)
  go_enter Try.func136, Try.ntmps136
  go_wp2_with (go_at_call 149; refine (len64_any x _ h0 h1).mono ?_; rintro e w' ⟨rfl, rfl⟩)
  go_ret
  exact ⟨rfl, rfl⟩

theorem dig_rest {U y1 : Int} (h0 : 0 ≤ U) (h : 1 ≤ y1) : 0 ≤ U - U / y1 * y1 ∧ U - U / y1 * y1 < y1 := by
  have a := Int.mul_ediv_add_emod U y1
  have b := Int.emod_nonneg U (show y1 ≠ 0 by omega)
  have c := Int.emod_lt_of_pos U (show 0 < y1 by omega)
  rw [Int.mul_comm] at a
  omega
theorem wrap_digit {U V P Y R : Int} (h : U * 4294967296 + V - P * Y = R) (h0 : 0 ≤ R) (h1 : R < 18446744073709551616) :
    IntKind.u64.wrap (IntKind.u64.wrap (IntKind.u64.wrap (U * 4294967296) + V) - IntKind.u64.wrap (P * Y)) = R := by
  simp only [IntKind.wrap_u64]
  generalize P * Y = p at *
  omega
theorem dig_whole {U V1 V0 Y Q P R S : Int} (h1 : U * 4294967296 + V1 - Q * Y = R) (h2 : R * 4294967296 + V0 - P * Y = S) (h3 : 0 ≤ S) (h4 : S < Y) :
    ((U * 4294967296 + V1) * 4294967296 + V0) / Y = Q * 4294967296 + P ∧ ((U * 4294967296 + V1) * 4294967296 + V0) % Y = S := by
  have e : (U * 4294967296 + V1) * 4294967296 + V0 = (Q * 4294967296 + P) * Y + S := by
    rw [Int.add_mul (Q * 4294967296), Int.mul_right_comm Q]
    generalize Q * Y = p at *
    generalize P * Y = q at *
    omega
  rw [e]
  have hq := dig_div (N := (Q * 4294967296 + P) * Y + S) (y := Y) (q := Q * 4294967296 + P) (by omega) (by rw [Int.add_mul (Q * 4294967296 + P) 1 Y, Int.one_mul]; omega)
  refine ⟨hq, ?_⟩
  have := Int.mul_ediv_add_emod ((Q * 4294967296 + P) * Y + S) Y
  rw [hq, Int.mul_comm Y] at this
  omega

set_option maxHeartbeats 4000000 in
set_option maxRecDepth 100000 in
theorem div64_core (hi lo y s Y y1 y0 A Bq U C V1 V0 : Int) (w : World) (h0 : 1 ≤ hi) (h1 : hi < y) (l0 : 0 ≤ lo) (l1 : lo ≤ 18446744073709551615) (h2 : y ≤ 1000000000) (HS : Bx (64 - (Lib.bitLen y.toNat : Int) = s)) (s0 : 34 ≤ s) (s1 : s ≤ 63)
    (hY : IntKind.u64.wrap (y * 2 ^ s.toNat) = Y) (hy1 : Y / 4294967296 = y1) (hy0 : bits .and .u64 Y 4294967295 = y0) (hA : IntKind.u64.wrap (hi * 2 ^ s.toNat) = A) (hB : lo / 2 ^ (64 - s).toNat = Bq) (hU : bits .or .u64 A Bq = U)
    (hC : IntKind.u64.wrap (lo * 2 ^ s.toNat) = C) (hV1 : C / 4294967296 = V1) (hV0 : bits .and .u64 C 4294967295 = V0)
    (y10 : 2147483648 ≤ y1) (y11 : y1 < 4294967296) (y00 : 0 ≤ y0) (y01 : y0 < 4294967296) (EY : Bx (Y = y1 * 4294967296 + y0)) (Y0 : 9223372036854775808 ≤ Y) (Y1 : Y < 18446744073709551616) (U0 : 0 ≤ U) (U1 : U < Y) (v10 : 0 ≤ V1) (v11 : V1 < 4294967296) (v00 : 0 ≤ V0) (v01 : V0 < 4294967296) :
    Calls Try.prog 116 #[.int .u64 hi, .int .u64 lo, .int .u64 y] w fun e w' => e = .returned (.tuple #[.int .u64 (((U * 4294967296 + V1) * 4294967296 + V0) / Y), .int .u64 (((U * 4294967296 + V1) * 4294967296 + V0) % Y / 2 ^ s.toNat)]) ∧ w = w' := by
  have hb : (y == 0) = false := by simp; omega
  have hb2 : (hi == 0) = false := by simp; omega
  have hle : ¬ y ≤ hi := by omega
  have qi0 : 0 ≤ U / y1 := Int.ediv_nonneg U0 (by omega)
  have qi1 : U / y1 ≤ 4294967297 := dig_first U0 (by rw [← EY.out]; exact U1) y10 y01
  obtain ⟨r0, r1⟩ := dig_rest U0 (show 1 ≤ y1 by omega)
  have E3 := Bx.mk (dig_start (V := V1) (y1 := y1) (y0 := y0) U0 v11 (by omega) y00)
  have m0 := Int.mul_nonneg qi0 (show 0 ≤ y1 by omega)
  go_enter Try.func116, Try.ntmps116
  go_wp2_with (go_at_call 136; refine (leading_any y _ (by omega) (by omega)).mono ?_; rw [HS.out]; rintro e w' ⟨rfl, rfl⟩)
  clear hY hy1 hy0 hA hB hU hC hV1 hV0

  go_loop [15, 16] (fun a b => ∃ q r : Int, 0 ≤ q ∧ q ≤ 4294967297 ∧ 0 ≤ r ∧ r < 4294967296 ∧ a = .int .u64 q ∧ b = .int .u64 r ∧ Bx (U = q * y1 + r) ∧ Bx (U * 4294967296 + V1 < (q + 1) * (y1 * 4294967296 + y0))) (fun a _ => (intOf a).toNat)
  case atStart => exact ⟨U / y1, U - U / y1 * y1, qi0, qi1, r0, by omega, rfl, rfl, ⟨by omega⟩, ⟨E3.out⟩⟩
  case round =>
    clear qi0 qi1 r0 r1 E3 m0
    obtain ⟨q, r, q0, q1, r0, r1, rfl, rfl, EU, EN⟩ := hrel
    have m1 := mul_bd (x := q) (y := y0) (A := 4294967297) (B := 4294967295) (by omega) (by omega) (by omega) (by omega)
    have m2 := Int.mul_nonneg q0 y00
    rcases (by omega : (q < 4294967296 ∧ q * y0 ≤ 4294967296 * r + V1) ∨ (4294967296 ≤ q ∨ (¬ 4294967296 ≤ q ∧ 4294967296 * r + V1 < q * y0))) with ⟨c1, c2⟩ | c
    · have F1 := Bx.mk (show q * Y ≤ U * 4294967296 + V1 by rw [EY.out]; exact dig_fits EU.out c2)
      have F2 := Bx.mk (show U * 4294967296 + V1 < (q + 1) * Y by rw [EY.out]; exact EN.out)
      have Q0 : 0 ≤ q := q0
      have Q1 : q ≤ 4294967295 := by omega
      clear EN
      obtain ⟨R, HR⟩ : ∃ R, Bx (U * 4294967296 + V1 - (q) * Y = R) := ⟨_, ⟨rfl⟩⟩
      have R0 : 0 ≤ R := by have := F1.out; have := HR.out; omega
      have R1 : R < Y := by have h := F2.out; rw [Int.add_mul] at h; have := HR.out; omega
      have hR := wrap_digit (P := q) HR.out R0 (by omega)
      clear F1 F2
      have qi0 : 0 ≤ R / y1 := Int.ediv_nonneg R0 (by omega)
      have qi1 : R / y1 ≤ 4294967297 := dig_first R0 (by rw [← EY.out]; exact R1) y10 y01
      obtain ⟨u0, u1⟩ := dig_rest R0 (show 1 ≤ y1 by omega)
      have E3 := Bx.mk (dig_start (V := V0) (y1 := y1) (y0 := y0) R0 v01 (by omega) y00)
      have m0 := Int.mul_nonneg qi0 (show 0 ≤ y1 by omega)
      go_wp2
      clear hR EU m1 m2 q0 q1 r0 r1
      have r0 := u0
      have r1 := u1
      clear u0 u1
      go_loop [18, 16] (fun a b => ∃ q r : Int, 0 ≤ q ∧ q ≤ 4294967297 ∧ 0 ≤ r ∧ r < 4294967296 ∧ a = .int .u64 q ∧ b = .int .u64 r ∧ Bx (R = q * y1 + r) ∧ Bx (R * 4294967296 + V0 < (q + 1) * (y1 * 4294967296 + y0))) (fun a _ => (intOf a).toNat)
      case atStart => exact ⟨R / y1, R - R / y1 * y1, qi0, qi1, r0, by omega, rfl, rfl, ⟨by omega⟩, ⟨E3.out⟩⟩
      case round =>
        clear qi0 qi1 r0 r1 E3 m0
        obtain ⟨p, t, q0, q1, r0, r1, rfl, rfl, EU, EN⟩ := hrel
        have m1 := mul_bd (x := p) (y := y0) (A := 4294967297) (B := 4294967295) (by omega) (by omega) (by omega) (by omega)
        have m2 := Int.mul_nonneg q0 y00
        rcases (by omega : (p < 4294967296 ∧ p * y0 ≤ 4294967296 * t + V0) ∨ (4294967296 ≤ p ∨ (¬ 4294967296 ≤ p ∧ 4294967296 * t + V0 < p * y0))) with ⟨c1, c2⟩ | c
        · have F1 := Bx.mk (show p * Y ≤ R * 4294967296 + V0 by rw [EY.out]; exact dig_fits EU.out c2)
          have F2 := Bx.mk (show R * 4294967296 + V0 < (p + 1) * Y by rw [EY.out]; exact EN.out)
          have Q0 : 0 ≤ p := q0
          have Q1 : p ≤ 4294967295 := by omega
          clear EN
          obtain ⟨S, HS2⟩ : ∃ S, Bx (R * 4294967296 + V0 - (p) * Y = S) := ⟨_, ⟨rfl⟩⟩
          have S0 : 0 ≤ S := by have := F1.out; have := HS2.out; omega
          have S1 : S < Y := by have h := F2.out; rw [Int.add_mul] at h; have := HS2.out; omega
          have hS := wrap_digit (P := p) HS2.out S0 (by omega)
          have HF := Bx.mk (dig_whole (Q := q) (P := p) HR.out HS2.out S0 S1)
          clear F1 F2
          go_wp2
          go_ret2
          exact ⟨by rw [HF.out.1, HF.out.2]; rfl, rfl⟩
        · have qp : 1 ≤ p := by
            rcases c with c | ⟨_, c⟩
            · omega
            · have : ¬ p = 0 := by rintro rfl; omega
              omega
          have EM := Bx.mk (show R * 4294967296 + V0 < p * (y1 * 4294967296 + y0) by
            rcases c with c | ⟨_, c⟩
            · exact dig_big (by rw [← EY.out]; exact R1) (by omega) (by omega) c
            · exact dig_more EU.out c)
          rcases c with c | ⟨c', c⟩
          all_goals
            by_cases cr : 4294967296 ≤ t + y1
            · have q2 : p - 1 ≤ 4294967296 := by omega
              have EU2 : R = (p - 1) * y1 + (t + y1) := by rw [Int.sub_mul]; have := EU.out; omega
              have F1 := Bx.mk (show (p - 1) * Y ≤ R * 4294967296 + V0 by rw [EY.out]; exact dig_fits EU2 (dig_break cr q2 (by omega) y00 y01 (by omega)))
              have F2 := Bx.mk (show R * 4294967296 + V0 < (p - 1 + 1) * Y by rw [EY.out, show p - 1 + 1 = p by omega]; exact EM.out)
              have Q0 : 0 ≤ p - 1 := by omega
              have Q1 : p - 1 ≤ 4294967295 := by
                rcases Int.lt_or_le (p - 1) 4294967296 with h | h
                · omega
                · exfalso
                  have := dig_big (U := R) (V := V0) (y := Y) (qh := p - 1) R1 (by omega) (by omega) h
                  have := F1.out
                  omega
              clear EN EM EU2
              obtain ⟨S, HS2⟩ : ∃ S, Bx (R * 4294967296 + V0 - (p - 1) * Y = S) := ⟨_, ⟨rfl⟩⟩
              have S0 : 0 ≤ S := by have := F1.out; have := HS2.out; omega
              have S1 : S < Y := by have h := F2.out; rw [Int.add_mul] at h; have := HS2.out; omega
              have hS := wrap_digit (P := p - 1) HS2.out S0 (by omega)
              have HF := Bx.mk (dig_whole (Q := q) (P := p - 1) HR.out HS2.out S0 S1)
              clear F1 F2
              go_wp2
              go_ret2
              exact ⟨by rw [HF.out.1, HF.out.2]; rfl, rfl⟩
            · go_wp2
              go_round
              case rel => exact ⟨p - 1, t + y1, by omega, by omega, by omega, by omega, rfl, rfl, ⟨by rw [Int.sub_mul]; have := EU.out; omega⟩, ⟨by rw [show p - 1 + 1 = p by omega]; exact EM.out⟩⟩
              case measure => simp [intOf]; omega
    · have qp : 1 ≤ q := by
        rcases c with c | ⟨_, c⟩
        · omega
        · have : ¬ q = 0 := by rintro rfl; omega
          omega
      have EM := Bx.mk (show U * 4294967296 + V1 < q * (y1 * 4294967296 + y0) by
        rcases c with c | ⟨_, c⟩
        · exact dig_big (by rw [← EY.out]; exact U1) (by omega) (by omega) c
        · exact dig_more EU.out c)
      rcases c with c | ⟨c', c⟩
      all_goals
        by_cases cr : 4294967296 ≤ r + y1
        · have q2 : q - 1 ≤ 4294967296 := by omega
          have EU2 : U = (q - 1) * y1 + (r + y1) := by rw [Int.sub_mul]; have := EU.out; omega
          have F1 := Bx.mk (show (q - 1) * Y ≤ U * 4294967296 + V1 by rw [EY.out]; exact dig_fits EU2 (dig_break cr q2 (by omega) y00 y01 (by omega)))
          have F2 := Bx.mk (show U * 4294967296 + V1 < (q - 1 + 1) * Y by rw [EY.out, show q - 1 + 1 = q by omega]; exact EM.out)
          have Q0 : 0 ≤ q - 1 := by omega
          have Q1 : q - 1 ≤ 4294967295 := by
            rcases Int.lt_or_le (q - 1) 4294967296 with h | h
            · omega
            · exfalso
              have := dig_big (U := U) (V := V1) (y := Y) (qh := q - 1) U1 (by omega) (by omega) h
              have := F1.out
              omega
          clear EN EM EU2
          obtain ⟨R, HR⟩ : ∃ R, Bx (U * 4294967296 + V1 - (q - 1) * Y = R) := ⟨_, ⟨rfl⟩⟩
          have R0 : 0 ≤ R := by have := F1.out; have := HR.out; omega
          have R1 : R < Y := by have h := F2.out; rw [Int.add_mul] at h; have := HR.out; omega
          have hR := wrap_digit (P := q - 1) HR.out R0 (by omega)
          clear F1 F2
          have qi0 : 0 ≤ R / y1 := Int.ediv_nonneg R0 (by omega)
          have qi1 : R / y1 ≤ 4294967297 := dig_first R0 (by rw [← EY.out]; exact R1) y10 y01
          obtain ⟨u0, u1⟩ := dig_rest R0 (show 1 ≤ y1 by omega)
          have E3 := Bx.mk (dig_start (V := V0) (y1 := y1) (y0 := y0) R0 v01 (by omega) y00)
          have m0 := Int.mul_nonneg qi0 (show 0 ≤ y1 by omega)
          go_wp2
          clear hR EU m1 m2 q0 q1 r0 r1
          have r0 := u0
          have r1 := u1
          clear u0 u1
          go_loop [18, 16] (fun a b => ∃ q r : Int, 0 ≤ q ∧ q ≤ 4294967297 ∧ 0 ≤ r ∧ r < 4294967296 ∧ a = .int .u64 q ∧ b = .int .u64 r ∧ Bx (R = q * y1 + r) ∧ Bx (R * 4294967296 + V0 < (q + 1) * (y1 * 4294967296 + y0))) (fun a _ => (intOf a).toNat)
          case atStart => exact ⟨R / y1, R - R / y1 * y1, qi0, qi1, r0, by omega, rfl, rfl, ⟨by omega⟩, ⟨E3.out⟩⟩
          case round =>
            clear qi0 qi1 r0 r1 E3 m0
            obtain ⟨p, t, q0, q1, r0, r1, rfl, rfl, EU, EN⟩ := hrel
            have m1 := mul_bd (x := p) (y := y0) (A := 4294967297) (B := 4294967295) (by omega) (by omega) (by omega) (by omega)
            have m2 := Int.mul_nonneg q0 y00
            rcases (by omega : (p < 4294967296 ∧ p * y0 ≤ 4294967296 * t + V0) ∨ (4294967296 ≤ p ∨ (¬ 4294967296 ≤ p ∧ 4294967296 * t + V0 < p * y0))) with ⟨c1, c2⟩ | c
            · have F1 := Bx.mk (show p * Y ≤ R * 4294967296 + V0 by rw [EY.out]; exact dig_fits EU.out c2)
              have F2 := Bx.mk (show R * 4294967296 + V0 < (p + 1) * Y by rw [EY.out]; exact EN.out)
              have Q0 : 0 ≤ p := q0
              have Q1 : p ≤ 4294967295 := by omega
              clear EN
              obtain ⟨S, HS2⟩ : ∃ S, Bx (R * 4294967296 + V0 - (p) * Y = S) := ⟨_, ⟨rfl⟩⟩
              have S0 : 0 ≤ S := by have := F1.out; have := HS2.out; omega
              have S1 : S < Y := by have h := F2.out; rw [Int.add_mul] at h; have := HS2.out; omega
              have hS := wrap_digit (P := p) HS2.out S0 (by omega)
              have HF := Bx.mk (dig_whole (Q := q - 1) (P := p) HR.out HS2.out S0 S1)
              clear F1 F2
              go_wp2
              go_ret2
              exact ⟨by rw [HF.out.1, HF.out.2]; rfl, rfl⟩
            · have qp : 1 ≤ p := by
                rcases c with c | ⟨_, c⟩
                · omega
                · have : ¬ p = 0 := by rintro rfl; omega
                  omega
              have EM := Bx.mk (show R * 4294967296 + V0 < p * (y1 * 4294967296 + y0) by
                rcases c with c | ⟨_, c⟩
                · exact dig_big (by rw [← EY.out]; exact R1) (by omega) (by omega) c
                · exact dig_more EU.out c)
              rcases c with c | ⟨c', c⟩
              all_goals
                by_cases cr : 4294967296 ≤ t + y1
                · have q2 : p - 1 ≤ 4294967296 := by omega
                  have EU2 : R = (p - 1) * y1 + (t + y1) := by rw [Int.sub_mul]; have := EU.out; omega
                  have F1 := Bx.mk (show (p - 1) * Y ≤ R * 4294967296 + V0 by rw [EY.out]; exact dig_fits EU2 (dig_break cr q2 (by omega) y00 y01 (by omega)))
                  have F2 := Bx.mk (show R * 4294967296 + V0 < (p - 1 + 1) * Y by rw [EY.out, show p - 1 + 1 = p by omega]; exact EM.out)
                  have Q0 : 0 ≤ p - 1 := by omega
                  have Q1 : p - 1 ≤ 4294967295 := by
                    rcases Int.lt_or_le (p - 1) 4294967296 with h | h
                    · omega
                    · exfalso
                      have := dig_big (U := R) (V := V0) (y := Y) (qh := p - 1) R1 (by omega) (by omega) h
                      have := F1.out
                      omega
                  clear EN EM EU2
                  obtain ⟨S, HS2⟩ : ∃ S, Bx (R * 4294967296 + V0 - (p - 1) * Y = S) := ⟨_, ⟨rfl⟩⟩
                  have S0 : 0 ≤ S := by have := F1.out; have := HS2.out; omega
                  have S1 : S < Y := by have h := F2.out; rw [Int.add_mul] at h; have := HS2.out; omega
                  have hS := wrap_digit (P := p - 1) HS2.out S0 (by omega)
                  have HF := Bx.mk (dig_whole (Q := q - 1) (P := p - 1) HR.out HS2.out S0 S1)
                  clear F1 F2
                  go_wp2
                  go_ret2
                  exact ⟨by rw [HF.out.1, HF.out.2]; rfl, rfl⟩
                · go_wp2
                  go_round
                  case rel => exact ⟨p - 1, t + y1, by omega, by omega, by omega, by omega, rfl, rfl, ⟨by rw [Int.sub_mul]; have := EU.out; omega⟩, ⟨by rw [show p - 1 + 1 = p by omega]; exact EM.out⟩⟩
                  case measure => simp [intOf]; omega
        · go_wp2
          go_round
          case rel => exact ⟨q - 1, r + y1, by omega, by omega, by omega, by omega, rfl, rfl, ⟨by rw [Int.sub_mul]; have := EU.out; omega⟩, ⟨by rw [show q - 1 + 1 = q by omega]; exact EM.out⟩⟩
          case measure => simp [intOf]; omega
end Go.Proofs.Ytlkfkekglmjhhaa
