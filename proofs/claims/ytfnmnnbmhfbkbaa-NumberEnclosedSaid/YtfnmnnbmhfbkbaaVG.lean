/- Walks: the program's RootIn. -/
import Derived.Test.YtfnmnnbmhfbkbaaVF
import Derived.Test.YtfnmnnbmhfbkbaaV8
import Derived.Deep.RegionHeld3
set_option linter.unusedVariables false
set_option linter.unusedSimpArgs false
namespace Go.Proofs.Ytfnmnnbmhfbkbaa
open Go.RowKit

/-- Two pairs that came in, and a result, in memory. -/
structure RS (w wr : World) (a b c d : Int) : Prop where
  lo : HF wr w.heap.size a b
  hi : HF wr (w.heap.size + 1) c d
  re : HF wr (w.heap.size + 1 + 1) 0 0
  f0 : wr.frozen? ⟨w.heap.size + 1 + 1, 0, none⟩ = false
  f1 : wr.frozen? ⟨w.heap.size + 1 + 1, 1, none⟩ = false
  B : Below w.heap.size w wr
theorem RS.call {w wr w' : World} {a b c d : Int} (h : RS w wr a b c d) (k : Below wr.heap.size wr w') : RS w w' a b c d := by
  obtain ⟨hc, hf⟩ := bcell k
  exact ⟨h.lo.below k, h.hi.below k, h.re.below k, (hf _ _ h.re.1).trans h.f0, (hf _ _ h.re.1).trans h.f1, below_call0 h.B k⟩
theorem RS.alloc {w wr : World} {a b c d : Int} (h : RS w wr a b c d) (o : Obj) : RS w (wr.alloc o) a b c d := h.call (below_alloc1 _ _)
abbrev WR (w : World) (a b c d : Int) : World := ((w.alloc (.cells #[.int .i64 a, .int .i64 b] 23)).alloc (.cells #[.int .i64 c, .int .i64 d] 23)).alloc (.cells #[.int .i64 0, .int .i64 0] 38)
theorem RS.new (w : World) (a b c d : Int) : RS w (WR w a b c d) a b c d := by
  refine ⟨⟨by simp; omega, ?_, ?_⟩, ⟨by simp, ?_, ?_⟩, ⟨by simp, ?_, ?_⟩, ?_, ?_, ?_⟩
  iterate 6 (simp [go_sem, World.cell?_alloc_past])
  iterate 2 (simp [go_sem, World.frozen?_alloc_past])
  exact (((Below.refl w.heap.size w).alloc (Nat.le_refl _) _).alloc (by simp) _).alloc (by simp; omega) _

/-- RootIn's result of what has no error. -/
def rinR (n : Nat) (p : Row) (a b c d t : Int) : Int × Int × Int :=
  if rootsL (sturmR n p) a b c d < 1 then (0, 0, 12) else if 1 < rootsL (sturmR n p) a b c d then (0, 0, 13) else
  if bisU (sturmR n p) (chgR a b (sturmR n p)) t (-(-(c * t) / d) - a * t / b).toNat (a * t / b) (-(-(c * t) / d)) ≤ c * t / d ∧ sgAt n p (bisU (sturmR n p) (chgR a b (sturmR n p)) t (-(-(c * t) / d) - a * t / b).toNat (a * t / b) (-(-(c * t) / d))) t = 0
  then (bisU (sturmR n p) (chgR a b (sturmR n p)) t (-(-(c * t) / d) - a * t / b).toNat (a * t / b) (-(-(c * t) / d)), bisU (sturmR n p) (chgR a b (sturmR n p)) t (-(-(c * t) / d) - a * t / b).toNat (a * t / b) (-(-(c * t) / d)), 0)
  else (bisU (sturmR n p) (chgR a b (sturmR n p)) t (-(-(c * t) / d) - a * t / b).toNat (a * t / b) (-(-(c * t) / d)) - 1, bisU (sturmR n p) (chgR a b (sturmR n p)) t (-(-(c * t) / d) - a * t / b).toNat (a * t / b) (-(-(c * t) / d)), 0)
def rinN (n : Nat) (p : Row) (a b c d t : Int) : Int × Int × Int :=
  if ckR n p a b c d ≠ 0 then (0, 0, ckR n p a b c d) else if t < 1 ∨ 1000000 < t then (0, 0, 2) else rinR n p a b c d t

set_option maxRecDepth 100000 in
set_option maxHeartbeats 8000000 in
theorem rin_E (A : Option Addr) (n cc : Nat) (p : Row) (a b c d t E : Int) (w : World) (HA : Bx (IS w A n p)) (hn : n ≤ 1000) (ha : I64 a) (hb : I64 b) (hc : I64 c) (hd : I64 d) (ht : I64 t)
    (HE : Bx (ckR n p a b c d = E)) (hE : (E != 0) = true) :
    Calls Try.prog 78 #[.slice A n cc, .agg #[.int .i64 a, .int .i64 b], .agg #[.int .i64 c, .int .i64 d], .int .i64 t] w fun e w' => e = .returned (.tuple #[.agg #[.int .i64 (0), .int .i64 (0)], .int .i64 (E)]) ∧ Below w.heap.size w w' := by
  have R0 := Bx.mk (RS.new w a b c d)
  go_enter Try.func78, Try.ntmps78
  go_wp2_with (first
    | (go_at_call 109; (with_reducible refine (checkRoots_any A n cc p a b c d _ (HA.out.below (Nat.le_refl _) R0.out.B) (by omega) ha hb hc hd).mono ?_); rw [HE.out]; rintro e w1 ⟨rfl, B1⟩; have R1 := Bx.mk (R0.out.call B1); obtain ⟨⟨_, la1, lb1⟩, ⟨_, ha1, hb1⟩, ⟨rz1, ra1, rb1⟩, fa1, fb1, _⟩ := R1.out; have S1 := B1.size))
  obtain ⟨j0, j1⟩ := set2 (b := w.heap.size + 1 + 1) (x := .int .i64 0) (y := .int .i64 0) (.int .i64 (0)) (.int .i64 (0)) ra1 rb1
  exact bodyPost_ret (ret_range rfl _ _ _ _ _ _ rfl rfl j0 j1) rfl ⟨rfl, (R1.out.B.setCell (by show w.heap.size ≤ w.heap.size + 1 + 1; omega) _).setCell (by show w.heap.size ≤ w.heap.size + 1 + 1; omega) _⟩

set_option maxRecDepth 100000 in
set_option maxHeartbeats 8000000 in
theorem rin_T (A : Option Addr) (n cc : Nat) (p : Row) (a b c d t E : Int) (w : World) (HA : Bx (IS w A n p)) (hn : n ≤ 1000) (ha : I64 a) (hb : I64 b) (hc : I64 c) (hd : I64 d) (ht : I64 t)
    (HE : Bx (ckR n p a b c d = 0)) (HW1 : Bx (wholeN a b t = (0, 0, E))) (hE : (E != 0) = true) :
    Calls Try.prog 78 #[.slice A n cc, .agg #[.int .i64 a, .int .i64 b], .agg #[.int .i64 c, .int .i64 d], .int .i64 t] w fun e w' => e = .returned (.tuple #[.agg #[.int .i64 (0), .int .i64 (0)], .int .i64 (E)]) ∧ Below w.heap.size w w' := by
  have R0 := Bx.mk (RS.new w a b c d)
  go_enter Try.func78, Try.ntmps78
  go_wp2_with (first
    | (go_at_call 109; (with_reducible refine (checkRoots_any A n cc p a b c d _ (HA.out.below (Nat.le_refl _) R0.out.B) (by omega) ha hb hc hd).mono ?_); rw [HE.out]; rintro e w1 ⟨rfl, B1⟩; have R1 := Bx.mk (R0.out.call B1); obtain ⟨⟨_, la1, lb1⟩, ⟨_, ha1, hb1⟩, ⟨rz1, ra1, rb1⟩, fa1, fb1, _⟩ := R1.out; have S1 := B1.size)
    | (go_at_call 34; (with_reducible refine (whole_any a b t _ ha hb ht).mono ?_); rw [HW1.out]; rintro e w2 ⟨rfl, B2⟩; have R2 := Bx.mk ((R1.out.call B2).alloc (.cells #[.int .i64 0, .int .i64 0] 38)); have F2 := Bx.mk (HF.new w2 38 0 0); obtain ⟨⟨_, la2, lb2⟩, ⟨_, ha2, hb2⟩, ⟨rz2, ra2, rb2⟩, fa2, fb2, _⟩ := R2.out; obtain ⟨_, fc2, fd2⟩ := F2.out; have S2 := B2.size; have hg1 := Bx.mk (show w2.heap.size ≤ w2.heap.size from Nat.le_refl _)))
  obtain ⟨j0, j1⟩ := set2 (b := w.heap.size + 1 + 1) (x := .int .i64 0) (y := .int .i64 0) (.int .i64 (0)) (.int .i64 (0)) ra2 rb2
  exact bodyPost_ret (ret_range rfl _ _ _ _ _ _ rfl rfl j0 j1) rfl ⟨rfl, (R2.out.B.setCell (by show w.heap.size ≤ w.heap.size + 1 + 1; omega) _).setCell (by show w.heap.size ≤ w.heap.size + 1 + 1; omega) _⟩

set_option maxRecDepth 100000 in
set_option maxHeartbeats 8000000 in
theorem rin_none (A : Option Addr) (n cc : Nat) (p : Row) (a b c d t fl fh tl th cnt : Int) (w : World) (HA : Bx (IS w A n p)) (hn : n ≤ 1000) (ha : I64 a) (hb : I64 b) (hc : I64 c) (hd : I64 d) (ht : I64 t)
    (HE : Bx (ckR n p a b c d = 0)) (HW1 : Bx (wholeN a b t = (fl, fh, 0))) (HW2 : Bx (wholeN c d t = (tl, th, 0))) (n1 : 1 ≤ n) (n7 : n ≤ 7) (HC : Bx (rootsL (sturmR n p) a b c d = cnt)) (h1 : cnt < 1) :
    Calls Try.prog 78 #[.slice A n cc, .agg #[.int .i64 a, .int .i64 b], .agg #[.int .i64 c, .int .i64 d], .int .i64 t] w fun e w' => e = .returned (.tuple #[.agg #[.int .i64 (0), .int .i64 (0)], .int .i64 (12)]) ∧ Below w.heap.size w w' := by
  have R0 := Bx.mk (RS.new w a b c d)
  have hpos : 0 < (sturmR n p).length := by simp [sturmR]
  have hposI : (0 : Int) < ((sturmR n p).length : Int) := by omega
  go_enter Try.func78, Try.ntmps78
  go_wp2_with (first
    | (go_at_call 109; (with_reducible refine (checkRoots_any A n cc p a b c d _ (HA.out.below (Nat.le_refl _) R0.out.B) (by omega) ha hb hc hd).mono ?_); rw [HE.out]; rintro e w1 ⟨rfl, B1⟩; have R1 := Bx.mk (R0.out.call B1); obtain ⟨⟨_, la1, lb1⟩, ⟨_, ha1, hb1⟩, ⟨rz1, ra1, rb1⟩, fa1, fb1, _⟩ := R1.out; have S1 := B1.size)
    | (go_at_call 34; (with_reducible refine (whole_any a b t _ ha hb ht).mono ?_); rw [HW1.out]; rintro e w2 ⟨rfl, B2⟩; have R2 := Bx.mk ((R1.out.call B2).alloc (.cells #[.int .i64 fl, .int .i64 fh] 38)); have F2 := Bx.mk (HF.new w2 38 fl fh); obtain ⟨⟨_, la2, lb2⟩, ⟨_, ha2, hb2⟩, ⟨rz2, ra2, rb2⟩, fa2, fb2, _⟩ := R2.out; obtain ⟨_, fc2, fd2⟩ := F2.out; have S2 := B2.size; have hg1 := Bx.mk (show w2.heap.size ≤ w2.heap.size from Nat.le_refl _))
    | (go_at_call 34; (with_reducible refine (whole_any c d t _ hc hd ht).mono ?_); rw [HW2.out]; rintro e w3 ⟨rfl, B3⟩; have R3 := Bx.mk ((R2.out.call B3).alloc (.cells #[.int .i64 tl, .int .i64 th] 38)); have F3 := Bx.mk ((F2.out.below B3).alloc (.cells #[.int .i64 tl, .int .i64 th] 38)); have T3 := Bx.mk (HF.new w3 38 tl th); obtain ⟨⟨_, la3, lb3⟩, ⟨_, ha3, hb3⟩, ⟨rz3, ra3, rb3⟩, fa3, fb3, _⟩ := R3.out; obtain ⟨_, fc3, fd3⟩ := F3.out; obtain ⟨_, tc3, td3⟩ := T3.out)
    | (go_at_call 110; (with_reducible refine (sturmOf_any A n cc p _ (HA.out.below (Nat.le_refl _) R3.out.B) n1 n7).mono ?_); rintro e w4 ⟨g, cg, rfl, Q4, hlen, B4⟩; have R4 := Bx.mk (R3.out.call B4); have F4 := Bx.mk (F3.out.below B4); have T4 := Bx.mk (T3.out.below B4); have ST4 := Bx.mk Q4; clear Q4; obtain ⟨⟨_, la4, lb4⟩, ⟨_, ha4, hb4⟩, ⟨rz4, ra4, rb4⟩, fa4, fb4, _⟩ := R4.out; obtain ⟨_, fc4, fd4⟩ := F4.out; obtain ⟨_, tc4, td4⟩ := T4.out)
    | (go_at_call 111; (with_reducible refine (rootsIn0_any (some ⟨g, 0, none⟩) (sturmR n p) _ cg 786431 a b c d _ ST4.out rfl (by omega) (by omega) ha hb hc hd).mono ?_); rw [HC.out]; rintro e w5 ⟨rfl, B5⟩; have R5 := Bx.mk (R4.out.call B5); have F5 := Bx.mk (F4.out.below B5); have T5 := Bx.mk (T4.out.below B5); have ST5 := Bx.mk (ST4.out.below (Nat.le_refl _) B5); obtain ⟨⟨_, la5, lb5⟩, ⟨_, ha5, hb5⟩, ⟨rz5, ra5, rb5⟩, fa5, fb5, _⟩ := R5.out; obtain ⟨_, fc5, fd5⟩ := F5.out; obtain ⟨_, tc5, td5⟩ := T5.out))
  obtain ⟨j0, j1⟩ := set2 (b := w.heap.size + 1 + 1) (x := .int .i64 0) (y := .int .i64 0) (.int .i64 (0)) (.int .i64 (0)) ra5 rb5
  exact bodyPost_ret (ret_range rfl _ _ _ _ _ _ rfl rfl j0 j1) rfl ⟨rfl, (R5.out.B.setCell (by show w.heap.size ≤ w.heap.size + 1 + 1; omega) _).setCell (by show w.heap.size ≤ w.heap.size + 1 + 1; omega) _⟩

set_option maxRecDepth 100000 in
set_option maxHeartbeats 8000000 in
theorem rin_many (A : Option Addr) (n cc : Nat) (p : Row) (a b c d t fl fh tl th cnt : Int) (w : World) (HA : Bx (IS w A n p)) (hn : n ≤ 1000) (ha : I64 a) (hb : I64 b) (hc : I64 c) (hd : I64 d) (ht : I64 t)
    (HE : Bx (ckR n p a b c d = 0)) (HW1 : Bx (wholeN a b t = (fl, fh, 0))) (HW2 : Bx (wholeN c d t = (tl, th, 0))) (n1 : 1 ≤ n) (n7 : n ≤ 7) (HC : Bx (rootsL (sturmR n p) a b c d = cnt)) (h1 : 1 < cnt) :
    Calls Try.prog 78 #[.slice A n cc, .agg #[.int .i64 a, .int .i64 b], .agg #[.int .i64 c, .int .i64 d], .int .i64 t] w fun e w' => e = .returned (.tuple #[.agg #[.int .i64 (0), .int .i64 (0)], .int .i64 (13)]) ∧ Below w.heap.size w w' := by
  have R0 := Bx.mk (RS.new w a b c d)
  have hpos : 0 < (sturmR n p).length := by simp [sturmR]
  have hposI : (0 : Int) < ((sturmR n p).length : Int) := by omega
  have h2 : ¬ cnt < 1 := by omega
  go_enter Try.func78, Try.ntmps78
  go_wp2_with (first
    | (go_at_call 109; (with_reducible refine (checkRoots_any A n cc p a b c d _ (HA.out.below (Nat.le_refl _) R0.out.B) (by omega) ha hb hc hd).mono ?_); rw [HE.out]; rintro e w1 ⟨rfl, B1⟩; have R1 := Bx.mk (R0.out.call B1); obtain ⟨⟨_, la1, lb1⟩, ⟨_, ha1, hb1⟩, ⟨rz1, ra1, rb1⟩, fa1, fb1, _⟩ := R1.out; have S1 := B1.size)
    | (go_at_call 34; (with_reducible refine (whole_any a b t _ ha hb ht).mono ?_); rw [HW1.out]; rintro e w2 ⟨rfl, B2⟩; have R2 := Bx.mk ((R1.out.call B2).alloc (.cells #[.int .i64 fl, .int .i64 fh] 38)); have F2 := Bx.mk (HF.new w2 38 fl fh); obtain ⟨⟨_, la2, lb2⟩, ⟨_, ha2, hb2⟩, ⟨rz2, ra2, rb2⟩, fa2, fb2, _⟩ := R2.out; obtain ⟨_, fc2, fd2⟩ := F2.out; have S2 := B2.size; have hg1 := Bx.mk (show w2.heap.size ≤ w2.heap.size from Nat.le_refl _))
    | (go_at_call 34; (with_reducible refine (whole_any c d t _ hc hd ht).mono ?_); rw [HW2.out]; rintro e w3 ⟨rfl, B3⟩; have R3 := Bx.mk ((R2.out.call B3).alloc (.cells #[.int .i64 tl, .int .i64 th] 38)); have F3 := Bx.mk ((F2.out.below B3).alloc (.cells #[.int .i64 tl, .int .i64 th] 38)); have T3 := Bx.mk (HF.new w3 38 tl th); obtain ⟨⟨_, la3, lb3⟩, ⟨_, ha3, hb3⟩, ⟨rz3, ra3, rb3⟩, fa3, fb3, _⟩ := R3.out; obtain ⟨_, fc3, fd3⟩ := F3.out; obtain ⟨_, tc3, td3⟩ := T3.out)
    | (go_at_call 110; (with_reducible refine (sturmOf_any A n cc p _ (HA.out.below (Nat.le_refl _) R3.out.B) n1 n7).mono ?_); rintro e w4 ⟨g, cg, rfl, Q4, hlen, B4⟩; have R4 := Bx.mk (R3.out.call B4); have F4 := Bx.mk (F3.out.below B4); have T4 := Bx.mk (T3.out.below B4); have ST4 := Bx.mk Q4; clear Q4; obtain ⟨⟨_, la4, lb4⟩, ⟨_, ha4, hb4⟩, ⟨rz4, ra4, rb4⟩, fa4, fb4, _⟩ := R4.out; obtain ⟨_, fc4, fd4⟩ := F4.out; obtain ⟨_, tc4, td4⟩ := T4.out)
    | (go_at_call 111; (with_reducible refine (rootsIn0_any (some ⟨g, 0, none⟩) (sturmR n p) _ cg 786431 a b c d _ ST4.out rfl (by omega) (by omega) ha hb hc hd).mono ?_); rw [HC.out]; rintro e w5 ⟨rfl, B5⟩; have R5 := Bx.mk (R4.out.call B5); have F5 := Bx.mk (F4.out.below B5); have T5 := Bx.mk (T4.out.below B5); have ST5 := Bx.mk (ST4.out.below (Nat.le_refl _) B5); obtain ⟨⟨_, la5, lb5⟩, ⟨_, ha5, hb5⟩, ⟨rz5, ra5, rb5⟩, fa5, fb5, _⟩ := R5.out; obtain ⟨_, fc5, fd5⟩ := F5.out; obtain ⟨_, tc5, td5⟩ := T5.out))
  obtain ⟨j0, j1⟩ := set2 (b := w.heap.size + 1 + 1) (x := .int .i64 0) (y := .int .i64 0) (.int .i64 (0)) (.int .i64 (0)) ra5 rb5
  exact bodyPost_ret (ret_range rfl _ _ _ _ _ _ rfl rfl j0 j1) rfl ⟨rfl, (R5.out.B.setCell (by show w.heap.size ≤ w.heap.size + 1 + 1; omega) _).setCell (by show w.heap.size ≤ w.heap.size + 1 + 1; omega) _⟩

set_option maxRecDepth 100000 in
set_option maxHeartbeats 8000000 in
theorem rin_at (A : Option Addr) (n cc : Nat) (p : Row) (a b c d t fl fh tl th r : Int) (w : World) (HA : Bx (IS w A n p)) (hn : n ≤ 1000) (ha : I64 a) (hb : I64 b) (hc : I64 c) (hd : I64 d) (ht : I64 t)
    (HE : Bx (ckR n p a b c d = 0)) (HW1 : Bx (wholeN a b t = (fl, fh, 0))) (HW2 : Bx (wholeN c d t = (tl, th, 0))) (n1 : 1 ≤ n) (n7 : n ≤ 7) (HC : Bx (rootsL (sturmR n p) a b c d = 1)) (HU : Bx (bisU (sturmR n p) (chgR a b (sturmR n p)) t (th - fl).toNat fl th = r)) (q1 : -10000000000000000 ≤ fl) (q2 : fl ≤ 10000000000000000) (q3 : -10000000000000000 ≤ th) (q4 : th ≤ 10000000000000000) (q5 : -10000000000000000 ≤ r) (q6 : r ≤ 10000000000000000) (HS : Bx (sgAt n p r t = 0)) (h1 : r ≤ tl) :
    Calls Try.prog 78 #[.slice A n cc, .agg #[.int .i64 a, .int .i64 b], .agg #[.int .i64 c, .int .i64 d], .int .i64 t] w fun e w' => e = .returned (.tuple #[.agg #[.int .i64 (r), .int .i64 (r)], .int .i64 (0)]) ∧ Below w.heap.size w w' := by
  have R0 := Bx.mk (RS.new w a b c d)
  have hpos : 0 < (sturmR n p).length := by simp [sturmR]
  have hposI : (0 : Int) < ((sturmR n p).length : Int) := by omega
  have hr : I64 r := ⟨by omega, by omega⟩
  go_enter Try.func78, Try.ntmps78
  go_wp2_with (first
    | (go_at_call 109; (with_reducible refine (checkRoots_any A n cc p a b c d _ (HA.out.below (Nat.le_refl _) R0.out.B) (by omega) ha hb hc hd).mono ?_); rw [HE.out]; rintro e w1 ⟨rfl, B1⟩; have R1 := Bx.mk (R0.out.call B1); obtain ⟨⟨_, la1, lb1⟩, ⟨_, ha1, hb1⟩, ⟨rz1, ra1, rb1⟩, fa1, fb1, _⟩ := R1.out; have S1 := B1.size)
    | (go_at_call 34; (with_reducible refine (whole_any a b t _ ha hb ht).mono ?_); rw [HW1.out]; rintro e w2 ⟨rfl, B2⟩; have R2 := Bx.mk ((R1.out.call B2).alloc (.cells #[.int .i64 fl, .int .i64 fh] 38)); have F2 := Bx.mk (HF.new w2 38 fl fh); obtain ⟨⟨_, la2, lb2⟩, ⟨_, ha2, hb2⟩, ⟨rz2, ra2, rb2⟩, fa2, fb2, _⟩ := R2.out; obtain ⟨_, fc2, fd2⟩ := F2.out; have S2 := B2.size; have hg1 := Bx.mk (show w2.heap.size ≤ w2.heap.size from Nat.le_refl _))
    | (go_at_call 34; (with_reducible refine (whole_any c d t _ hc hd ht).mono ?_); rw [HW2.out]; rintro e w3 ⟨rfl, B3⟩; have R3 := Bx.mk ((R2.out.call B3).alloc (.cells #[.int .i64 tl, .int .i64 th] 38)); have F3 := Bx.mk ((F2.out.below B3).alloc (.cells #[.int .i64 tl, .int .i64 th] 38)); have T3 := Bx.mk (HF.new w3 38 tl th); obtain ⟨⟨_, la3, lb3⟩, ⟨_, ha3, hb3⟩, ⟨rz3, ra3, rb3⟩, fa3, fb3, _⟩ := R3.out; obtain ⟨_, fc3, fd3⟩ := F3.out; obtain ⟨_, tc3, td3⟩ := T3.out)
    | (go_at_call 110; (with_reducible refine (sturmOf_any A n cc p _ (HA.out.below (Nat.le_refl _) R3.out.B) n1 n7).mono ?_); rintro e w4 ⟨g, cg, rfl, Q4, hlen, B4⟩; have R4 := Bx.mk (R3.out.call B4); have F4 := Bx.mk (F3.out.below B4); have T4 := Bx.mk (T3.out.below B4); have ST4 := Bx.mk Q4; clear Q4; obtain ⟨⟨_, la4, lb4⟩, ⟨_, ha4, hb4⟩, ⟨rz4, ra4, rb4⟩, fa4, fb4, _⟩ := R4.out; obtain ⟨_, fc4, fd4⟩ := F4.out; obtain ⟨_, tc4, td4⟩ := T4.out)
    | (go_at_call 111; (with_reducible refine (rootsIn0_any (some ⟨g, 0, none⟩) (sturmR n p) _ cg 786431 a b c d _ ST4.out rfl (by omega) (by omega) ha hb hc hd).mono ?_); rw [HC.out]; rintro e w5 ⟨rfl, B5⟩; have R5 := Bx.mk (R4.out.call B5); have F5 := Bx.mk (F4.out.below B5); have T5 := Bx.mk (T4.out.below B5); have ST5 := Bx.mk (ST4.out.below (Nat.le_refl _) B5); obtain ⟨⟨_, la5, lb5⟩, ⟨_, ha5, hb5⟩, ⟨rz5, ra5, rb5⟩, fa5, fb5, _⟩ := R5.out; obtain ⟨_, fc5, fd5⟩ := F5.out; obtain ⟨_, tc5, td5⟩ := T5.out)
    | (go_at_call 113; (with_reducible refine (rootUp_any (some ⟨g, 0, none⟩) (sturmR n p) _ cg 786431 a b fl th t _ ST5.out rfl (by omega) (by omega) ha hb (by omega) (by omega) (by omega) (by omega) ht).mono ?_); rw [HU.out]; rintro e w6 ⟨rfl, B6⟩; have R6 := Bx.mk (R5.out.call B6); have F6 := Bx.mk (F5.out.below B6); have T6 := Bx.mk (T5.out.below B6); obtain ⟨⟨_, la6, lb6⟩, ⟨_, ha6, hb6⟩, ⟨rz6, ra6, rb6⟩, fa6, fb6, _⟩ := R6.out; obtain ⟨_, fc6, fd6⟩ := F6.out; obtain ⟨_, tc6, td6⟩ := T6.out; obtain ⟨g', eg, hgl, hge⟩ := (ST5.out.below (Nat.le_refl _) B6) (by simp [sturmR]); obtain ⟨Ai, ci, sp0, P0, _⟩ := hge 0 (n, p) rfl; injection eg with eg; injection eg with eg; subst eg; have HP0 := Bx.mk P0; clear P0 hge; dsimp only at sp0)
    | (go_at_call 106; (with_reducible refine (signAt_any Ai n ci p 786431 r t _ HP0.out (by omega) (by omega) hr ht).mono ?_); rw [HS.out]; rintro e w7 ⟨rfl, B7⟩; have R7 := Bx.mk (R6.out.call B7); obtain ⟨⟨_, la7, lb7⟩, ⟨_, ha7, hb7⟩, ⟨rz7, ra7, rb7⟩, fa7, fb7, _⟩ := R7.out))
  obtain ⟨j0, j1⟩ := set2 (b := w.heap.size + 1 + 1) (x := .int .i64 0) (y := .int .i64 0) (.int .i64 (r)) (.int .i64 (r)) ra7 rb7
  exact bodyPost_ret (ret_range rfl _ _ _ _ _ _ rfl rfl j0 j1) rfl ⟨rfl, (R7.out.B.setCell (by show w.heap.size ≤ w.heap.size + 1 + 1; omega) _).setCell (by show w.heap.size ≤ w.heap.size + 1 + 1; omega) _⟩

set_option maxRecDepth 100000 in
set_option maxHeartbeats 8000000 in
theorem rin_not (A : Option Addr) (n cc : Nat) (p : Row) (a b c d t fl fh tl th r s : Int) (w : World) (HA : Bx (IS w A n p)) (hn : n ≤ 1000) (ha : I64 a) (hb : I64 b) (hc : I64 c) (hd : I64 d) (ht : I64 t)
    (HE : Bx (ckR n p a b c d = 0)) (HW1 : Bx (wholeN a b t = (fl, fh, 0))) (HW2 : Bx (wholeN c d t = (tl, th, 0))) (n1 : 1 ≤ n) (n7 : n ≤ 7) (HC : Bx (rootsL (sturmR n p) a b c d = 1)) (HU : Bx (bisU (sturmR n p) (chgR a b (sturmR n p)) t (th - fl).toNat fl th = r)) (q1 : -10000000000000000 ≤ fl) (q2 : fl ≤ 10000000000000000) (q3 : -10000000000000000 ≤ th) (q4 : th ≤ 10000000000000000) (q5 : -10000000000000000 ≤ r) (q6 : r ≤ 10000000000000000) (HS : Bx (sgAt n p r t = s)) (h1 : r ≤ tl) (h2 : (s == 0) = false) :
    Calls Try.prog 78 #[.slice A n cc, .agg #[.int .i64 a, .int .i64 b], .agg #[.int .i64 c, .int .i64 d], .int .i64 t] w fun e w' => e = .returned (.tuple #[.agg #[.int .i64 (r - 1), .int .i64 (r)], .int .i64 (0)]) ∧ Below w.heap.size w w' := by
  have R0 := Bx.mk (RS.new w a b c d)
  have hpos : 0 < (sturmR n p).length := by simp [sturmR]
  have hposI : (0 : Int) < ((sturmR n p).length : Int) := by omega
  have hr : I64 r := ⟨by omega, by omega⟩
  go_enter Try.func78, Try.ntmps78
  go_wp2_with (first
    | (go_at_call 109; (with_reducible refine (checkRoots_any A n cc p a b c d _ (HA.out.below (Nat.le_refl _) R0.out.B) (by omega) ha hb hc hd).mono ?_); rw [HE.out]; rintro e w1 ⟨rfl, B1⟩; have R1 := Bx.mk (R0.out.call B1); obtain ⟨⟨_, la1, lb1⟩, ⟨_, ha1, hb1⟩, ⟨rz1, ra1, rb1⟩, fa1, fb1, _⟩ := R1.out; have S1 := B1.size)
    | (go_at_call 34; (with_reducible refine (whole_any a b t _ ha hb ht).mono ?_); rw [HW1.out]; rintro e w2 ⟨rfl, B2⟩; have R2 := Bx.mk ((R1.out.call B2).alloc (.cells #[.int .i64 fl, .int .i64 fh] 38)); have F2 := Bx.mk (HF.new w2 38 fl fh); obtain ⟨⟨_, la2, lb2⟩, ⟨_, ha2, hb2⟩, ⟨rz2, ra2, rb2⟩, fa2, fb2, _⟩ := R2.out; obtain ⟨_, fc2, fd2⟩ := F2.out; have S2 := B2.size; have hg1 := Bx.mk (show w2.heap.size ≤ w2.heap.size from Nat.le_refl _))
    | (go_at_call 34; (with_reducible refine (whole_any c d t _ hc hd ht).mono ?_); rw [HW2.out]; rintro e w3 ⟨rfl, B3⟩; have R3 := Bx.mk ((R2.out.call B3).alloc (.cells #[.int .i64 tl, .int .i64 th] 38)); have F3 := Bx.mk ((F2.out.below B3).alloc (.cells #[.int .i64 tl, .int .i64 th] 38)); have T3 := Bx.mk (HF.new w3 38 tl th); obtain ⟨⟨_, la3, lb3⟩, ⟨_, ha3, hb3⟩, ⟨rz3, ra3, rb3⟩, fa3, fb3, _⟩ := R3.out; obtain ⟨_, fc3, fd3⟩ := F3.out; obtain ⟨_, tc3, td3⟩ := T3.out)
    | (go_at_call 110; (with_reducible refine (sturmOf_any A n cc p _ (HA.out.below (Nat.le_refl _) R3.out.B) n1 n7).mono ?_); rintro e w4 ⟨g, cg, rfl, Q4, hlen, B4⟩; have R4 := Bx.mk (R3.out.call B4); have F4 := Bx.mk (F3.out.below B4); have T4 := Bx.mk (T3.out.below B4); have ST4 := Bx.mk Q4; clear Q4; obtain ⟨⟨_, la4, lb4⟩, ⟨_, ha4, hb4⟩, ⟨rz4, ra4, rb4⟩, fa4, fb4, _⟩ := R4.out; obtain ⟨_, fc4, fd4⟩ := F4.out; obtain ⟨_, tc4, td4⟩ := T4.out)
    | (go_at_call 111; (with_reducible refine (rootsIn0_any (some ⟨g, 0, none⟩) (sturmR n p) _ cg 786431 a b c d _ ST4.out rfl (by omega) (by omega) ha hb hc hd).mono ?_); rw [HC.out]; rintro e w5 ⟨rfl, B5⟩; have R5 := Bx.mk (R4.out.call B5); have F5 := Bx.mk (F4.out.below B5); have T5 := Bx.mk (T4.out.below B5); have ST5 := Bx.mk (ST4.out.below (Nat.le_refl _) B5); obtain ⟨⟨_, la5, lb5⟩, ⟨_, ha5, hb5⟩, ⟨rz5, ra5, rb5⟩, fa5, fb5, _⟩ := R5.out; obtain ⟨_, fc5, fd5⟩ := F5.out; obtain ⟨_, tc5, td5⟩ := T5.out)
    | (go_at_call 113; (with_reducible refine (rootUp_any (some ⟨g, 0, none⟩) (sturmR n p) _ cg 786431 a b fl th t _ ST5.out rfl (by omega) (by omega) ha hb (by omega) (by omega) (by omega) (by omega) ht).mono ?_); rw [HU.out]; rintro e w6 ⟨rfl, B6⟩; have R6 := Bx.mk (R5.out.call B6); have F6 := Bx.mk (F5.out.below B6); have T6 := Bx.mk (T5.out.below B6); obtain ⟨⟨_, la6, lb6⟩, ⟨_, ha6, hb6⟩, ⟨rz6, ra6, rb6⟩, fa6, fb6, _⟩ := R6.out; obtain ⟨_, fc6, fd6⟩ := F6.out; obtain ⟨_, tc6, td6⟩ := T6.out; obtain ⟨g', eg, hgl, hge⟩ := (ST5.out.below (Nat.le_refl _) B6) (by simp [sturmR]); obtain ⟨Ai, ci, sp0, P0, _⟩ := hge 0 (n, p) rfl; injection eg with eg; injection eg with eg; subst eg; have HP0 := Bx.mk P0; clear P0 hge; dsimp only at sp0)
    | (go_at_call 106; (with_reducible refine (signAt_any Ai n ci p 786431 r t _ HP0.out (by omega) (by omega) hr ht).mono ?_); rw [HS.out]; rintro e w7 ⟨rfl, B7⟩; have R7 := Bx.mk (R6.out.call B7); obtain ⟨⟨_, la7, lb7⟩, ⟨_, ha7, hb7⟩, ⟨rz7, ra7, rb7⟩, fa7, fb7, _⟩ := R7.out))
  obtain ⟨j0, j1⟩ := set2 (b := w.heap.size + 1 + 1) (x := .int .i64 0) (y := .int .i64 0) (.int .i64 (r - 1)) (.int .i64 (r)) ra7 rb7
  exact bodyPost_ret (ret_range rfl _ _ _ _ _ _ rfl rfl j0 j1) rfl ⟨rfl, (R7.out.B.setCell (by show w.heap.size ≤ w.heap.size + 1 + 1; omega) _).setCell (by show w.heap.size ≤ w.heap.size + 1 + 1; omega) _⟩

set_option maxRecDepth 100000 in
set_option maxHeartbeats 8000000 in
theorem rin_off (A : Option Addr) (n cc : Nat) (p : Row) (a b c d t fl fh tl th r : Int) (w : World) (HA : Bx (IS w A n p)) (hn : n ≤ 1000) (ha : I64 a) (hb : I64 b) (hc : I64 c) (hd : I64 d) (ht : I64 t)
    (HE : Bx (ckR n p a b c d = 0)) (HW1 : Bx (wholeN a b t = (fl, fh, 0))) (HW2 : Bx (wholeN c d t = (tl, th, 0))) (n1 : 1 ≤ n) (n7 : n ≤ 7) (HC : Bx (rootsL (sturmR n p) a b c d = 1)) (HU : Bx (bisU (sturmR n p) (chgR a b (sturmR n p)) t (th - fl).toNat fl th = r)) (q1 : -10000000000000000 ≤ fl) (q2 : fl ≤ 10000000000000000) (q3 : -10000000000000000 ≤ th) (q4 : th ≤ 10000000000000000) (q5 : -10000000000000000 ≤ r) (q6 : r ≤ 10000000000000000) (h1 : ¬ r ≤ tl) :
    Calls Try.prog 78 #[.slice A n cc, .agg #[.int .i64 a, .int .i64 b], .agg #[.int .i64 c, .int .i64 d], .int .i64 t] w fun e w' => e = .returned (.tuple #[.agg #[.int .i64 (r - 1), .int .i64 (r)], .int .i64 (0)]) ∧ Below w.heap.size w w' := by
  have R0 := Bx.mk (RS.new w a b c d)
  have hpos : 0 < (sturmR n p).length := by simp [sturmR]
  have hposI : (0 : Int) < ((sturmR n p).length : Int) := by omega
  have hr : I64 r := ⟨by omega, by omega⟩
  go_enter Try.func78, Try.ntmps78
  go_wp2_with (first
    | (go_at_call 109; (with_reducible refine (checkRoots_any A n cc p a b c d _ (HA.out.below (Nat.le_refl _) R0.out.B) (by omega) ha hb hc hd).mono ?_); rw [HE.out]; rintro e w1 ⟨rfl, B1⟩; have R1 := Bx.mk (R0.out.call B1); obtain ⟨⟨_, la1, lb1⟩, ⟨_, ha1, hb1⟩, ⟨rz1, ra1, rb1⟩, fa1, fb1, _⟩ := R1.out; have S1 := B1.size)
    | (go_at_call 34; (with_reducible refine (whole_any a b t _ ha hb ht).mono ?_); rw [HW1.out]; rintro e w2 ⟨rfl, B2⟩; have R2 := Bx.mk ((R1.out.call B2).alloc (.cells #[.int .i64 fl, .int .i64 fh] 38)); have F2 := Bx.mk (HF.new w2 38 fl fh); obtain ⟨⟨_, la2, lb2⟩, ⟨_, ha2, hb2⟩, ⟨rz2, ra2, rb2⟩, fa2, fb2, _⟩ := R2.out; obtain ⟨_, fc2, fd2⟩ := F2.out; have S2 := B2.size; have hg1 := Bx.mk (show w2.heap.size ≤ w2.heap.size from Nat.le_refl _))
    | (go_at_call 34; (with_reducible refine (whole_any c d t _ hc hd ht).mono ?_); rw [HW2.out]; rintro e w3 ⟨rfl, B3⟩; have R3 := Bx.mk ((R2.out.call B3).alloc (.cells #[.int .i64 tl, .int .i64 th] 38)); have F3 := Bx.mk ((F2.out.below B3).alloc (.cells #[.int .i64 tl, .int .i64 th] 38)); have T3 := Bx.mk (HF.new w3 38 tl th); obtain ⟨⟨_, la3, lb3⟩, ⟨_, ha3, hb3⟩, ⟨rz3, ra3, rb3⟩, fa3, fb3, _⟩ := R3.out; obtain ⟨_, fc3, fd3⟩ := F3.out; obtain ⟨_, tc3, td3⟩ := T3.out)
    | (go_at_call 110; (with_reducible refine (sturmOf_any A n cc p _ (HA.out.below (Nat.le_refl _) R3.out.B) n1 n7).mono ?_); rintro e w4 ⟨g, cg, rfl, Q4, hlen, B4⟩; have R4 := Bx.mk (R3.out.call B4); have F4 := Bx.mk (F3.out.below B4); have T4 := Bx.mk (T3.out.below B4); have ST4 := Bx.mk Q4; clear Q4; obtain ⟨⟨_, la4, lb4⟩, ⟨_, ha4, hb4⟩, ⟨rz4, ra4, rb4⟩, fa4, fb4, _⟩ := R4.out; obtain ⟨_, fc4, fd4⟩ := F4.out; obtain ⟨_, tc4, td4⟩ := T4.out)
    | (go_at_call 111; (with_reducible refine (rootsIn0_any (some ⟨g, 0, none⟩) (sturmR n p) _ cg 786431 a b c d _ ST4.out rfl (by omega) (by omega) ha hb hc hd).mono ?_); rw [HC.out]; rintro e w5 ⟨rfl, B5⟩; have R5 := Bx.mk (R4.out.call B5); have F5 := Bx.mk (F4.out.below B5); have T5 := Bx.mk (T4.out.below B5); have ST5 := Bx.mk (ST4.out.below (Nat.le_refl _) B5); obtain ⟨⟨_, la5, lb5⟩, ⟨_, ha5, hb5⟩, ⟨rz5, ra5, rb5⟩, fa5, fb5, _⟩ := R5.out; obtain ⟨_, fc5, fd5⟩ := F5.out; obtain ⟨_, tc5, td5⟩ := T5.out)
    | (go_at_call 113; (with_reducible refine (rootUp_any (some ⟨g, 0, none⟩) (sturmR n p) _ cg 786431 a b fl th t _ ST5.out rfl (by omega) (by omega) ha hb (by omega) (by omega) (by omega) (by omega) ht).mono ?_); rw [HU.out]; rintro e w6 ⟨rfl, B6⟩; have R6 := Bx.mk (R5.out.call B6); have F6 := Bx.mk (F5.out.below B6); have T6 := Bx.mk (T5.out.below B6); obtain ⟨⟨_, la6, lb6⟩, ⟨_, ha6, hb6⟩, ⟨rz6, ra6, rb6⟩, fa6, fb6, _⟩ := R6.out; obtain ⟨_, fc6, fd6⟩ := F6.out; obtain ⟨_, tc6, td6⟩ := T6.out; obtain ⟨g', eg, hgl, hge⟩ := (ST5.out.below (Nat.le_refl _) B6) (by simp [sturmR]); obtain ⟨Ai, ci, sp0, P0, _⟩ := hge 0 (n, p) rfl; injection eg with eg; injection eg with eg; subst eg; have HP0 := Bx.mk P0; clear P0 hge; dsimp only at sp0))
  obtain ⟨j0, j1⟩ := set2 (b := w.heap.size + 1 + 1) (x := .int .i64 0) (y := .int .i64 0) (.int .i64 (r - 1)) (.int .i64 (r)) ra6 rb6
  exact bodyPost_ret (ret_range rfl _ _ _ _ _ _ rfl rfl j0 j1) rfl ⟨rfl, (R6.out.B.setCell (by show w.heap.size ≤ w.heap.size + 1 + 1; omega) _).setCell (by show w.heap.size ≤ w.heap.size + 1 + 1; omega) _⟩

end Go.Proofs.Ytfnmnnbmhfbkbaa
