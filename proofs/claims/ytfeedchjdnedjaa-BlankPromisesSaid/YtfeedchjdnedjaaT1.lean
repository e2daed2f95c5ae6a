import Derived.Test.YtfeedchjdnedjaaS3
namespace Go.Proofs.Ytfeedchjdnedjaa.Vg
set_option maxRecDepth 100000
set_option maxHeartbeats 4000000
set_option linter.unusedVariables false
set_option linter.unusedSimpArgs false
open Go Go.Proofs.Ytfeedchjdnedjaa.Ev Go.Proofs.Ytfeedchjdnedjaa.Vv
open List (flatMap length_cons length_nil length_map length_append map_cons map_nil length_replicate)
def Qb9 (k : Nat) (a0 : ByteArray) (a1 : ByteArray) : Option (ByteArray × ByteArray × Bool) :=
 (J8 k a0 a1).bind fun r2607 => (some (r2607.1, r2607.2.1, r2607.2.2))
theorem Qja (k : Nat) (a0 : ByteArray) (a1 : ByteArray) (r : (ByteArray × ByteArray × Bool)) (h : Qb9 k a0 a1 = some r) : VC Try.prog 24 [vs a0, vs a1] (VV.tu [vs r.1, vs r.2.1, vb r.2.2]) := by
 unfold Qb9 at h
 obtain ⟨r2607, h2608, h⟩ := bs h
 have e2609 := (Qcv k a0 a1 _ h2608)
 have e2610 := (ti (ti (an e2609 (ti (ti (ti (ti (ti (ti tt)))))))))
 injection h with h; subst h
 exact Qo pm pn Try.func24 (r0 := VV.tu [vs r2607.1, vs r2607.2.1, vb r2607.2.2]) (ans := [.reg (nN 3 []), .reg (.n :: .n :: .call (VV.tu [vs r2607.1, vs r2607.2.1, vb r2607.2.2]) :: nN 6 [])]) (fr := true) (by kernel_rfl) (an (an (ti (ti (ti tt))) (an e2610 tt)) (ti (ti (ti tt)))) (Wv.refl _)
def Qan (k : Nat) (a0 : ByteArray) : Option ByteArray :=
 (Ju k a0).bind fun r2624 => (some r2624)
theorem Qdz (k : Nat) (a0 : ByteArray) (r : ByteArray) (h : Qan k a0 = some r) : VC Try.prog 26 [vs a0] (vs r) := by
 unfold Qan at h
 obtain ⟨r2624, h2625, h⟩ := bs h
 have e2626 := (Qca k a0 _ h2625)
 injection h with h; subst h
 exact Qo pm pn Try.func26 (r0 := vs r2624) (ans := [.reg (.n :: []), .reg (.n :: .call (vs r2624) :: .n :: [])]) (fr := true) (by kernel_rfl) (an (an (ti tt) (an (ti (an e2626 (ti tt))) tt)) (ti tt)) (Wv.refl _)
theorem Qt3  : VV.tu [VV.ag [vs ByteArray.empty, vs ByteArray.empty], vi 7] = VV.tu [VV.ag (Qa (⟨ByteArray.empty, ByteArray.empty⟩ : Qb)), vi 7] := by first | rfl | (simp only [X5, X6, map_cons, map_nil, un_i, un_s, Qk]; done) | (simp only [X5, X6, map_cons, map_nil, un_i, un_s, Qk]; rfl) | (simp only [X5, X6, map_cons, map_nil, un_i, un_s, Qk, Qa, length_cons, length_nil, length_append]; done)
theorem Qzd (z0 : ByteArray) (z1 : ByteArray) : VV.tu [VV.ag [vs z0, vs z1], vi 0] = VV.tu [VV.ag (Qa (⟨z0, z1⟩ : Qb)), vi 0] := by first | rfl | (simp only [X5, X6, map_cons, map_nil, un_i, un_s, Qk]; done) | (simp only [X5, X6, map_cons, map_nil, un_i, un_s, Qk]; rfl) | (simp only [X5, X6, map_cons, map_nil, un_i, un_s, Qk, Qa, length_cons, length_nil, length_append]; done)
def J6 (k : Nat) (a0 : ByteArray) : Option (Qb × Int) :=
 (Qb9 k a0 (⟨#[32]⟩ : ByteArray)).bind fun r2633 => (if r2633.2.2 = true then ((Qad k r2633.2.1 (⟨#[32]⟩ : ByteArray)).bind fun r2638 => (if r2638 = true then (some ((⟨ByteArray.empty, ByteArray.empty⟩ : Qb), 7)) else ((Qan k r2633.1).bind fun r2643 => ((Qan k r2633.2.1).bind fun r2645 => (some ((⟨r2643, r2645⟩ : Qb), 0)))))) else (some ((⟨ByteArray.empty, ByteArray.empty⟩ : Qb), 7)))
theorem Qbn (k : Nat) (a0 : ByteArray) (r : (Qb × Int)) (h : J6 k a0 = some r) : VC Try.prog 10 [vs a0] (VV.tu [VV.ag (Qa r.1), vi r.2]) := by
 unfold J6 at h
 obtain ⟨r2633, h2634, h⟩ := bs h
 have e2635 := (Qja k a0 (⟨#[32]⟩ : ByteArray) _ h2634)
 have e2636 := (ti (an e2635 (ti (ti (ti (ti (ti (ti (ti tt)))))))))
 rcases ifs h with ⟨h2637, h⟩ | ⟨h2637, h⟩
 ·obtain ⟨r2638, h2639, h⟩ := bs h
  have e2640 := (an (Ql h2637) (Qfh k r2633.2.1 (⟨#[32]⟩ : ByteArray) _ h2639))
  have e2641 := (ti (ti (ti (an (an (Ql h2637) tt) (an e2640 (an (Ql h2637) tt))))))
  rcases ifs h with ⟨h2642, h⟩ | ⟨h2642, h⟩
  ·injection h with h; subst h
   exact Qo pm pn Try.func10 (r0 := VV.tu [VV.ag [vs ByteArray.empty, vs ByteArray.empty], vi 7]) (ans := [.reg (.n :: .n :: []), .reg (.n :: .call (VV.tu [vs r2633.1, vs r2633.2.1, vb r2633.2.2]) :: nN 7 []), .reg (nN 4 (.call (vb r2638) :: .b false :: [])), .br true, .reg (nN 3 [])]) (fr := true) (by kernel_rfl) (an (an (ti (ti tt)) (an e2636 (an e2641 (an h2642 (an (ti (ti (ti tt))) tt))))) (an (ti (ti (ti tt))) (ti tt))) (Wv.of_eq Qt3)
  ·obtain ⟨r2643, h2644, h⟩ := bs h
   obtain ⟨r2645, h2646, h⟩ := bs h
   have e2647 := (ti (an (Qdz k r2633.1 _ h2644) (ti (an (Qdz k r2633.2.1 _ h2646) (ti (ti (ti tt)))))))
   injection h with h; subst h
   exact Qo pm pn Try.func10 (r0 := VV.tu [VV.ag [vs r2643, vs r2645], vi 0]) (ans := [.reg (.n :: .n :: []), .reg (.n :: .call (VV.tu [vs r2633.1, vs r2633.2.1, vb r2633.2.2]) :: nN 7 []), .reg (nN 4 (.call (vb r2638) :: .b false :: [])), .br false, .reg (.n :: .call (vs r2643) :: .n :: .call (vs r2645) :: nN 3 [])]) (fr := true) (by kernel_rfl) (an (an (ti (ti tt)) (an e2636 (an (an e2641 (an (Qz h2642) tt)) (an e2647 tt)))) (an (ti (ti (ti tt))) (ti tt))) (Wv.of_eq (Qzd r2643 r2645))
 ·have e2648 := (ti (ti (ti (an (Zd (Qz h2637)) (an (Zd (Qz h2637)) (an (Zd (Qz h2637)) tt))))))
  injection h with h; subst h
  exact Qo pm pn Try.func10 (r0 := VV.tu [VV.ag [vs ByteArray.empty, vs ByteArray.empty], vi 7]) (ans := [.reg (.n :: .n :: []), .reg (.n :: .call (VV.tu [vs r2633.1, vs r2633.2.1, vb r2633.2.2]) :: nN 7 []), .reg (nN 3 (.skip :: .skip :: .b true :: [])), .br true, .reg (nN 3 [])]) (fr := true) (by kernel_rfl) (an (an (ti (ti tt)) (an e2636 (an e2648 (an rt (an (ti (ti (ti tt))) tt))))) (an (ti (ti (ti tt))) (ti tt))) (Wv.of_eq Qt3)
def Qeb (k : Nat) (a0 : (List ByteArray)) : Option ByteArray :=
 (Qct k a0 (⟨#[32]⟩ : ByteArray)).bind fun r2652 => (some r2652)
theorem Qjo (k : Nat) (a0 : (List ByteArray)) (r : ByteArray) (h : Qeb k a0 = some r) : VC Try.prog 28 [VV.tr (List.map vs a0) a0.length] (vs r) := by
 unfold Qeb at h
 obtain ⟨r2652, h2653, h⟩ := bs h
 have e2654 := (Qhw k a0 (⟨#[32]⟩ : ByteArray) _ h2653)
 injection h with h; subst h
 exact Qo pm pn Try.func28 (r0 := vs r2652) (ans := [.reg (.n :: []), .reg (.n :: .call (vs r2652) :: .n :: [])]) (fr := true) (by kernel_rfl) (an (an (ti tt) (an (ti (an e2654 (ti tt))) tt)) (ti tt)) (Wv.refl _)
theorem Qze (z0 : Qb) : [VV.tr (List.map vs ([z0.Mirror, z0.Batch] : List ByteArray)) (([z0.Mirror, z0.Batch] : List ByteArray).length)] = [VV.tr [vs z0.Mirror, vs z0.Batch] 2] := by first | rfl | (simp only [X6, map_cons, map_nil, un_s, Qcd, length_map, length_cons, length_nil]; done) | (simp only [X6, map_cons, map_nil, un_s, Qcd, length_map, length_cons, length_nil]; rfl) | (simp only [X6, map_cons, map_nil, un_s, Qcd, length_map, length_cons, length_nil, length_cons, length_nil, length_append]; done)
def Yl (k : Nat) (a0 : Qb) : Option ByteArray :=
 (Qeb k ([a0.Mirror, a0.Batch] : List ByteArray)).bind fun r2658 => (some r2658)
theorem Qed (k : Nat) (a0 : Qb) (r : ByteArray) (h : Yl k a0 = some r) : VC Try.prog 12 [VV.ag (Qa a0)] (vs r) := by
 unfold Yl at h
 obtain ⟨r2658, h2659, h⟩ := bs h
 have e2660 := (VC.args (Qjo k ([a0.Mirror, a0.Batch] : List ByteArray) _ h2659) (Qze a0))
 injection h with h; subst h
 exact Qo pm pn Try.func12 (r0 := vs r2658) (ans := [.reg (.n :: .n :: []), .reg (nN 4 (.v VV.any :: .call (vs r2658) :: .n :: []))]) (fr := true) (by kernel_rfl) (an (an (ti (ti tt)) (an (ti (ti (ti (ti (ti (an e2660 (ti tt))))))) tt)) (ti tt)) (Wv.refl _)
def Xf (a0 : ByteArray) (a1 : Int) (y0 : List ByteArray) (x6 : Int) (x7 : Int) : VS := ⟨mkA [(0, vs a0), (1, VV.c (.int .u8 a1)), (5, VV.rf 0 0 y0.length), (6, vi x6), (7, vi x7)], [some ⟨false, 1, List.map vs y0⟩], .nil⟩
def Wq (a0 : ByteArray) (a1 : Int) (r : (List ByteArray)) : VS := ⟨mkA [(5, VV.rf 0 0 r.length)], [some ⟨false, 1, List.map vs r⟩], .nil⟩
def Zf (k : Nat) (a0 : ByteArray) (a1 : Int) : Nat -> (List ByteArray) -> Int -> Int -> Option ((List ByteArray))
 | 0, _, _, _ => none
 | fuel + 1, y0, x6, x7 => if x7 <= (a0.size : Int) then (if x7 = (a0.size : Int) then (if 0 <= x6 /\ x6 <= x7 /\ x7 <= (a0.size : Int) then (if y0.length + ([a0.extract ((x6).toNat) ((x7).toNat)] : List ByteArray).length <= 1000000000 then (Zf k a0 a1 fuel (y0 ++ ([a0.extract ((x6).toNat) ((x7).toNat)] : List ByteArray)) (w64 (x7 + 1)) (w64 (x7 + 1))) else none) else none) else (if 0 <= x7 /\ x7 < (a0.size : Int) then (if (bat a0 x7) = a1 then (if 0 <= x6 /\ x6 <= x7 /\ x7 <= (a0.size : Int) then (if y0.length + ([a0.extract ((x6).toNat) ((x7).toNat)] : List ByteArray).length <= 1000000000 then (Zf k a0 a1 fuel (y0 ++ ([a0.extract ((x6).toNat) ((x7).toNat)] : List ByteArray)) (w64 (x7 + 1)) (w64 (x7 + 1))) else none) else none) else (Zf k a0 a1 fuel y0 x6 (w64 (x7 + 1)))) else none)) else (some y0)
theorem Qdl (k : Nat) (a0 : ByteArray) (a1 : Int) : ∀ (fuel : Nat) (y0 : List ByteArray) (x6 : Int) (x7 : Int) (r : (List ByteArray)), Zf k a0 a1 fuel y0 x6 x7 = some r -> (Ya none Try.prog (szF Try.f27) (X9 Try.f27 0) (Xf a0 a1 y0 x6 x7) (.exit 0) (Wq a0 a1 r)) := by
 intro fuel
 induction fuel with
 | zero => intro y0 x6 x7 r h; rw [Zf.eq_1] at h; cases h
 | succ fuel ih =>
  intro y0 x6 x7 r h
  rw [Zf.eq_2] at h
  rcases ifs h with ⟨h2776, h⟩ | ⟨h2776, h⟩
  ·rcases ifs h with ⟨h2777, h⟩ | ⟨h2777, h⟩
   ·have e2778 := (ti (ti (ti (ti (ti (an (dt h2777) (an (dt h2777) (an (dt h2777) (an (dt h2777) (an (dt h2777) (an (dt h2777) tt)))))))))))
    obtain ⟨h2779, h⟩ := ifn h
    have e2780 := (show 0 <= x6 /\ 0 <= x7 /\ (x6).toNat <= (x7).toNat /\ (x7).toNat <= a0.size from ⟨h2779.1, by have := h2779; omega, by have := h2779; omega, by have := h2779; omega⟩)
    obtain ⟨h2781, h⟩ := ifn h
    have e2782 := (show List.length (List.map vs y0) = y0.length * 1 /\ List.length [vs (a0.extract ((x6).toNat) ((x7).toNat))] = 1 * 1 /\ (y0.length + 1) * 16 <= 140737488355328 /\ y0.length + 1 < 1099511627776 /\ List.all [vs (a0.extract ((x6).toNat) ((x7).toNat))] VV.still = true from ⟨(by simp), (by rw [show [vs (a0.extract ((x6).toNat) ((x7).toNat))] = List.map vs ([a0.extract ((x6).toNat) ((x7).toNat)] : List ByteArray) from rfl]; simp), (by first | omega | (simp at h2781 ⊢; omega)), (by first | omega | (simp at h2781 ⊢; omega)), (by rw [show [vs (a0.extract ((x6).toNat) ((x7).toNat))] = List.map vs ([a0.extract ((x6).toNat) ((x7).toNat)] : List ByteArray) from rfl]; exact Qqa _)⟩)
    have e2783 := (ti (ti (ti (ti (an e2780 (ti (an e2782 (ti tt))))))))
    have h2 := ih _ _ _ _ h
    obtain ⟨q, hv, hq⟩ := pkR (rd := none) (P := Try.prog) (fn := Try.f27) (k := 0) (s := (Xf a0 a1 y0 x6 x7)) (ans := [.reg (nN 4 []), .br true, .reg (nN 5 (nS 5 (.b true :: []))), .br true, .reg (nN 8 []), .reg (nN 3 []), .reg (nN 3 [])]) (c := ⟨[(0, none), (1, none), (5, some (VV.rf 0 0 ((y0 ++ ([a0.extract ((x6).toNat) ((x7).toNat)] : List ByteArray)).length))), (6, none), (7, none)], [some (List.map vs (y0 ++ ([a0.extract ((x6).toNat) ((x7).toNat)] : List ByteArray)))], []⟩) (e := .normal) (s1 := (Xf a0 a1 (y0 ++ ([a0.extract ((x6).toNat) ((x7).toNat)] : List ByteArray)) (w64 (x7 + 1)) (w64 (x7 + 1)))) (an (an (an (ti (ti (ti (ti tt)))) (an (dt h2776) tt)) (an (an e2778 (an rt (an e2783 (ti (ti (ti tt)))))) (ti (ti (ti tt))))) (an (an (show Wv (VV.rf 0 0 (y0.length + 1)) (VV.rf 0 0 ((y0 ++ ([a0.extract ((x6).toNat) ((x7).toNat)] : List ByteArray)).length)) from (Wv.of_eq (by simp))) tt) (an (show (List.map vs y0) ++ [vs (a0.extract ((x6).toNat) ((x7).toNat))] = List.map vs (y0 ++ ([a0.extract ((x6).toNat) ((x7).toNat)] : List ByteArray)) from (by rw [show [vs (a0.extract ((x6).toNat) ((x7).toNat))] = List.map vs ([a0.extract ((x6).toNat) ((x7).toNat)] : List ByteArray) from rfl]; exact List.map_append.symm)) tt))) (by kernel_rfl)
    exact Qp pm pn hv hq h2
   ·obtain ⟨h2784, h⟩ := ifn h
    have e2785 := (ti (ti (ti (ti (ti (an (an (df h2777) tt) (an (an (df h2777) tt) (an (an (df h2777) h2784) (an (an (df h2777) tt) (an (an (df h2777) tt) (an (df h2777) tt)))))))))))
    rcases ifs h with ⟨h2786, h⟩ | ⟨h2786, h⟩
    ·obtain ⟨h2787, h⟩ := ifn h
     have e2788 := (show 0 <= x6 /\ 0 <= x7 /\ (x6).toNat <= (x7).toNat /\ (x7).toNat <= a0.size from ⟨h2787.1, by have := h2787; omega, by have := h2787; omega, by have := h2787; omega⟩)
     obtain ⟨h2789, h⟩ := ifn h
     have e2790 := (show List.length (List.map vs y0) = y0.length * 1 /\ List.length [vs (a0.extract ((x6).toNat) ((x7).toNat))] = 1 * 1 /\ (y0.length + 1) * 16 <= 140737488355328 /\ y0.length + 1 < 1099511627776 /\ List.all [vs (a0.extract ((x6).toNat) ((x7).toNat))] VV.still = true from ⟨(by simp), (by rw [show [vs (a0.extract ((x6).toNat) ((x7).toNat))] = List.map vs ([a0.extract ((x6).toNat) ((x7).toNat)] : List ByteArray) from rfl]; simp), (by first | omega | (simp at h2789 ⊢; omega)), (by first | omega | (simp at h2789 ⊢; omega)), (by rw [show [vs (a0.extract ((x6).toNat) ((x7).toNat))] = List.map vs ([a0.extract ((x6).toNat) ((x7).toNat)] : List ByteArray) from rfl]; exact Qqa _)⟩)
     have e2791 := (ti (ti (ti (ti (an e2788 (ti (an e2790 (ti tt))))))))
     have h2 := ih _ _ _ _ h
     obtain ⟨q, hv, hq⟩ := pkR (rd := none) (P := Try.prog) (fn := Try.f27) (k := 0) (s := (Xf a0 a1 y0 x6 x7)) (ans := [.reg (nN 4 []), .br true, .reg (nN 10 (.b false :: [])), .br true, .reg (nN 8 []), .reg (nN 3 []), .reg (nN 3 [])]) (c := ⟨[(0, none), (1, none), (5, some (VV.rf 0 0 ((y0 ++ ([a0.extract ((x6).toNat) ((x7).toNat)] : List ByteArray)).length))), (6, none), (7, none)], [some (List.map vs (y0 ++ ([a0.extract ((x6).toNat) ((x7).toNat)] : List ByteArray)))], []⟩) (e := .normal) (s1 := (Xf a0 a1 (y0 ++ ([a0.extract ((x6).toNat) ((x7).toNat)] : List ByteArray)) (w64 (x7 + 1)) (w64 (x7 + 1)))) (an (an (an (ti (ti (ti (ti tt)))) (an (dt h2776) tt)) (an (an e2785 (an (dt h2786) (an e2791 (ti (ti (ti tt)))))) (ti (ti (ti tt))))) (an (an (show Wv (VV.rf 0 0 (y0.length + 1)) (VV.rf 0 0 ((y0 ++ ([a0.extract ((x6).toNat) ((x7).toNat)] : List ByteArray)).length)) from (Wv.of_eq (by simp))) tt) (an (show (List.map vs y0) ++ [vs (a0.extract ((x6).toNat) ((x7).toNat))] = List.map vs (y0 ++ ([a0.extract ((x6).toNat) ((x7).toNat)] : List ByteArray)) from (by rw [show [vs (a0.extract ((x6).toNat) ((x7).toNat))] = List.map vs ([a0.extract ((x6).toNat) ((x7).toNat)] : List ByteArray) from rfl]; exact List.map_append.symm)) tt))) (by kernel_rfl)
     exact Qp pm pn hv hq h2
    ·have h2 := ih _ _ _ _ h
     obtain ⟨q, hv, hq⟩ := pkR (rd := none) (P := Try.prog) (fn := Try.f27) (k := 0) (s := (Xf a0 a1 y0 x6 x7)) (ans := [.reg (nN 4 []), .br true, .reg (nN 10 (.b false :: [])), .br false, .reg (nN 3 [])]) (c := ⟨[(0, none), (1, none), (5, none), (6, none), (7, none)], [none], []⟩) (e := .normal) (s1 := (Xf a0 a1 y0 x6 (w64 (x7 + 1)))) (an (an (an (ti (ti (ti (ti tt)))) (an (dt h2776) tt)) (an (an e2785 (an (df h2786) tt)) (ti (ti (ti tt))))) (ti tt)) (by kernel_rfl)
     exact Qp pm pn hv hq h2
  ·injection h with h; subst h
   exact Qq (c := ⟨[(5, none)], [none], []⟩) (s1 := (Wq a0 a1 y0)) pm pn (ans := [.reg (nN 4 []), .br false]) (by kernel_rfl) (by intro e; cases e) (an (an (ti (ti (ti (ti tt)))) (an (df h2776) tt)) (ti tt))
theorem Qzf (z0 : (List ByteArray)) : VV.fw 1 (List.drop 0 (List.map unfr (List.map vs z0))) z0.length = VV.fw 1 (List.map vs z0) z0.length := by first | rfl | (simp only [Qcc, X6, map_cons, map_nil, un_s, length_map]; done) | (simp only [Qcc, X6, map_cons, map_nil, un_s, length_map]; rfl) | (simp only [Qcc, X6, map_cons, map_nil, un_s, length_map, length_cons, length_nil, length_append]; done)
def Qac (k : Nat) (a0 : ByteArray) (a1 : Int) : Option (List ByteArray) :=
 (Zf k a0 a1 k ([] : List ByteArray) 0 0).bind fun r2793 => (some r2793)
theorem Qfi (k : Nat) (a0 : ByteArray) (a1 : Int) (r : (List ByteArray)) (h : Qac k a0 a1 = some r) : VC Try.prog 27 [vs a0, VV.c (.int .u8 a1)] (VV.fw 1 (List.map vs r) r.length) := by
 unfold Qac at h
 obtain ⟨r2793, h2792, h⟩ := bs h
 have hph2792 := Qdl k a0 a1 _ _ _ _ _ h2792
 have e2794 := (an (ti tt) (VRun.loop hph2792))
 injection h with h; subst h
 exact Qo pm pn Try.func27 (r0 := VV.fw 1 (List.drop 0 (List.map unfr (List.map vs r2793))) r2793.length) (ans := [.reg (.n :: []), .reg (.n :: []), .reg (.n :: []), .reg (.n :: []), .sub ⟨[(0, none), (1, none), (5, none), (6, none), (7, none)], [], [.t 5 1]⟩ (.exit 0) (Wq a0 a1 r2793), .reg (.n :: .n :: [])]) (fr := true) (by kernel_rfl) (an (an (ti tt) (an (ti tt) (an (ti tt) (an (an (ti tt) e2794) (an (ti (ti tt)) tt))))) (an (show List.all (List.map vs r2793) new0 = true from (by exact Qx3 _)) tt)) (Wv.of_eq (Qzf r2793))
def Qzg (z0 : (List ByteArray)) : List Ans := (.n :: .n :: .v (vs (z0.getD ((0 : Int)).toNat default)) :: .n :: .n :: .v (vs (z0.getD ((1 : Int)).toNat default)) :: nN 3 [])
theorem Qzh (z0 : (List ByteArray)) : VV.tu [VV.ag [vs (z0.getD ((0 : Int)).toNat default), vs (z0.getD ((1 : Int)).toNat default)], vi 0] = VV.tu [VV.ag (Qa (⟨(z0.getD ((0 : Int)).toNat default), (z0.getD ((1 : Int)).toNat default)⟩ : Qb)), vi 0] := by first | rfl | (simp only [X5, X6, map_cons, map_nil, un_i, un_s, Qk]; done) | (simp only [X5, X6, map_cons, map_nil, un_i, un_s, Qk]; rfl) | (simp only [X5, X6, map_cons, map_nil, un_i, un_s, Qk, Qa, length_cons, length_nil, length_append]; done)
def Xq (k : Nat) (a0 : ByteArray) : Option (Qb × Int) :=
 (Qac k a0 32).bind fun r2804 => (if (r2804.length : Int) = 2 then (if (0 : Int) <= 0 /\ 0 < (r2804.length : Int) then (if (0 : Int) <= 1 /\ 1 < (r2804.length : Int) then (some ((⟨(r2804.getD ((0 : Int)).toNat default), (r2804.getD ((1 : Int)).toNat default)⟩ : Qb), 0)) else none) else none) else (some ((⟨ByteArray.empty, ByteArray.empty⟩ : Qb), 7)))
theorem Qcb (k : Nat) (a0 : ByteArray) (r : (Qb × Int)) (h : Xq k a0 = some r) : VC Try.prog 11 [vs a0] (VV.tu [VV.ag (Qa r.1), vi r.2]) := by
 unfold Xq at h
 obtain ⟨r2804, h2805, h⟩ := bs h
 have e2806 := (show VC Try.prog 27 [vs a0, VV.c (.int .u8 32)] (VV.fr (List.map vs r2804) r2804.length) from (VC.weak (Qfi k a0 32 _ h2805) (Wv.fw rfl rfl)))
 rcases ifs h with ⟨h2807, h⟩ | ⟨h2807, h⟩
 ·obtain ⟨h2808, h⟩ := ifn h
  have e2809 := (show Jw Try.prog 9 (((0 : Int)).toNat * 1) (List.map vs r2804) = some (vs (r2804.getD ((0 : Int)).toNat default)) from Qwe ag9 vs r2804 default h2808 (by omega))
  obtain ⟨h2810, h⟩ := ifn h
  have e2811 := (show Jw Try.prog 9 (((1 : Int)).toNat * 1) (List.map vs r2804) = some (vs (r2804.getD ((1 : Int)).toNat default)) from Qwe ag9 vs r2804 default h2810 (by omega))
  have e2812 := (ti (an h2808 (an e2809 (ti (an h2810 (an e2811 (ti (ti (ti tt)))))))))
  injection h with h; subst h
  exact Qo pm pn Try.func11 (r0 := VV.tu [VV.ag [vs (r2804.getD ((0 : Int)).toNat default), vs (r2804.getD ((1 : Int)).toNat default)], vi 0]) (ans := [.reg (.n :: .n :: []), .reg (.n :: .call (VV.fr (List.map vs r2804) r2804.length) :: .n :: []), .reg (nN 3 []), .br false, .reg (Qzg r2804)]) (fr := true) (by kernel_rfl) (an (an (ti (ti tt)) (an (ti (an e2806 (ti tt))) (an (an (ti (ti (ti tt))) (an (Ql (dt h2807)) tt)) (an e2812 tt)))) (an (ti (ti (ti tt))) (ti tt))) (Wv.of_eq (Qzh r2804))
 ·injection h with h; subst h
  exact Qo pm pn Try.func11 (r0 := VV.tu [VV.ag [vs ByteArray.empty, vs ByteArray.empty], vi 7]) (ans := [.reg (.n :: .n :: []), .reg (.n :: .call (VV.fr (List.map vs r2804) r2804.length) :: .n :: []), .reg (nN 3 []), .br true, .reg (nN 3 [])]) (fr := true) (by kernel_rfl) (an (an (ti (ti tt)) (an (ti (an e2806 (ti tt))) (an (ti (ti (ti tt))) (an (Zd (df h2807)) (an (ti (ti (ti tt))) tt))))) (an (ti (ti (ti tt))) (ti tt))) (Wv.of_eq Qt3)
def Xm (k : Nat) (a0 : Qb) : Option ByteArray :=
 if a0.Mirror.size + (⟨#[32]⟩ : ByteArray).size <= 9223372036854775807 then (if (a0.Mirror ++ (⟨#[32]⟩ : ByteArray)).size + a0.Batch.size <= 9223372036854775807 then (some ((a0.Mirror ++ (⟨#[32]⟩ : ByteArray)) ++ a0.Batch)) else none) else none
theorem Qbu (k : Nat) (a0 : Qb) (r : ByteArray) (h : Xm k a0 = some r) : VC Try.prog 13 [VV.ag (Qa a0)] (vs r) := by
 unfold Xm at h
 obtain ⟨h2816, h⟩ := ifn h
 obtain ⟨h2817, h⟩ := ifn h
 have e2818 := (ti (ti (an h2816 (ti (ti (an h2817 (ti tt)))))))
 injection h with h; subst h
 exact Qo pm pn Try.func13 (r0 := vs ((a0.Mirror ++ (⟨#[32]⟩ : ByteArray)) ++ a0.Batch)) (ans := [.reg (.n :: .n :: []), .reg (nN 7 [])]) (fr := true) (by kernel_rfl) (an (an (ti (ti tt)) (an e2818 tt)) (ti tt)) (Wv.refl _)
end Go.Proofs.Ytfeedchjdnedjaa.Vg
