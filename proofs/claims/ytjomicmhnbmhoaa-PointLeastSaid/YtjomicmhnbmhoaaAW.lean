import Derived.Test.YtjomicmhnbmhoaaBC
namespace Go.Proofs.Ytjomicmhnbmhoaa.Vg
set_option maxRecDepth 100000
set_option maxHeartbeats 4000000
set_option linter.unusedVariables false
set_option linter.unusedSimpArgs false
open Go Go.Proofs.Ytjomicmhnbmhoaa.Ev Go.Proofs.Ytjomicmhnbmhoaa.Vv
open List (flatMap length_cons length_nil length_map length_append map_cons map_nil length_replicate)
theorem Q5k  : [VV.tr (flatMap Zj ([(⟨([1, 0] : List Int), 1⟩ : Zk), (⟨([1, 1] : List Int), 2⟩ : Zk), (⟨([1, 2] : List Int), 4⟩ : Zk)] : List Zk)) (([(⟨([1, 0] : List Int), 1⟩ : Zk), (⟨([1, 1] : List Int), 2⟩ : Zk), (⟨([1, 2] : List Int), 4⟩ : Zk)] : List Zk).length)] = [VV.tr (List.drop 0 (List.map unfr ([VV.fr [vi 1, vi 0] 2, vi 1, VV.fr [vi 1, vi 1] 2, vi 2, VV.fr [vi 1, vi 2] 2, vi 4]))) 3] := by first | rfl | (simp only [Qdb, Qj, map_cons, map_nil, un_i, Jg, Qf0, length_map, length_cons, length_nil, Xf]; done) | (simp only [Qdb, Qj, map_cons, map_nil, un_i, Jg, Qf0, length_map, length_cons, length_nil, Xf]; rfl) | (simp only [Qdb, Qj, map_cons, map_nil, un_i, Jg, Qf0, length_map, length_cons, length_nil, Xf, Zj, length_cons, length_nil, length_append]; done)
def Qf1 (k : Nat) (a0 : Int) : Option (List Qo) :=
 some ([(⟨0, a0⟩ : Qo)] : List Qo)
theorem Qgv (k : Nat) (a0 : Int) (r : (List Qo)) (h : Qf1 k a0 = some r) : VC Try.prog 52 [vi a0] (VV.fw 2 (flatMap Qg r) r.length) := by
 unfold Qf1 at h
 obtain rfl := si h
 exact Qi pm pn Try.func52 (r0 := VV.fw 2 (List.drop 0 (List.map unfr [vi 0, vi a0])) 1) (ans := [.reg (.n :: []), .reg (nN 4 [])]) (fr := true) (by kernel_rfl) (an (an (ti tt) (an (t4 tt) tt)) (an (show List.all [vi 0, vi a0] new0 = true from (by rw [show [vi 0, vi a0] = flatMap Qg ([(⟨0, a0⟩ : Qo)] : List Qo) from rfl]; exact Ql5 _)) tt)) (Wv.of_eq (by first | (simp only [Qdb, Qj, Qfn, Qcb, map_cons, map_nil, un_i, un_k, un_b, un_s, Jg, Qf0, length_map, length_replicate, length_append, List.length_set, length_cons, length_nil, Nat.zero_add, Xf, X0, Wj, Xm, X7, Xh, Zu, Xx, Xa, Zr, Yd, Yw, Yx, Qa5, Qa6, Qaf, Qcu, Qan, Qcg, Qag, Jw]; done) | (simp only [show [vi 0, vi a0] = flatMap Qg ([(⟨0, a0⟩ : Qo)] : List Qo) from rfl, Qdb, Qj, Qfn, Qcb, map_cons, map_nil, un_i, un_k, un_b, un_s, Jg, Qf0, length_map, length_replicate, length_append, List.length_set, length_cons, length_nil, Nat.zero_add, Xf, X0, Wj, Xm, X7, Xh, Zu, Xx, Xa, Zr, Yd, Yw, Yx, Qa5, Qa6, Qaf, Qcu, Qan, Qcg, Qag, Jw]; done) | (simp only [show [vi 0, vi a0] = flatMap Qg ([(⟨0, a0⟩ : Qo)] : List Qo) from rfl, Qdb, Qj, Qfn, Qcb, map_cons, map_nil, un_i, un_k, un_b, un_s, Jg, Qf0, length_map, length_replicate, length_append, List.length_set, length_cons, length_nil, Nat.zero_add, Xf, X0, Wj, Xm, X7, Xh, Zu, Xx, Xa, Zr, Yd, Yw, Yx, Qa5, Qa6, Qaf, Qcu, Qan, Qcg, Qag, Jw]; rfl)))
def Q5l (z0 : (List Qo)) : List Ans := (.call (VV.fr (flatMap Qg z0) z0.length) :: .call (VV.fr (flatMap Qg z0) z0.length) :: .n :: .n :: [])
theorem Q5m (z0 : (List Qo)) : VV.ag [vi (-700000), vi 1300000, vi 0, vi 324000, vi 100000, VV.fr (flatMap Qg z0) z0.length, VV.fr (flatMap Qg z0) z0.length] = VV.ag (Qcx (⟨(-700000), 1300000, 0, 324000, 100000, z0, z0⟩ : Qc)) := by first | rfl | (simp only [Qj, map_cons, map_nil, un_i, Qf0, length_cons, length_nil, Zu, Xa]; done) | (simp only [Qj, map_cons, map_nil, un_i, Qf0, length_cons, length_nil, Zu, Xa]; rfl) | (simp only [Qj, map_cons, map_nil, un_i, Qf0, length_cons, length_nil, Zu, Xa, Qg, Qcx, length_cons, length_nil, length_append]; done)
def Qf2 (k : Nat)  : Option Qc :=
 (Qf1 k 0).bind fun r17899 => (some (⟨(-700000), 1300000, 0, 324000, 100000, r17899, r17899⟩ : Qc))
theorem Qkg (k : Nat)  (r : Qc) (h : Qf2 k  = some r) : VC Try.prog 21 [] (VV.ag (Qcx r)) := by
 unfold Qf2 at h
 obtain ⟨r17899, h17900, h⟩ := bs h
 have e17901 := (show VC Try.prog 52 [vi 0] (VV.fr (flatMap Qg r17899) r17899.length) from (VC.weak (Qgv k 0 _ h17900) (Wv.fw rfl rfl)))
 obtain rfl := si h
 exact Qi pm pn Try.func21 (r0 := VV.ag [vi (-700000), vi 1300000, vi 0, vi 324000, vi 100000, VV.fr (flatMap Qg r17899) r17899.length, VV.fr (flatMap Qg r17899) r17899.length]) (ans := [.reg (.n :: []), .reg (Q5l r17899)]) (fr := true) (by kernel_rfl) (an (an (ti tt) (an (w2 e17901 (t2 tt)) tt)) (an (t8 tt) tt)) (Wv.of_eq (Q5m r17899))
def Qfo (k : Nat)  : Option (List Qa) :=
 some ([(⟨(⟨#[97]⟩ : ByteArray), 600000, 0, 0, 1000, 5⟩ : Qa), (⟨(⟨#[98]⟩ : ByteArray), 1200000, 0, 0, 1000, 5⟩ : Qa), (⟨(⟨#[99]⟩ : ByteArray), 500000, 0, 0, 1000, 5⟩ : Qa)] : List Qa)
theorem Qjz (k : Nat)  (r : (List Qa)) (h : Qfo k  = some r) : VC Try.prog 22 [] (VV.fw 6 (flatMap Qb r) r.length) := by
 unfold Qfo at h
 obtain rfl := si h
 exact Qi pm pn Try.func22 (r0 := VV.fw 6 (List.drop 0 (List.map unfr ([vs (⟨#[97]⟩ : ByteArray), vi 600000, vi 0, vi 0, vi 1000, vi 5, vs (⟨#[98]⟩ : ByteArray), vi 1200000, vi 0, vi 0, vi 1000, vi 5, vs (⟨#[99]⟩ : ByteArray), vi 500000, vi 0, vi 0, vi 1000, vi 5]))) 3) (ans := [.reg (.n :: []), .reg (nN 5 [])]) (fr := true) (by kernel_rfl) (an (an (ti tt) (an (t5 tt) tt)) (an (show List.all ([vs (⟨#[97]⟩ : ByteArray), vi 600000, vi 0, vi 0, vi 1000, vi 5, vs (⟨#[98]⟩ : ByteArray), vi 1200000, vi 0, vi 0, vi 1000, vi 5, vs (⟨#[99]⟩ : ByteArray), vi 500000, vi 0, vi 0, vi 1000, vi 5]) new0 = true from (by rw [show [vs (⟨#[97]⟩ : ByteArray), vi 600000, vi 0, vi 0, vi 1000, vi 5, vs (⟨#[98]⟩ : ByteArray), vi 1200000, vi 0, vi 0, vi 1000, vi 5, vs (⟨#[99]⟩ : ByteArray), vi 500000, vi 0, vi 0, vi 1000, vi 5] = flatMap Qb ([(⟨(⟨#[97]⟩ : ByteArray), 600000, 0, 0, 1000, 5⟩ : Qa), (⟨(⟨#[98]⟩ : ByteArray), 1200000, 0, 0, 1000, 5⟩ : Qa), (⟨(⟨#[99]⟩ : ByteArray), 500000, 0, 0, 1000, 5⟩ : Qa)] : List Qa) from rfl]; exact Qjg _)) tt)) (Wv.of_eq (by first | (simp only [Qdb, Qj, Qfn, Qcb, map_cons, map_nil, un_i, un_k, un_b, un_s, Jg, Qf0, length_map, length_replicate, length_append, List.length_set, length_cons, length_nil, Nat.zero_add, Xf, X0, Wj, Xm, X7, Xh, Zu, Xx, Xa, Zr, Yd, Yw, Yx, Qa5, Qa6, Qaf, Qcu, Qan, Qcg, Qag, Jw]; done) | (simp only [show [vs (⟨#[97]⟩ : ByteArray), vi 600000, vi 0, vi 0, vi 1000, vi 5, vs (⟨#[98]⟩ : ByteArray), vi 1200000, vi 0, vi 0, vi 1000, vi 5, vs (⟨#[99]⟩ : ByteArray), vi 500000, vi 0, vi 0, vi 1000, vi 5] = flatMap Qb ([(⟨(⟨#[97]⟩ : ByteArray), 600000, 0, 0, 1000, 5⟩ : Qa), (⟨(⟨#[98]⟩ : ByteArray), 1200000, 0, 0, 1000, 5⟩ : Qa), (⟨(⟨#[99]⟩ : ByteArray), 500000, 0, 0, 1000, 5⟩ : Qa)] : List Qa) from rfl, Qdb, Qj, Qfn, Qcb, map_cons, map_nil, un_i, un_k, un_b, un_s, Jg, Qf0, length_map, length_replicate, length_append, List.length_set, length_cons, length_nil, Nat.zero_add, Xf, X0, Wj, Xm, X7, Xh, Zu, Xx, Xa, Zr, Yd, Yw, Yx, Qa5, Qa6, Qaf, Qcu, Qan, Qcg, Qag, Jw]; done) | (simp only [show [vs (⟨#[97]⟩ : ByteArray), vi 600000, vi 0, vi 0, vi 1000, vi 5, vs (⟨#[98]⟩ : ByteArray), vi 1200000, vi 0, vi 0, vi 1000, vi 5, vs (⟨#[99]⟩ : ByteArray), vi 500000, vi 0, vi 0, vi 1000, vi 5] = flatMap Qb ([(⟨(⟨#[97]⟩ : ByteArray), 600000, 0, 0, 1000, 5⟩ : Qa), (⟨(⟨#[98]⟩ : ByteArray), 1200000, 0, 0, 1000, 5⟩ : Qa), (⟨(⟨#[99]⟩ : ByteArray), 500000, 0, 0, 1000, 5⟩ : Qa)] : List Qa) from rfl, Qdb, Qj, Qfn, Qcb, map_cons, map_nil, un_i, un_k, un_b, un_s, Jg, Qf0, length_map, length_replicate, length_append, List.length_set, length_cons, length_nil, Nat.zero_add, Xf, X0, Wj, Xm, X7, Xh, Zu, Xx, Xa, Zr, Yd, Yw, Yx, Qa5, Qa6, Qaf, Qcu, Qan, Qcg, Qag, Jw]; rfl)))
theorem Q5n (z0 : Qc) (z1 : (List Qa)) : [VV.ag (Qp z0), VV.tr (flatMap Qb z1) z1.length, VV.ag (Qch (⟨0, 0⟩ : A26)), VV.tr (List.map vi ([0, (-1), 0] : List Int)) (([0, (-1), 0] : List Int).length)] = [VV.ag (Qp z0), VV.tr (flatMap Qb z1) z1.length, VV.ag [vi 0, vi 0], VV.tr [vi 0, vi (-1), vi 0] 3] := by first | rfl | (simp only [Qj, map_cons, map_nil, un_i, Jg, length_map, length_cons, length_nil, Xx, Zr, Yd]; done) | (simp only [Qj, map_cons, map_nil, un_i, Jg, length_map, length_cons, length_nil, Xx, Zr, Yd]; rfl) | (simp only [Qj, map_cons, map_nil, un_i, Jg, length_map, length_cons, length_nil, Xx, Zr, Yd, Qp, Qb, length_cons, length_nil, length_append]; done)
theorem Q5o  : [VV.tr (flatMap Qg ([(⟨0, 10⟩ : Qo), (⟨100, 0⟩ : Qo)] : List Qo)) (([(⟨0, 10⟩ : Qo), (⟨100, 0⟩ : Qo)] : List Qo).length), vi 35] = [VV.tr [vi 0, vi 10, vi 100, vi 0] 2, vi 35] := by first | rfl | (simp only [Qj, map_cons, map_nil, un_i, Jg, length_cons, length_nil, Zu]; done) | (simp only [Qj, map_cons, map_nil, un_i, Jg, length_cons, length_nil, Zu]; rfl) | (simp only [Qj, map_cons, map_nil, un_i, Jg, length_cons, length_nil, Zu, Qg, length_cons, length_nil, length_append]; done)
theorem Q5p (z0 : (Qdk × Int)) : [VV.tr (List.map vi z0.1.Terms) z0.1.Terms.length, VV.tr (List.map vi ([5, 9] : List Int)) (([5, 9] : List Int).length)] = [VV.tr (List.map vi z0.1.Terms) z0.1.Terms.length, VV.tr [vi 5, vi 9] 2] := by first | rfl | (simp only [Qj, map_cons, map_nil, un_i, Jg, length_map, length_cons, length_nil]; done) | (simp only [Qj, map_cons, map_nil, un_i, Jg, length_map, length_cons, length_nil]; rfl) | (simp only [Qj, map_cons, map_nil, un_i, Jg, length_map, length_cons, length_nil, length_cons, length_nil, length_append]; done)
def Qox (z0 : (Qdk × Int)) : List Ans := (.v VV.any :: .n :: .v VV.any :: .n :: .v VV.any :: .n :: .n :: .call (VV.tu [VV.ag (Qid z0.1), vi z0.2]) :: nN 6 [])
def Qoy (z0 : Qc) (z1 : (List Qa)) (z2 : (Int × Int)) : List Ans := (.call (VV.ag (Qcx z0)) :: .call (VV.fr (flatMap Qb z1) z1.length) :: .n :: .v VV.any :: .call (VV.tu [vi z2.1, vi z2.2]) :: nN 5 [])
def Q5q (z0 : Bool) : List Ans := (nN 5 (.v VV.any :: .call (vb z0) :: .b true :: nN 4 (.b true :: nN 3 (.b true :: nN 3 (.b true :: nN 3 (.b true :: nN 3 (.b true :: .n :: [])))))))
def Q5r (z0 : Bool) : List Ans := (nN 5 (.v VV.any :: .call (vb z0) :: .b true :: nN 4 (.b true :: nN 3 (.b true :: nN 3 (.b true :: nN 3 (.b true :: .n :: .skip :: .skip :: .b false :: .n :: []))))))
def Q5s (z0 : Bool) : List Ans := (nN 5 (.v VV.any :: .call (vb z0) :: .b true :: nN 4 (.b true :: nN 3 (.b true :: nN 3 (.b true :: .n :: .skip :: .skip :: .b false :: .n :: .skip :: .skip :: .b false :: .n :: [])))))
def Q5t (z0 : Bool) : List Ans := (nN 5 (.v VV.any :: .call (vb z0) :: .b true :: nN 4 (.b true :: nN 3 (.b true :: .n :: .skip :: .skip :: .b false :: .n :: .skip :: .skip :: .b false :: .n :: .skip :: .skip :: .b false :: .n :: []))))
def Q5u (z0 : Bool) : List Ans := (nN 5 (.v VV.any :: .call (vb z0) :: .b true :: nN 4 (.b true :: .n :: .skip :: .skip :: .b false :: .n :: .skip :: .skip :: .b false :: .n :: .skip :: .skip :: .b false :: .n :: .skip :: .skip :: .b false :: .n :: [])))
def Q5v (z0 : Bool) : List Ans := (nN 5 (.v VV.any :: .call (vb z0) :: .b true :: .n :: nS 3 (.b false :: .n :: .skip :: .skip :: .b false :: .n :: .skip :: .skip :: .b false :: .n :: .skip :: .skip :: .b false :: .n :: .skip :: .skip :: .b false :: .n :: [])))
def Q5w  : List Ans := (nN 3 (nS 4 (.b false :: .n :: nS 3 (.b false :: .n :: .skip :: .skip :: .b false :: .n :: .skip :: .skip :: .b false :: .n :: .skip :: .skip :: .b false :: .n :: .skip :: .skip :: .b false :: .n :: []))))
def Qci (k : Nat)  : Option Bool :=
 (Qnn k ([(⟨([1, 0] : List Int), 1⟩ : Zk), (⟨([1, 1] : List Int), 2⟩ : Zk), (⟨([1, 2] : List Int), 4⟩ : Zk)] : List Zk)).bind fun r17933 => ((Qf2 k).bind fun r17937 => ((Qfo k).bind fun r17939 => ((Qb1 k r17937 r17939 (⟨0, 0⟩ : A26) ([0, (-1), 0] : List Int)).bind fun r17942 => ((Qix k ([(⟨0, 10⟩ : Qo), (⟨100, 0⟩ : Qo)] : List Qo) 35).bind fun r17946 => (if r17933.2 = 0 then ((Qgf k r17933.1.Terms ([5, 9] : List Int)).bind fun r17951 => (if r17951 = true then (if r17933.1.Den = 6 then (if r17942.2 = 0 then (if r17942.1 = 10001892000 then (if r17946.2 = 0 then (some (decide (r17946.1 = 6))) else (some false)) else (some false)) else (some false)) else (some false)) else (some false))) else (some false))))))
theorem Qj0 (k : Nat)  (r : Bool) (h : Qci k  = some r) : VC Try.prog 5 [] (vb r) := by
 unfold Qci at h
 obtain ⟨r17933, h17934, h⟩ := bs h
 have e17935 := (VC.args (Qq7 k ([(⟨([1, 0] : List Int), 1⟩ : Zk), (⟨([1, 1] : List Int), 2⟩ : Zk), (⟨([1, 2] : List Int), 4⟩ : Zk)] : List Zk) _ h17934) Q5k)
 have e17936 := (t7 (an e17935 (t6 tt)))
 obtain ⟨r17937, h17938, h⟩ := bs h
 obtain ⟨r17939, h17940, h⟩ := bs h
 have e17941 := (show VC Try.prog 22 [] (VV.fr (flatMap Qb r17939) r17939.length) from (VC.weak (Qjz k _ h17940) (Wv.fw rfl rfl)))
 obtain ⟨r17942, h17943, h⟩ := bs h
 have e17944 := (VC.args (Qhe k r17937 r17939 (⟨0, 0⟩ : A26) ([0, (-1), 0] : List Int) _ h17943) (Q5n r17937 r17939))
 have e17945 := (an (Qkg k _ h17938) (an e17941 (t2 (an e17944 (t5 tt)))))
 obtain ⟨r17946, h17947, h⟩ := bs h
 have e17948 := (VC.args (Qno k ([(⟨0, 10⟩ : Qo), (⟨100, 0⟩ : Qo)] : List Qo) 35 _ h17947) Q5o)
 have e17949 := (t3 (an e17948 (t5 tt)))
 rcases ifs h with ⟨h17950, h⟩ | ⟨h17950, h⟩
 ·obtain ⟨r17951, h17952, h⟩ := bs h
  have e17953 := (an (dt h17950) (VC.args (Qkv k r17933.1.Terms ([5, 9] : List Int) _ h17952) (Q5p r17933)))
  rcases ifs h with ⟨h17954, h⟩ | ⟨h17954, h⟩
  ·rcases ifs h with ⟨h17955, h⟩ | ⟨h17955, h⟩
   ·rcases ifs h with ⟨h17956, h⟩ | ⟨h17956, h⟩
    ·rcases ifs h with ⟨h17957, h⟩ | ⟨h17957, h⟩
     ·rcases ifs h with ⟨h17958, h⟩ | ⟨h17958, h⟩
      ·have e17959 := (t3 (w3 (te h17950) (an e17953 (an (dt h17950) (ti (w3 (an h17954 tt) (an h17954 (ti (w2 (te h17955) (an (dt h17955) (ti (w2 (te h17956) (an (dt h17956) (ti (w2 (te h17957) (an (dt h17957) (ti (w2 (te h17958) (an (dt h17958) (ti tt))))))))))))))))))))
       obtain rfl := si h
       exact Qi pm pn Try.func5 (r0 := vb (decide (r17946.1 = 6))) (ans := [.reg (.n :: []), .reg (Qox r17933), .reg (Qoy r17937 r17939 r17942), .reg (.n :: .n :: .v VV.any :: .call (VV.tu [vi r17946.1, vi r17946.2]) :: nN 5 []), .reg (Q5q r17951)]) (fr := true) (by kernel_rfl) (an (an (ti tt) (an e17936 (an e17945 (an e17949 (an e17959 tt))))) (ti tt)) (Wv.refl _)
      ·have e17960 := (t3 (w3 (te h17950) (an e17953 (an (dt h17950) (ti (w3 (an h17954 tt) (an h17954 (ti (w2 (te h17955) (an (dt h17955) (ti (w2 (te h17956) (an (dt h17956) (ti (w2 (te h17957) (an (dt h17957) (ti (w3 (df h17958) (ti tt)))))))))))))))))))
       obtain rfl := si h
       exact Qi pm pn Try.func5 (r0 := vb false) (ans := [.reg (.n :: []), .reg (Qox r17933), .reg (Qoy r17937 r17939 r17942), .reg (.n :: .n :: .v VV.any :: .call (VV.tu [vi r17946.1, vi r17946.2]) :: nN 5 []), .reg (Q5r r17951)]) (fr := true) (by kernel_rfl) (an (an (ti tt) (an e17936 (an e17945 (an e17949 (an e17960 tt))))) (ti tt)) (Wv.refl _)
     ·have e17961 := (t3 (w3 (te h17950) (an e17953 (an (dt h17950) (ti (w3 (an h17954 tt) (an h17954 (ti (w2 (te h17955) (an (dt h17955) (ti (w2 (te h17956) (an (dt h17956) (ti (w3 (df h17957) (ti (an rf (an rf (an rf (ti tt))))))))))))))))))))
      obtain rfl := si h
      exact Qi pm pn Try.func5 (r0 := vb false) (ans := [.reg (.n :: []), .reg (Qox r17933), .reg (Qoy r17937 r17939 r17942), .reg (.n :: .n :: .v VV.any :: .call (VV.tu [vi r17946.1, vi r17946.2]) :: nN 5 []), .reg (Q5s r17951)]) (fr := true) (by kernel_rfl) (an (an (ti tt) (an e17936 (an e17945 (an e17949 (an e17961 tt))))) (ti tt)) (Wv.refl _)
    ·have e17962 := (t3 (w3 (te h17950) (an e17953 (an (dt h17950) (ti (w3 (an h17954 tt) (an h17954 (ti (w2 (te h17955) (an (dt h17955) (ti (w3 (df h17956) (ti (an rf (an rf (an rf (ti (an rf (an rf (an rf (ti tt)))))))))))))))))))))
     obtain rfl := si h
     exact Qi pm pn Try.func5 (r0 := vb false) (ans := [.reg (.n :: []), .reg (Qox r17933), .reg (Qoy r17937 r17939 r17942), .reg (.n :: .n :: .v VV.any :: .call (VV.tu [vi r17946.1, vi r17946.2]) :: nN 5 []), .reg (Q5t r17951)]) (fr := true) (by kernel_rfl) (an (an (ti tt) (an e17936 (an e17945 (an e17949 (an e17962 tt))))) (ti tt)) (Wv.refl _)
   ·have e17963 := (t3 (w3 (te h17950) (an e17953 (an (dt h17950) (ti (w3 (an h17954 tt) (an h17954 (ti (w3 (df h17955) (ti (an rf (an rf (an rf (ti (an rf (an rf (an rf (ti (an rf (an rf (an rf (ti tt))))))))))))))))))))))
    obtain rfl := si h
    exact Qi pm pn Try.func5 (r0 := vb false) (ans := [.reg (.n :: []), .reg (Qox r17933), .reg (Qoy r17937 r17939 r17942), .reg (.n :: .n :: .v VV.any :: .call (VV.tu [vi r17946.1, vi r17946.2]) :: nN 5 []), .reg (Q5u r17951)]) (fr := true) (by kernel_rfl) (an (an (ti tt) (an e17936 (an e17945 (an e17949 (an e17963 tt))))) (ti tt)) (Wv.refl _)
  ·have e17964 := (t3 (w3 (te h17950) (an e17953 (an (dt h17950) (ti (w4 (Qn h17954) (ti (an rf (an rf (an rf (ti (an rf (an rf (an rf (ti (an rf (an rf (an rf (ti (an rf (an rf (an rf (ti tt)))))))))))))))))))))))
   obtain rfl := si h
   exact Qi pm pn Try.func5 (r0 := vb false) (ans := [.reg (.n :: []), .reg (Qox r17933), .reg (Qoy r17937 r17939 r17942), .reg (.n :: .n :: .v VV.any :: .call (VV.tu [vi r17946.1, vi r17946.2]) :: nN 5 []), .reg (Q5v r17951)]) (fr := true) (by kernel_rfl) (an (an (ti tt) (an e17936 (an e17945 (an e17949 (an e17964 tt))))) (ti tt)) (Wv.refl _)
 ·have e17965 := (t3 (w5 (df h17950) (ti (an rf (an rf (an rf (an rf (ti (an rf (an rf (an rf (ti (an rf (an rf (an rf (ti (an rf (an rf (an rf (ti (an rf (an rf (an rf (ti tt))))))))))))))))))))))))
  obtain rfl := si h
  exact Qi pm pn Try.func5 (r0 := vb false) (ans := [.reg (.n :: []), .reg (Qox r17933), .reg (Qoy r17937 r17939 r17942), .reg (.n :: .n :: .v VV.any :: .call (VV.tu [vi r17946.1, vi r17946.2]) :: nN 5 []), .reg Q5w]) (fr := true) (by kernel_rfl) (an (an (ti tt) (an e17936 (an e17945 (an e17949 (an e17965 tt))))) (ti tt)) (Wv.refl _)
end Go.Proofs.Ytjomicmhnbmhoaa.Vg
