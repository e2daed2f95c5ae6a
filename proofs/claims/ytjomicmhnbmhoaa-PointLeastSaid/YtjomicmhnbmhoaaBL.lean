import Derived.Test.YtjomicmhnbmhoaaAW
namespace Go.Proofs.Ytjomicmhnbmhoaa.Vg
set_option maxRecDepth 100000
set_option maxHeartbeats 4000000
set_option linter.unusedVariables false
set_option linter.unusedSimpArgs false
open Go Go.Proofs.Ytjomicmhnbmhoaa.Ev Go.Proofs.Ytjomicmhnbmhoaa.Vv
open List (flatMap length_cons length_nil length_map length_append map_cons map_nil length_replicate)
theorem Qi8 (k : Nat) (a0 : (List Int)) (r : (List Int)) (h : Qe5 k a0 = some r) : VC Try.prog 14 [VV.tr (List.map vi a0) a0.length] (VV.fw 1 (List.map vi r) r.length) := by
 unfold Qe5 at h
 obtain ⟨h18019, h⟩ := ifn h
 have e18020 := (show List.length [] = 0 * 1 /\ List.length (List.map vi a0) = a0.length * 1 /\ (0 + a0.length) * 8 <= 140737488355328 /\ 0 + a0.length < 1099511627776 /\ List.all (List.map vi a0) VV.still = true from ⟨(by rw [show [] = List.map vi ([] : List Int) from rfl]; simp), (by simp), (by first | omega | (simp at h18019 ⊢; omega)), (by first | omega | (simp at h18019 ⊢; omega)), (by exact Qit _)⟩)
 obtain rfl := si h
 exact Qi pm pn Try.func14 (r0 := VV.fw 1 (List.drop 0 (List.map unfr ([] ++ (List.map vi a0)))) (0 + a0.length)) (ans := [.reg (.n :: []), .reg (nN 4 [])]) (fr := true) (by kernel_rfl) (an (an (ti tt) (an (t2 (an e18020 (ti tt))) tt)) (an (show List.all ([] ++ (List.map vi a0)) new0 = true from (by rw [show [] ++ (List.map vi a0) = List.map vi (([] : List Int) ++ a0) from (by rw [show [] = List.map vi ([] : List Int) from rfl]; exact List.map_append.symm)]; exact Qj1 _)) tt)) (Wv.of_eq (by first | (simp only [show [] ++ (List.map vi a0) = List.map vi (([] : List Int) ++ a0) from (by rw [show [] = List.map vi ([] : List Int) from rfl]; exact List.map_append.symm), Qdb, Qj, Qfn, Qcb, map_cons, map_nil, un_i, un_k, un_b, un_s, Jg, Qf0, length_map, length_replicate, length_append, List.length_set, length_cons, length_nil, Nat.zero_add, Xf, X0, Wj, Xm, X7, Xh, Zu, Xx, Xa, Zr, Yd, Yw, Yx, Qa5, Qa6, Qaf, Qcu, Qan, Qcg, Qag, Jw]; done) | (simp only [show [] ++ (List.map vi a0) = List.map vi (([] : List Int) ++ a0) from (by rw [show [] = List.map vi ([] : List Int) from rfl]; exact List.map_append.symm), Qdb, Qj, Qfn, Qcb, map_cons, map_nil, un_i, un_k, un_b, un_s, Jg, Qf0, length_map, length_replicate, length_append, List.length_set, length_cons, length_nil, Nat.zero_add, Xf, X0, Wj, Xm, X7, Xh, Zu, Xx, Xa, Zr, Yd, Yw, Yx, Qa5, Qa6, Qaf, Qcu, Qan, Qcg, Qag, Jw]; rfl)))
def Qkf (z0 : Qc) (z1 : (List Qa)) (z2 : (Qe1 × Int × Int)) : List Ans := (.n :: .n :: .call (VV.ag (Qcx z0)) :: .n :: .n :: .call (VV.fr (flatMap Qb z1) z1.length) :: .n :: .n :: .call (VV.tu [VV.ag (Qhj z2.1), vi z2.2.1, vi z2.2.2]) :: nN 8 [])
def Qvr (z0 : Qc) (z1 : (List Qa)) (z2 : (List Int)) (z3 : (Int × Int)) : List Ans := (.n :: .n :: .call (VV.ag (Qcx z0)) :: .n :: .n :: .call (VV.fr (flatMap Qb z1) z1.length) :: nN 4 (.call (VV.fr (List.map vi z2) z2.length) :: .call (VV.tu [vi z3.1, vi z3.2]) :: nN 5 []))
def Qvs (z0 : Qc) (z1 : (List Qa)) (z2 : (Int × Int)) : List Ans := (.n :: .n :: .call (VV.ag (Qcx z0)) :: .n :: .n :: .call (VV.fr (flatMap Qb z1) z1.length) :: nN 4 (.call (VV.tu [vi z2.1, vi z2.2]) :: nN 5 []))
def Q6s  : List Ans := (nN 3 (.skip :: .skip :: .b false :: .n :: nS 3 (.b false :: .n :: nS 3 (.b false :: .n :: []))))
def Q6t  : List Ans := (nN 5 (.b false :: nN 3 (.b false :: .n :: nS 3 (.b true :: .n :: nS 3 (.b true :: [])))))
def Q6u  : List Ans := (nN 5 (.b false :: .n :: .skip :: .skip :: .b true :: .n :: nS 3 (.b true :: .n :: nS 3 (.b true :: []))))
def Q6v  : List Ans := (nN 3 (.skip :: .skip :: .b true :: .n :: .skip :: .skip :: .b true :: .n :: nS 3 (.b true :: .n :: nS 3 (.b true :: []))))
def Qbn (k : Nat) (a0 : Qjq) : Option Bool :=
 (Qci k).bind fun r18052 => (if r18052 = true then ((Qcj k a0).bind fun r18056 => (if r18056 = true then ((Qcf k a0.Mount).bind fun r18060 => ((Qbf k a0.Targets).bind fun r18063 => ((Qfj k r18060 r18063 a0.At).bind fun r18066 => ((Qah k a0.Mount a0.Targets a0.At).bind fun r18070 => (if r18070.2 = 0 then ((Wh k a0.Mount a0.Targets a0.At r18066.1.Turns).bind fun r18075 => ((Wu k a0.Mount a0.Targets a0.At r18066.1.Potentials).bind fun r18079 => (if r18066.2.2 = 0 then (if r18075.2 = 0 then (if r18079.2 = 0 then (if r18075.1 = r18066.2.1 then (if r18079.1 = r18066.2.1 then ((Qe5 k r18066.1.Turns).bind fun r18103 => ((Qb1 k r18060 r18063 a0.At r18103).bind fun r18106 => ((Qek k r18060 r18063 a0.At r18066.1.Potentials).bind fun r18114 => (if r18106.2 = 0 then (if r18114.2 = 0 then (if r18106.1 = r18066.2.1 then (some (decide (r18114.1 = r18066.2.1))) else (some false)) else (some false)) else (some false))))) else (some false)) else (some false)) else (some false)) else (some false)) else (some false)))) else (if r18066.2.2 = r18070.2 then (if r18066.2.1 = 0 then (some (decide ((w64 ((r18066.1.Turns.length : Int) + (r18066.1.Potentials.length : Int))) = 0))) else (some false)) else (some false))))))) else (some true))) else (some false))
theorem Qhv (k : Nat) (a0 : Qjq) (r : Bool) (h : Qbn k a0 = some r) : VC Try.prog 3 [VV.ag (Qj5 a0)] (vb r) := by
 unfold Qbn at h
 obtain ⟨r18052, h18053, h⟩ := bs h
 have e18054 := (an (Qj0 k _ h18053) (ti tt))
 rcases ifs h with ⟨h18055, h⟩ | ⟨h18055, h⟩
 ·obtain ⟨r18056, h18057, h⟩ := bs h
  have e18058 := (ti (an (Qj6 k a0 _ h18057) (ti tt)))
  rcases ifs h with ⟨h18059, h⟩ | ⟨h18059, h⟩
  ·obtain ⟨r18060, h18061, h⟩ := bs h
   have e18062 := (Qev k a0.Mount _ h18061)
   obtain ⟨r18063, h18064, h⟩ := bs h
   have e18065 := (show VC Try.prog 9 [VV.tr (flatMap Qb a0.Targets) a0.Targets.length] (VV.fr (flatMap Qb r18063) r18063.length) from (VC.weak (Qdy k a0.Targets _ h18064) (Wv.fw rfl rfl)))
   obtain ⟨r18066, h18067, h⟩ := bs h
   have e18068 := (Qn9 k r18060 r18063 a0.At _ h18067)
   have e18069 := (t2 (an e18062 (t2 (an e18065 (t2 (an e18068 (t8 tt)))))))
   obtain ⟨r18070, h18071, h⟩ := bs h
   have e18072 := (Qij k a0.Mount a0.Targets a0.At _ h18071)
   have e18073 := (t6 (an e18072 (t5 tt)))
   rcases ifs h with ⟨h18074, h⟩ | ⟨h18074, h⟩
   ·obtain ⟨r18075, h18076, h⟩ := bs h
    have e18077 := (Qhm k a0.Mount a0.Targets a0.At r18066.1.Turns _ h18076)
    have e18078 := (t8 (an e18077 (t5 tt)))
    obtain ⟨r18079, h18080, h⟩ := bs h
    have e18081 := (Qhw k a0.Mount a0.Targets a0.At r18066.1.Potentials _ h18080)
    have e18082 := (t8 (an e18081 (t5 tt)))
    rcases ifs h with ⟨h18083, h⟩ | ⟨h18083, h⟩
    ·have e18084 := (ta h18083)
     rcases ifs h with ⟨h18086, h⟩ | ⟨h18086, h⟩
     ·have e18087 := (ta h18086)
      rcases ifs h with ⟨h18089, h⟩ | ⟨h18089, h⟩
      ·have e18090 := (ta h18089)
       rcases ifs h with ⟨h18093, h⟩ | ⟨h18093, h⟩
       ·have e18094 := (ta h18093)
        have e18097 := (t3 (w2 e18084 (an (tc h18083) (ti (w2 e18087 (an (tc h18086) (ti (w3 e18090 (an (tc h18089) (ti (w3 e18094 (ta h18093))))))))))))
        rcases ifs h with ⟨h18098, h⟩ | ⟨h18098, h⟩
        ·obtain ⟨r18103, h18104, h⟩ := bs h
         have e18105 := (show VC Try.prog 14 [VV.tr (List.map vi r18066.1.Turns) r18066.1.Turns.length] (VV.fr (List.map vi r18103) r18103.length) from (VC.weak (Qi8 k r18066.1.Turns _ h18104) (Wv.fw rfl rfl)))
         obtain ⟨r18106, h18107, h⟩ := bs h
         have e18108 := (Qhe k r18060 r18063 a0.At r18103 _ h18107)
         have e18109 := (t2 (an e18062 (t2 (an e18065 (t4 (an e18105 (an e18108 (t5 tt))))))))
         obtain ⟨r18114, h18115, h⟩ := bs h
         have e18116 := (Ql0 k r18060 r18063 a0.At r18066.1.Potentials _ h18115)
         have e18117 := (t2 (an e18062 (t2 (an e18065 (t4 (an e18116 (t5 tt)))))))
         rcases ifs h with ⟨h18118, h⟩ | ⟨h18118, h⟩
         ·rcases ifs h with ⟨h18119, h⟩ | ⟨h18119, h⟩
          ·rcases ifs h with ⟨h18120, h⟩ | ⟨h18120, h⟩
           ·have e18121 := (t3 (w2 (te h18118) (an (dt h18118) (ti (w3 (te h18119) (an (dt h18119) (ti (w3 (te h18120) (an (dt h18120) (ti tt))))))))))
            obtain rfl := si h
            exact Qi pm pn Try.func3 (r0 := vb (decide (r18114.1 = r18066.2.1))) (ans := [.reg (.n :: .n :: []), .reg (.call (vb r18052) :: .n :: []), .br false, .reg (.n :: .call (vb r18056) :: .n :: []), .br false, .reg (Qkf r18060 r18063 r18066), .reg (nN 6 (.call (VV.tu [vi r18070.1, vi r18070.2]) :: nN 5 [])), .reg (.n :: .n :: []), .br false, .reg (nN 8 (.call (VV.tu [vi r18075.1, vi r18075.2]) :: nN 5 [])), .reg (nN 8 (.call (VV.tu [vi r18079.1, vi r18079.2]) :: nN 5 [])), .reg (nN 5 (.b false :: nN 3 (.b false :: nN 4 (.b false :: nN 4 (.b false :: []))))), .br false, .reg (Qvr r18060 r18063 r18103 r18106), .reg (Qvs r18060 r18063 r18114), .reg (nN 5 (.b true :: nN 4 (.b true :: nN 4 (.b true :: .n :: []))))]) (fr := true) (by kernel_rfl) (an (an (t2 tt) (an (an e18054 (an (Qh h18055) tt)) (an (an e18058 (an (Qh h18059) tt)) (an e18069 (an (an e18073 (an (t2 tt) (ta h18074))) (an e18078 (an e18082 (an (an e18097 (ta h18098)) (an e18109 (an e18117 (an e18121 tt))))))))))) (ti tt)) (Wv.refl _)
           ·have e18122 := (t3 (w2 (te h18118) (an (dt h18118) (ti (w3 (te h18119) (an (dt h18119) (ti (w4 (df h18120) (ti tt)))))))))
            obtain rfl := si h
            exact Qi pm pn Try.func3 (r0 := vb false) (ans := [.reg (.n :: .n :: []), .reg (.call (vb r18052) :: .n :: []), .br false, .reg (.n :: .call (vb r18056) :: .n :: []), .br false, .reg (Qkf r18060 r18063 r18066), .reg (nN 6 (.call (VV.tu [vi r18070.1, vi r18070.2]) :: nN 5 [])), .reg (.n :: .n :: []), .br false, .reg (nN 8 (.call (VV.tu [vi r18075.1, vi r18075.2]) :: nN 5 [])), .reg (nN 8 (.call (VV.tu [vi r18079.1, vi r18079.2]) :: nN 5 [])), .reg (nN 5 (.b false :: nN 3 (.b false :: nN 4 (.b false :: nN 4 (.b false :: []))))), .br false, .reg (Qvr r18060 r18063 r18103 r18106), .reg (Qvs r18060 r18063 r18114), .reg (nN 5 (.b true :: nN 4 (.b true :: .n :: nS 3 (.b false :: .n :: []))))]) (fr := true) (by kernel_rfl) (an (an (t2 tt) (an (an e18054 (an (Qh h18055) tt)) (an (an e18058 (an (Qh h18059) tt)) (an e18069 (an (an e18073 (an (t2 tt) (ta h18074))) (an e18078 (an e18082 (an (an e18097 (ta h18098)) (an e18109 (an e18117 (an e18122 tt))))))))))) (ti tt)) (Wv.refl _)
          ·have e18123 := (t3 (w2 (te h18118) (an (dt h18118) (ti (w4 (df h18119) (ti (an rf (an rf (an rf (an rf (ti tt)))))))))))
           obtain rfl := si h
           exact Qi pm pn Try.func3 (r0 := vb false) (ans := [.reg (.n :: .n :: []), .reg (.call (vb r18052) :: .n :: []), .br false, .reg (.n :: .call (vb r18056) :: .n :: []), .br false, .reg (Qkf r18060 r18063 r18066), .reg (nN 6 (.call (VV.tu [vi r18070.1, vi r18070.2]) :: nN 5 [])), .reg (.n :: .n :: []), .br false, .reg (nN 8 (.call (VV.tu [vi r18075.1, vi r18075.2]) :: nN 5 [])), .reg (nN 8 (.call (VV.tu [vi r18079.1, vi r18079.2]) :: nN 5 [])), .reg (nN 5 (.b false :: nN 3 (.b false :: nN 4 (.b false :: nN 4 (.b false :: []))))), .br false, .reg (Qvr r18060 r18063 r18103 r18106), .reg (Qvs r18060 r18063 r18114), .reg (nN 5 (.b true :: .n :: nS 3 (.b false :: .n :: nS 3 (.b false :: .n :: []))))]) (fr := true) (by kernel_rfl) (an (an (t2 tt) (an (an e18054 (an (Qh h18055) tt)) (an (an e18058 (an (Qh h18059) tt)) (an e18069 (an (an e18073 (an (t2 tt) (ta h18074))) (an e18078 (an e18082 (an (an e18097 (ta h18098)) (an e18109 (an e18117 (an e18123 tt))))))))))) (ti tt)) (Wv.refl _)
         ·have e18124 := (t3 (w3 (df h18118) (ti (an rf (an rf (an rf (an rf (ti (an rf (an rf (an rf (an rf (ti tt)))))))))))))
          obtain rfl := si h
          exact Qi pm pn Try.func3 (r0 := vb false) (ans := [.reg (.n :: .n :: []), .reg (.call (vb r18052) :: .n :: []), .br false, .reg (.n :: .call (vb r18056) :: .n :: []), .br false, .reg (Qkf r18060 r18063 r18066), .reg (nN 6 (.call (VV.tu [vi r18070.1, vi r18070.2]) :: nN 5 [])), .reg (.n :: .n :: []), .br false, .reg (nN 8 (.call (VV.tu [vi r18075.1, vi r18075.2]) :: nN 5 [])), .reg (nN 8 (.call (VV.tu [vi r18079.1, vi r18079.2]) :: nN 5 [])), .reg (nN 5 (.b false :: nN 3 (.b false :: nN 4 (.b false :: nN 4 (.b false :: []))))), .br false, .reg (Qvr r18060 r18063 r18103 r18106), .reg (Qvs r18060 r18063 r18114), .reg Q6s]) (fr := true) (by kernel_rfl) (an (an (t2 tt) (an (an e18054 (an (Qh h18055) tt)) (an (an e18058 (an (Qh h18059) tt)) (an e18069 (an (an e18073 (an (t2 tt) (ta h18074))) (an e18078 (an e18082 (an (an e18097 (ta h18098)) (an e18109 (an e18117 (an e18124 tt))))))))))) (ti tt)) (Wv.refl _)
        ·obtain rfl := si h
         exact Qi pm pn Try.func3 (r0 := vb false) (ans := [.reg (.n :: .n :: []), .reg (.call (vb r18052) :: .n :: []), .br false, .reg (.n :: .call (vb r18056) :: .n :: []), .br false, .reg (Qkf r18060 r18063 r18066), .reg (nN 6 (.call (VV.tu [vi r18070.1, vi r18070.2]) :: nN 5 [])), .reg (.n :: .n :: []), .br false, .reg (nN 8 (.call (VV.tu [vi r18075.1, vi r18075.2]) :: nN 5 [])), .reg (nN 8 (.call (VV.tu [vi r18079.1, vi r18079.2]) :: nN 5 [])), .reg (nN 5 (.b false :: nN 3 (.b false :: nN 4 (.b false :: nN 4 (.b false :: []))))), .br true, .reg (.n :: [])]) (fr := true) (by kernel_rfl) (an (an (t2 tt) (an (an e18054 (an (Qh h18055) tt)) (an (an e18058 (an (Qh h18059) tt)) (an e18069 (an (an e18073 (an (t2 tt) (ta h18074))) (an e18078 (an e18082 (an e18097 (an (td h18098) (an (ti tt) tt)))))))))) (ti tt)) (Wv.refl _)
       ·have e18125 := (t3 (w2 e18084 (an (tc h18083) (ti (w2 e18087 (an (tc h18086) (ti (w3 e18090 (an (tc h18089) (ti (w3 (td h18093) (tb h18093))))))))))))
        obtain rfl := si h
        exact Qi pm pn Try.func3 (r0 := vb false) (ans := [.reg (.n :: .n :: []), .reg (.call (vb r18052) :: .n :: []), .br false, .reg (.n :: .call (vb r18056) :: .n :: []), .br false, .reg (Qkf r18060 r18063 r18066), .reg (nN 6 (.call (VV.tu [vi r18070.1, vi r18070.2]) :: nN 5 [])), .reg (.n :: .n :: []), .br false, .reg (nN 8 (.call (VV.tu [vi r18075.1, vi r18075.2]) :: nN 5 [])), .reg (nN 8 (.call (VV.tu [vi r18079.1, vi r18079.2]) :: nN 5 [])), .reg (nN 5 (.b false :: nN 3 (.b false :: nN 4 (.b false :: .n :: nS 3 (.b true :: []))))), .br true, .reg (.n :: [])]) (fr := true) (by kernel_rfl) (an (an (t2 tt) (an (an e18054 (an (Qh h18055) tt)) (an (an e18058 (an (Qh h18059) tt)) (an e18069 (an (an e18073 (an (t2 tt) (ta h18074))) (an e18078 (an e18082 (an e18125 (an rt (an (ti tt) tt)))))))))) (ti tt)) (Wv.refl _)
      ·have e18126 := (t3 (w2 e18084 (an (tc h18083) (ti (w2 e18087 (an (tc h18086) (ti (w4 (td h18089) (ti (an rt (an rt (an rt (an rt tt)))))))))))))
       obtain rfl := si h
       exact Qi pm pn Try.func3 (r0 := vb false) (ans := [.reg (.n :: .n :: []), .reg (.call (vb r18052) :: .n :: []), .br false, .reg (.n :: .call (vb r18056) :: .n :: []), .br false, .reg (Qkf r18060 r18063 r18066), .reg (nN 6 (.call (VV.tu [vi r18070.1, vi r18070.2]) :: nN 5 [])), .reg (.n :: .n :: []), .br false, .reg (nN 8 (.call (VV.tu [vi r18075.1, vi r18075.2]) :: nN 5 [])), .reg (nN 8 (.call (VV.tu [vi r18079.1, vi r18079.2]) :: nN 5 [])), .reg Q6t, .br true, .reg (.n :: [])]) (fr := true) (by kernel_rfl) (an (an (t2 tt) (an (an e18054 (an (Qh h18055) tt)) (an (an e18058 (an (Qh h18059) tt)) (an e18069 (an (an e18073 (an (t2 tt) (ta h18074))) (an e18078 (an e18082 (an e18126 (an rt (an (ti tt) tt)))))))))) (ti tt)) (Wv.refl _)
     ·have e18127 := (t3 (w2 e18084 (an (tc h18083) (ti (w3 (td h18086) (ti (an rt (an rt (an rt (an rt (ti (an rt (an rt (an rt (an rt tt)))))))))))))))
      obtain rfl := si h
      exact Qi pm pn Try.func3 (r0 := vb false) (ans := [.reg (.n :: .n :: []), .reg (.call (vb r18052) :: .n :: []), .br false, .reg (.n :: .call (vb r18056) :: .n :: []), .br false, .reg (Qkf r18060 r18063 r18066), .reg (nN 6 (.call (VV.tu [vi r18070.1, vi r18070.2]) :: nN 5 [])), .reg (.n :: .n :: []), .br false, .reg (nN 8 (.call (VV.tu [vi r18075.1, vi r18075.2]) :: nN 5 [])), .reg (nN 8 (.call (VV.tu [vi r18079.1, vi r18079.2]) :: nN 5 [])), .reg Q6u, .br true, .reg (.n :: [])]) (fr := true) (by kernel_rfl) (an (an (t2 tt) (an (an e18054 (an (Qh h18055) tt)) (an (an e18058 (an (Qh h18059) tt)) (an e18069 (an (an e18073 (an (t2 tt) (ta h18074))) (an e18078 (an e18082 (an e18127 (an rt (an (ti tt) tt)))))))))) (ti tt)) (Wv.refl _)
    ·have e18128 := (t3 (w3 (td h18083) (ti (an rt (an rt (an rt (ti (an rt (an rt (an rt (an rt (ti (an rt (an rt (an rt (an rt tt))))))))))))))))
     obtain rfl := si h
     exact Qi pm pn Try.func3 (r0 := vb false) (ans := [.reg (.n :: .n :: []), .reg (.call (vb r18052) :: .n :: []), .br false, .reg (.n :: .call (vb r18056) :: .n :: []), .br false, .reg (Qkf r18060 r18063 r18066), .reg (nN 6 (.call (VV.tu [vi r18070.1, vi r18070.2]) :: nN 5 [])), .reg (.n :: .n :: []), .br false, .reg (nN 8 (.call (VV.tu [vi r18075.1, vi r18075.2]) :: nN 5 [])), .reg (nN 8 (.call (VV.tu [vi r18079.1, vi r18079.2]) :: nN 5 [])), .reg Q6v, .br true, .reg (.n :: [])]) (fr := true) (by kernel_rfl) (an (an (t2 tt) (an (an e18054 (an (Qh h18055) tt)) (an (an e18058 (an (Qh h18059) tt)) (an e18069 (an (an e18073 (an (t2 tt) (ta h18074))) (an e18078 (an e18082 (an e18128 (an rt (an (ti tt) tt)))))))))) (ti tt)) (Wv.refl _)
   ·rcases ifs h with ⟨h18129, h⟩ | ⟨h18129, h⟩
    ·rcases ifs h with ⟨h18130, h⟩ | ⟨h18130, h⟩
     ·have e18131 := (t4 (w2 (te h18129) (an (dt h18129) (ti (w8 (te h18130) (an (dt h18130) (ti tt)))))))
      obtain rfl := si h
      exact Qi pm pn Try.func3 (r0 := vb (decide ((w64 ((r18066.1.Turns.length : Int) + (r18066.1.Potentials.length : Int))) = 0))) (ans := [.reg (.n :: .n :: []), .reg (.call (vb r18052) :: .n :: []), .br false, .reg (.n :: .call (vb r18056) :: .n :: []), .br false, .reg (Qkf r18060 r18063 r18066), .reg (nN 6 (.call (VV.tu [vi r18070.1, vi r18070.2]) :: nN 5 [])), .reg (.n :: .n :: []), .br true, .reg (nN 6 (.b true :: nN 9 (.b true :: .n :: [])))]) (fr := true) (by kernel_rfl) (an (an (t2 tt) (an (an e18054 (an (Qh h18055) tt)) (an (an e18058 (an (Qh h18059) tt)) (an e18069 (an e18073 (an (t2 tt) (an (td h18074) (an e18131 tt)))))))) (ti tt)) (Wv.refl _)
     ·have e18132 := (t4 (w2 (te h18129) (an (dt h18129) (ti (w9 (df h18130) (ti tt))))))
      obtain rfl := si h
      exact Qi pm pn Try.func3 (r0 := vb false) (ans := [.reg (.n :: .n :: []), .reg (.call (vb r18052) :: .n :: []), .br false, .reg (.n :: .call (vb r18056) :: .n :: []), .br false, .reg (Qkf r18060 r18063 r18066), .reg (nN 6 (.call (VV.tu [vi r18070.1, vi r18070.2]) :: nN 5 [])), .reg (.n :: .n :: []), .br true, .reg (nN 6 (.b true :: .n :: nS 8 (.b false :: .n :: [])))]) (fr := true) (by kernel_rfl) (an (an (t2 tt) (an (an e18054 (an (Qh h18055) tt)) (an (an e18058 (an (Qh h18059) tt)) (an e18069 (an e18073 (an (t2 tt) (an (td h18074) (an e18132 tt)))))))) (ti tt)) (Wv.refl _)
    ·have e18133 := (t4 (w3 (df h18129) (ti (an rf (an rf (an rf (an rf (an rf (an rf (an rf (an rf (an rf (ti tt)))))))))))))
     obtain rfl := si h
     exact Qi pm pn Try.func3 (r0 := vb false) (ans := [.reg (.n :: .n :: []), .reg (.call (vb r18052) :: .n :: []), .br false, .reg (.n :: .call (vb r18056) :: .n :: []), .br false, .reg (Qkf r18060 r18063 r18066), .reg (nN 6 (.call (VV.tu [vi r18070.1, vi r18070.2]) :: nN 5 [])), .reg (.n :: .n :: []), .br true, .reg (nN 4 (.skip :: .skip :: .b false :: .n :: nS 8 (.b false :: .n :: [])))]) (fr := true) (by kernel_rfl) (an (an (t2 tt) (an (an e18054 (an (Qh h18055) tt)) (an (an e18058 (an (Qh h18059) tt)) (an e18069 (an e18073 (an (t2 tt) (an (td h18074) (an e18133 tt)))))))) (ti tt)) (Wv.refl _)
  ·obtain rfl := si h
   exact Qi pm pn Try.func3 (r0 := vb true) (ans := [.reg (.n :: .n :: []), .reg (.call (vb r18052) :: .n :: []), .br false, .reg (.n :: .call (vb r18056) :: .n :: []), .br true, .reg (.n :: [])]) (fr := true) (by kernel_rfl) (an (an (t2 tt) (an (an e18054 (an (Qh h18055) tt)) (an e18058 (an (Qr (Qn h18059)) (an (ti tt) tt))))) (ti tt)) (Wv.refl _)
 ·obtain rfl := si h
  exact Qi pm pn Try.func3 (r0 := vb false) (ans := [.reg (.n :: .n :: []), .reg (.call (vb r18052) :: .n :: []), .br true, .reg (.n :: [])]) (fr := true) (by kernel_rfl) (an (an (t2 tt) (an e18054 (an (Qr (Qn h18055)) (an (ti tt) tt)))) (ti tt)) (Wv.refl _)
end Go.Proofs.Ytjomicmhnbmhoaa.Vg
