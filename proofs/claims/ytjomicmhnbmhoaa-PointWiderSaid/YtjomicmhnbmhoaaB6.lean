import Derived.Test.YtjomicmhnbmhoaaB4
namespace Go.Proofs.Ytjomicmhnbmhoaa.Vg
set_option maxRecDepth 100000
set_option maxHeartbeats 4000000
set_option linter.unusedVariables false
set_option linter.unusedSimpArgs false
open Go Go.Proofs.Ytjomicmhnbmhoaa.Ev Go.Proofs.Ytjomicmhnbmhoaa.Vv
open List (flatMap length_cons length_nil length_map length_append map_cons map_nil length_replicate)
theorem ag31 : Qch Try.prog 31 = some false := by kernel_rfl
theorem Q0z (z0 : Int) (z1 : Int) : [vi 25920000, VV.tr (List.map vi ([z0, z1] : List Int)) (([z0, z1] : List Int).length)] = [vi 25920000, VV.tr [vi z0, vi z1] 2] := by first | rfl | (simp only [Qk, map_cons, map_nil, un_i, Jd, length_map, length_cons, length_nil]; done) | (simp only [Qk, map_cons, map_nil, un_i, Jd, length_map, length_cons, length_nil]; rfl) | (simp only [Qk, map_cons, map_nil, un_i, Jd, length_map, length_cons, length_nil, length_cons, length_nil, length_append]; done)
def Ye (k : Nat) (a0 : Int) (a1 : Int) : Option (Int × Bool) :=
 some (maxI (w64 (a1 - a0)) (w64 (a0 - a1)), decide (648000 < (maxI (w64 (a1 - a0)) (w64 (a0 - a1)))))
theorem Qct (k : Nat) (a0 : Int) (a1 : Int) (r : (Int × Bool)) (h : Ye k a0 a1 = some r) : VC Try.prog 46 [vi a0, vi a1] (VV.tu [vi r.1, vb r.2]) := by
 unfold Ye at h
 injection h with h; subst h
 exact Qn pm pn Try.func46 (r0 := VV.tu [vi (maxI (w64 (a1 - a0)) (w64 (a0 - a1))), vb (decide (648000 < (maxI (w64 (a1 - a0)) (w64 (a0 - a1)))))]) (ans := [.reg (.n :: .n :: []), .reg (nN 8 []), .reg (nN 5 [])]) (fr := true) (by kernel_rfl) (an (an (ti (ti tt)) (an (ti (ti (ti (ti (ti (ti (ti (ti tt)))))))) (an (ti (ti (ti (ti (ti tt))))) tt))) (ti (ti tt))) (Wv.refl _)
def Qd5 (k : Nat) (a0 : Int) (a1 : Int) : Option (Int × Bool × Int) :=
 (Jl k 25920000 ([a0, a1] : List Int)).bind fun r2108 => (if r2108 = true then ((Ye k a0 a1).bind fun r2112 => (some (r2112.1, r2112.2, 0))) else (some (0, false, 2)))
theorem Ql6 (k : Nat) (a0 : Int) (a1 : Int) (r : (Int × Bool × Int)) (h : Qd5 k a0 a1 = some r) : VC Try.prog 18 [vi a0, vi a1] (VV.tu [vi r.1, vb r.2.1, vi r.2.2]) := by
 unfold Qd5 at h
 obtain ⟨r2108, h2109, h⟩ := bs h
 have e2110 := (VC.args (Qbn k 25920000 ([a0, a1] : List Int) _ h2109) (Q0z a0 a1))
 rcases ifs h with ⟨h2111, h⟩ | ⟨h2111, h⟩
 ·obtain ⟨r2112, h2113, h⟩ := bs h
  have e2114 := (ti (ti (an (Qct k a0 a1 _ h2113) (ti (ti (ti (ti (ti tt))))))))
  injection h with h; subst h
  exact Qn pm pn Try.func18 (r0 := VV.tu [vi r2112.1, vb r2112.2, vi 0]) (ans := [.reg (nN 3 []), .reg (.n :: .n :: .v VV.any :: .call (vb r2108) :: .n :: []), .br false, .reg (.n :: .n :: .call (VV.tu [vi r2112.1, vb r2112.2]) :: nN 5 []), .reg (nN 5 [])]) (fr := true) (by kernel_rfl) (an (an (ti (ti (ti tt))) (an (an (ti (ti (ti (an e2110 (ti tt))))) (an (Qu h2111) tt)) (an e2114 (an (ti (ti (ti (ti (ti tt))))) tt)))) (ti (ti (ti tt)))) (Wv.refl _)
 ·injection h with h; subst h
  exact Qn pm pn Try.func18 (r0 := VV.tu [vi 0, vb false, vi 2]) (ans := [.reg (nN 3 []), .reg (.n :: .n :: .v VV.any :: .call (vb r2108) :: .n :: []), .br true, .reg (nN 3 [])]) (fr := true) (by kernel_rfl) (an (an (ti (ti (ti tt))) (an (ti (ti (ti (an e2110 (ti tt))))) (an (Zj (Qx h2111)) (an (ti (ti (ti tt))) tt)))) (ti (ti (ti tt)))) (Wv.refl _)
def Xr (k : Nat) (a0 : Int) (a1 : Int) : Option Int :=
 (Ye k a0 a1).bind fun r2286 => (if r2286.2 = true then (some (w64 (r2286.1 + 10000000000))) else (some r2286.1))
theorem Qam (k : Nat) (a0 : Int) (a1 : Int) (r : Int) (h : Xr k a0 a1 = some r) : VC Try.prog 40 [vi a0, vi a1] (vi r) := by
 unfold Xr at h
 obtain ⟨r2286, h2287, h⟩ := bs h
 have e2288 := (ti (ti (an (Qct k a0 a1 _ h2287) (ti (ti (ti (ti (ti tt))))))))
 rcases ifs h with ⟨h2289, h⟩ | ⟨h2289, h⟩
 ·injection h with h; subst h
  exact Qn pm pn Try.func40 (r0 := vi (w64 (r2286.1 + 10000000000))) (ans := [.reg (.n :: []), .reg (.n :: .n :: .call (VV.tu [vi r2286.1, vb r2286.2]) :: nN 5 []), .reg (.n :: []), .br true, .reg (nN 3 [])]) (fr := true) (by kernel_rfl) (an (an (ti tt) (an e2288 (an (ti tt) (an h2289 (an (ti (ti (ti tt))) tt))))) (ti tt)) (Wv.refl _)
 ·injection h with h; subst h
  exact Qn pm pn Try.func40 (r0 := vi r2286.1) (ans := [.reg (.n :: []), .reg (.n :: .n :: .call (VV.tu [vi r2286.1, vb r2286.2]) :: nN 5 []), .reg (.n :: []), .br false, .reg (.n :: .n :: [])]) (fr := true) (by kernel_rfl) (an (an (ti tt) (an e2288 (an (an (ti tt) (an (Qx h2289) tt)) (an (ti (ti tt)) tt)))) (ti tt)) (Wv.refl _)
end Go.Proofs.Ytjomicmhnbmhoaa.Vg
