import Derived.Test.YtjomicmhnbmhoaaPF
import Derived.Test.YtjomicmhnbmhoaaBL
set_option linter.unusedVariables false
set_option linter.unusedSimpArgs false
namespace Go.Proofs.Ytjomicmhnbmhoaa.Vg
open Go Go.Proofs.Ytjomicmhnbmhoaa.Ev Go.Proofs.Ytjomicmhnbmhoaa.Vv
abbrev MAXI : Int := 9223372036854775807
theorem Qyy (x y z : Int) : z <= minI x y ↔ z <= x /\ z <= y := by unfold minI; split <;> omega
theorem Qt3 {α : Type} (xs : List α) {i : Nat} (h : xs.length <= i) : xs.drop i = [] := List.drop_eq_nil_of_le h
theorem Qgh {xs : List Int} {i : Nat} (h : i < xs.length) : xs.getD i 0 ∈ xs := by
 rw [List.getD_eq_getElem?_getD, List.getElem?_eq_getElem h]; exact List.getElem_mem _
def hg (to : Int) : Int -> List Int -> List Int -> Int
 | acc, f :: fs, b :: bs => hg to (minI acc (b + cst f to)) fs bs
 | acc, _, _ => acc
def allB (to v : Int) : List Int -> List Int -> Bool
 | f :: fs, b :: bs => decide (v <= b + cst f to) && allB to v fs bs
 | _, _ => true
theorem Q1s (to v : Int) : ∀ (fs bs : List Int) (acc : Int), v <= hg to acc fs bs ↔ v <= acc /\ allB to v fs bs = true
 | [], bs, acc => by simp [hg, allB]
 | f :: fs, [], acc => by simp [hg, allB]
 | f :: fs, b :: bs, acc => by
   simp only [hg, allB]
   rw [Q1s to v fs bs, Qyy, Bool.and_eq_true, decide_eq_true_iff]
   constructor
   ·intro ⟨⟨a, b⟩, c⟩; exact ⟨a, b, c⟩
   ·intro ⟨a, b, c⟩; exact ⟨⟨a, b⟩, c⟩
theorem Qvf {to v f b : Int} : ∀ (fs bs : List Int), allB to v fs bs = true -> (f, b) ∈ fs.zip bs -> v <= b + cst f to
 | [], bs, _, hm => by simp at hm
 | g :: fs, [], _, hm => by simp at hm
 | g :: fs, c :: bs, ha, hm => by
   simp only [allB, Bool.and_eq_true, decide_eq_true_iff] at ha
   rw [List.zip_cons_cons, List.mem_cons] at hm
   rcases hm with hm | hm
   ·injection hm with e1 e2; subst e1; subst e2; exact ha.1
   ·exact Qvf fs bs ha.2 hm
theorem Q2t (to : Int) (fs bs : List Int) (acc f b : Int) (h : (f, b) ∈ fs.zip bs) : hg to acc fs bs <= b + cst f to :=
 Qvf fs bs ((Q1s to (hg to acc fs bs) fs bs acc).1 (Int.le_refl _)).2 h
def rowB : List Int -> List Int -> Bool
 | h :: hs, v :: vs => decide (v <= h) && rowB hs vs
 | _, _ => true
def okP (m : Qc) (d : Int) : List Int -> List Int -> List Qa -> List (List Int) -> Bool
 | fs, bs, t :: l, r :: rs => rowB ((posL m t d).map fun to => hg to MAXI fs bs) r && okP m d (posL m t d) r l rs
 | _, _, _, _ => true
def shp (m : Qc) (d : Int) : List Qa -> List (List Int) -> Bool
 | t :: l, r :: rs => decide (r.length = (trn m (apA m t d)).length) && shp m d l rs
 | _, _ => true
def Qk5 (ps : List (List Int)) : Bool := ps.all fun r => r.all (inR (-1000000000000) 1000000000000)
def ptE (m : Qc) (d : Int) (l : List Qa) (ps : List (List Int)) : Int :=
 if ps.length = l.length then (if shp m d l ps = true then (if Qk5 ps = true then 0 else 2) else 10) else 10
theorem Qlq {m : Qc} {d : Int} {l : List Qa} {i : Nat} (h : i < l.length) : (l.map (stp m d)).getD i default = stp m d (l.getD i default) := by
 rw [List.getD_eq_getElem?_getD, List.getElem?_map, List.getD_eq_getElem?_getD, List.getElem?_eq_getElem h]; rfl
theorem Qha (m : Qc) (t : Qa) (d : Int) : (posL m t d).length = (trn m (apA m t d)).length := by unfold posL; rw [List.length_map]
theorem Qhh {m : Qc} (hm : Mnt m) {t : Qa} {d : Int} : ∀ p ∈ posL m t d, near p := by
 intro p hp
 obtain ⟨x, hx, rfl⟩ := List.mem_map.1 hp
 exact Qmm hm hx
theorem Q31 (k : Nat) {m : Qc} {l : List Qa} {p : At2} (hlen : l.length <= 20) (b : Int) (ps : List (List Int)) (hp : ps.length = l.length) : ∀ (d fuel i : Nat), l.length = i + d -> d < fuel ->
 Q9 k ⟨b, l.map (stp m p.e0)⟩ ps fuel (i : Int) = some (sumB (shp m p.e0 (l.drop i) (ps.drop i))) := by
 intro d
 induction d with
 | zero =>
   intro fuel i h hf
   obtain ⟨g, rfl⟩ : ∃ g, fuel = g + 1 := ⟨fuel - 1, by omega⟩
   rw [Q9.eq_2, if_neg (by simp; omega), List.drop_eq_nil_of_le (by omega)]; rfl
 | succ d ih =>
   intro fuel i h hf
   obtain ⟨g, rfl⟩ : ∃ g, fuel = g + 1 := ⟨fuel - 1, by omega⟩
   rw [Q9.eq_2, if_pos (by simp; omega), if_pos (by simp; omega), if_pos (by omega), Js (by omega), ih g (i + 1) (by omega) (by omega), Xt (y := l) (i := i) (by omega) default, Xt (y := ps) (i := i) (by omega) default]
   have hs : ((l.map (stp m p.e0)).getD i default).turns = trn m (apA m (l.getD i default) p.e0) := by rw [Qlq (by omega)]; rfl
   simp only [Int.toNat_natCast, hs]
   simp only [shp]
   by_cases c : (ps.getD i default).length = (trn m (apA m (l.getD i default) p.e0)).length
   ·rw [if_pos (by omega), decide_eq_true c]; rfl
   ·rw [if_neg (by omega), decide_eq_false c]; rfl
theorem Q32 (k : Nat) (hk : 100 < k) (ps : List (List Int)) (hp : ps.length <= 20) (hr : ∀ r ∈ ps, r.length <= 50) : ∀ (d fuel i : Nat), ps.length = i + d -> d < fuel ->
 Za k ps fuel (i : Int) = some (sumB (Qk5 (ps.drop i))) := by
 intro d
 induction d with
 | zero =>
   intro fuel i h hf
   obtain ⟨g, rfl⟩ : ∃ g, fuel = g + 1 := ⟨fuel - 1, by omega⟩
   rw [Za.eq_2, if_neg (by omega), List.drop_eq_nil_of_le (by omega)]; rfl
 | succ d ih =>
   intro fuel i h hf
   obtain ⟨g, rfl⟩ : ∃ g, fuel = g + 1 := ⟨fuel - 1, by omega⟩
   have hri : (ps.getD i default).length <= 50 := hr _ (by rw [List.getD_eq_getElem?_getD, List.getElem?_eq_getElem (by omega)]; exact List.getElem_mem _)
   rw [Za.eq_2, if_pos (by omega), if_pos (by omega), Js (by omega), ih g (i + 1) (by omega) (by omega), Xt (y := ps) (i := i) (by omega) default]
   simp only [Int.toNat_natCast]
   rw [Qn1 k _ _ (by decide) (by omega) (by omega), Option.bind_some]
   unfold Qk5
   rw [List.all_cons]
   cases (ps.getD i default).all (inR (-1000000000000) 1000000000000) <;> rfl
theorem Qyz (k : Nat) (hk : 100 < k) {m : Qc} {l : List Qa} {p : At2} (hlen : l.length <= 20) (b : Int) (ps : List (List Int)) (hr : ∀ r ∈ ps, r.length <= 50) : Yj k ⟨b, l.map (stp m p.e0)⟩ ps = some (ptE m p.e0 l ps) := by
 unfold Yj ptE
 by_cases c : ps.length = l.length
 ·rw [if_pos (by simp [c]), if_pos c, show Q9 k ⟨b, l.map (stp m p.e0)⟩ ps k 0 = _ from Q31 k hlen b ps c l.length k 0 (by omega) (by omega), List.drop_zero, List.drop_zero, Option.bind_some]
  cases shp m p.e0 l ps with
  | false => rfl
  | true =>
    dsimp only [sumB]
    rw [show Za k ps k 0 = _ from Q32 k hk ps (by omega) hr ps.length k 0 (by omega) (by omega), List.drop_zero, Option.bind_some, if_pos rfl]
    cases Qk5 ps <;> rfl
 ·rw [if_neg (by simp; omega), if_neg c]
theorem Qog {p r : List Int} {a v : Int} {i : Nat} (h : p.length = i) : (p ++ a :: r).set i v = p ++ v :: r := by
 subst h
 rw [List.set_append_right _ _ (Nat.le_refl _), Nat.sub_self]; rfl
theorem Qvg {p r : List Int} {a : Int} {i : Nat} (h : p.length = i) : (p ++ a :: r).getD i 0 = a := by
 subst h
 rw [List.getD_eq_getElem?_getD, List.getElem?_append_right (Nat.le_refl _), Nat.sub_self]; rfl
theorem Q33 (k : Nat) (T : X9) (ps : List (List Int)) (n : Nat) (hn : 0 < n /\ n <= 1000) (i : Nat) (fs bs : List Int) (to : Int) (hF : (T.stops.getD (n - 1) default).positions = fs) (hB : ps.getD (n - 1) default = bs) (hT : ((T.stops.getD n default).positions).getD i 0 = to)
 (hfb : fs.length = bs.length) (hbl : bs.length <= 50) (hf : ∀ f ∈ fs, near f) (hb : ∀ b ∈ bs, -1000000000000 <= b /\ b <= 1000000000000) (ht : near to) : ∀ (d fuel j : Nat) (pre rest : List Int) (acc : Int), bs.length = j + d -> d < fuel -> pre.length = i ->
 Xn k T (n : Int) ps (i : Int) fuel (pre ++ acc :: rest) (j : Int) = some (pre ++ hg to acc (fs.drop j) (bs.drop j) :: rest) := by
 have hw : w64 ((n : Int) - 1) = ((n - 1 : Nat) : Int) := by rw [Ji (by omega) (by omega)]; omega
 intro d
 induction d with
 | zero =>
   intro fuel j pre rest acc h hfu hp
   obtain ⟨g, rfl⟩ : ∃ g, fuel = g + 1 := ⟨fuel - 1, by omega⟩
   rw [Xn.eq_2, hw]
   simp only [Int.toNat_natCast, hB]
   rw [if_neg (by omega), Qt3 (fs) (by omega)]
   simp [hg]
 | succ d ih =>
   intro fuel j pre rest acc h hfu hp
   obtain ⟨g, rfl⟩ : ∃ g, fuel = g + 1 := ⟨fuel - 1, by omega⟩
   have hfj : near (fs.getD j 0) := Qgd hf (by omega)
   have hbj := hb (bs.getD j 0) (Qgh (by omega))
   have hc := Ql3 hfj ht
   rw [Xn.eq_2, hw]
   simp only [Int.toNat_natCast, hB, hF, hT]
   rw [if_pos (by omega), if_pos (by omega), if_pos (by simp; omega), if_pos (by omega), Qjb k hfj.small ht.small, Option.bind_some, Ji (n := bs.getD j 0 + _) (by omega) (by omega), Qvg hp, Qog hp, Js (by omega), ih g (j + 1) pre rest _ (by omega) (by omega) hp, Xt (y := fs) (i := j) (by omega) 0, Xt (y := bs) (i := j) (by omega) 0]
   rfl
theorem Qy0 (k : Nat) (hk : 100 < k) (T : X9) (ps : List (List Int)) (n : Nat) (hn : 0 < n /\ n <= 1000) (fs bs tos : List Int) (hF : (T.stops.getD (n - 1) default).positions = fs) (hB : ps.getD (n - 1) default = bs) (hT : (T.stops.getD n default).positions = tos)
 (hfb : fs.length = bs.length) (hbl : bs.length <= 50) (hf : ∀ f ∈ fs, near f) (hb : ∀ b ∈ bs, -1000000000000 <= b /\ b <= 1000000000000) (ht : ∀ t ∈ tos, near t) (htl : tos.length <= 50) : ∀ (d fuel i : Nat) (pre : List Int), tos.length = i + d -> d < fuel -> pre.length = i ->
 Xd k T (n : Int) ps fuel (pre ++ List.replicate d 0) (i : Int) = some (pre ++ (tos.drop i).map fun to => hg to MAXI fs bs) := by
 intro d
 induction d with
 | zero =>
   intro fuel i pre h hfu hp
   obtain ⟨g, rfl⟩ : ∃ g, fuel = g + 1 := ⟨fuel - 1, by omega⟩
   rw [Xd.eq_2]
   simp only [Int.toNat_natCast, hT]
   rw [if_neg (by omega), List.drop_eq_nil_of_le (by omega)]; simp
 | succ d ih =>
   intro fuel i pre h hfu hp
   obtain ⟨g, rfl⟩ : ∃ g, fuel = g + 1 := ⟨fuel - 1, by omega⟩
   rw [Xd.eq_2]
   simp only [Int.toNat_natCast, hT]
   rw [if_pos (by omega), if_pos (by omega), if_pos (by simp; omega), List.replicate_succ, Qog hp, show Xn k T (n : Int) ps (i : Int) k (pre ++ MAXI :: List.replicate d 0) 0 = _ from Q33 k T ps n hn i fs bs (tos.getD i 0) hF hB (by rw [hT]) hfb hbl hf hb (Qgd ht (by omega)) bs.length k 0 pre (List.replicate d 0) MAXI (by omega) (by omega) hp, Option.bind_some, List.drop_zero, List.drop_zero, Js (by omega), show pre ++ hg (tos.getD i 0) MAXI fs bs :: List.replicate d 0 = (pre ++ [hg (tos.getD i 0) MAXI fs bs]) ++ List.replicate d 0 by simp, ih g (i + 1) _ (by omega) (by omega) (by simp; omega), Xt (y := tos) (i := i) (by omega) 0]
   simp
theorem Q1t (k : Nat) (hk : 100 < k) (T : X9) (i : Nat) (to : Int) (hT : ((T.stops.getD 0 default).positions).getD i 0 = to) (hb : near T.begin) (ht : near to) (pre rest : List Int) (acc : Int) (hp : pre.length = i) :
 X6 k T 0 (i : Int) k (pre ++ acc :: rest) 0 = some (pre ++ hg to acc [T.begin] [0] :: rest) := by
 obtain ⟨g, rfl⟩ : ∃ g, k = g + 2 := ⟨k - 2, by omega⟩
 have hc := Ql3 hb ht
 rw [X6.eq_2, if_pos (by decide), if_pos (by decide), if_pos (by decide), if_pos (by simp; omega), if_pos (by simp)]
 simp only [Int.toNat_natCast, Int.toNat_zero, hT]
 show ((Yh (g + 2) T.begin to).bind _) = _
 rw [Qjb (g + 2) hb.small ht.small, Option.bind_some, Qvg hp, Qog hp, show w64 (([0] : List Int).getD 0 0 + cst T.begin to) = 0 + cst T.begin to from Ji (by show _ <= 0 + _; omega) (by show 0 + _ <= _; omega), show w64 (0 + 1) = 1 from by decide, X6.eq_2, if_neg (by decide)]
 rfl
theorem Qvh (k : Nat) (hk : 100 < k) (T : X9) (tos : List Int) (hT : (T.stops.getD 0 default).positions = tos) (hb : near T.begin) (ht : ∀ t ∈ tos, near t) (htl : tos.length <= 50) : ∀ (d fuel i : Nat) (pre : List Int), tos.length = i + d -> d < fuel -> pre.length = i ->
 Xe k T 0 fuel (pre ++ List.replicate d 0) (i : Int) = some (pre ++ (tos.drop i).map fun to => hg to MAXI [T.begin] [0]) := by
 intro d
 induction d with
 | zero =>
   intro fuel i pre h hfu hp
   obtain ⟨g, rfl⟩ : ∃ g, fuel = g + 1 := ⟨fuel - 1, by omega⟩
   rw [Xe.eq_2]
   simp only [Int.toNat_natCast, Int.toNat_zero, hT]
   rw [if_neg (by omega), List.drop_eq_nil_of_le (by omega)]; simp
 | succ d ih =>
   intro fuel i pre h hfu hp
   obtain ⟨g, rfl⟩ : ∃ g, fuel = g + 1 := ⟨fuel - 1, by omega⟩
   rw [Xe.eq_2]
   simp only [Int.toNat_natCast, Int.toNat_zero, hT]
   rw [if_pos (by omega), if_pos (by omega), if_pos (by simp; omega), List.replicate_succ, Qog hp, Q1t k hk T i (tos.getD i 0) (by rw [hT]) hb (Qgd ht (by omega)) pre (List.replicate d 0) MAXI hp, Option.bind_some, Js (by omega), show pre ++ hg (tos.getD i 0) MAXI [T.begin] [0] :: List.replicate d 0 = (pre ++ [hg (tos.getD i 0) MAXI [T.begin] [0]]) ++ List.replicate d 0 by simp, ih g (i + 1) _ (by omega) (by omega) (by simp; omega), Xt (y := tos) (i := i) (by omega) 0]
   simp
def Qgs (m : Qc) (p : At2) (l : List Qa) (n : Nat) : List Int := if n = 0 then [p.e1] else posL m (l.getD (n - 1) default) p.e0
def Qfp (ps : List (List Int)) (n : Nat) : List Int := if n = 0 then [0] else ps.getD (n - 1) default
theorem Qlr (m : Qc) (p : At2) (l : List Qa) (n : Nat) : Qgs m p l (n + 1) = posL m (l.getD n default) p.e0 := by unfold Qgs; rw [if_neg (by omega)]; rfl
theorem Qls (ps : List (List Int)) (n : Nat) : Qfp ps (n + 1) = ps.getD n default := by unfold Qfp; rw [if_neg (by omega)]; rfl
theorem Qy1 {m : Qc} {d : Int} : ∀ {l : List Qa} {ps : List (List Int)}, shp m d l ps = true -> ps.length = l.length -> ∀ i, i < l.length -> (ps.getD i default).length = (posL m (l.getD i default) d).length
 | [], _, _, _, i, h => by simp at h
 | t :: l, [], _, hl, i, h => by simp at hl
 | t :: l, r :: rs, hs, hl, i, h => by
   simp only [shp, Bool.and_eq_true, decide_eq_true_iff] at hs
   cases i with
   | zero => rw [Qha]; exact hs.1
   | succ i => exact Qy1 hs.2 (by simpa using hl) i (by simpa using h)
theorem Qo5 {ps : List (List Int)} (h : Qk5 ps = true) {i : Nat} (hi : i < ps.length) : ∀ b ∈ ps.getD i default, -1000000000000 <= b /\ b <= 1000000000000 := by
 intro b hb
 unfold Qk5 at h
 have h1 := List.all_eq_true.1 h _ (show ps.getD i default ∈ ps by rw [List.getD_eq_getElem?_getD, List.getElem?_eq_getElem hi]; exact List.getElem_mem _)
 exact Qkn.1 (List.all_eq_true.1 h1 b hb)
structure Pt (m : Qc) (l : List Qa) (p : At2) (ps : List (List Int)) : Prop where
 tr : Tr m l p
 len : ps.length = l.length
 shape : shp m p.e0 l ps = true
 small : Qk5 ps = true
theorem Pt.row {m : Qc} {l : List Qa} {p : At2} {ps : List (List Int)} (h : Pt m l p ps) {i : Nat} (hi : i < l.length) : (ps.getD i default).length = (posL m (l.getD i default) p.e0).length /\ (posL m (l.getD i default) p.e0).length <= 43 := by
 have := Qy1 h.shape h.len i hi
 have h2 := Qha m (l.getD i default) p.e0
 have h3 := Qni m (apA m (l.getD i default) p.e0)
 omega
theorem Pt.prev {m : Qc} {l : List Qa} {p : At2} {ps : List (List Int)} (h : Pt m l p ps) {n : Nat} (hn : n < l.length) : (Qgs m p l n).length = (Qfp ps n).length /\ (Qfp ps n).length <= 50 /\ (∀ f ∈ Qgs m p l n, near f) /\ ∀ b ∈ Qfp ps n, -1000000000000 <= b /\ b <= 1000000000000 := by
 unfold Qgs Qfp
 by_cases c : n = 0
 ·rw [if_pos c, if_pos c]
  refine ⟨rfl, by decide, fun f hf => ?_, fun b hb => ?_⟩
  ·rw [List.mem_singleton] at hf; subst hf; exact Qio h.tr
  ·rw [List.mem_singleton] at hb; subst hb; decide
 ·rw [if_neg c, if_neg c]
  have := h.row (i := n - 1) (by omega)
  exact ⟨by omega, by omega, Qhh h.tr.mnt, Qo5 h.small (by rw [h.len]; omega)⟩
theorem Qxb (k : Nat) (hk : 100 < k) {m : Qc} {l : List Qa} {p : At2} {ps : List (List Int)} (h : Pt m l p ps) {n : Nat} (hn : n < l.length) :
 Yg k ⟨p.e1, l.map (stp m p.e0)⟩ (n : Int) ps = some ((posL m (l.getD n default) p.e0).map fun to => hg to MAXI (Qgs m p l n) (Qfp ps n)) := by
 have hlen := h.tr.len
 have hpl := h.len
 have hrow := h.row hn
 obtain ⟨g1, g2, g3, g4⟩ := h.prev hn
 have hto := Qhh h.tr.mnt (t := l.getD n default) (d := p.e0)
 unfold Yg
 have hs : ((l.map (stp m p.e0)).getD n default).positions = posL m (l.getD n default) p.e0 := by rw [Qlq hn]; rfl
 by_cases c : n = 0
 ·subst c
  rw [if_neg (by decide), if_pos (by simp; omega)]
  simp only [Int.toNat_natCast, hs]
  rw [if_pos (by omega)]
  have := Qvh k hk ⟨p.e1, l.map (stp m p.e0)⟩ (posL m (l.getD 0 default) p.e0) hs (Qio h.tr) hto (by omega) (posL m (l.getD 0 default) p.e0).length k 0 [] (by omega) (by omega) rfl
  rw [List.nil_append, List.nil_append, List.drop_zero] at this
  rw [show Xe k ⟨p.e1, l.map (stp m p.e0)⟩ ((0 : Nat) : Int) k (List.replicate (posL m (l.getD 0 default) p.e0).length 0) 0 = _ from this, Option.bind_some]
  rfl
 ·have hw : w64 ((n : Int) - 1) = ((n - 1 : Nat) : Int) := by rw [Ji (by omega) (by omega)]; omega
  rw [if_pos (by omega), hw, if_pos (by simp; omega), if_pos (by omega), if_pos (by simp; omega)]
  simp only [Int.toNat_natCast, hs]
  rw [if_pos (by omega)]
  have hF : ((l.map (stp m p.e0)).getD (n - 1) default).positions = Qgs m p l n := by rw [Qlq (by omega)]; unfold Qgs; rw [if_neg c]; rfl
  have hB : ps.getD (n - 1) default = Qfp ps n := by unfold Qfp; rw [if_neg c]
  have := Qy0 k hk ⟨p.e1, l.map (stp m p.e0)⟩ ps n (by omega) (Qgs m p l n) (Qfp ps n) (posL m (l.getD n default) p.e0) hF hB hs g1 g2 g3 g4 hto (by omega) (posL m (l.getD n default) p.e0).length k 0 [] (by omega) (by omega) rfl
  rw [List.nil_append, List.nil_append, List.drop_zero] at this
  rw [show Xd k ⟨p.e1, l.map (stp m p.e0)⟩ (n : Int) ps k (List.replicate (posL m (l.getD n default) p.e0).length 0) 0 = _ from this, Option.bind_some]
theorem Q6e (k : Nat) (a0 : Qc) (a2 : At2) (ps : List (List Int)) (r : X9 × Int × Int) (n : Nat) (hn : n < ps.length) (his : List Int) (hl : his.length = (ps.getD n default).length) (hl2 : his.length <= 1000) : ∀ (d fuel i : Nat), his.length = i + d -> d < fuel ->
 Jc k a0 a2 ps r (n : Int) his fuel (i : Int) = some (sumB (rowB (his.drop i) ((ps.getD n default).drop i))) := by
 intro d
 induction d with
 | zero =>
   intro fuel i h hf
   obtain ⟨g, rfl⟩ : ∃ g, fuel = g + 1 := ⟨fuel - 1, by omega⟩
   rw [Jc.eq_2, if_neg (by omega), Qt3 (his) (by omega)]; rfl
 | succ d ih =>
   intro fuel i h hf
   obtain ⟨g, rfl⟩ : ∃ g, fuel = g + 1 := ⟨fuel - 1, by omega⟩
   rw [Jc.eq_2, if_pos (by omega), if_pos (by omega), if_pos (by omega), Js (by omega), ih g (i + 1) (by omega) (by omega), Xt (y := his) (i := i) (by omega) 0, Xt (y := ps.getD n default) (i := i) (by omega) 0]
   simp only [Int.toNat_natCast]
   rw [if_pos (by omega)]
   simp only [rowB]
   by_cases c : his.getD i 0 < (ps.getD n default).getD i 0
   ·rw [if_pos c, decide_eq_false (by omega)]; rfl
   ·rw [if_neg c, decide_eq_true (by omega)]; rfl
theorem Q34 (k : Nat) (hk : 100 < k) {m : Qc} {l : List Qa} {p : At2} {ps : List (List Int)} (h : Pt m l p ps) (e1 e2 : Int) : ∀ (d fuel n : Nat), l.length = n + d -> d < fuel ->
 Jd k m p ps (⟨p.e1, l.map (stp m p.e0)⟩, e1, e2) fuel (n : Int) = some (sumB (okP m p.e0 (Qgs m p l n) (Qfp ps n) (l.drop n) (ps.drop n))) := by
 have hlen := h.tr.len
 have hpl := h.len
 intro d
 induction d with
 | zero =>
   intro fuel n hh hf
   obtain ⟨g, rfl⟩ : ∃ g, fuel = g + 1 := ⟨fuel - 1, by omega⟩
   rw [Jd.eq_2, if_neg (by simp; omega), Qt3 (l) (by omega)]
   simp [okP, sumB]
 | succ d ih =>
   intro fuel n hh hf
   obtain ⟨g, rfl⟩ : ∃ g, fuel = g + 1 := ⟨fuel - 1, by omega⟩
   have hrow := h.row (i := n) (by omega)
   rw [Jd.eq_2, if_pos (by simp; omega)]
   dsimp only
   rw [Qxb k hk h (by omega), Option.bind_some, show Jc k m p ps (⟨p.e1, l.map (stp m p.e0)⟩, e1, e2) (n : Int) ((posL m (l.getD n default) p.e0).map fun to => hg to MAXI (Qgs m p l n) (Qfp ps n)) k 0 = _ from Q6e k m p ps _ n (by omega) _ (by rw [List.length_map]; omega) (by rw [List.length_map]; omega) (posL m (l.getD n default) p.e0).length k 0 (by rw [List.length_map]; omega) (by omega), Option.bind_some, List.drop_zero, List.drop_zero, Js (by omega), ih g (n + 1) (by omega) (by omega), Xt (y := l) (i := n) (by omega) default, Xt (y := ps) (i := n) (by omega) default, Qlr, Qls]
   simp only [okP]
   cases rowB ((posL m (l.getD n default) p.e0).map fun to => hg to MAXI (Qgs m p l n) (Qfp ps n)) (ps.getD n default) <;> rfl
def mnF (x : Int) (l : List Int) : Int := l.foldl minI x
def bd (ps : List (List Int)) : Int := if ps.length = 0 then 0 else mnF ((ps.getD (ps.length - 1) default).getD 0 0) ((ps.getD (ps.length - 1) default).drop 1)
theorem Q2u : ∀ (l : List Int) (x : Int), mnF x l <= x /\ ∀ v ∈ l, mnF x l <= v
 | [], x => ⟨Int.le_refl _, fun v h => by cases h⟩
 | a :: l, x => by
   obtain ⟨h1, h2⟩ := Q2u l (minI x a)
   have h3 := (Qyy x a (minI x a)).1 (Int.le_refl _)
   have e : mnF x (a :: l) = mnF (minI x a) l := rfl
   rw [e]
   refine ⟨by omega, fun v hv => ?_⟩
   rcases List.mem_cons.1 hv with rfl | hv
   ·omega
   ·exact h2 v hv
theorem Q8b (k : Nat) (xs : List Int) (hl : xs.length <= 1000) : ∀ (d fuel i : Nat) (x : Int), xs.length = i + d -> d < fuel ->
 Xo k xs fuel x (i : Int) = some (mnF x (xs.drop i)) := by
 intro d
 induction d with
 | zero =>
   intro fuel i x h hf
   obtain ⟨g, rfl⟩ : ∃ g, fuel = g + 1 := ⟨fuel - 1, by omega⟩
   rw [Xo.eq_2, if_neg (by omega), List.drop_eq_nil_of_le (by omega)]; rfl
 | succ d ih =>
   intro fuel i x h hf
   obtain ⟨g, rfl⟩ : ∃ g, fuel = g + 1 := ⟨fuel - 1, by omega⟩
   rw [Xo.eq_2, if_pos (by omega), if_pos (by omega), Js (by omega), ih g (i + 1) _ (by omega) (by omega), Xt (y := xs) (i := i) (by omega) 0]
   simp only [Int.toNat_natCast]; rfl
theorem Q6f (k : Nat) (xs : List Int) (hl : xs.length <= 1000) : ∀ (d fuel i : Nat) (x : Int), xs.length = i + d -> d < fuel ->
 Xo k xs fuel x (i : Int) = some (mnF x (xs.drop i)) := by
 intro d
 induction d with
 | zero =>
   intro fuel i x h hf
   obtain ⟨g, rfl⟩ : ∃ g, fuel = g + 1 := ⟨fuel - 1, by omega⟩
   rw [Xo.eq_2, if_neg (by omega), List.drop_eq_nil_of_le (by omega)]; rfl
 | succ d ih =>
   intro fuel i x h hf
   obtain ⟨g, rfl⟩ : ∃ g, fuel = g + 1 := ⟨fuel - 1, by omega⟩
   rw [Xo.eq_2, if_pos (by omega), if_pos (by omega), Js (by omega), ih g (i + 1) _ (by omega) (by omega), Xt (y := xs) (i := i) (by omega) 0]
   simp only [Int.toNat_natCast]; rfl
theorem Qo6 (k : Nat) (hk : 100 < k) {m : Qc} {l : List Qa} {p : At2} {ps : List (List Int)} (h : Pt m l p ps) (hne : ∀ i, i < l.length -> 0 < (trn m (apA m (l.getD i default) p.e0)).length) : Qe0 k ps = some (bd ps) := by
 unfold Qe0 bd Qd4
 have hlen := h.tr.len
 have hpl := h.len
 by_cases c : ps.length = 0
 ·rw [if_pos (by omega), if_pos c]
 ·have hr := h.row (i := ps.length - 1) (by omega)
  have hq := Qha m (l.getD (ps.length - 1) default) p.e0
  have hz := hne (ps.length - 1) (by omega)
  rw [if_neg (by omega), if_neg c, Ji (by omega) (by omega), if_pos (by omega), show ((ps.length : Int) - 1).toNat = ps.length - 1 by omega, if_neg (by omega), if_pos (by omega)]
  simp only [Int.toNat_zero]
  rw [show Xo k (ps.getD (ps.length - 1) default) k ((ps.getD (ps.length - 1) default).getD 0 0) 1 = _ from Q8b k _ (by omega) ((ps.getD (ps.length - 1) default).length - 1) k 1 _ (by omega) (by omega)]
  rfl
def clE (m : Qc) (l : List Qa) (p : At2) (ps : List (List Int)) : Int × Int := if ptE m p.e0 l ps = 0 then (if okP m p.e0 [p.e1] [0] l ps = true then (bd ps, 0) else (0, 22)) else (0, ptE m p.e0 l ps)
theorem Pt.of {m : Qc} {l : List Qa} {p : At2} {ps : List (List Int)} (h : Tr m l p) (hp : ptE m p.e0 l ps = 0) : Pt m l p ps := by
 unfold ptE at hp
 split at hp
 ·split at hp
  ·split at hp
   ·exact ⟨h, ‹_›, ‹_›, ‹_›⟩
   ·cases hp
  ·cases hp
 ·cases hp
theorem Qk6 {m : Qc} {l : List Qa} {p : At2} (h : Tr m l p) : ∀ i, i < l.length -> 0 < (trn m (apA m (l.getD i default) p.e0)).length := by
 intro i hi
 have := (h.tgt i hi).2
 unfold stpE at this
 split at this
 ·split at this
  ·cases this
  ·omega
 ·cases this
theorem Qt4 (k : Nat) (hk : 100 < k) (hk2 : k <= 100000000000000000000) (m : Qc) (h1 : m.Refraction.length < k) (h2 : m.Drift.length < k) (l : List Qa) (p : At2) (ps : List (List Int)) (hr : ∀ r ∈ ps, r.length <= 50) :
 Qek k m l p ps = some (if (trE m l p).2 = 0 then clE m l p ps else (0, (trE m l p).2)) := by
 unfold Qek
 rw [Qnj k hk hk2 m h1 h2, Option.bind_some]
 by_cases c : (trE m l p).2 = 0
 ·have hT := Tr.of c
  have hlen := hT.len
  simp only [if_pos c]
  rw [Qyz k hk hlen p.e1 ps hr, Option.bind_some]
  unfold clE
  by_cases c1 : ptE m p.e0 l ps = 0
  ·have hP := Pt.of hT c1
   rw [if_pos c1, if_pos c1, show Jd k m p ps (⟨p.e1, l.map (stp m p.e0)⟩, trE m l p) k 0 = _ from Q34 k hk hP (trE m l p).1 (trE m l p).2 l.length k 0 (by omega) (by omega), Option.bind_some, List.drop_zero, List.drop_zero]
   rw [show Qgs m p l 0 = [p.e1] from rfl, show Qfp ps 0 = [0] from rfl]
   cases okP m p.e0 [p.e1] [0] l ps with
   | false => rfl
   | true =>
     dsimp only [sumB]
     rw [Qo6 k hk hP (Qk6 hT), Option.bind_some, if_pos rfl]
  ·rw [if_neg c1, if_neg c1]
 ·simp only [if_neg c]
theorem Q1u (k : Nat) (hk : 100 < k) {m : Qc} {l : List Qa} {p : At2} (h : Tr m l p) (ps : List (List Int)) (hp : ps.length = l.length) : ∀ (d fuel i : Nat), l.length = i + d -> d < fuel ->
 Zm k m l p ps fuel (i : Int) = some (sumB (shp m p.e0 (l.drop i) (ps.drop i))) := by
 have hlen := h.len
 intro d
 induction d with
 | zero =>
   intro fuel i hi hf
   obtain ⟨g, rfl⟩ : ∃ g, fuel = g + 1 := ⟨fuel - 1, by omega⟩
   rw [Zm.eq_2, if_neg (by omega), Qt3 (l) (by omega)]; rfl
 | succ d ih =>
   intro fuel i hi hf
   obtain ⟨g, rfl⟩ : ∃ g, fuel = g + 1 := ⟨fuel - 1, by omega⟩
   obtain ⟨ht, hs⟩ := h.tgt i (by omega)
   rw [Zm.eq_2, if_pos (by omega), if_pos (by omega), Js (by omega), ih g (i + 1) (by omega) (by omega), Xt (y := l) (i := i) (by omega) default, Xt (y := ps) (i := i) (by omega) default]
   simp only [Int.toNat_natCast]
   rw [Qko k hk h.mnt ht h.day, Option.bind_some, if_pos hs, if_pos (by omega)]
   simp only [shp]
   by_cases c : (ps.getD i default).length = (trn m (apA m (l.getD i default) p.e0)).length
   ·rw [if_pos (by omega), decide_eq_true c]; rfl
   ·rw [if_neg (by omega), decide_eq_false c]; rfl
theorem Qy2 (k : Nat) (m : Qc) (l : List Qa) (p : At2) (ps : List (List Int)) (n : Nat) (hn : n < ps.length) (hl : (ps.getD n default).length <= 50) : ∀ (d fuel i : Nat), (ps.getD n default).length = i + d -> d < fuel ->
 Zn k m l p ps (n : Int) fuel (i : Int) = some (sumB (((ps.getD n default).drop i).all (inR (-1000000000000) 1000000000000))) := by
 intro d
 induction d with
 | zero =>
   intro fuel i h hf
   obtain ⟨g, rfl⟩ : ∃ g, fuel = g + 1 := ⟨fuel - 1, by omega⟩
   rw [Zn.eq_2, if_pos (by omega)]
   simp only [Int.toNat_natCast]
   rw [if_neg (by omega), List.drop_eq_nil_of_le (by omega)]; rfl
 | succ d ih =>
   intro fuel i h hf
   obtain ⟨g, rfl⟩ : ∃ g, fuel = g + 1 := ⟨fuel - 1, by omega⟩
   rw [Zn.eq_2, if_pos (by omega), Js (by omega), ih g (i + 1) (by omega) (by omega)]
   simp only [Int.toNat_natCast]
   rw [if_pos (by omega), if_pos (by omega), Qb9, Option.bind_some, Xt (y := ps.getD n default) (i := i) (by omega) 0, List.all_cons]
   cases inR (-1000000000000) 1000000000000 ((ps.getD n default).getD i 0) <;> rfl
theorem Qy3 (k : Nat) (hk : 100 < k) (m : Qc) (l : List Qa) (p : At2) (ps : List (List Int)) (hp : ps.length = l.length) (hlen : l.length <= 20) (hr : ∀ r ∈ ps, r.length <= 50) : ∀ (d fuel i : Nat), l.length = i + d -> d < fuel ->
 Zo k m l p ps fuel (i : Int) = some (sumB (Qk5 (ps.drop i))) := by
 intro d
 induction d with
 | zero =>
   intro fuel i h hf
   obtain ⟨g, rfl⟩ : ∃ g, fuel = g + 1 := ⟨fuel - 1, by omega⟩
   rw [Zo.eq_2, if_neg (by omega), List.drop_eq_nil_of_le (by omega)]; rfl
 | succ d ih =>
   intro fuel i h hf
   obtain ⟨g, rfl⟩ : ∃ g, fuel = g + 1 := ⟨fuel - 1, by omega⟩
   have hri : (ps.getD i default).length <= 50 := hr _ (by rw [List.getD_eq_getElem?_getD, List.getElem?_eq_getElem (by omega)]; exact List.getElem_mem _)
   rw [Zo.eq_2, if_pos (by omega), show Zn k m l p ps (i : Int) k 0 = _ from Qy2 k m l p ps i (by omega) hri (ps.getD i default).length k 0 (by omega) (by omega), List.drop_zero, Option.bind_some, Js (by omega), ih g (i + 1) (by omega) (by omega), Xt (y := ps) (i := i) (by omega) default]
   unfold Qk5
   rw [List.all_cons]
   cases (ps.getD i default).all (inR (-1000000000000) 1000000000000) <;> rfl
theorem Qri {m : Qc} {t : Qa} {d : Int} {i : Nat} (h : i < (trn m (apA m t d)).length) : (posL m t d).getD i 0 = pos m t d ((trn m (apA m t d)).getD i 0) := by
 unfold posL
 rw [List.getD_eq_getElem?_getD, List.getElem?_map, List.getElem?_eq_getElem h, List.getD_eq_getElem?_getD, List.getElem?_eq_getElem h]; rfl
theorem Qy4 {xs : List Int} {i : Nat} (h : i < xs.length) : xs.getD i 0 ∈ xs := by
 rw [List.getD_eq_getElem?_getD, List.getElem?_eq_getElem h]; exact List.getElem_mem _
theorem Q8c (k : Nat) (hk : 100 < k) {m : Qc} {l : List Qa} {p : At2} {ps : List (List Int)} (h : Pt m l p ps) (n : Nat) (hn : n + 1 < l.length) (r1 : List Int × Int) (i : Nat) (hi : i < (ps.getD (n + 1) default).length) (to : Int) (ht : near to) (e : Int) : ∀ (d fuel j : Nat), (trn m (apA m (l.getD n default) p.e0)).length = j + d -> d < fuel ->
 Zp k m l p ps ((n + 1 : Nat) : Int) r1 (i : Int) to (trn m (apA m (l.getD n default) p.e0), e) fuel (j : Int) = some (sumB (allB to ((ps.getD (n + 1) default).getD i 0) ((posL m (l.getD n default) p.e0).drop j) ((ps.getD n default).drop j))) := by
 have hlen := h.tr.len
 have hpl := h.len
 have hrow := h.row (i := n) (by omega)
 have hpo := Qha m (l.getD n default) p.e0
 have hw : w64 (((n + 1 : Nat) : Int) - 1) = (n : Int) := by rw [Ji (by omega) (by omega)]; omega
 have hb := Qo5 h.small (i := n) (by omega)
 obtain ⟨htg, _⟩ := h.tr.tgt n (by omega)
 intro d
 induction d with
 | zero =>
   intro fuel j hj hf
   obtain ⟨g, rfl⟩ : ∃ g, fuel = g + 1 := ⟨fuel - 1, by omega⟩
   rw [Zp.eq_2]
   dsimp only
   rw [if_neg (by omega), Qt3 (posL m (l.getD n default) p.e0) (by omega)]; rfl
 | succ d ih =>
   intro fuel j hj hf
   obtain ⟨g, rfl⟩ : ∃ g, fuel = g + 1 := ⟨fuel - 1, by omega⟩
   have hm := Qy4 (xs := trn m (apA m (l.getD n default) p.e0)) (i := j) (by omega)
   have hq := Qmm h.tr.mnt hm
   have hc := Ql3 hq ht
   have hbj := hb ((ps.getD n default).getD j 0) (Qgh (by omega))
   rw [Zp.eq_2, hw]
   simp only [Int.toNat_natCast]
   rw [if_pos (by omega), if_pos (by omega), if_pos (by omega), if_pos (by omega), if_pos (by omega), if_pos (by omega), if_pos (by omega), Qkp k hk h.tr.mnt htg h.tr.day hm, Option.bind_some, Qqv k hq.small ht.small, Option.bind_some]
   have e9 : w64 ((ps.getD n default).getD j 0 + cst (pos m (l.getD n default) p.e0 ((trn m (apA m (l.getD n default) p.e0)).getD j 0)) to) = (ps.getD n default).getD j 0 + cst (pos m (l.getD n default) p.e0 ((trn m (apA m (l.getD n default) p.e0)).getD j 0)) to := Ji (by omega) (by omega)
   simp only [e9]
   rw [Js (by omega), ih g (j + 1) (by omega) (by omega), Xt (y := posL m (l.getD n default) p.e0) (i := j) (by omega) 0, Xt (y := ps.getD n default) (i := j) (by omega) 0, Qri (by omega)]
   simp only [allB]
   by_cases c : (ps.getD n default).getD j 0 + cst (pos m (l.getD n default) p.e0 ((trn m (apA m (l.getD n default) p.e0)).getD j 0)) to < (ps.getD (n + 1) default).getD i 0
   ·rw [if_pos c, decide_eq_false (by omega)]; rfl
   ·rw [if_neg c, decide_eq_true (by omega)]; rfl
theorem Q6g {to v : Int} (hv : v <= MAXI) (fs bs : List Int) : decide (v <= hg to MAXI fs bs) = allB to v fs bs := by
 cases h : allB to v fs bs with
 | true => exact decide_eq_true ((Q1s to v fs bs MAXI).2 ⟨hv, h⟩)
 | false => exact decide_eq_false (fun h2 => by rw [((Q1s to v fs bs MAXI).1 h2).2] at h; cases h)
theorem Q8d (k : Nat) (hk : 100 < k) {m : Qc} {l : List Qa} {p : At2} {ps : List (List Int)} (h : Pt m l p ps) (n : Nat) (hn : n < l.length) (e : Int) : ∀ (d fuel i : Nat), (trn m (apA m (l.getD n default) p.e0)).length = i + d -> d < fuel ->
 Zc k m l p ps (n : Int) (trn m (apA m (l.getD n default) p.e0), e) fuel (i : Int) = some (sumB (rowB (((posL m (l.getD n default) p.e0).drop i).map fun to => hg to MAXI (Qgs m p l n) (Qfp ps n)) ((ps.getD n default).drop i))) := by
 have hlen := h.tr.len
 have hpl := h.len
 have hrow := h.row (i := n) hn
 have hpo := Qha m (l.getD n default) p.e0
 have hb := Qo5 h.small (i := n) (by omega)
 obtain ⟨htg, _⟩ := h.tr.tgt n hn
 intro d
 induction d with
 | zero =>
   intro fuel i hj hf
   obtain ⟨g, rfl⟩ : ∃ g, fuel = g + 1 := ⟨fuel - 1, by omega⟩
   rw [Zc.eq_2]
   dsimp only
   rw [if_neg (by omega), Qt3 (posL m (l.getD n default) p.e0) (by omega)]; rfl
 | succ d ih =>
   intro fuel i hj hf
   obtain ⟨g, rfl⟩ : ∃ g, fuel = g + 1 := ⟨fuel - 1, by omega⟩
   have hm := Qy4 (xs := trn m (apA m (l.getD n default) p.e0)) (i := i) (by omega)
   have hq := Qmm h.tr.mnt hm
   have hbi := hb ((ps.getD n default).getD i 0) (Qgh (by omega))
   rw [Zc.eq_2]
   simp only [Int.toNat_natCast]
   rw [if_pos (by omega), if_pos (by omega), if_pos (by omega), Qkp k hk h.tr.mnt htg h.tr.day hm, Option.bind_some, Js (by omega), ih g (i + 1) (by omega) (by omega), Xt (y := posL m (l.getD n default) p.e0) (i := i) (by omega) 0, Xt (y := ps.getD n default) (i := i) (by omega) 0, Qri (by omega)]
   simp only [List.map_cons, rowB]
   rw [Q6g (by show _ <= (9223372036854775807 : Int); omega)]
   by_cases c0 : n = 0
   ·subst c0
    rw [if_pos (by omega), if_pos (by omega)]
    simp only [Int.toNat_zero]
    rw [if_pos (by omega), Qqv k (Qio h.tr).small hq.small, Option.bind_some, show Qgs m p l 0 = [p.e1] from rfl, show Qfp ps 0 = [0] from rfl]
    simp only [allB, Bool.and_true, Int.zero_add]
    by_cases c : cst p.e1 (pos m (l.getD 0 default) p.e0 ((trn m (apA m (l.getD 0 default) p.e0)).getD i 0)) < (ps.getD 0 default).getD i 0
    ·rw [if_pos c, decide_eq_false (by omega)]; rfl
    ·rw [if_neg c, decide_eq_true (by omega)]; rfl
   ·obtain ⟨n', rfl⟩ : ∃ n', n = n' + 1 := ⟨n - 1, by omega⟩
    obtain ⟨htg', hs'⟩ := h.tr.tgt n' (by omega)
    have hlt := Qni m (apA m (l.getD n' default) p.e0)
    rw [if_neg (by omega), Ji (n := ((n' + 1 : Nat) : Int) - 1) (by omega) (by omega), if_pos (by omega), show (((n' + 1 : Nat) : Int) - 1).toNat = n' by omega, Qko k hk h.tr.mnt htg' h.tr.day, Option.bind_some, if_pos hs', show Zp k m l p ps ((n' + 1 : Nat) : Int) (trn m (apA m (l.getD (n' + 1) default) p.e0), e) (i : Int) _ (trn m (apA m (l.getD n' default) p.e0), 0) k 0 = _ from Q8c k hk h n' (by omega) _ i (by omega) _ hq 0 (trn m (apA m (l.getD n' default) p.e0)).length k 0 (by omega) (by omega), Option.bind_some, List.drop_zero, List.drop_zero, Qlr, Qls]
    cases allB (pos m (l.getD (n' + 1) default) p.e0 ((trn m (apA m (l.getD (n' + 1) default) p.e0)).getD i 0)) ((ps.getD (n' + 1) default).getD i 0) (posL m (l.getD n' default) p.e0) (ps.getD n' default) <;> rfl
theorem Q8e (k : Nat) (hk : 100 < k) {m : Qc} {l : List Qa} {p : At2} {ps : List (List Int)} (h : Pt m l p ps) : ∀ (d fuel n : Nat), l.length = n + d -> d < fuel ->
 Zq k m l p ps fuel (n : Int) = some (sumB (okP m p.e0 (Qgs m p l n) (Qfp ps n) (l.drop n) (ps.drop n))) := by
 have hlen := h.tr.len
 have hpl := h.len
 intro d
 induction d with
 | zero =>
   intro fuel n hh hf
   obtain ⟨g, rfl⟩ : ∃ g, fuel = g + 1 := ⟨fuel - 1, by omega⟩
   rw [Zq.eq_2, if_neg (by omega), Qt3 (l) (by omega)]
   simp [okP, sumB]
 | succ d ih =>
   intro fuel n hh hf
   obtain ⟨g, rfl⟩ : ∃ g, fuel = g + 1 := ⟨fuel - 1, by omega⟩
   obtain ⟨htg, hs⟩ := h.tr.tgt n (by omega)
   have hlt := Qni m (apA m (l.getD n default) p.e0)
   rw [Zq.eq_2, if_pos (by omega), if_pos (by omega)]
   simp only [Int.toNat_natCast]
   rw [Qko k hk h.tr.mnt htg h.tr.day, Option.bind_some, if_pos hs, show Zc k m l p ps (n : Int) (trn m (apA m (l.getD n default) p.e0), 0) k 0 = _ from Q8d k hk h n (by omega) 0 (trn m (apA m (l.getD n default) p.e0)).length k 0 (by omega) (by omega), Option.bind_some, List.drop_zero, List.drop_zero, Js (by omega), ih g (n + 1) (by omega) (by omega), Xt (y := l) (i := n) (by omega) default, Xt (y := ps) (i := n) (by omega) default, Qlr, Qls]
   simp only [okP]
   cases rowB ((posL m (l.getD n default) p.e0).map fun to => hg to MAXI (Qgs m p l n) (Qfp ps n)) (ps.getD n default) <;> rfl
theorem Qy5 (k : Nat) (hk : 100 < k) {m : Qc} {l : List Qa} {p : At2} (h : Tr m l p) (ps : List (List Int)) (hr : ∀ r ∈ ps, r.length <= 50) : Wu k m l p ps = some (clE m l p ps) := by
 unfold Wu clE
 have hlen := h.len
 by_cases c : ps.length = l.length
 ·rw [if_pos (by simp [c]), show Zm k m l p ps k 0 = _ from Q1u k hk h ps c l.length k 0 (by omega) (by omega), List.drop_zero, List.drop_zero, Option.bind_some]
  cases c1 : shp m p.e0 l ps with
  | false =>
    have e : ptE m p.e0 l ps = 10 := by unfold ptE; rw [if_pos c, if_neg (by rw [c1]; decide)]
    rw [e]; rfl
  | true =>
    dsimp only [sumB]
    rw [show Zo k m l p ps k 0 = _ from Qy3 k hk m l p ps c hlen hr l.length k 0 (by omega) (by omega), List.drop_zero, Option.bind_some]
    cases c2 : Qk5 ps with
    | false =>
      have e : ptE m p.e0 l ps = 2 := by unfold ptE; rw [if_pos c, if_pos c1, if_neg (by rw [c2]; decide)]
      rw [e]; rfl
    | true =>
      have e : ptE m p.e0 l ps = 0 := by unfold ptE; rw [if_pos c, if_pos c1, if_pos c2]
      have hP : Pt m l p ps := ⟨h, c, c1, c2⟩
      dsimp only [sumB]
      rw [if_pos e, show Zq k m l p ps k 0 = _ from Q8e k hk hP l.length k 0 (by omega) (by omega), List.drop_zero, List.drop_zero, Option.bind_some, show Qgs m p l 0 = [p.e1] from rfl, show Qfp ps 0 = [0] from rfl]
      cases okP m p.e0 [p.e1] [0] l ps with
      | false => rfl
      | true =>
        dsimp only [sumB]
        rw [if_pos rfl]
        unfold bd
        by_cases c3 : l.length = 0
        ·rw [if_pos (by omega), if_pos (by omega)]
        ·have hrw := hP.row (i := ps.length - 1) (by omega)
         have hq := Qha m (l.getD (ps.length - 1) default) p.e0
         have hz := Qk6 h (ps.length - 1) (by omega)
         unfold Qd5
         rw [if_neg (show ¬(l.length : Int) = 0 by omega), if_neg (show ¬ps.length = 0 by omega), Ji (by omega) (by omega), if_pos (by omega), show ((ps.length : Int) - 1).toNat = ps.length - 1 by omega, if_pos (by omega)]
         simp only [Int.toNat_zero]
         rw [show Xo k (ps.getD (ps.length - 1) default) k ((ps.getD (ps.length - 1) default).getD 0 0) 1 = _ from Q6f k _ (by omega) ((ps.getD (ps.length - 1) default).length - 1) k 1 _ (by omega) (by omega)]
         rfl
 ·have e : ptE m p.e0 l ps = 10 := by unfold ptE; rw [if_neg c]
  rw [if_neg (by omega), e]; rfl
theorem Qy6 {fs bs : List Int} {i : Nat} (h1 : i < fs.length) (h2 : i < bs.length) : (fs.getD i 0, bs.getD i 0) ∈ fs.zip bs := by
 rw [List.mem_iff_getElem?]
 refine ⟨i, ?_⟩
 rw [List.getElem?_zip_eq_some]
 constructor
 ·show fs[i]? = some (fs.getD i 0)
  rw [List.getD_eq_getElem?_getD, List.getElem?_eq_getElem h1]; rfl
 ·show bs[i]? = some (bs.getD i 0)
  rw [List.getD_eq_getElem?_getD, List.getElem?_eq_getElem h2]; rfl
theorem Q1v (k : Nat) (xs : List Int) (h : xs.length <= 1000) : Qe5 k xs = some xs := by
 unfold Qe5
 rw [if_pos (by simp; omega)]; rfl
end Go.Proofs.Ytjomicmhnbmhoaa.Vg
