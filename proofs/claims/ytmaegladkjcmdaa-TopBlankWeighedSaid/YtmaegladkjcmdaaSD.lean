import Derived.Test.YtmaegladkjcmdaaS4
import Derived.Test.YtmaegladkjcmdaaSC
set_option linter.unusedVariables false
set_option linter.unusedSimpArgs false
namespace Go.Proofs.Ytmaegladkjcmdaa.Vg
open Go Go.Proofs.Ytmaegladkjcmdaa.Ev Go.Proofs.Ytmaegladkjcmdaa.Vv
structure Base (l : List Qj) (m0 : List (ByteArray × Int)) : Prop where
 has : ∀ n, mhas m0 n = Yx l l.length n
 val : ∀ j, j < l.length -> mget m0 (l.getD j default).Name = (l.getD j default).Count
theorem Qsa {l : List Qj} {n : ByteArray} (h : Yx l l.length n = true) : ∃ j, j < l.length /\ (l.getD j default).Name = n := by
 unfold Yx at h
 rw [List.take_length, List.any_eq_true] at h
 obtain ⟨x, hx, he⟩ := h
 obtain ⟨j, hj, rfl⟩ := List.mem_iff_getElem.1 hx
 exact ⟨j, hj, by rw [List.getD_eq_getElem?_getD, List.getElem?_eq_getElem hj]; exact (of_decide_eq_true he).symm⟩
theorem Qg7 {l : List Qj} {j : Nat} (hj : j < l.length) : Yx l l.length (l.getD j default).Name = true := Qfo l _ (show j + 1 <= l.length by omega) (Qig l _ hj rfl)
theorem Qql {l : List Qj} {m0 : List (ByteArray × Int)} (hb : Base l m0) (hg : ∀ j, j < l.length -> Qoa l j) : ∀ n, Yx l l.length n = true -> 0 <= mget m0 n /\ mget m0 n <= 1000 := by
 intro n h
 obtain ⟨j, hj, rfl⟩ := Qsa h
 rw [hb.val j hj]; exact (hg j hj).count
theorem Qkf {l : List Qj} {m0 m1 : List (ByteArray × Int)} (h0 : Base l m0) (h1 : Base l m1) (ps : List Qe) : ∀ d i : Nat, chkP l m0 ps d i = chkP l m1 ps d i
 | 0, _ => rfl
 | d + 1, i => by
   have he : prE l m0 ps i = prE l m1 ps i := by
    unfold prE
    cases hs : Yx l l.length (ps.getD i default).Batch with
    | false => rfl
    | true =>
      obtain ⟨j, hj, hn⟩ := Qsa hs
      have : mget m0 (ps.getD i default).Batch = mget m1 (ps.getD i default).Batch := by rw [<- hn, h0.val j hj, h1.val j hj]
      rw [this]
   simp only [chkP]
   rw [he, Qkf h0 h1 ps d (i + 1)]
def Qob (l : List Qj) (m0 : List (ByteArray × Int)) (ps : List Qe) : Int := if batS l = 0 then (if 200 < ps.length then 8 else chkP l m0 ps ps.length 0) else batS l
theorem Qx1 (k : Nat) (hk : 1000 < k) (hk2 : k <= 100000000000000000000) (l : List Qj) (hl : l.length <= 43) (m0 : List (ByteArray × Int)) (hb : (∀ j, j < l.length -> Qoa l j) -> Base l m0) (ps : List Qe) (hp : ps.length <= 203) : Yr k l ps = some (Qob l m0 ps) := by
 unfold Yr Qob
 rw [Qgm k hk hk2 l hl, Option.bind_some]
 by_cases h0 : batS l = 0
 ·rw [if_pos h0, if_pos h0]
  by_cases c : 200 < ps.length
  ·rw [if_pos (by omega), if_pos c]
  ·have hg := (Qh7 h0).2
   obtain ⟨m1, e1, e2, e3⟩ := Qiv k (by omega) l ps hl
   have hb1 : Base l m1 := ⟨e2, e3 (fun j hj => (hg j hj).uniq)⟩
   rw [if_neg (by omega), if_neg c, e1, Option.bind_some, Qkf (hb hg) hb1]
   rcases Qkd k hk hk2 l ps hp m1 (Qql hb1 hg) ps.length k 0 m1 [] (by omega) (by omega) e2 (fun n _ => by simp [cntP]) (fun n => by simp [mhas, Qkb]) (fun n h => by cases h) with ⟨h1, h2⟩ | ⟨h1, z, h2, _⟩
   ·rw [show Zg k l ps k m1 [] 0 = _ from h2]; rfl
   ·rw [show Zg k l ps k m1 [] 0 = _ from h2, h1]; rfl
 ·rw [if_neg h0, if_neg h0]
def lvF (l : List Qj) (ps : List Qe) (i : Nat) : Int := (l.getD i default).Count - cntP ps (l.getD i default).Name
theorem Qwv {f : Nat -> Int} {y : List Int} {i : Nat} (hi : i < y.length) : ((List.range i).map f ++ y.drop i).set i (f i) = (List.range (i + 1)).map f ++ y.drop (i + 1) := by
 rw [List.set_append, if_neg (by simp), List.length_map, List.length_range, Nat.sub_self, List.drop_eq_getElem_cons hi, List.set_cons_zero, List.range_succ, List.map_append, List.append_assoc]
 rfl
theorem Qww (k : Nat) (l : List Qj) (hl : l.length <= 43) (ps : List Qe) (z : List (ByteArray × Int)) (hz : ∀ n, mhas z n = Yx l l.length n) (hv : ∀ i, i < l.length -> mget z (l.getD i default).Name = lvF l ps i) (y0 : List Int) (hy0 : y0.length = l.length) : ∀ (d fuel i : Nat), l.length = i + d -> d < fuel -> Yb k l z fuel ((List.range i).map (lvF l ps) ++ y0.drop i) (i : Int) = some (z, (List.range l.length).map (lvF l ps)) := by
 intro d
 induction d with
 | zero =>
   intro fuel i h hf
   obtain ⟨g, rfl⟩ : ∃ g, fuel = g + 1 := ⟨fuel - 1, by omega⟩
   rw [Yb.eq_2, if_neg (by omega), List.drop_eq_nil_of_le (by omega), List.append_nil, show i = l.length by omega]
 | succ d ih =>
   intro fuel i h hf
   obtain ⟨g, rfl⟩ : ∃ g, fuel = g + 1 := ⟨fuel - 1, by omega⟩
   rw [Yb.eq_2, if_pos (by omega), if_pos (by omega), Int.toNat_natCast, if_pos (by rw [hz]; exact Qg7 (by omega)), if_pos (by rw [List.length_append, List.length_map, List.length_range, List.length_drop]; omega), hv i (by omega), Qwv (by omega), Qfi (by omega)]
   exact ih g (i + 1) (by omega) (by omega)
theorem Qwx (k : Nat) (hk : 1000 < k) (hk2 : k <= 100000000000000000000) (l : List Qj) (hl : l.length <= 43) (m0 : List (ByteArray × Int)) (hb : (∀ j, j < l.length -> Qoa l j) -> Base l m0) (ps : List Qe) (hp : ps.length <= 203) : Qdr k l ps = some (if Qob l m0 ps = 0 then ((List.range l.length).map (lvF l ps), 0) else ([], Qob l m0 ps)) := by
 unfold Qdr Qob
 rw [Qgm k hk hk2 l hl, Option.bind_some]
 by_cases h0 : batS l = 0
 ·rw [if_pos h0, if_pos h0]
  by_cases c : 200 < ps.length
  ·rw [if_pos (by omega), if_pos c]; rfl
  ·have hg := (Qh7 h0).2
   obtain ⟨m1, e1, e2, e3⟩ := Qkp k (by omega) l ps hl
   have hb1 : Base l m1 := ⟨e2, e3 (fun j hj => (hg j hj).uniq)⟩
   rw [if_neg (by omega), if_neg c, e1, Option.bind_some, Qkf (hb hg) hb1]
   rcases Qsy k hk hk2 l ps hp m1 (Qql hb1 hg) ps.length k 0 m1 [] (by omega) (by omega) e2 (fun n _ => by simp [cntP]) (fun n => by simp [mhas, Qkb]) (fun n h => by cases h) with ⟨h1, h2⟩ | ⟨h1, z, h2, h3, h4⟩
   ·rw [show Xb k l ps k m1 [] 0 = _ from h2, Option.bind_some]
    dsimp only
    rw [if_neg h1, if_neg h1]
   ·have hll := Qww k l hl ps z h3 (fun i hi => by rw [h4 _ (Qg7 hi), hb1.val i hi]; rfl) (List.replicate l.length 0) (by simp) l.length k 0 (by omega) (by omega)
    rw [List.range_zero, List.map_nil, List.nil_append, List.drop_zero] at hll
    rw [show Xb k l ps k m1 [] 0 = _ from h2, Option.bind_some, if_pos h1]
    dsimp only
    rw [if_pos (by omega), Int.toNat_natCast, show Yb k l z k (List.replicate l.length 0) 0 = _ from hll]; rfl
 ·rw [if_neg h0, if_neg h0, if_neg h0]
theorem Qzn {s : ByteArray} (h : nameB s = true) : s ≠ (⟨#[]⟩ : ByteArray) := by
 rintro rfl
 unfold nameB at h
 have : inR 1 12 (((⟨#[]⟩ : ByteArray).size : Nat) : Int) = false := rfl
 rw [this] at h
 cases h
theorem getD_map {f : Nat -> Int} {n z : Nat} (h : z < n) : ((List.range n).map f).getD z 0 = f z := by
 rw [List.getD_eq_getElem?_getD, List.getElem?_map, List.getElem?_range h]; rfl
end Go.Proofs.Ytmaegladkjcmdaa.Vg
