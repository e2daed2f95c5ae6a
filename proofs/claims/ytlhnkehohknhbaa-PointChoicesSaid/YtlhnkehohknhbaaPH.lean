import Derived.Test.YtlhnkehohknhbaaPF
import Derived.Test.YtlhnkehohknhbaaB9
set_option linter.unusedVariables false
set_option linter.unusedSimpArgs false
namespace Go.Proofs.Ytlhnkehohknhbaa.Vg
open Go Go.Proofs.Ytlhnkehohknhbaa.Ev Go.Proofs.Ytlhnkehohknhbaa.Vv
abbrev MAXI : Int := 9223372036854775807
theorem minI_le (x y z : Int) : z <= minI x y ↔ z <= x /\ z <= y := by unfold minI; split <;> omega
theorem dropn {α : Type} (xs : List α) {i : Nat} (h : xs.length <= i) : xs.drop i = [] := List.drop_eq_nil_of_le h
theorem mem_get' {xs : List Int} {i : Nat} (h : i < xs.length) : xs.getD i 0 ∈ xs := by
 rw [List.getD_eq_getElem?_getD, List.getElem?_eq_getElem h]; exact List.getElem_mem _
def hg (to : Int) : Int -> List Int -> List Int -> Int
 | acc, f :: fs, b :: bs => hg to (minI acc (b + cst f to)) fs bs
 | acc, _, _ => acc
def allB (to v : Int) : List Int -> List Int -> Bool
 | f :: fs, b :: bs => decide (v <= b + cst f to) && allB to v fs bs
 | _, _ => true
theorem hg_le (to v : Int) : ∀ (fs bs : List Int) (acc : Int), v <= hg to acc fs bs ↔ v <= acc /\ allB to v fs bs = true
 | [], bs, acc => by simp [hg, allB]
 | f :: fs, [], acc => by simp [hg, allB]
 | f :: fs, b :: bs, acc => by
   simp only [hg, allB]
   rw [hg_le to v fs bs, minI_le, Bool.and_eq_true, decide_eq_true_iff]
   constructor
   ·intro ⟨⟨a, b⟩, c⟩; exact ⟨a, b, c⟩
   ·intro ⟨a, b, c⟩; exact ⟨⟨a, b⟩, c⟩
theorem allB_mem {to v f b : Int} : ∀ (fs bs : List Int), allB to v fs bs = true -> (f, b) ∈ fs.zip bs -> v <= b + cst f to
 | [], bs, _, hm => by simp at hm
 | g :: fs, [], _, hm => by simp at hm
 | g :: fs, c :: bs, ha, hm => by
   simp only [allB, Bool.and_eq_true, decide_eq_true_iff] at ha
   rw [List.zip_cons_cons, List.mem_cons] at hm
   rcases hm with hm | hm
   ·injection hm with e1 e2; subst e1; subst e2; exact ha.1
   ·exact allB_mem fs bs ha.2 hm
theorem hg_mem (to : Int) (fs bs : List Int) (acc f b : Int) (h : (f, b) ∈ fs.zip bs) : hg to acc fs bs <= b + cst f to :=
 allB_mem fs bs ((hg_le to (hg to acc fs bs) fs bs acc).1 (Int.le_refl _)).2 h
def rowB : List Int -> List Int -> Bool
 | h :: hs, v :: vs => decide (v <= h) && rowB hs vs
 | _, _ => true
def okP (m : SSkyMount) (d : Int) : List Int -> List Int -> List SSkyTarget -> List (List Int) -> Bool
 | fs, bs, t :: l, r :: rs => rowB ((posL m t d).map fun to => hg to MAXI fs bs) r && okP m d (posL m t d) r l rs
 | _, _, _, _ => true
def shp (m : SSkyMount) (d : Int) : List SSkyTarget -> List (List Int) -> Bool
 | t :: l, r :: rs => decide (r.length = (trn m (apA m t d)).length) && shp m d l rs
 | _, _ => true
def smallP (ps : List (List Int)) : Bool := ps.all fun r => r.all (inR (-1000000000000) 1000000000000)
def ptE (m : SSkyMount) (d : Int) (l : List SSkyTarget) (ps : List (List Int)) : Int :=
 if ps.length = l.length then (if shp m d l ps = true then (if smallP ps = true then 0 else 2) else 10) else 10
theorem stop_get {m : SSkyMount} {d : Int} {l : List SSkyTarget} {i : Nat} (h : i < l.length) : (l.map (stp m d)).getD i default = stp m d (l.getD i default) := by
 rw [List.getD_eq_getElem?_getD, List.getElem?_map, List.getD_eq_getElem?_getD, List.getElem?_eq_getElem h]; rfl
theorem posL_len (m : SSkyMount) (t : SSkyTarget) (d : Int) : (posL m t d).length = (trn m (apA m t d)).length := by unfold posL; rw [List.length_map]
theorem posL_near {m : SSkyMount} (hm : Mnt m) {t : SSkyTarget} {d : Int} : ∀ p ∈ posL m t d, near p := by
 intro p hp
 obtain ⟨x, hx, rfl⟩ := List.mem_map.1 hp
 exact pos_near hm hx
theorem shape_l (k : Nat) {m : SSkyMount} {l : List SSkyTarget} {p : At2} (hlen : l.length <= 20) (b : Int) (ps : List (List Int)) (hp : ps.length = l.length) : ∀ (d fuel i : Nat), l.length = i + d -> d < fuel ->
 n_point_tour_checkPotentials_l0_0 k ⟨b, l.map (stp m p.e0)⟩ ps fuel (i : Int) = some (sumB (shp m p.e0 (l.drop i) (ps.drop i))) := by
 intro d
 induction d with
 | zero =>
   intro fuel i h hf
   obtain ⟨g, rfl⟩ : ∃ g, fuel = g + 1 := ⟨fuel - 1, by omega⟩
   rw [n_point_tour_checkPotentials_l0_0.eq_2, if_neg (by simp; omega), List.drop_eq_nil_of_le (by omega)]; rfl
 | succ d ih =>
   intro fuel i h hf
   obtain ⟨g, rfl⟩ : ∃ g, fuel = g + 1 := ⟨fuel - 1, by omega⟩
   rw [n_point_tour_checkPotentials_l0_0.eq_2, if_pos (by simp; omega), if_pos (by simp; omega), if_pos (by omega), w64_succ (by omega), ih g (i + 1) (by omega) (by omega), drop_get (y := l) (i := i) (by omega) default, drop_get (y := ps) (i := i) (by omega) default]
   have hs : ((l.map (stp m p.e0)).getD i default).turns = trn m (apA m (l.getD i default) p.e0) := by rw [stop_get (by omega)]; rfl
   simp only [Int.toNat_natCast, hs]
   simp only [shp]
   by_cases c : (ps.getD i default).length = (trn m (apA m (l.getD i default) p.e0)).length
   ·rw [if_pos (by omega), decide_eq_true c]; rfl
   ·rw [if_neg (by omega), decide_eq_false c]; rfl
theorem small_l (k : Nat) (hk : 100 < k) (ps : List (List Int)) (hp : ps.length <= 20) (hr : ∀ r ∈ ps, r.length <= 50) : ∀ (d fuel i : Nat), ps.length = i + d -> d < fuel ->
 n_point_tour_checkPotentials_l1_0 k ps fuel (i : Int) = some (sumB (smallP (ps.drop i))) := by
 intro d
 induction d with
 | zero =>
   intro fuel i h hf
   obtain ⟨g, rfl⟩ : ∃ g, fuel = g + 1 := ⟨fuel - 1, by omega⟩
   rw [n_point_tour_checkPotentials_l1_0.eq_2, if_neg (by omega), List.drop_eq_nil_of_le (by omega)]; rfl
 | succ d ih =>
   intro fuel i h hf
   obtain ⟨g, rfl⟩ : ∃ g, fuel = g + 1 := ⟨fuel - 1, by omega⟩
   have hri : (ps.getD i default).length <= 50 := hr _ (by rw [List.getD_eq_getElem?_getD, List.getElem?_eq_getElem (by omega)]; exact List.getElem_mem _)
   rw [n_point_tour_checkPotentials_l1_0.eq_2, if_pos (by omega), if_pos (by omega), w64_succ (by omega), ih g (i + 1) (by omega) (by omega), drop_get (y := ps) (i := i) (by omega) default]
   simp only [Int.toNat_natCast]
   rw [areSmall_any k _ _ (by decide) (by omega) (by omega), Option.bind_some]
   unfold smallP
   rw [List.all_cons]
   cases (ps.getD i default).all (inR (-1000000000000) 1000000000000) <;> rfl
theorem pot_point (k : Nat) (hk : 100 < k) {m : SSkyMount} {l : List SSkyTarget} {p : At2} (hlen : l.length <= 20) (b : Int) (ps : List (List Int)) (hr : ∀ r ∈ ps, r.length <= 50) : n_point_tour_checkPotentials k ⟨b, l.map (stp m p.e0)⟩ ps = some (ptE m p.e0 l ps) := by
 unfold n_point_tour_checkPotentials ptE
 by_cases c : ps.length = l.length
 ·rw [if_pos (by simp [c]), if_pos c, show n_point_tour_checkPotentials_l0_0 k ⟨b, l.map (stp m p.e0)⟩ ps k 0 = _ from shape_l k hlen b ps c l.length k 0 (by omega) (by omega), List.drop_zero, List.drop_zero, Option.bind_some]
  cases shp m p.e0 l ps with
  | false => rfl
  | true =>
    dsimp only [sumB]
    rw [show n_point_tour_checkPotentials_l1_0 k ps k 0 = _ from small_l k hk ps (by omega) hr ps.length k 0 (by omega) (by omega), List.drop_zero, Option.bind_some, if_pos rfl]
    cases smallP ps <;> rfl
 ·rw [if_neg (by simp; omega), if_neg c]
theorem set_mid2 {p r : List Int} {a v : Int} {i : Nat} (h : p.length = i) : (p ++ a :: r).set i v = p ++ v :: r := by
 subst h
 rw [List.set_append_right _ _ (Nat.le_refl _), Nat.sub_self]; rfl
theorem get_mid2 {p r : List Int} {a : Int} {i : Nat} (h : p.length = i) : (p ++ a :: r).getD i 0 = a := by
 subst h
 rw [List.getD_eq_getElem?_getD, List.getElem?_append_right (Nat.le_refl _), Nat.sub_self]; rfl
theorem high_l1 (k : Nat) (T : Stour) (ps : List (List Int)) (n : Nat) (hn : 0 < n /\ n <= 1000) (i : Nat) (fs bs : List Int) (to : Int) (hF : (T.stops.getD (n - 1) default).positions = fs) (hB : ps.getD (n - 1) default = bs) (hT : ((T.stops.getD n default).positions).getD i 0 = to)
 (hfb : fs.length = bs.length) (hbl : bs.length <= 50) (hf : ∀ f ∈ fs, near f) (hb : ∀ b ∈ bs, -1000000000000 <= b /\ b <= 1000000000000) (ht : near to) : ∀ (d fuel j : Nat) (pre rest : List Int) (acc : Int), bs.length = j + d -> d < fuel -> pre.length = i ->
 n_point_tour_highest_l1_0 k T (n : Int) ps (i : Int) fuel (pre ++ acc :: rest) (j : Int) = some (pre ++ hg to acc (fs.drop j) (bs.drop j) :: rest) := by
 have hw : w64 ((n : Int) - 1) = ((n - 1 : Nat) : Int) := by rw [w64_id (by omega) (by omega)]; omega
 intro d
 induction d with
 | zero =>
   intro fuel j pre rest acc h hfu hp
   obtain ⟨g, rfl⟩ : ∃ g, fuel = g + 1 := ⟨fuel - 1, by omega⟩
   rw [n_point_tour_highest_l1_0.eq_2, hw]
   simp only [Int.toNat_natCast, hB]
   rw [if_neg (by omega), dropn (fs) (by omega)]
   simp [hg]
 | succ d ih =>
   intro fuel j pre rest acc h hfu hp
   obtain ⟨g, rfl⟩ : ∃ g, fuel = g + 1 := ⟨fuel - 1, by omega⟩
   have hfj : near (fs.getD j 0) := near_get' hf (by omega)
   have hbj := hb (bs.getD j 0) (mem_get' (by omega))
   have hc := cst_bd hfj ht
   rw [n_point_tour_highest_l1_0.eq_2, hw]
   simp only [Int.toNat_natCast, hB, hF, hT]
   rw [if_pos (by omega), if_pos (by omega), if_pos (by simp; omega), if_pos (by omega), cost_point k hfj.small ht.small, Option.bind_some, w64_id (n := bs.getD j 0 + _) (by omega) (by omega), get_mid2 hp, set_mid2 hp, w64_succ (by omega), ih g (j + 1) pre rest _ (by omega) (by omega) hp, drop_get (y := fs) (i := j) (by omega) 0, drop_get (y := bs) (i := j) (by omega) 0]
   rfl
theorem high_l0 (k : Nat) (hk : 100 < k) (T : Stour) (ps : List (List Int)) (n : Nat) (hn : 0 < n /\ n <= 1000) (fs bs tos : List Int) (hF : (T.stops.getD (n - 1) default).positions = fs) (hB : ps.getD (n - 1) default = bs) (hT : (T.stops.getD n default).positions = tos)
 (hfb : fs.length = bs.length) (hbl : bs.length <= 50) (hf : ∀ f ∈ fs, near f) (hb : ∀ b ∈ bs, -1000000000000 <= b /\ b <= 1000000000000) (ht : ∀ t ∈ tos, near t) (htl : tos.length <= 50) : ∀ (d fuel i : Nat) (pre : List Int), tos.length = i + d -> d < fuel -> pre.length = i ->
 n_point_tour_highest_l0_0 k T (n : Int) ps fuel (pre ++ List.replicate d 0) (i : Int) = some (pre ++ (tos.drop i).map fun to => hg to MAXI fs bs) := by
 intro d
 induction d with
 | zero =>
   intro fuel i pre h hfu hp
   obtain ⟨g, rfl⟩ : ∃ g, fuel = g + 1 := ⟨fuel - 1, by omega⟩
   rw [n_point_tour_highest_l0_0.eq_2]
   simp only [Int.toNat_natCast, hT]
   rw [if_neg (by omega), List.drop_eq_nil_of_le (by omega)]; simp
 | succ d ih =>
   intro fuel i pre h hfu hp
   obtain ⟨g, rfl⟩ : ∃ g, fuel = g + 1 := ⟨fuel - 1, by omega⟩
   rw [n_point_tour_highest_l0_0.eq_2]
   simp only [Int.toNat_natCast, hT]
   rw [if_pos (by omega), if_pos (by omega), if_pos (by simp; omega), List.replicate_succ, set_mid2 hp, show n_point_tour_highest_l1_0 k T (n : Int) ps (i : Int) k (pre ++ MAXI :: List.replicate d 0) 0 = _ from high_l1 k T ps n hn i fs bs (tos.getD i 0) hF hB (by rw [hT]) hfb hbl hf hb (near_get' ht (by omega)) bs.length k 0 pre (List.replicate d 0) MAXI (by omega) (by omega) hp, Option.bind_some, List.drop_zero, List.drop_zero, w64_succ (by omega), show pre ++ hg (tos.getD i 0) MAXI fs bs :: List.replicate d 0 = (pre ++ [hg (tos.getD i 0) MAXI fs bs]) ++ List.replicate d 0 by simp, ih g (i + 1) _ (by omega) (by omega) (by simp; omega), drop_get (y := tos) (i := i) (by omega) 0]
   simp
theorem high_l1' (k : Nat) (hk : 100 < k) (T : Stour) (i : Nat) (to : Int) (hT : ((T.stops.getD 0 default).positions).getD i 0 = to) (hb : near T.begin) (ht : near to) (pre rest : List Int) (acc : Int) (hp : pre.length = i) :
 n_point_tour_highest_l1_1 k T 0 (i : Int) k (pre ++ acc :: rest) 0 = some (pre ++ hg to acc [T.begin] [0] :: rest) := by
 obtain ⟨g, rfl⟩ : ∃ g, k = g + 2 := ⟨k - 2, by omega⟩
 have hc := cst_bd hb ht
 rw [n_point_tour_highest_l1_1.eq_2, if_pos (by decide), if_pos (by decide), if_pos (by simp; omega), if_pos (by simp)]
 simp only [Int.toNat_natCast, Int.toNat_zero, hT]
 show ((npoint_costBetween (g + 2) T.begin to).bind _) = _
 rw [cost_point (g + 2) hb.small ht.small, Option.bind_some, get_mid2 hp, set_mid2 hp, show w64 (([0] : List Int).getD 0 0 + cst T.begin to) = 0 + cst T.begin to from w64_id (by show _ <= 0 + _; omega) (by show 0 + _ <= _; omega), show w64 (0 + 1) = 1 from by decide, n_point_tour_highest_l1_1.eq_2, if_neg (by decide)]
 rfl
theorem high_l0' (k : Nat) (hk : 100 < k) (T : Stour) (tos : List Int) (hT : (T.stops.getD 0 default).positions = tos) (hb : near T.begin) (ht : ∀ t ∈ tos, near t) (htl : tos.length <= 50) : ∀ (d fuel i : Nat) (pre : List Int), tos.length = i + d -> d < fuel -> pre.length = i ->
 n_point_tour_highest_l0_1 k T 0 fuel (pre ++ List.replicate d 0) (i : Int) = some (pre ++ (tos.drop i).map fun to => hg to MAXI [T.begin] [0]) := by
 intro d
 induction d with
 | zero =>
   intro fuel i pre h hfu hp
   obtain ⟨g, rfl⟩ : ∃ g, fuel = g + 1 := ⟨fuel - 1, by omega⟩
   rw [n_point_tour_highest_l0_1.eq_2]
   simp only [Int.toNat_natCast, Int.toNat_zero, hT]
   rw [if_neg (by omega), List.drop_eq_nil_of_le (by omega)]; simp
 | succ d ih =>
   intro fuel i pre h hfu hp
   obtain ⟨g, rfl⟩ : ∃ g, fuel = g + 1 := ⟨fuel - 1, by omega⟩
   rw [n_point_tour_highest_l0_1.eq_2]
   simp only [Int.toNat_natCast, Int.toNat_zero, hT]
   rw [if_pos (by omega), if_pos (by omega), if_pos (by simp; omega), List.replicate_succ, set_mid2 hp, high_l1' k hk T i (tos.getD i 0) (by rw [hT]) hb (near_get' ht (by omega)) pre (List.replicate d 0) MAXI hp, Option.bind_some, w64_succ (by omega), show pre ++ hg (tos.getD i 0) MAXI [T.begin] [0] :: List.replicate d 0 = (pre ++ [hg (tos.getD i 0) MAXI [T.begin] [0]]) ++ List.replicate d 0 by simp, ih g (i + 1) _ (by omega) (by omega) (by simp; omega), drop_get (y := tos) (i := i) (by omega) 0]
   simp
def prevF (m : SSkyMount) (p : At2) (l : List SSkyTarget) (n : Nat) : List Int := if n = 0 then [p.e1] else posL m (l.getD (n - 1) default) p.e0
def prevB (ps : List (List Int)) (n : Nat) : List Int := if n = 0 then [0] else ps.getD (n - 1) default
theorem prevF_succ (m : SSkyMount) (p : At2) (l : List SSkyTarget) (n : Nat) : prevF m p l (n + 1) = posL m (l.getD n default) p.e0 := by unfold prevF; rw [if_neg (by omega)]; rfl
theorem prevB_succ (ps : List (List Int)) (n : Nat) : prevB ps (n + 1) = ps.getD n default := by unfold prevB; rw [if_neg (by omega)]; rfl
theorem shp_get {m : SSkyMount} {d : Int} : ∀ {l : List SSkyTarget} {ps : List (List Int)}, shp m d l ps = true -> ps.length = l.length -> ∀ i, i < l.length -> (ps.getD i default).length = (posL m (l.getD i default) d).length
 | [], _, _, _, i, h => by simp at h
 | t :: l, [], _, hl, i, h => by simp at hl
 | t :: l, r :: rs, hs, hl, i, h => by
   simp only [shp, Bool.and_eq_true, decide_eq_true_iff] at hs
   cases i with
   | zero => rw [posL_len]; exact hs.1
   | succ i => exact shp_get hs.2 (by simpa using hl) i (by simpa using h)
theorem small_get {ps : List (List Int)} (h : smallP ps = true) {i : Nat} (hi : i < ps.length) : ∀ b ∈ ps.getD i default, -1000000000000 <= b /\ b <= 1000000000000 := by
 intro b hb
 unfold smallP at h
 have h1 := List.all_eq_true.1 h _ (show ps.getD i default ∈ ps by rw [List.getD_eq_getElem?_getD, List.getElem?_eq_getElem hi]; exact List.getElem_mem _)
 exact inR_t.1 (List.all_eq_true.1 h1 b hb)
structure Pt (m : SSkyMount) (l : List SSkyTarget) (p : At2) (ps : List (List Int)) : Prop where
 tr : Tr m l p
 len : ps.length = l.length
 shape : shp m p.e0 l ps = true
 small : smallP ps = true
theorem Pt.row {m : SSkyMount} {l : List SSkyTarget} {p : At2} {ps : List (List Int)} (h : Pt m l p ps) {i : Nat} (hi : i < l.length) : (ps.getD i default).length = (posL m (l.getD i default) p.e0).length /\ (posL m (l.getD i default) p.e0).length <= 43 := by
 have := shp_get h.shape h.len i hi
 have h2 := posL_len m (l.getD i default) p.e0
 have h3 := trn_len m (apA m (l.getD i default) p.e0)
 omega
theorem Pt.prev {m : SSkyMount} {l : List SSkyTarget} {p : At2} {ps : List (List Int)} (h : Pt m l p ps) {n : Nat} (hn : n < l.length) : (prevF m p l n).length = (prevB ps n).length /\ (prevB ps n).length <= 50 /\ (∀ f ∈ prevF m p l n, near f) /\ ∀ b ∈ prevB ps n, -1000000000000 <= b /\ b <= 1000000000000 := by
 unfold prevF prevB
 by_cases c : n = 0
 ·rw [if_pos c, if_pos c]
  refine ⟨rfl, by decide, fun f hf => ?_, fun b hb => ?_⟩
  ·rw [List.mem_singleton] at hf; subst hf; exact beg_near h.tr
  ·rw [List.mem_singleton] at hb; subst hb; decide
 ·rw [if_neg c, if_neg c]
  have := h.row (i := n - 1) (by omega)
  exact ⟨by omega, by omega, posL_near h.tr.mnt, small_get h.small (by rw [h.len]; omega)⟩
theorem highest_pt (k : Nat) (hk : 100 < k) {m : SSkyMount} {l : List SSkyTarget} {p : At2} {ps : List (List Int)} (h : Pt m l p ps) {n : Nat} (hn : n < l.length) :
 n_point_tour_highest k ⟨p.e1, l.map (stp m p.e0)⟩ (n : Int) ps = some ((posL m (l.getD n default) p.e0).map fun to => hg to MAXI (prevF m p l n) (prevB ps n)) := by
 have hlen := h.tr.len
 have hpl := h.len
 have hrow := h.row hn
 obtain ⟨g1, g2, g3, g4⟩ := h.prev hn
 have hto := posL_near h.tr.mnt (t := l.getD n default) (d := p.e0)
 unfold n_point_tour_highest
 have hs : ((l.map (stp m p.e0)).getD n default).positions = posL m (l.getD n default) p.e0 := by rw [stop_get hn]; rfl
 by_cases c : n = 0
 ·subst c
  rw [if_neg (by decide), if_pos (by simp; omega)]
  simp only [Int.toNat_natCast, hs]
  rw [if_pos (by omega)]
  have := high_l0' k hk ⟨p.e1, l.map (stp m p.e0)⟩ (posL m (l.getD 0 default) p.e0) hs (beg_near h.tr) hto (by omega) (posL m (l.getD 0 default) p.e0).length k 0 [] (by omega) (by omega) rfl
  rw [List.nil_append, List.nil_append, List.drop_zero] at this
  rw [show n_point_tour_highest_l0_1 k ⟨p.e1, l.map (stp m p.e0)⟩ ((0 : Nat) : Int) k (List.replicate (posL m (l.getD 0 default) p.e0).length 0) 0 = _ from this, Option.bind_some]
  rfl
 ·have hw : w64 ((n : Int) - 1) = ((n - 1 : Nat) : Int) := by rw [w64_id (by omega) (by omega)]; omega
  rw [if_pos (by omega), hw, if_pos (by simp; omega), if_pos (by omega), if_pos (by simp; omega)]
  simp only [Int.toNat_natCast, hs]
  rw [if_pos (by omega)]
  have hF : ((l.map (stp m p.e0)).getD (n - 1) default).positions = prevF m p l n := by rw [stop_get (by omega)]; unfold prevF; rw [if_neg c]; rfl
  have hB : ps.getD (n - 1) default = prevB ps n := by unfold prevB; rw [if_neg c]
  have := high_l0 k hk ⟨p.e1, l.map (stp m p.e0)⟩ ps n (by omega) (prevF m p l n) (prevB ps n) (posL m (l.getD n default) p.e0) hF hB hs g1 g2 g3 g4 hto (by omega) (posL m (l.getD n default) p.e0).length k 0 [] (by omega) (by omega) rfl
  rw [List.nil_append, List.nil_append, List.drop_zero] at this
  rw [show n_point_tour_highest_l0_0 k ⟨p.e1, l.map (stp m p.e0)⟩ (n : Int) ps k (List.replicate (posL m (l.getD n default) p.e0).length 0) 0 = _ from this, Option.bind_some]
theorem comp_l (k : Nat) (a0 : SSkyMount) (a2 : At2) (ps : List (List Int)) (r : Stour × Int × Int) (n : Nat) (hn : n < ps.length) (his : List Int) (hl : his.length = (ps.getD n default).length) (hl2 : his.length <= 1000) : ∀ (d fuel i : Nat), his.length = i + d -> d < fuel ->
 npoint_CheckLeast_l1_0 k a0 a2 ps r (n : Int) his fuel (i : Int) = some (sumB (rowB (his.drop i) ((ps.getD n default).drop i))) := by
 intro d
 induction d with
 | zero =>
   intro fuel i h hf
   obtain ⟨g, rfl⟩ : ∃ g, fuel = g + 1 := ⟨fuel - 1, by omega⟩
   rw [npoint_CheckLeast_l1_0.eq_2, if_neg (by omega), dropn (his) (by omega)]; rfl
 | succ d ih =>
   intro fuel i h hf
   obtain ⟨g, rfl⟩ : ∃ g, fuel = g + 1 := ⟨fuel - 1, by omega⟩
   rw [npoint_CheckLeast_l1_0.eq_2, if_pos (by omega), if_pos (by omega), if_pos (by omega), w64_succ (by omega), ih g (i + 1) (by omega) (by omega), drop_get (y := his) (i := i) (by omega) 0, drop_get (y := ps.getD n default) (i := i) (by omega) 0]
   simp only [Int.toNat_natCast]
   rw [if_pos (by omega)]
   simp only [rowB]
   by_cases c : his.getD i 0 < (ps.getD n default).getD i 0
   ·rw [if_pos c, decide_eq_false (by omega)]; rfl
   ·rw [if_neg c, decide_eq_true (by omega)]; rfl
theorem least_l (k : Nat) (hk : 100 < k) {m : SSkyMount} {l : List SSkyTarget} {p : At2} {ps : List (List Int)} (h : Pt m l p ps) (e1 e2 : Int) : ∀ (d fuel n : Nat), l.length = n + d -> d < fuel ->
 npoint_CheckLeast_l0_0 k m p ps (⟨p.e1, l.map (stp m p.e0)⟩, e1, e2) fuel (n : Int) = some (sumB (okP m p.e0 (prevF m p l n) (prevB ps n) (l.drop n) (ps.drop n))) := by
 have hlen := h.tr.len
 have hpl := h.len
 intro d
 induction d with
 | zero =>
   intro fuel n hh hf
   obtain ⟨g, rfl⟩ : ∃ g, fuel = g + 1 := ⟨fuel - 1, by omega⟩
   rw [npoint_CheckLeast_l0_0.eq_2, if_neg (by simp; omega), dropn (l) (by omega)]
   simp [okP, sumB]
 | succ d ih =>
   intro fuel n hh hf
   obtain ⟨g, rfl⟩ : ∃ g, fuel = g + 1 := ⟨fuel - 1, by omega⟩
   have hrow := h.row (i := n) (by omega)
   rw [npoint_CheckLeast_l0_0.eq_2, if_pos (by simp; omega)]
   dsimp only
   rw [highest_pt k hk h (by omega), Option.bind_some, show npoint_CheckLeast_l1_0 k m p ps (⟨p.e1, l.map (stp m p.e0)⟩, e1, e2) (n : Int) ((posL m (l.getD n default) p.e0).map fun to => hg to MAXI (prevF m p l n) (prevB ps n)) k 0 = _ from comp_l k m p ps _ n (by omega) _ (by rw [List.length_map]; omega) (by rw [List.length_map]; omega) (posL m (l.getD n default) p.e0).length k 0 (by rw [List.length_map]; omega) (by omega), Option.bind_some, List.drop_zero, List.drop_zero, w64_succ (by omega), ih g (n + 1) (by omega) (by omega), drop_get (y := l) (i := n) (by omega) default, drop_get (y := ps) (i := n) (by omega) default, prevF_succ, prevB_succ]
   simp only [okP]
   cases rowB ((posL m (l.getD n default) p.e0).map fun to => hg to MAXI (prevF m p l n) (prevB ps n)) (ps.getD n default) <;> rfl
def mnF (x : Int) (l : List Int) : Int := l.foldl minI x
def bd (ps : List (List Int)) : Int := if ps.length = 0 then 0 else mnF ((ps.getD (ps.length - 1) default).getD 0 0) ((ps.getD (ps.length - 1) default).drop 1)
theorem mnF_le : ∀ (l : List Int) (x : Int), mnF x l <= x /\ ∀ v ∈ l, mnF x l <= v
 | [], x => ⟨Int.le_refl _, fun v h => by cases h⟩
 | a :: l, x => by
   obtain ⟨h1, h2⟩ := mnF_le l (minI x a)
   have h3 := (minI_le x a (minI x a)).1 (Int.le_refl _)
   have e : mnF x (a :: l) = mnF (minI x a) l := rfl
   rw [e]
   refine ⟨by omega, fun v hv => ?_⟩
   rcases List.mem_cons.1 hv with rfl | hv
   ·omega
   ·exact h2 v hv
theorem min_l (k : Nat) (xs : List Int) (hl : xs.length <= 1000) : ∀ (d fuel i : Nat) (x : Int), xs.length = i + d -> d < fuel ->
 nslices_Min_int_int__l0_0 k xs fuel x (i : Int) = some (mnF x (xs.drop i)) := by
 intro d
 induction d with
 | zero =>
   intro fuel i x h hf
   obtain ⟨g, rfl⟩ : ∃ g, fuel = g + 1 := ⟨fuel - 1, by omega⟩
   rw [nslices_Min_int_int__l0_0.eq_2, if_neg (by omega), List.drop_eq_nil_of_le (by omega)]; rfl
 | succ d ih =>
   intro fuel i x h hf
   obtain ⟨g, rfl⟩ : ∃ g, fuel = g + 1 := ⟨fuel - 1, by omega⟩
   rw [nslices_Min_int_int__l0_0.eq_2, if_pos (by omega), if_pos (by omega), w64_succ (by omega), ih g (i + 1) _ (by omega) (by omega), drop_get (y := xs) (i := i) (by omega) 0]
   simp only [Int.toNat_natCast]; rfl
theorem minR_l (k : Nat) (xs : List Int) (hl : xs.length <= 1000) : ∀ (d fuel i : Nat) (x : Int), xs.length = i + d -> d < fuel ->
 nspeculumref09_least_l0_0 k xs fuel x (i : Int) = some (mnF x (xs.drop i)) := by
 intro d
 induction d with
 | zero =>
   intro fuel i x h hf
   obtain ⟨g, rfl⟩ : ∃ g, fuel = g + 1 := ⟨fuel - 1, by omega⟩
   rw [nspeculumref09_least_l0_0.eq_2, if_neg (by omega), List.drop_eq_nil_of_le (by omega)]; rfl
 | succ d ih =>
   intro fuel i x h hf
   obtain ⟨g, rfl⟩ : ∃ g, fuel = g + 1 := ⟨fuel - 1, by omega⟩
   rw [nspeculumref09_least_l0_0.eq_2, if_pos (by omega), if_pos (by omega), w64_succ (by omega), ih g (i + 1) _ (by omega) (by omega), drop_get (y := xs) (i := i) (by omega) 0]
   simp only [Int.toNat_natCast]; rfl
theorem bound_point (k : Nat) (hk : 100 < k) {m : SSkyMount} {l : List SSkyTarget} {p : At2} {ps : List (List Int)} (h : Pt m l p ps) (hne : ∀ i, i < l.length -> 0 < (trn m (apA m (l.getD i default) p.e0)).length) : npoint_boundOf k ps = some (bd ps) := by
 unfold npoint_boundOf bd nslices_Min_int_int_
 have hlen := h.tr.len
 have hpl := h.len
 by_cases c : ps.length = 0
 ·rw [if_pos (by omega), if_pos c]
 ·have hr := h.row (i := ps.length - 1) (by omega)
  have hq := posL_len m (l.getD (ps.length - 1) default) p.e0
  have hz := hne (ps.length - 1) (by omega)
  rw [if_neg (by omega), if_neg c, w64_id (by omega) (by omega), if_pos (by omega), show ((ps.length : Int) - 1).toNat = ps.length - 1 by omega, if_neg (by omega), if_pos (by omega)]
  simp only [Int.toNat_zero]
  rw [show nslices_Min_int_int__l0_0 k (ps.getD (ps.length - 1) default) k ((ps.getD (ps.length - 1) default).getD 0 0) 1 = _ from min_l k _ (by omega) ((ps.getD (ps.length - 1) default).length - 1) k 1 _ (by omega) (by omega)]
  rfl
def clE (m : SSkyMount) (l : List SSkyTarget) (p : At2) (ps : List (List Int)) : Int × Int := if ptE m p.e0 l ps = 0 then (if okP m p.e0 [p.e1] [0] l ps = true then (bd ps, 0) else (0, 22)) else (0, ptE m p.e0 l ps)
theorem Pt.of {m : SSkyMount} {l : List SSkyTarget} {p : At2} {ps : List (List Int)} (h : Tr m l p) (hp : ptE m p.e0 l ps = 0) : Pt m l p ps := by
 unfold ptE at hp
 split at hp
 ·split at hp
  ·split at hp
   ·exact ⟨h, ‹_›, ‹_›, ‹_›⟩
   ·cases hp
  ·cases hp
 ·cases hp
theorem turns_pos {m : SSkyMount} {l : List SSkyTarget} {p : At2} (h : Tr m l p) : ∀ i, i < l.length -> 0 < (trn m (apA m (l.getD i default) p.e0)).length := by
 intro i hi
 have := (h.tgt i hi).2
 unfold stpE at this
 split at this
 ·split at this
  ·cases this
  ·omega
 ·cases this
theorem least_point (k : Nat) (hk : 100 < k) (hk2 : k <= 100000000000000000000) (m : SSkyMount) (h1 : m.Refraction.length < k) (h2 : m.Drift.length < k) (l : List SSkyTarget) (p : At2) (ps : List (List Int)) (hr : ∀ r ∈ ps, r.length <= 50) :
 npoint_CheckLeast k m l p ps = some (if (trE m l p).2 = 0 then clE m l p ps else (0, (trE m l p).2)) := by
 unfold npoint_CheckLeast
 rw [tourOf_any k hk hk2 m h1 h2, Option.bind_some]
 by_cases c : (trE m l p).2 = 0
 ·have hT := Tr.of c
  have hlen := hT.len
  simp only [if_pos c]
  rw [pot_point k hk hlen p.e1 ps hr, Option.bind_some]
  unfold clE
  by_cases c1 : ptE m p.e0 l ps = 0
  ·have hP := Pt.of hT c1
   rw [if_pos c1, if_pos c1, show npoint_CheckLeast_l0_0 k m p ps (⟨p.e1, l.map (stp m p.e0)⟩, trE m l p) k 0 = _ from least_l k hk hP (trE m l p).1 (trE m l p).2 l.length k 0 (by omega) (by omega), Option.bind_some, List.drop_zero, List.drop_zero]
   rw [show prevF m p l 0 = [p.e1] from rfl, show prevB ps 0 = [0] from rfl]
   cases okP m p.e0 [p.e1] [0] l ps with
   | false => rfl
   | true =>
     dsimp only [sumB]
     rw [bound_point k hk hP (turns_pos hT), Option.bind_some, if_pos rfl]
  ·rw [if_neg c1, if_neg c1]
 ·simp only [if_neg c]
theorem shapeR_l (k : Nat) (hk : 100 < k) {m : SSkyMount} {l : List SSkyTarget} {p : At2} (h : Tr m l p) (ps : List (List Int)) (hp : ps.length = l.length) : ∀ (d fuel i : Nat), l.length = i + d -> d < fuel ->
 nspeculumref09_CheckLeast_l0_0 k m l p ps fuel (i : Int) = some (sumB (shp m p.e0 (l.drop i) (ps.drop i))) := by
 have hlen := h.len
 intro d
 induction d with
 | zero =>
   intro fuel i hi hf
   obtain ⟨g, rfl⟩ : ∃ g, fuel = g + 1 := ⟨fuel - 1, by omega⟩
   rw [nspeculumref09_CheckLeast_l0_0.eq_2, if_neg (by omega), dropn (l) (by omega)]; rfl
 | succ d ih =>
   intro fuel i hi hf
   obtain ⟨g, rfl⟩ : ∃ g, fuel = g + 1 := ⟨fuel - 1, by omega⟩
   obtain ⟨ht, hs⟩ := h.tgt i (by omega)
   rw [nspeculumref09_CheckLeast_l0_0.eq_2, if_pos (by omega), if_pos (by omega), w64_succ (by omega), ih g (i + 1) (by omega) (by omega), drop_get (y := l) (i := i) (by omega) default, drop_get (y := ps) (i := i) (by omega) default]
   simp only [Int.toNat_natCast]
   rw [turns_ref k hk h.mnt ht h.day, Option.bind_some, if_pos hs, if_pos (by omega)]
   simp only [shp]
   by_cases c : (ps.getD i default).length = (trn m (apA m (l.getD i default) p.e0)).length
   ·rw [if_pos (by omega), decide_eq_true c]; rfl
   ·rw [if_neg (by omega), decide_eq_false c]; rfl
theorem smallR_l2 (k : Nat) (m : SSkyMount) (l : List SSkyTarget) (p : At2) (ps : List (List Int)) (n : Nat) (hn : n < ps.length) (hl : (ps.getD n default).length <= 50) : ∀ (d fuel i : Nat), (ps.getD n default).length = i + d -> d < fuel ->
 nspeculumref09_CheckLeast_l2_0 k m l p ps (n : Int) fuel (i : Int) = some (sumB (((ps.getD n default).drop i).all (inR (-1000000000000) 1000000000000))) := by
 intro d
 induction d with
 | zero =>
   intro fuel i h hf
   obtain ⟨g, rfl⟩ : ∃ g, fuel = g + 1 := ⟨fuel - 1, by omega⟩
   rw [nspeculumref09_CheckLeast_l2_0.eq_2, if_pos (by omega)]
   simp only [Int.toNat_natCast]
   rw [if_neg (by omega), List.drop_eq_nil_of_le (by omega)]; rfl
 | succ d ih =>
   intro fuel i h hf
   obtain ⟨g, rfl⟩ : ∃ g, fuel = g + 1 := ⟨fuel - 1, by omega⟩
   rw [nspeculumref09_CheckLeast_l2_0.eq_2, if_pos (by omega), w64_succ (by omega), ih g (i + 1) (by omega) (by omega)]
   simp only [Int.toNat_natCast]
   rw [if_pos (by omega), if_pos (by omega), within_base, Option.bind_some, drop_get (y := ps.getD n default) (i := i) (by omega) 0, List.all_cons]
   cases inR (-1000000000000) 1000000000000 ((ps.getD n default).getD i 0) <;> rfl
theorem smallR_l1 (k : Nat) (hk : 100 < k) (m : SSkyMount) (l : List SSkyTarget) (p : At2) (ps : List (List Int)) (hp : ps.length = l.length) (hlen : l.length <= 20) (hr : ∀ r ∈ ps, r.length <= 50) : ∀ (d fuel i : Nat), l.length = i + d -> d < fuel ->
 nspeculumref09_CheckLeast_l1_0 k m l p ps fuel (i : Int) = some (sumB (smallP (ps.drop i))) := by
 intro d
 induction d with
 | zero =>
   intro fuel i h hf
   obtain ⟨g, rfl⟩ : ∃ g, fuel = g + 1 := ⟨fuel - 1, by omega⟩
   rw [nspeculumref09_CheckLeast_l1_0.eq_2, if_neg (by omega), List.drop_eq_nil_of_le (by omega)]; rfl
 | succ d ih =>
   intro fuel i h hf
   obtain ⟨g, rfl⟩ : ∃ g, fuel = g + 1 := ⟨fuel - 1, by omega⟩
   have hri : (ps.getD i default).length <= 50 := hr _ (by rw [List.getD_eq_getElem?_getD, List.getElem?_eq_getElem (by omega)]; exact List.getElem_mem _)
   rw [nspeculumref09_CheckLeast_l1_0.eq_2, if_pos (by omega), show nspeculumref09_CheckLeast_l2_0 k m l p ps (i : Int) k 0 = _ from smallR_l2 k m l p ps i (by omega) hri (ps.getD i default).length k 0 (by omega) (by omega), List.drop_zero, Option.bind_some, w64_succ (by omega), ih g (i + 1) (by omega) (by omega), drop_get (y := ps) (i := i) (by omega) default]
   unfold smallP
   rw [List.all_cons]
   cases (ps.getD i default).all (inR (-1000000000000) 1000000000000) <;> rfl
theorem posL_get {m : SSkyMount} {t : SSkyTarget} {d : Int} {i : Nat} (h : i < (trn m (apA m t d)).length) : (posL m t d).getD i 0 = pos m t d ((trn m (apA m t d)).getD i 0) := by
 unfold posL
 rw [List.getD_eq_getElem?_getD, List.getElem?_map, List.getElem?_eq_getElem h, List.getD_eq_getElem?_getD, List.getElem?_eq_getElem h]; rfl
theorem mem_get {xs : List Int} {i : Nat} (h : i < xs.length) : xs.getD i 0 ∈ xs := by
 rw [List.getD_eq_getElem?_getD, List.getElem?_eq_getElem h]; exact List.getElem_mem _
theorem pr_l5 (k : Nat) (hk : 100 < k) {m : SSkyMount} {l : List SSkyTarget} {p : At2} {ps : List (List Int)} (h : Pt m l p ps) (n : Nat) (hn : n + 1 < l.length) (r1 : List Int × Int) (i : Nat) (hi : i < (ps.getD (n + 1) default).length) (to : Int) (ht : near to) (e : Int) : ∀ (d fuel j : Nat), (trn m (apA m (l.getD n default) p.e0)).length = j + d -> d < fuel ->
 nspeculumref09_CheckLeast_l5_0 k m l p ps ((n + 1 : Nat) : Int) r1 (i : Int) to (trn m (apA m (l.getD n default) p.e0), e) fuel (j : Int) = some (sumB (allB to ((ps.getD (n + 1) default).getD i 0) ((posL m (l.getD n default) p.e0).drop j) ((ps.getD n default).drop j))) := by
 have hlen := h.tr.len
 have hpl := h.len
 have hrow := h.row (i := n) (by omega)
 have hpo := posL_len m (l.getD n default) p.e0
 have hw : w64 (((n + 1 : Nat) : Int) - 1) = (n : Int) := by rw [w64_id (by omega) (by omega)]; omega
 have hb := small_get h.small (i := n) (by omega)
 obtain ⟨htg, _⟩ := h.tr.tgt n (by omega)
 intro d
 induction d with
 | zero =>
   intro fuel j hj hf
   obtain ⟨g, rfl⟩ : ∃ g, fuel = g + 1 := ⟨fuel - 1, by omega⟩
   rw [nspeculumref09_CheckLeast_l5_0.eq_2]
   dsimp only
   rw [if_neg (by omega), dropn (posL m (l.getD n default) p.e0) (by omega)]; rfl
 | succ d ih =>
   intro fuel j hj hf
   obtain ⟨g, rfl⟩ : ∃ g, fuel = g + 1 := ⟨fuel - 1, by omega⟩
   have hm := mem_get (xs := trn m (apA m (l.getD n default) p.e0)) (i := j) (by omega)
   have hq := pos_near h.tr.mnt hm
   have hc := cst_bd hq ht
   have hbj := hb ((ps.getD n default).getD j 0) (mem_get' (by omega))
   rw [nspeculumref09_CheckLeast_l5_0.eq_2, hw]
   simp only [Int.toNat_natCast]
   rw [if_pos (by omega), if_pos (by omega), if_pos (by omega), if_pos (by omega), if_pos (by omega), if_pos (by omega), if_pos (by omega), position_ref k hk h.tr.mnt htg h.tr.day hm, Option.bind_some, cost_ref k hq.small ht.small, Option.bind_some]
   have e9 : w64 ((ps.getD n default).getD j 0 + cst (pos m (l.getD n default) p.e0 ((trn m (apA m (l.getD n default) p.e0)).getD j 0)) to) = (ps.getD n default).getD j 0 + cst (pos m (l.getD n default) p.e0 ((trn m (apA m (l.getD n default) p.e0)).getD j 0)) to := w64_id (by omega) (by omega)
   simp only [e9]
   rw [w64_succ (by omega), ih g (j + 1) (by omega) (by omega), drop_get (y := posL m (l.getD n default) p.e0) (i := j) (by omega) 0, drop_get (y := ps.getD n default) (i := j) (by omega) 0, posL_get (by omega)]
   simp only [allB]
   by_cases c : (ps.getD n default).getD j 0 + cst (pos m (l.getD n default) p.e0 ((trn m (apA m (l.getD n default) p.e0)).getD j 0)) to < (ps.getD (n + 1) default).getD i 0
   ·rw [if_pos c, decide_eq_false (by omega)]; rfl
   ·rw [if_neg c, decide_eq_true (by omega)]; rfl
theorem hg_dec {to v : Int} (hv : v <= MAXI) (fs bs : List Int) : decide (v <= hg to MAXI fs bs) = allB to v fs bs := by
 cases h : allB to v fs bs with
 | true => exact decide_eq_true ((hg_le to v fs bs MAXI).2 ⟨hv, h⟩)
 | false => exact decide_eq_false (fun h2 => by rw [((hg_le to v fs bs MAXI).1 h2).2] at h; cases h)
theorem pr_l4 (k : Nat) (hk : 100 < k) {m : SSkyMount} {l : List SSkyTarget} {p : At2} {ps : List (List Int)} (h : Pt m l p ps) (n : Nat) (hn : n < l.length) (e : Int) : ∀ (d fuel i : Nat), (trn m (apA m (l.getD n default) p.e0)).length = i + d -> d < fuel ->
 nspeculumref09_CheckLeast_l4_0 k m l p ps (n : Int) (trn m (apA m (l.getD n default) p.e0), e) fuel (i : Int) = some (sumB (rowB (((posL m (l.getD n default) p.e0).drop i).map fun to => hg to MAXI (prevF m p l n) (prevB ps n)) ((ps.getD n default).drop i))) := by
 have hlen := h.tr.len
 have hpl := h.len
 have hrow := h.row (i := n) hn
 have hpo := posL_len m (l.getD n default) p.e0
 have hb := small_get h.small (i := n) (by omega)
 obtain ⟨htg, _⟩ := h.tr.tgt n hn
 intro d
 induction d with
 | zero =>
   intro fuel i hj hf
   obtain ⟨g, rfl⟩ : ∃ g, fuel = g + 1 := ⟨fuel - 1, by omega⟩
   rw [nspeculumref09_CheckLeast_l4_0.eq_2]
   dsimp only
   rw [if_neg (by omega), dropn (posL m (l.getD n default) p.e0) (by omega)]; rfl
 | succ d ih =>
   intro fuel i hj hf
   obtain ⟨g, rfl⟩ : ∃ g, fuel = g + 1 := ⟨fuel - 1, by omega⟩
   have hm := mem_get (xs := trn m (apA m (l.getD n default) p.e0)) (i := i) (by omega)
   have hq := pos_near h.tr.mnt hm
   have hbi := hb ((ps.getD n default).getD i 0) (mem_get' (by omega))
   rw [nspeculumref09_CheckLeast_l4_0.eq_2]
   simp only [Int.toNat_natCast]
   rw [if_pos (by omega), if_pos (by omega), if_pos (by omega), position_ref k hk h.tr.mnt htg h.tr.day hm, Option.bind_some, w64_succ (by omega), ih g (i + 1) (by omega) (by omega), drop_get (y := posL m (l.getD n default) p.e0) (i := i) (by omega) 0, drop_get (y := ps.getD n default) (i := i) (by omega) 0, posL_get (by omega)]
   simp only [List.map_cons, rowB]
   rw [hg_dec (by show _ <= (9223372036854775807 : Int); omega)]
   by_cases c0 : n = 0
   ·subst c0
    rw [if_pos (by omega), if_pos (by omega)]
    simp only [Int.toNat_zero]
    rw [if_pos (by omega), cost_ref k (beg_near h.tr).small hq.small, Option.bind_some, show prevF m p l 0 = [p.e1] from rfl, show prevB ps 0 = [0] from rfl]
    simp only [allB, Bool.and_true, Int.zero_add]
    by_cases c : cst p.e1 (pos m (l.getD 0 default) p.e0 ((trn m (apA m (l.getD 0 default) p.e0)).getD i 0)) < (ps.getD 0 default).getD i 0
    ·rw [if_pos c, decide_eq_false (by omega)]; rfl
    ·rw [if_neg c, decide_eq_true (by omega)]; rfl
   ·obtain ⟨n', rfl⟩ : ∃ n', n = n' + 1 := ⟨n - 1, by omega⟩
    obtain ⟨htg', hs'⟩ := h.tr.tgt n' (by omega)
    have hlt := trn_len m (apA m (l.getD n' default) p.e0)
    rw [if_neg (by omega), w64_id (n := ((n' + 1 : Nat) : Int) - 1) (by omega) (by omega), if_pos (by omega), show (((n' + 1 : Nat) : Int) - 1).toNat = n' by omega, turns_ref k hk h.tr.mnt htg' h.tr.day, Option.bind_some, if_pos hs', show nspeculumref09_CheckLeast_l5_0 k m l p ps ((n' + 1 : Nat) : Int) (trn m (apA m (l.getD (n' + 1) default) p.e0), e) (i : Int) _ (trn m (apA m (l.getD n' default) p.e0), 0) k 0 = _ from pr_l5 k hk h n' (by omega) _ i (by omega) _ hq 0 (trn m (apA m (l.getD n' default) p.e0)).length k 0 (by omega) (by omega), Option.bind_some, List.drop_zero, List.drop_zero, prevF_succ, prevB_succ]
    cases allB (pos m (l.getD (n' + 1) default) p.e0 ((trn m (apA m (l.getD (n' + 1) default) p.e0)).getD i 0)) ((ps.getD (n' + 1) default).getD i 0) (posL m (l.getD n' default) p.e0) (ps.getD n' default) <;> rfl
theorem pr_l3 (k : Nat) (hk : 100 < k) {m : SSkyMount} {l : List SSkyTarget} {p : At2} {ps : List (List Int)} (h : Pt m l p ps) : ∀ (d fuel n : Nat), l.length = n + d -> d < fuel ->
 nspeculumref09_CheckLeast_l3_0 k m l p ps fuel (n : Int) = some (sumB (okP m p.e0 (prevF m p l n) (prevB ps n) (l.drop n) (ps.drop n))) := by
 have hlen := h.tr.len
 have hpl := h.len
 intro d
 induction d with
 | zero =>
   intro fuel n hh hf
   obtain ⟨g, rfl⟩ : ∃ g, fuel = g + 1 := ⟨fuel - 1, by omega⟩
   rw [nspeculumref09_CheckLeast_l3_0.eq_2, if_neg (by omega), dropn (l) (by omega)]
   simp [okP, sumB]
 | succ d ih =>
   intro fuel n hh hf
   obtain ⟨g, rfl⟩ : ∃ g, fuel = g + 1 := ⟨fuel - 1, by omega⟩
   obtain ⟨htg, hs⟩ := h.tr.tgt n (by omega)
   have hlt := trn_len m (apA m (l.getD n default) p.e0)
   rw [nspeculumref09_CheckLeast_l3_0.eq_2, if_pos (by omega), if_pos (by omega)]
   simp only [Int.toNat_natCast]
   rw [turns_ref k hk h.tr.mnt htg h.tr.day, Option.bind_some, if_pos hs, show nspeculumref09_CheckLeast_l4_0 k m l p ps (n : Int) (trn m (apA m (l.getD n default) p.e0), 0) k 0 = _ from pr_l4 k hk h n (by omega) 0 (trn m (apA m (l.getD n default) p.e0)).length k 0 (by omega) (by omega), Option.bind_some, List.drop_zero, List.drop_zero, w64_succ (by omega), ih g (n + 1) (by omega) (by omega), drop_get (y := l) (i := n) (by omega) default, drop_get (y := ps) (i := n) (by omega) default, prevF_succ, prevB_succ]
   simp only [okP]
   cases rowB ((posL m (l.getD n default) p.e0).map fun to => hg to MAXI (prevF m p l n) (prevB ps n)) (ps.getD n default) <;> rfl
theorem least_ref (k : Nat) (hk : 100 < k) {m : SSkyMount} {l : List SSkyTarget} {p : At2} (h : Tr m l p) (ps : List (List Int)) (hr : ∀ r ∈ ps, r.length <= 50) : nspeculumref09_CheckLeast k m l p ps = some (clE m l p ps) := by
 unfold nspeculumref09_CheckLeast clE
 have hlen := h.len
 by_cases c : ps.length = l.length
 ·rw [if_pos (by simp [c]), show nspeculumref09_CheckLeast_l0_0 k m l p ps k 0 = _ from shapeR_l k hk h ps c l.length k 0 (by omega) (by omega), List.drop_zero, List.drop_zero, Option.bind_some]
  cases c1 : shp m p.e0 l ps with
  | false =>
    have e : ptE m p.e0 l ps = 10 := by unfold ptE; rw [if_pos c, if_neg (by rw [c1]; decide)]
    rw [e]; rfl
  | true =>
    dsimp only [sumB]
    rw [show nspeculumref09_CheckLeast_l1_0 k m l p ps k 0 = _ from smallR_l1 k hk m l p ps c hlen hr l.length k 0 (by omega) (by omega), List.drop_zero, Option.bind_some]
    cases c2 : smallP ps with
    | false =>
      have e : ptE m p.e0 l ps = 2 := by unfold ptE; rw [if_pos c, if_pos c1, if_neg (by rw [c2]; decide)]
      rw [e]; rfl
    | true =>
      have e : ptE m p.e0 l ps = 0 := by unfold ptE; rw [if_pos c, if_pos c1, if_pos c2]
      have hP : Pt m l p ps := ⟨h, c, c1, c2⟩
      dsimp only [sumB]
      rw [if_pos e, show nspeculumref09_CheckLeast_l3_0 k m l p ps k 0 = _ from pr_l3 k hk hP l.length k 0 (by omega) (by omega), List.drop_zero, List.drop_zero, Option.bind_some, show prevF m p l 0 = [p.e1] from rfl, show prevB ps 0 = [0] from rfl]
      cases okP m p.e0 [p.e1] [0] l ps with
      | false => rfl
      | true =>
        dsimp only [sumB]
        rw [if_pos rfl]
        unfold bd
        by_cases c3 : l.length = 0
        ·rw [if_pos (by omega), if_pos (by omega)]
        ·have hrw := hP.row (i := ps.length - 1) (by omega)
         have hq := posL_len m (l.getD (ps.length - 1) default) p.e0
         have hz := turns_pos h (ps.length - 1) (by omega)
         unfold nspeculumref09_least
         rw [if_neg (show ¬(l.length : Int) = 0 by omega), if_neg (show ¬ps.length = 0 by omega), w64_id (by omega) (by omega), if_pos (by omega), show ((ps.length : Int) - 1).toNat = ps.length - 1 by omega, if_pos (by omega)]
         simp only [Int.toNat_zero]
         rw [show nspeculumref09_least_l0_0 k (ps.getD (ps.length - 1) default) k ((ps.getD (ps.length - 1) default).getD 0 0) 1 = _ from minR_l k _ (by omega) ((ps.getD (ps.length - 1) default).length - 1) k 1 _ (by omega) (by omega)]
         rfl
 ·have e : ptE m p.e0 l ps = 10 := by unfold ptE; rw [if_neg c]
  rw [if_neg (by omega), e]; rfl
theorem row_le : ∀ (hs vs : List Int) (i : Nat), rowB hs vs = true -> i < hs.length -> i < vs.length -> vs.getD i 0 <= hs.getD i 0
 | [], vs, i, _, h, _ => by simp at h
 | h :: hs, [], i, _, _, h2 => by simp at h2
 | h :: hs, v :: vs, i, hb, h1, h2 => by
   simp only [rowB, Bool.and_eq_true, decide_eq_true_iff] at hb
   cases i with
   | zero => exact hb.1
   | succ i => exact row_le hs vs i hb.2 (by simpa using h1) (by simpa using h2)
theorem zip_get {fs bs : List Int} {i : Nat} (h1 : i < fs.length) (h2 : i < bs.length) : (fs.getD i 0, bs.getD i 0) ∈ fs.zip bs := by
 rw [List.mem_iff_getElem?]
 refine ⟨i, ?_⟩
 rw [List.getElem?_zip_eq_some]
 constructor
 ·show fs[i]? = some (fs.getD i 0)
  rw [List.getD_eq_getElem?_getD, List.getElem?_eq_getElem h1]; rfl
 ·show bs[i]? = some (bs.getD i 0)
  rw [List.getD_eq_getElem?_getD, List.getElem?_eq_getElem h2]; rfl
theorem dual {m : SSkyMount} {d : Int} : ∀ (l : List SSkyTarget) (ps : List (List Int)) (xs qs fs bs : List Int) (f b : Int), l ≠ [] -> ps.length = l.length -> shp m d l ps = true -> okP m d fs bs l ps = true -> (f, b) ∈ fs.zip bs -> chL m d l xs = some qs ->
 ∃ v ∈ ps.getD (ps.length - 1) default, v <= b + sumC f qs
 | [], _, _, _, _, _, _, _, h, _, _, _, _, _ => absurd rfl h
 | t :: l, [], _, _, _, _, _, _, _, h, _, _, _, _ => by simp at h
 | t :: l, r :: rs, [], qs, fs, bs, f, b, _, _, _, _, _, hc => by simp [chL] at hc
 | t :: l, r :: rs, x :: xs, qs, fs, bs, f, b, _, hlen, hs, ho, hz, hc => by
   simp only [shp, Bool.and_eq_true, decide_eq_true_iff] at hs
   simp only [okP, Bool.and_eq_true] at ho
   simp only [chL] at hc
   split at hc
   case isFalse => cases hc
   rename_i hx
   cases hq : chL m d l xs with
   | none => rw [hq] at hc; cases hc
   | some qs' =>
     rw [hq] at hc
     simp only [Option.map_some, Option.some.injEq] at hc
     subst hc
     obtain ⟨i, hi, hxi⟩ := List.mem_iff_getElem.1 hx
     have hxi' : (trn m (apA m t d)).getD i 0 = x := by rw [List.getD_eq_getElem?_getD, List.getElem?_eq_getElem hi]; exact hxi
     have hpi : (posL m t d).getD i 0 = pos m t d x := by rw [posL_get hi, hxi']
     have hpl := posL_len m t d
     have hv := row_le _ r i ho.1 (by rw [List.length_map]; omega) (by omega)
     rw [show ((posL m t d).map fun to => hg to MAXI fs bs).getD i 0 = hg (pos m t d x) MAXI fs bs by
      rw [List.getD_eq_getElem?_getD, List.getElem?_map, List.getElem?_eq_getElem (by omega)]
      rw [List.getD_eq_getElem?_getD, List.getElem?_eq_getElem (by omega)] at hpi
      show hg ((posL m t d)[i]) MAXI fs bs = _
      rw [show (posL m t d)[i] = pos m t d x from hpi]] at hv
     have hg1 := hg_mem (pos m t d x) fs bs MAXI f b hz
     by_cases c : l = []
     ·subst c
      have : rs = [] := by cases rs with | nil => rfl | cons a b => simp at hlen
      subst this
      simp only [chL, Option.some.injEq] at hq
      subst hq
      refine ⟨r.getD i 0, show r.getD i 0 ∈ r from mem_get' (by omega), ?_⟩
      simp only [sumC]; omega
     ·have hl2 : rs.length = l.length := by simpa using hlen
      obtain ⟨v, h1, h2⟩ := dual l rs xs qs' (posL m t d) r (pos m t d x) (r.getD i 0) c hl2 hs.2 ho.2 (by rw [<- hpi]; exact zip_get (by omega) (by omega)) hq
      have hne : 0 < rs.length := by rw [hl2]; exact List.length_pos_iff.2 c
      refine ⟨v, ?_, ?_⟩
      ·rw [List.length_cons, show rs.length + 1 - 1 = (rs.length - 1) + 1 by omega]; exact h1
      ·simp only [sumC]; omega
theorem bound_le {m : SSkyMount} {l : List SSkyTarget} {p : At2} {xs : List Int} {ps : List (List Int)} (h1 : (chE m l p xs).2 = 0) (h2 : (clE m l p ps).2 = 0) : (clE m l p ps).1 <= (chE m l p xs).1 := by
 unfold chE at h1 ⊢
 unfold clE at h2 ⊢
 split at h1
 case isFalse => cases h1
 rename_i hx
 cases hc : chL m p.e0 l xs with
 | none => rw [hc] at h1; cases h1
 | some qs =>
   rw [if_pos hx]
   split at h2
   case isFalse hn => exact absurd h2 hn
   rename_i hp
   split at h2
   case isFalse => cases h2
   rename_i ho
   rw [if_pos hp, if_pos ho]
   unfold ptE at hp
   split at hp
   case isFalse => cases hp
   rename_i hlen
   split at hp
   case isFalse => cases hp
   rename_i hs
   show bd ps <= sumC p.e1 qs
   unfold bd
   by_cases c : ps.length = 0
   ·rw [if_pos c]
    have : l = [] := List.length_eq_zero_iff.1 (by omega)
    subst this
    simp only [chL, Option.some.injEq] at hc
    subst hc
    exact Int.le_refl _
   ·rw [if_neg c]
    obtain ⟨v, g1, g2⟩ := dual l ps xs qs [p.e1] [0] p.e1 0 (fun e => c (by rw [hlen, e]; rfl)) hlen hs ho (by simp) hc
    have hle : mnF ((ps.getD (ps.length - 1) default).getD 0 0) ((ps.getD (ps.length - 1) default).drop 1) <= v := by
     obtain ⟨k1, k2⟩ := mnF_le ((ps.getD (ps.length - 1) default).drop 1) ((ps.getD (ps.length - 1) default).getD 0 0)
     generalize ps.getD (ps.length - 1) default = r at g1 k1 k2
     cases r with
     | nil => cases g1
     | cons a r =>
       rcases List.mem_cons.1 g1 with rfl | g1
       ·exact k1
       ·exact k2 v g1
    omega
theorem copy_any (k : Nat) (xs : List Int) (h : xs.length <= 1000) : nspeculumbase_CopyInts k xs = some xs := by
 unfold nspeculumbase_CopyInts
 rw [if_pos (by simp; omega)]; rfl
theorem copies_l (k : Nat) (ps : List (List Int)) (hp : ps.length <= 1000) (hr : ∀ r ∈ ps, r.length <= 1000) : ∀ (d fuel i : Nat) (y : List (List Int)), ps.length = i + d -> d < fuel -> y.length = i ->
 nspeculumbase_CopyLists_l0_0 k ps fuel y (i : Int) = some (y ++ ps.drop i) := by
 intro d
 induction d with
 | zero =>
   intro fuel i y h hf hy
   obtain ⟨g, rfl⟩ : ∃ g, fuel = g + 1 := ⟨fuel - 1, by omega⟩
   rw [nspeculumbase_CopyLists_l0_0.eq_2, if_neg (by omega), List.drop_eq_nil_of_le (by omega)]; simp
 | succ d ih =>
   intro fuel i y h hf hy
   obtain ⟨g, rfl⟩ : ∃ g, fuel = g + 1 := ⟨fuel - 1, by omega⟩
   rw [nspeculumbase_CopyLists_l0_0.eq_2, if_pos (by omega), if_pos (by omega)]
   simp only [Int.toNat_natCast]
   rw [copy_any k _ (hr _ (by rw [List.getD_eq_getElem?_getD, List.getElem?_eq_getElem (by omega)]; exact List.getElem_mem _)), Option.bind_some, if_pos (by simp; omega), w64_succ (by omega), ih g (i + 1) _ (by omega) (by omega) (by simp; omega), drop_get (y := ps) (i := i) (by omega) default]
   simp
theorem fifty_l (k : Nat) (x : STour) (xs : List Int) (ps : List (List Int)) (hp : ps.length <= 8) : ∀ (d fuel i : Nat), ps.length = i + d -> d < fuel ->
 nspeculumlaw09_PointChoices_l0_0 k x xs ps fuel (i : Int) = some (sumB ((ps.drop i).all fun r => decide (r.length <= 50))) := by
 intro d
 induction d with
 | zero =>
   intro fuel i h hf
   obtain ⟨g, rfl⟩ : ∃ g, fuel = g + 1 := ⟨fuel - 1, by omega⟩
   rw [nspeculumlaw09_PointChoices_l0_0.eq_2, if_neg (by omega), List.drop_eq_nil_of_le (by omega)]; rfl
 | succ d ih =>
   intro fuel i h hf
   obtain ⟨g, rfl⟩ : ∃ g, fuel = g + 1 := ⟨fuel - 1, by omega⟩
   rw [nspeculumlaw09_PointChoices_l0_0.eq_2, if_pos (by omega), if_pos (by omega), w64_succ (by omega), ih g (i + 1) (by omega) (by omega), drop_get (y := ps) (i := i) (by omega) default]
   simp only [Int.toNat_natCast, List.all_cons]
   by_cases c : 50 < ((ps.getD i default).length : Int)
   ·rw [if_pos c, decide_eq_false (by omega)]; rfl
   ·rw [if_neg c, decide_eq_true (by omega)]; rfl
theorem law_choices (k : Nat) (x : STour) (xs : List Int) (ps : List (List Int)) (hx : x.Targets.length <= 9223372036854775807) (hk : k = x.Targets.length + 1000) : nspeculumlaw09_PointChoices k x xs ps = some true := by
 unfold nspeculumlaw09_PointChoices
 rw [show nawake k = some true from rfl, Option.bind_some, if_pos rfl, short_any _ x (by omega) hx, Option.bind_some]
 cases h : shortB x with
 | false => rfl
 | true =>
   obtain ⟨a, b, c⟩ := short_facts h
   rw [if_pos rfl]
   by_cases hxs : 8 < (xs.length : Int)
   ·rw [if_pos hxs]
   rw [if_neg hxs]
   by_cases hps : 8 < (ps.length : Int)
   ·rw [if_pos hps]
   rw [if_neg hps, show nspeculumlaw09_PointChoices_l0_0 k x xs ps k 0 = _ from fifty_l k x xs ps (by omega) ps.length k 0 (by omega) (by omega), List.drop_zero, Option.bind_some]
   cases hf : ps.all fun r => decide (r.length <= 50) with
   | false => rfl
   | true =>
     have hr : ∀ r ∈ ps, r.length <= 50 := fun r hr => of_decide_eq_true (List.all_eq_true.1 hf r hr)
     have hcp := copies_l k ps (by omega) (fun r h => by have := hr r h; omega) ps.length k 0 [] (by omega) (by omega) rfl
     rw [List.nil_append, List.drop_zero] at hcp
     dsimp only [sumB]
     unfold nspeculumbase_CopyLists
     rw [mount_copy _ _ a b, Option.bind_some, targets_copy _ _ (by omega), Option.bind_some, copy_any k xs (by omega), Option.bind_some, choice_point k (by omega) (by omega) x.Mount (by omega) (by omega) x.Targets x.At xs (by omega), Option.bind_some, show nspeculumbase_CopyLists_l0_0 k ps k [] 0 = _ from hcp, Option.bind_some, Option.bind_some, least_point k (by omega) (by omega) x.Mount (by omega) (by omega) x.Targets x.At ps hr, Option.bind_some, tour_ref k (by omega) (by omega) x.Mount (by omega) (by omega), Option.bind_some]
     by_cases c1 : (trE x.Mount x.Targets x.At).2 = 0
     ·have hT := Tr.of c1
      simp only [if_pos c1]
      rw [choice_ref k (by omega) hT, Option.bind_some, least_ref k (by omega) hT ps hr, Option.bind_some, if_pos rfl, if_pos rfl, if_pos rfl, if_pos rfl]
      by_cases c2 : (chE x.Mount x.Targets x.At xs).2 = 0
      ·rw [if_pos c2]
       by_cases c3 : (clE x.Mount x.Targets x.At ps).2 = 0
       ·rw [if_pos c3, decide_eq_true (bound_le c2 c3)]
       ·rw [if_neg c3]
      ·rw [if_neg c2]
     ·simp only [if_neg c1]
      rfl
theorem vc_choices (x : STour) (xs : List Int) (ps : List (List Int)) (hx : x.Targets.length <= 9223372036854775807) : VC Go.Proofs.Try.prog 12 [VV.ag (c_STour x), VV.tr (xs.map vi) xs.length, VV.tr (ps.map v_41) ps.length] (vb true) := nspeculumlaw09_PointChoices_ok _ _ _ _ _ (law_choices _ x xs ps hx rfl)
end Go.Proofs.Ytlhnkehohknhbaa.Vg
