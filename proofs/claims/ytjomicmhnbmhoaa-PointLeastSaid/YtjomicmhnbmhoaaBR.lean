import Derived.Test.YtjomicmhnbmhoaaPH
set_option linter.unusedVariables false
set_option linter.unusedSimpArgs false
namespace Go.Proofs.Ytjomicmhnbmhoaa.Vg
open Go Go.Proofs.Ytjomicmhnbmhoaa.Ev Go.Proofs.Ytjomicmhnbmhoaa.Vv
def potR (m : Qc) (d : Int) : List Int -> List Int -> List Qa -> List (List Int)
 | _, _, [] => []
 | fs, bs, t :: l => ((posL m t d).map fun to => hg to MAXI fs bs) :: potR m d (posL m t d) ((posL m t d).map fun to => hg to MAXI fs bs) l
theorem Qv0 (m : Qc) (d : Int) : ∀ (l : List Qa) (fs bs : List Int), (potR m d fs bs l).length = l.length
 | [], _, _ => rfl
 | t :: l, fs, bs => by simp only [potR, List.length_cons]; rw [Qv0 m d l]
theorem Qv1 (m : Qc) (d : Int) : ∀ (l : List Qa) (fs bs : List Int), shp m d l (potR m d fs bs l) = true
 | [], _, _ => rfl
 | t :: l, fs, bs => by
   simp only [potR, shp, Bool.and_eq_true, decide_eq_true_iff]
   exact ⟨by rw [List.length_map, Qha], Qv1 m d l _ _⟩
theorem Qs6 : ∀ r : List Int, rowB r r = true
 | [] => rfl
 | a :: r => by simp only [rowB, Bool.and_eq_true, decide_eq_true_iff]; exact ⟨Int.le_refl _, Qs6 r⟩
theorem Qz1 (m : Qc) (d : Int) : ∀ (l : List Qa) (fs bs : List Int), okP m d fs bs l (potR m d fs bs l) = true
 | [], fs, bs => by simp [potR, okP]
 | t :: l, fs, bs => by
   simp only [potR, okP, Bool.and_eq_true]
   exact ⟨Qs6 _, Qz1 m d l _ _⟩
theorem Qv2 (m : Qc) (d : Int) : ∀ (l : List Qa) (fs bs : List Int) (n : Nat), n < l.length -> (potR m d fs bs l).getD n default =
 (posL m (l.getD n default) d).map fun to => hg to MAXI (if n = 0 then fs else posL m (l.getD (n - 1) default) d) (if n = 0 then bs else (potR m d fs bs l).getD (n - 1) default)
 | [], fs, bs, n, h => by simp at h
 | t :: l, fs, bs, 0, h => rfl
 | t :: l, fs, bs, n + 1, h => by
   have ih := Qv2 m d l (posL m t d) ((posL m t d).map fun to => hg to MAXI fs bs) n (by simpa using h)
   rw [show (potR m d fs bs (t :: l)).getD (n + 1) default = (potR m d (posL m t d) ((posL m t d).map fun to => hg to MAXI fs bs) l).getD n default from rfl, ih]
   simp only [if_neg (show ¬(n + 1 = 0) by omega), Nat.add_sub_cancel]
   cases n with
   | zero => rfl
   | succ n =>
     simp only [if_neg (show ¬(n + 1 = 0) by omega), Nat.add_sub_cancel]
     rfl
theorem Q24 (to : Int) : ∀ (fs bs : List Int) (acc : Int), hg to acc fs bs = acc \/ ∃ f b, (f, b) ∈ fs.zip bs /\ hg to acc fs bs = b + cst f to
 | [], bs, acc => .inl (by simp [hg])
 | f :: fs, [], acc => .inl (by simp [hg])
 | f :: fs, b :: bs, acc => by
   simp only [hg]
   rcases Q24 to fs bs (minI acc (b + cst f to)) with h | ⟨f', b', h1, h2⟩
   ·have e : minI acc (b + cst f to) = acc \/ minI acc (b + cst f to) = b + cst f to := by unfold minI; split <;> simp
    rcases e with e | e
    ·left; rw [h, e]
    ·right; exact ⟨f, b, by simp, by rw [h, e]⟩
   ·right; exact ⟨f', b', by simp [h1], h2⟩
theorem Q64 {fs bs : List Int} {f b : Int} (h : (f, b) ∈ fs.zip bs) : ∃ i, i < fs.length /\ i < bs.length /\ f = fs.getD i 0 /\ b = bs.getD i 0 := by
 obtain ⟨i, hi, he⟩ := List.mem_iff_getElem.1 h
 rw [List.length_zip] at hi
 rw [List.getElem_zip] at he
 injection he with e1 e2
 exact ⟨i, by omega, by omega, by rw [List.getD_eq_getElem?_getD, List.getElem?_eq_getElem (by omega)]; exact e1.symm, by rw [List.getD_eq_getElem?_getD, List.getElem?_eq_getElem (by omega)]; exact e2.symm⟩
theorem Q65 {to B : Int} (ht : near to) {fs bs : List Int} (hl : fs.length = bs.length) (hne : 0 < fs.length) (hf : ∀ f ∈ fs, near f) (hb : ∀ b ∈ bs, 0 <= b /\ b <= B) (hB : B <= 1000000000000) :
 (∃ i, i < fs.length /\ hg to MAXI fs bs = bs.getD i 0 + cst (fs.getD i 0) to) /\ 0 <= hg to MAXI fs bs /\ hg to MAXI fs bs <= B + 11000000000 := by
 have h0 := Q2t to fs bs MAXI _ _ (Qy6 (fs := fs) (bs := bs) (i := 0) hne (by omega))
 have c0 := Ql3 (Qgd hf hne) ht
 have b0 := hb _ (Qgh (xs := bs) (i := 0) (by omega))
 rcases Q24 to fs bs MAXI with h | ⟨f, b, h1, h2⟩
 ·exfalso; rw [h] at h0; unfold MAXI at h0; omega
 ·obtain ⟨i, i1, i2, rfl, rfl⟩ := Q64 h1
  have c1 := Ql3 (Qgd hf i1) ht
  have b1 := hb _ (Qgh (xs := bs) i2)
  exact ⟨⟨i, i1, h2⟩, by omega, by omega⟩
theorem Qqm {m : Qc} (hm : Mnt m) (d : Int) : ∀ (l : List Qa) (fs bs : List Int) (B : Int), (∀ t ∈ l, 0 < (posL m t d).length) -> fs.length = bs.length -> 0 < fs.length -> (∀ f ∈ fs, near f) -> (∀ b ∈ bs, 0 <= b /\ b <= B) -> B + 11000000000 * l.length <= 1000000000000 ->
 ∀ r ∈ potR m d fs bs l, ∀ b ∈ r, 0 <= b /\ b <= 1000000000000
 | [], fs, bs, B, _, _, _, _, _, _, r, hr => by simp [potR] at hr
 | t :: l, fs, bs, B, hp, hl, hne, hf, hb, hB, r, hr => by
   have hrow : ∀ b ∈ (posL m t d).map fun to => hg to MAXI fs bs, 0 <= b /\ b <= B + 11000000000 := fun b hbm => by
    obtain ⟨to, hto, rfl⟩ := List.mem_map.1 hbm
    exact (Q65 (Qhh hm to hto) hl hne hf hb (by simp only [List.length_cons] at hB; omega)).2
   simp only [potR, List.mem_cons] at hr
   simp only [List.length_cons] at hB
   rcases hr with rfl | hr
   ·intro b hbm
    have := hrow b hbm
    omega
   ·exact Qqm hm d l _ _ (B + 11000000000) (fun t' h => hp t' (by simp [h])) (by rw [List.length_map]) (hp t (by simp)) (Qhh hm) hrow (by omega) r hr
def pots (m : Qc) (l : List Qa) (p : At2) : List (List Int) := potR m p.e0 [p.e1] [0] l
theorem Q16 {m : Qc} {l : List Qa} {p : At2} (h : Tr m l p) : ∀ t ∈ l, 0 < (posL m t p.e0).length := fun t ht => by
 obtain ⟨i, hi, rfl⟩ := List.mem_iff_getElem.1 ht
 have := Qk6 h i hi
 rw [List.getD_eq_getElem?_getD, List.getElem?_eq_getElem hi] at this
 rw [Qha]; exact this
theorem Qz2 {m : Qc} {l : List Qa} {p : At2} (h : Tr m l p) : ∀ r ∈ pots m l p, ∀ b ∈ r, 0 <= b /\ b <= 1000000000000 :=
 Qqm h.mnt p.e0 l [p.e1] [0] 0 (Q16 h) rfl (by simp) (fun f hf => by rw [List.mem_singleton] at hf; subst hf; exact Qio h) (fun b hb => by rw [List.mem_singleton] at hb; subst hb; decide) (by have := h.len; omega)
theorem Qpe {m : Qc} {l : List Qa} {p : At2} (h : Tr m l p) : Pt m l p (pots m l p) := by
 refine ⟨h, Qv0 _ _ _ _ _, Qv1 _ _ _ _ _, ?_⟩
 unfold Qk5
 refine List.all_eq_true.2 fun r hr => List.all_eq_true.2 fun b hb => Qkn.2 ?_
 have := Qz2 h r hr b hb
 omega
theorem Qzb {m : Qc} {l : List Qa} {p : At2} (h : Tr m l p) : clE m l p (pots m l p) = (bd (pots m l p), 0) := by
 have hp := Qpe h
 unfold clE ptE
 rw [if_pos hp.len, if_pos hp.shape, if_pos hp.small, if_pos rfl, show okP m p.e0 [p.e1] [0] l (pots m l p) = true from Qz1 _ _ _ _ _, if_pos rfl]
theorem Qv3 {m : Qc} {l : List Qa} {p : At2} {n : Nat} (hn : n < l.length) : (pots m l p).getD n default = (posL m (l.getD n default) p.e0).map fun to => hg to MAXI (Qgs m p l n) (Qfp (pots m l p) n) := by
 unfold Qgs Qfp
 exact Qv2 m p.e0 l [p.e1] [0] n hn
theorem Qz3 (k : Nat) (hk : 100 < k) {m : Qc} {l : List Qa} {p : At2} {ps : List (List Int)} (h : Tr m l p) {n : Nat} (hn : n < l.length) (hpl : n <= ps.length) (g1 : (Qgs m p l n).length = (Qfp ps n).length) (g2 : (Qfp ps n).length <= 50) (g3 : ∀ f ∈ Qgs m p l n, near f) (g4 : ∀ b ∈ Qfp ps n, -1000000000000 <= b /\ b <= 1000000000000) :
 Yg k ⟨p.e1, l.map (stp m p.e0)⟩ (n : Int) ps = some ((posL m (l.getD n default) p.e0).map fun to => hg to MAXI (Qgs m p l n) (Qfp ps n)) := by
 have hlen := h.len
 have hrow : (posL m (l.getD n default) p.e0).length <= 43 := by rw [Qha]; exact Qni _ _
 have hto := Qhh h.mnt (t := l.getD n default) (d := p.e0)
 unfold Yg
 have hs : ((l.map (stp m p.e0)).getD n default).positions = posL m (l.getD n default) p.e0 := by rw [Qlq hn]; rfl
 by_cases c : n = 0
 ·subst c
  rw [if_neg (by decide), if_pos (by simp; omega)]
  simp only [Int.toNat_natCast, hs]
  rw [if_pos (by omega)]
  have := Qvh k hk ⟨p.e1, l.map (stp m p.e0)⟩ (posL m (l.getD 0 default) p.e0) hs (Qio h) hto (by omega) (posL m (l.getD 0 default) p.e0).length k 0 [] (by omega) (by omega) rfl
  rw [List.nil_append, List.nil_append, List.drop_zero] at this
  rw [show Xe k ⟨p.e1, l.map (stp m p.e0)⟩ ((0 : Nat) : Int) k (List.replicate (posL m (l.getD 0 default) p.e0).length 0) 0 = _ from this, Option.bind_some]
  rfl
 ·have hw : w64 ((n : Int) - 1) = ((n - 1 : Nat) : Int) := by rw [Ji (by omega) (by omega)]; omega
  rw [if_pos (by omega), hw, if_pos (by simp; omega), if_pos (by omega), if_pos (by simp; omega)]
  simp only [Int.toNat_natCast, hs]
  rw [if_pos (by omega)]
  have hF : ((l.map (stp m p.e0)).getD (n - 1) default).positions = Qgs m p l n := by rw [Qlq (by omega)]; unfold Qgs; rw [if_neg c]; rfl
  have hB : ps.getD (n - 1) default = Qfp ps n := by unfold Qfp; rw [if_neg c]
  have := Qy0 k hk ⟨p.e1, l.map (stp m p.e0)⟩ ps n (by omega) (Qgs m p l n) (Qfp ps n) (posL m (l.getD n default) p.e0) hF hB hs g1 g2 g3 g4 hto (by omega) (posL m (l.getD n default) p.e0).length k 0 [] (by omega) (by omega) rfl
  rw [List.nil_append, List.nil_append, List.drop_zero] at this
  rw [show Xd k ⟨p.e1, l.map (stp m p.e0)⟩ (n : Int) ps k (List.replicate (posL m (l.getD n default) p.e0).length 0) 0 = _ from this, Option.bind_some]
theorem Qxm {ps : List (List Int)} {n : Nat} (hn : n <= ps.length) : Qfp (ps.take n) n = Qfp ps n := by
 unfold Qfp
 by_cases c : n = 0
 ·rw [if_pos c, if_pos c]
 ·rw [if_neg c, if_neg c, List.getD_eq_getElem?_getD, List.getElem?_take, if_pos (by omega), List.getD_eq_getElem?_getD]
theorem Q8h (k : Nat) (hk : 100 < k) {m : Qc} {l : List Qa} {p : At2} (h : Tr m l p) : ∀ (d fuel n : Nat), l.length = n + d -> d < fuel ->
 Z9 k ⟨p.e1, l.map (stp m p.e0)⟩ fuel ((pots m l p).take n) (n : Int) = some (pots m l p) := by
 have hp := Qpe h
 have hpl := hp.len
 have hlen := h.len
 intro d
 induction d with
 | zero =>
   intro fuel n hd hf
   obtain ⟨g, rfl⟩ : ∃ g, fuel = g + 1 := ⟨fuel - 1, by omega⟩
   rw [Z9.eq_2, if_neg (by simp; omega), List.take_of_length_le (by omega)]
 | succ d ih =>
   intro fuel n hd hf
   obtain ⟨g, rfl⟩ : ∃ g, fuel = g + 1 := ⟨fuel - 1, by omega⟩
   obtain ⟨g1, g2, g3, g4⟩ := hp.prev (n := n) (by omega)
   have hb := Qxm (ps := pots m l p) (n := n) (by omega)
   rw [Z9.eq_2, if_pos (by simp; omega), Qz3 k hk h (by omega) (by rw [List.length_take]; omega) (by rw [hb]; exact g1) (by rw [hb]; exact g2) g3 (by rw [hb]; exact g4), Option.bind_some, hb, <- Qv3 (by omega), if_pos (by simp; omega), Js (by omega)]
   have := ih g (n + 1) (by omega) (by omega)
   rw [List.take_succ_eq_append_getElem (by omega)] at this
   rw [List.getD_eq_getElem?_getD, List.getElem?_eq_getElem (by omega)]
   exact this
theorem Q4k (k : Nat) (hk : 100 < k) {m : Qc} {l : List Qa} {p : At2} (h : Tr m l p) : Qar k ⟨p.e1, l.map (stp m p.e0)⟩ = some (pots m l p) := by
 have hlen := h.len
 unfold Qar
 have := Q8h k hk h l.length k 0 (by omega) (by omega)
 rw [List.take_zero] at this
 rw [show Z9 k ⟨p.e1, l.map (stp m p.e0)⟩ k [] 0 = _ from this]; rfl
def bst (g : Nat -> Int) : Nat -> Nat
 | 0 => 0
 | i + 1 => if g i < g (bst g i) then i else bst g i
theorem Qs7 (g : Nat -> Int) : ∀ n, bst g n = 0 \/ bst g n < n
 | 0 => .inl rfl
 | n + 1 => by
   simp only [bst]
   split
   ·right; omega
   ·rcases Qs7 g n with h | h
    ·exact .inl h
    ·right; omega
theorem Qv4 (g : Nat -> Int) : ∀ n j, j < n -> g (bst g n) <= g j
 | 0, j, h => by omega
 | n + 1, j, h => by
   simp only [bst]
   split
   ·rename_i c
    rcases Nat.eq_or_lt_of_le (Nat.le_of_lt_succ h) with rfl | h'
    ·exact Int.le_refl _
    ·have := Qv4 g n j h'; omega
   ·rename_i c
    rcases Nat.eq_or_lt_of_le (Nat.le_of_lt_succ h) with rfl | h'
    ·omega
    ·exact Qv4 g n j h'
theorem Q8i (k : Nat) (T : X9) (P : List (List Int)) (S : List Jj) (y2 : List Int) (x : Int × Jj) (n : Nat) (hx : x.1 = (n : Int)) (hn : n < P.length) (hl : (P.getD n default).length = x.2.positions.length) (hl2 : x.2.positions.length <= 1000) (hb : ∀ b ∈ P.getD n default, 0 <= b /\ b <= 1000000000000) :
 ∀ (d fuel i : Nat), x.2.positions.length = i + d -> d < fuel ->
   Xi k T P S y2 x fuel (bst (fun j => (P.getD n default).getD j 0 + 0) i : Nat) (i : Int) = some ((bst (fun j => (P.getD n default).getD j 0 + 0) x.2.positions.length : Nat) : Int) := by
 intro d
 induction d with
 | zero =>
   intro fuel i h hf
   obtain ⟨g, rfl⟩ : ∃ g, fuel = g + 1 := ⟨fuel - 1, by omega⟩
   rw [Xi.eq_2, if_neg (by omega), show i = x.2.positions.length by omega]
 | succ d ih =>
   intro fuel i h hf
   obtain ⟨g, rfl⟩ : ∃ g, fuel = g + 1 := ⟨fuel - 1, by omega⟩
   have hbt := Qs7 (fun j => (P.getD n default).getD j 0 + 0) i
   have ih' := ih g (i + 1) (by omega) (by omega)
   have h1 := hb _ (Qgh (xs := P.getD n default) (i := i) (by omega))
   have h2 := hb _ (Qgh (xs := P.getD n default) (i := bst (fun j => (P.getD n default).getD j 0 + 0) i) (by omega))
   simp only [bst] at ih'
   rw [Xi.eq_2, hx]
   simp only [Int.toNat_natCast]
   rw [if_pos (by omega), if_pos (by omega), if_pos (by omega), if_pos (by omega)]
   unfold Qbz
   rw [Option.bind_some, if_pos (by omega), if_pos (by omega), Option.bind_some, Js (by omega)]
   have e1 : w64 ((P.getD n default).getD i 0 + 0) = (P.getD n default).getD i 0 + 0 := Ji (by omega) (by omega)
   have e2 : w64 ((P.getD n default).getD (bst (fun j => (P.getD n default).getD j 0 + 0) i) 0 + 0) = (P.getD n default).getD (bst (fun j => (P.getD n default).getD j 0 + 0) i) 0 + 0 := Ji (by omega) (by omega)
   by_cases c : (P.getD n default).getD i 0 + 0 < (P.getD n default).getD (bst (fun j => (P.getD n default).getD j 0 + 0) i) 0 + 0
   ·rw [if_pos (by rw [e1, e2]; exact c)]; rw [if_pos c] at ih'; exact ih'
   ·rw [if_neg (by rw [e1, e2]; exact c)]; rw [if_neg c] at ih'; exact ih'
theorem Q8j (k : Nat) (T : X9) (P : List (List Int)) (S : List Jj) (y2 : List Int) (z : ByteArray × Int × Int × Int × Int × Int × (List Int) × (List Int) × Int) (q : Int) (hq : near q) (x : Int × Jj) (n : Nat) (hx : x.1 = (n : Int)) (hn : n < P.length) (hl : (P.getD n default).length = x.2.positions.length) (hl2 : x.2.positions.length <= 1000) (hb : ∀ b ∈ P.getD n default, 0 <= b /\ b <= 1000000000000)
 (hp : ∀ f ∈ x.2.positions, near f) (hz : 0 <= z.2.2.2.2.2.2.2.2 /\ z.2.2.2.2.2.2.2.2 < (z.2.2.2.2.2.2.2.1.length : Int)) (hzq : z.2.2.2.2.2.2.2.1.getD z.2.2.2.2.2.2.2.2.toNat 0 = q) :
 ∀ (d fuel i : Nat), x.2.positions.length = i + d -> d < fuel ->
   Xj k T P S y2 z x fuel (bst (fun j => (P.getD n default).getD j 0 + cst (x.2.positions.getD j 0) q) i : Nat) (i : Int) = some ((bst (fun j => (P.getD n default).getD j 0 + cst (x.2.positions.getD j 0) q) x.2.positions.length : Nat) : Int) := by
 intro d
 induction d with
 | zero =>
   intro fuel i h hf
   obtain ⟨g, rfl⟩ : ∃ g, fuel = g + 1 := ⟨fuel - 1, by omega⟩
   rw [Xj.eq_2, if_neg (by omega), show i = x.2.positions.length by omega]
 | succ d ih =>
   intro fuel i h hf
   obtain ⟨g, rfl⟩ : ∃ g, fuel = g + 1 := ⟨fuel - 1, by omega⟩
   have hbt := Qs7 (fun j => (P.getD n default).getD j 0 + cst (x.2.positions.getD j 0) q) i
   have ih' := ih g (i + 1) (by omega) (by omega)
   simp only [bst] at ih'
   rw [Xj.eq_2, hx]
   generalize hB : bst (fun j => (P.getD n default).getD j 0 + cst (x.2.positions.getD j 0) q) i = B at *
   have h1 := hb _ (Qgh (xs := P.getD n default) (i := i) (by omega))
   have h2 := hb _ (Qgh (xs := P.getD n default) (i := B) (by omega))
   have n1 := Qgd hp (i := i) (by omega)
   have n2 := Qgd hp (i := B) (by omega)
   have c1 := Ql3 n1 hq
   have c2 := Ql3 n2 hq
   simp only [Int.toNat_natCast]
   rw [if_pos (by omega), if_pos (by omega), if_pos (by omega), if_pos (by omega)]
   unfold Qb0
   rw [if_pos hz, if_pos hz, hzq, Qjb k n1.small hq.small, Qjb k n2.small hq.small]
   simp only [Option.bind_some]
   rw [if_pos (by omega), if_pos (by omega), Js (by omega)]
   have e1 : w64 ((P.getD n default).getD i 0 + cst (x.2.positions.getD i 0) q) = (P.getD n default).getD i 0 + cst (x.2.positions.getD i 0) q := Ji (by omega) (by omega)
   have e2 : w64 ((P.getD n default).getD B 0 + cst (x.2.positions.getD B 0) q) = (P.getD n default).getD B 0 + cst (x.2.positions.getD B 0) q := Ji (by omega) (by omega)
   by_cases c : (P.getD n default).getD i 0 + cst (x.2.positions.getD i 0) q < (P.getD n default).getD B 0 + cst (x.2.positions.getD B 0) q
   ·rw [if_pos (by rw [e1, e2]; exact c)]; rw [if_pos c] at ih'; exact ih'
   ·rw [if_neg (by rw [e1, e2]; exact c)]; rw [if_neg c] at ih'; exact ih'
theorem Qz4 : ∀ (l : List Int) (x : Int), mnF x l = x \/ mnF x l ∈ l
 | [], x => .inl rfl
 | a :: l, x => by
   have e : mnF x (a :: l) = mnF (minI x a) l := rfl
   rw [e]
   have h : minI x a = x \/ minI x a = a := by unfold minI; split <;> simp
   rcases Qz4 l (minI x a) with h1 | h1
   ·rcases h with h | h
    ·left; rw [h1, h]
    ·right; rw [h1, h]; simp
   ·right; exact List.mem_cons_of_mem _ h1
theorem Q4l {P : List (List Int)} (hP : 0 < P.length) (hr : 0 < (P.getD (P.length - 1) default).length) {b : Nat} (hb : b < (P.getD (P.length - 1) default).length) (hle : ∀ j, j < (P.getD (P.length - 1) default).length -> (P.getD (P.length - 1) default).getD b 0 <= (P.getD (P.length - 1) default).getD j 0) : bd P = (P.getD (P.length - 1) default).getD b 0 := by
 unfold bd
 rw [if_neg (by omega)]
 generalize P.getD (P.length - 1) default = r at *
 cases r with
 | nil => simp at hr
 | cons a r =>
   have e1 : (a :: r).getD 0 0 = a := rfl
   have e2 : (a :: r).drop 1 = r := rfl
   rw [e1, e2]
   obtain ⟨h1, h2⟩ := Q2u r a
   refine Int.le_antisymm ?_ ?_
   ·cases b with
    | zero => exact h1
    | succ b => exact h2 _ (Qgh (xs := r) (i := b) (by simpa using hb))
   ·rcases Qz4 r a with h | h
    ·rw [h]; exact hle 0 (by simp)
    ·obtain ⟨j, hj, he⟩ := List.mem_iff_getElem.1 h
     have := hle (j + 1) (by simpa using hj)
     rw [<- he]
     rw [show (a :: r).getD (j + 1) 0 = r.getD j 0 from rfl, List.getD_eq_getElem?_getD (l := r), List.getElem?_eq_getElem hj] at this
     exact this
theorem set_drop {y : List Int} {d : Nat} (h : d < y.length) (v : Int) : (y.set d v).drop d = v :: y.drop (d + 1) := by
 rw [List.set_eq_take_append_cons_drop, if_pos h, List.drop_append_of_le_length (by rw [List.length_take]; omega), List.drop_of_length_le (by rw [List.length_take]; omega), List.nil_append]
def Inv (m : Qc) (l : List Qa) (p : At2) (d : Nat) (y2 : List Int) (st : Sum Unit (ByteArray × Int × Int × Int × Int × Int × (List Int) × (List Int) × Int)) : Prop :=
 (d = l.length /\ st = .inl ()) \/ (d < l.length /\ ∃ (b : Nat) (q : Int) (tail : List Int) (z : ByteArray × Int × Int × Int × Int × Int × (List Int) × (List Int) × Int), st = .inr z /\ z.2.2.2.2.2.2.2.1 = posL m (l.getD d default) p.e0 /\ z.2.2.2.2.2.2.2.2 = (b : Int) /\ b < (posL m (l.getD d default) p.e0).length /\ q = (posL m (l.getD d default) p.e0).getD b 0 /\
  chL m p.e0 (l.drop d) (y2.drop d) = some (q :: tail) /\ ((pots m l p).getD d default).getD b 0 + sumC q tail = bd (pots m l p))
theorem Q66 {f : Int -> Int} {xs : List Int} {b : Nat} (hb : b < xs.length) : (xs.map f).getD b 0 = f (xs.getD b 0) := by
 rw [List.getD_eq_getElem?_getD, List.getElem?_map, List.getElem?_eq_getElem hb, List.getD_eq_getElem?_getD, List.getElem?_eq_getElem hb]; rfl
theorem Q25 {m : Qc} {l : List Qa} {p : At2} {d b : Nat} (hd : d < l.length) (hb : b < (posL m (l.getD d default) p.e0).length) : ((pots m l p).getD d default).getD b 0 = hg ((posL m (l.getD d default) p.e0).getD b 0) MAXI (Qgs m p l d) (Qfp (pots m l p) d) := by
 rw [Qv3 hd]; exact Q66 hb
theorem Qv5 {m : Qc} {l : List Qa} {p : At2} {d b : Nat} (hd : d < l.length) (hb : b < (trn m (apA m (l.getD d default) p.e0)).length) {y2 qs : List Int} (hy : d < y2.length) (h : chL m p.e0 (l.drop (d + 1)) (y2.drop (d + 1)) = some qs) :
 chL m p.e0 (l.drop d) ((y2.set d ((trn m (apA m (l.getD d default) p.e0)).getD b 0)).drop d) = some ((posL m (l.getD d default) p.e0).getD b 0 :: qs) := by
 rw [set_drop hy, Xt (y := l) (i := d) hd default]
 simp only [chL]
 rw [if_pos (Qgh hb), h, Qri hb]; rfl
theorem Q67 (k : Nat) (hk : 100 < k) {m : Qc} {l : List Qa} {p : At2} (h : Tr m l p) : ∀ (d : Nat) (y2 : List Int) (st : Sum Unit (ByteArray × Int × Int × Int × Int × Int × (List Int) × (List Int) × Int)), d <= l.length -> y2.length = l.length -> Inv m l p d y2 st ->
 ∃ r, Xc k ⟨p.e1, l.map (stp m p.e0)⟩ (pots m l p) (l.map (stp m p.e0)) (Qra (l.map (stp m p.e0)) d) y2 st = some r /\ r.1.length = l.length /\ ∃ qs, chL m p.e0 l r.1 = some qs /\ sumC p.e1 qs = bd (pots m l p) := by
 have hp := Qpe h
 have hpl := hp.len
 have hlen := h.len
 intro d
 induction d with
 | zero =>
   intro y2 st hd hy hI
   refine ⟨(y2, st), by simp only [Qra]; rw [Xc.eq_1], hy, ?_⟩
   rcases hI with ⟨h0, _⟩ | ⟨h0, b, q, tail, z, h1, h2, h3, h4, h5, h6, h7⟩
   ·have hl : l = [] := List.eq_nil_of_length_eq_zero h0.symm
    subst hl
    exact ⟨[], rfl, rfl⟩
   ·rw [List.drop_zero, List.drop_zero] at h6
    refine ⟨_, h6, ?_⟩
    rw [<- h7, Q25 h0 h4, <- h5]
    have hq : near q := by rw [h5]; exact Qgd (Qhh h.mnt) h4
    have hc := Ql3 (Qio h) hq
    have e1 : Qgs m p l 0 = [p.e1] := rfl
    have e2 : Qfp (pots m l p) 0 = [0] := rfl
    have e3 : hg q MAXI [p.e1] [0] = minI MAXI (0 + cst p.e1 q) := rfl
    rw [e1, e2, e3]
    have e4 : minI MAXI (0 + cst p.e1 q) = cst p.e1 q := by
     unfold minI MAXI
     rw [if_pos (by omega)]; omega
    rw [e4]; rfl
 | succ d ih =>
   intro y2 st hd hy hI
   have hd' : d < l.length := by omega
   have hrow := hp.row hd'
   have hpos := Qk6 h d hd'
   have hpl2 := Qha m (l.getD d default) p.e0
   have hnr := Qhh h.mnt (t := l.getD d default) (d := p.e0)
   have hbs : ∀ b ∈ (pots m l p).getD d default, 0 <= b /\ b <= 1000000000000 := Qz2 h _ (by rw [List.getD_eq_getElem?_getD, List.getElem?_eq_getElem (by omega)]; exact List.getElem_mem _)
   have hst : (l.map (stp m p.e0)).getD ((d : Int).toNat) default = stp m p.e0 (l.getD d default) := by rw [Int.toNat_natCast]; exact Qlq hd'
   simp only [Qra]
   rw [hst]
   rcases hI with ⟨h0, rfl⟩ | ⟨h0, b', q', tail, z, rfl, h2, h3, h4, h5, h6, h7⟩
   ·have hl0 := Q8i k ⟨p.e1, l.map (stp m p.e0)⟩ (pots m l p) (l.map (stp m p.e0)) y2 ((d : Int), stp m p.e0 (l.getD d default)) d rfl (by omega) hrow.1 (by show (posL m (l.getD d default) p.e0).length <= 1000; omega) hbs (posL m (l.getD d default) p.e0).length k 0 (by show (posL m (l.getD d default) p.e0).length = _; omega) (by omega)
    have hB := Qs7 (fun j => ((pots m l p).getD d default).getD j 0 + 0) (posL m (l.getD d default) p.e0).length
    have hM := Qv4 (fun j => ((pots m l p).getD d default).getD j 0 + 0) (posL m (l.getD d default) p.e0).length
    change Xi k _ _ _ y2 _ k 0 0 = some ((bst (fun j => ((pots m l p).getD d default).getD j 0 + 0) (posL m (l.getD d default) p.e0).length : Nat) : Int) at hl0
    generalize hb : bst (fun j => ((pots m l p).getD d default).getD j 0 + 0) (posL m (l.getD d default) p.e0).length = b at *
    rw [Xc.eq_2, hl0, Option.bind_some, if_pos (by show 0 <= (b : Int) /\ (b : Int) < ((trn m (apA m (l.getD d default) p.e0)).length : Int); omega), if_pos (by show 0 <= (d : Int) /\ (d : Int) < (y2.length : Int); omega), if_pos (by show (d : Int) < _; simp; omega)]
    refine ih _ _ (by omega) (by rw [List.length_set]; exact hy) (.inr ⟨hd', b, (posL m (l.getD d default) p.e0).getD b 0, [], _, rfl, rfl, rfl, by omega, rfl, ?_, ?_⟩)
    ·have e0 : l.drop (d + 1) = [] := List.drop_of_length_le (by omega)
     exact Qv5 hd' (by omega) (by omega) (by rw [e0]; rfl)
    ·rw [show sumC ((posL m (l.getD d default) p.e0).getD b 0) [] = 0 from rfl, Int.add_zero]
     have e1 : (pots m l p).length - 1 = d := by omega
     have := Q4l (P := pots m l p) (by omega) (by rw [e1]; omega) (b := b) (by rw [e1]; omega) (fun j hj => by
      rw [e1] at hj ⊢
      have := hM j (by omega)
      simp only [Int.add_zero] at this
      exact this)
     rw [e1] at this
     exact this.symm
   ·have hq' : near q' := by rw [h5]; exact Qgd (Qhh h.mnt) h4
    have hl1 := Q8j k ⟨p.e1, l.map (stp m p.e0)⟩ (pots m l p) (l.map (stp m p.e0)) y2 z q' hq' ((d : Int), stp m p.e0 (l.getD d default)) d rfl (by omega) hrow.1 (by show (posL m (l.getD d default) p.e0).length <= 1000; omega) hbs hnr (by rw [h3, h2]; omega) (by rw [h2, h3, Int.toNat_natCast]; exact h5.symm) (posL m (l.getD d default) p.e0).length k 0 (by show (posL m (l.getD d default) p.e0).length = _; omega) (by omega)
    have hB := Qs7 (fun j => ((pots m l p).getD d default).getD j 0 + cst ((posL m (l.getD d default) p.e0).getD j 0) q') (posL m (l.getD d default) p.e0).length
    have hM := Qv4 (fun j => ((pots m l p).getD d default).getD j 0 + cst ((posL m (l.getD d default) p.e0).getD j 0) q') (posL m (l.getD d default) p.e0).length
    change Xj k _ _ _ y2 z _ k 0 0 = some ((bst (fun j => ((pots m l p).getD d default).getD j 0 + cst ((posL m (l.getD d default) p.e0).getD j 0) q') (posL m (l.getD d default) p.e0).length : Nat) : Int) at hl1
    generalize hb : bst (fun j => ((pots m l p).getD d default).getD j 0 + cst ((posL m (l.getD d default) p.e0).getD j 0) q') (posL m (l.getD d default) p.e0).length = b at *
    rw [Xc.eq_3, hl1, Option.bind_some, if_pos (by show 0 <= (b : Int) /\ (b : Int) < ((trn m (apA m (l.getD d default) p.e0)).length : Int); omega), if_pos (by show 0 <= (d : Int) /\ (d : Int) < (y2.length : Int); omega), if_pos (by show (d : Int) < _; simp; omega)]
    refine ih _ _ (by omega) (by rw [List.length_set]; exact hy) (.inr ⟨hd', b, (posL m (l.getD d default) p.e0).getD b 0, q' :: tail, _, rfl, rfl, rfl, by omega, rfl, Qv5 hd' (by omega) (by omega) h6, ?_⟩)
    have hr := Q25 (m := m) (p := p) h0 h4
    rw [Qlr, Qls, <- h5] at hr
    have hbl : b < (posL m (l.getD d default) p.e0).length := by omega
    have hup := Q2t q' (posL m (l.getD d default) p.e0) ((pots m l p).getD d default) MAXI _ _ (Qy6 (i := b) hbl (by omega))
    obtain ⟨⟨i, hi1, hi2⟩, _, _⟩ := Q65 hq' hrow.1.symm (by omega) hnr hbs (Int.le_refl _)
    have hlow := hM i hi1
    have e : hg q' MAXI (posL m (l.getD d default) p.e0) ((pots m l p).getD d default) = ((pots m l p).getD d default).getD b 0 + cst ((posL m (l.getD d default) p.e0).getD b 0) q' := by omega
    rw [<- h7, hr, e]
    simp only [sumC]
    omega
theorem Qxn (k : Nat) (hk : 100 < k) {m : Qc} {l : List Qa} {p : At2} (h : Tr m l p) : ∃ xs, Qc3 k ⟨p.e1, l.map (stp m p.e0)⟩ (pots m l p) = some xs /\ xs.length = l.length /\ chE m l p xs = (bd (pots m l p), 0) := by
 have hlen := h.len
 obtain ⟨r, h1, h2, qs, h3, h4⟩ := Q67 k hk h l.length (List.replicate l.length 0) (.inl ()) (Nat.le_refl _) (by simp) (.inl ⟨rfl, rfl⟩)
 refine ⟨r.1, ?_, h2, ?_⟩
 ·unfold Qc3 Jo
  rw [if_pos (by simp; omega), Option.bind_some, if_pos (by simp; omega)]
  have e : ((l.map (stp m p.e0)).length : Int).toNat = l.length := by simp
  show (Xc k ⟨p.e1, l.map (stp m p.e0)⟩ (pots m l p) (l.map (stp m p.e0)) (Qra (l.map (stp m p.e0)) (l.map (stp m p.e0)).length) (List.replicate ((l.map (stp m p.e0)).length : Int).toNat 0) (.inl ())).bind (fun r => if r.1.length = ((l.map (stp m p.e0)).length : Int).toNat then some r.1 else none) = _
  rw [e, List.length_map, h1, Option.bind_some, if_pos h2]
 ·unfold chE
  rw [if_pos h2, h3]
  show (sumC p.e1 qs, (0 : Int)) = _
  rw [h4]
theorem Qxc (k : Nat) (hk : 100 < k) (hk2 : k <= 100000000000000000000) (m : Qc) (h1 : m.Refraction.length < k) (h2 : m.Drift.length < k) (l : List Qa) (p : At2) :
 ((trE m l p).2 ≠ 0 /\ Qfj k m l p = some (⟨[], []⟩, 0, (trE m l p).2)) \/
   (Tr m l p /\ (trE m l p).2 = 0 /\ ∃ xs, Qfj k m l p = some (⟨xs, pots m l p⟩, bd (pots m l p), 0) /\ xs.length = l.length /\ chE m l p xs = (bd (pots m l p), 0)) := by
 unfold Qfj
 rw [Qnj k hk hk2 m h1 h2, Option.bind_some]
 by_cases c : (trE m l p).2 = 0
 ·right
  have hT := Tr.of c
  obtain ⟨xs, e1, e2, e3⟩ := Qxn k hk hT
  refine ⟨hT, c, xs, ?_, e2, e3⟩
  simp only [if_pos c]
  rw [Q4k k hk hT, Option.bind_some, e1, Option.bind_some, Qo6 k hk (Qpe hT) (Qk6 hT), Option.bind_some]
 ·left
  refine ⟨c, ?_⟩
  simp only [if_neg c]
theorem Qvk {m : Qc} {l : List Qa} {p : At2} (h : Tr m l p) : ∀ r ∈ pots m l p, r.length <= 50 := fun r hr => by
 have hp := Qpe h
 obtain ⟨i, hi, rfl⟩ := List.mem_iff_getElem.1 hr
 have := hp.row (i := i) (by rw [<- hp.len]; exact hi)
 rw [List.getD_eq_getElem?_getD, List.getElem?_eq_getElem hi] at this
 simp only [Option.getD_some] at this
 omega
end Go.Proofs.Ytjomicmhnbmhoaa.Vg
