import Derived.Test.YtclgijochagpdaaJ1
set_option linter.unusedVariables false
set_option linter.unusedSimpArgs false
namespace Go.Proofs.Ytclgijochagpdaa.Vg
open Go Go.Proofs.Ytclgijochagpdaa.Ev Go.Proofs.Ytclgijochagpdaa.Vv
theorem pigeon : ∀ (n : Nat) (f : Nat -> Nat), (∀ i, i <= n -> f i < n) -> ∃ i j, i < j /\ j <= n /\ f i = f j
 | 0, f, h => by have := h 0 (Nat.le_refl _); omega
 | n + 1, f, h => by
   by_cases c : ∃ i, i <= n /\ f i = f (n + 1)
   ·obtain ⟨i, hi, e⟩ := c; exact ⟨i, n + 1, by omega, Nat.le_refl _, e⟩
   ·have c : ∀ i, i <= n -> f i ≠ f (n + 1) := fun i hi e => c ⟨i, hi, e⟩
    have hl := h (n + 1) (Nat.le_refl _)
    obtain ⟨i, j, h1, h2, h3⟩ := pigeon n (fun i => if f i = n then f (n + 1) else f i) (fun i hi => by
     have h1 := h i (by omega); have h2 := c i hi
     show (if f i = n then f (n + 1) else f i) < n
     split <;> omega)
    have h3 : (if f i = n then f (n + 1) else f i) = (if f j = n then f (n + 1) else f j) := h3
    have c1 := c i (by omega)
    have c2 := c j (by omega)
    refine ⟨i, j, h1, by omega, ?_⟩
    split at h3 <;> split at h3 <;> omega
def itN (g : Nat -> Nat) : Nat -> Nat -> Nat
 | 0, s => s
 | n + 1, s => itN g n (g s)
theorem itN_add (g : Nat -> Nat) : ∀ (a b s : Nat), itN g (a + b) s = itN g b (itN g a s)
 | 0, b, s => by rw [Nat.zero_add]; rfl
 | a + 1, b, s => by rw [show a + 1 + b = (a + b) + 1 by omega]; exact itN_add g a b (g s)
theorem itN_lt {g : Nat -> Nat} {n : Nat} (h : ∀ j, j < n -> g j < n) : ∀ (a s : Nat), s < n -> itN g a s < n
 | 0, s, hs => hs
 | a + 1, s, hs => itN_lt h a (g s) (h s hs)
theorem on_circle {g : Nat -> Nat} {n : Nat} (h : ∀ j, j < n -> g j < n) {s : Nat} (hs : s < n) : ∃ p, p <= n /\ itN g p (g (itN g n s)) = itN g n s := by
 obtain ⟨i, j, h1, h2, h3⟩ := pigeon n (fun i => itN g i s) (fun i _ => itN_lt h i s hs)
 have h3 : itN g i s = itN g j s := h3
 refine ⟨j - i - 1, by omega, ?_⟩
 show itN g (j - i - 1 + 1) (itN g n s) = itN g n s
 rw [<- itN_add]
 have e1 : itN g n s = itN g (n - i) (itN g i s) := by rw [<- itN_add]; congr 1; omega
 have e2 : itN g (n + (j - i - 1 + 1)) s = itN g (n - i) (itN g j s) := by rw [<- itN_add]; congr 1; omega
 rw [e2, e1, h3]
def rdW (L : List Sleg) : Nat -> List Int -> List Sleg -> Int -> Sum Unit (Int × List Int × List Sleg)
 | 0, s, q, x => .inr (x, s, q)
 | r + 1, s, q, x => if (lw L s q 0 false).2.1 = true then rdW L r (lw L s q 0 false).2.2.1 (lw L s q 0 false).2.2.2 (lw L s q 0 false).1 else .inl ()
section
variable {n : Nat} {z : Int} {L : List Sleg}
theorem rounds_c (k : Nat) (hk : 2000 < k) (W : Web n L) (hI : LegI z L) (hz : z = (n : Int)) : ∀ (d fuel i : Nat) (s : List Int) (q : List Sleg) (x : Int), n = i + d -> d < fuel -> Sm n s (-(i : Int) * 200000000) -> q.length = n ->
 n_profile_web_circle_l0_0 k ⟨z, L⟩ fuel s q (i : Int) x = some (rdW L d s q x) := by
 intro d
 induction d with
 | zero =>
   intro fuel i s q x he hf hS hq
   obtain ⟨f, rfl⟩ : ∃ f, fuel = f + 1 := ⟨fuel - 1, by omega⟩
   rw [n_profile_web_circle_l0_0.eq_2]
   dsimp only
   rw [if_neg (by omega)]; rfl
 | succ d ih =>
   intro fuel i s q x he hf hS hq
   obtain ⟨f, rfl⟩ : ∃ f, fuel = f + 1 := ⟨fuel - 1, by omega⟩
   have hfew := W.few
   have hn := W.n1
   rw [n_profile_web_circle_l0_0.eq_2]
   dsimp only
   rw [if_pos (by omega), show n_profile_web_circle_i34_l0_0 k ⟨z, L⟩ s q (i : Int) x k s q 0 0 false = _ from lower_c k W hI hz s q (i : Int) x L.length k 0 s q 0 false (by omega) (by omega) (hS.weak (by omega)) hq, Option.bind_some, List.drop_zero]
   dsimp only
   have e1 : (lw L s q 0 false).2.2.1.length = s.length := by rw [lw_s, rnd_len]
   rw [if_pos e1, if_pos (lw_q L s q 0 false)]
   unfold rdW
   by_cases c : (lw L s q 0 false).2.1 = true
   ·rw [if_pos c, if_pos c, w64_succ (by omega)]
    refine ih f (i + 1) _ _ _ (by omega) (by omega) ?_ (by rw [lw_q, hq])
    rw [lw_s]
    exact (hS.rnd W (fun _ h => h)).weak (by omega)
   ·rw [if_neg c, if_neg c]
theorem rdW_inl (q0 : List Sleg) (W : Web n L) : ∀ (d i : Nat) (q : List Sleg) (x : Int), rdW L d (it L i (zs n)) q x = .inl () -> ∃ k, rnd (it L k (zs n)) L = it L k (zs n)
 | 0, i, q, x, h => by cases h
 | d + 1, i, q, x, h => by
   unfold rdW at h
   by_cases c : (lw L (it L i (zs n)) q 0 false).2.1 = true
   ·rw [if_pos c, lw_s] at h
    exact rdW_inl q0 W d (i + 1) _ _ h
   ·have := (lw_ok (n := n) L W.ok (it L i (zs n)) q 0 false (by rw [it_len, zs_len])).1 (by simpa using c)
    exact ⟨i, this.2⟩
theorem rdW_pot (W : Web n L) {h : Nat -> Int} (H : Pot L h) : ∀ (d i : Nat) (q : List Sleg) (x : Int), n = i + d -> 0 < d -> rdW L d (it L i (zs n)) q x = .inl ()
 | 0, i, q, x, he, hd => absurd hd (by omega)
 | d + 1, i, q, x, he, hd => by
   unfold rdW
   have hok := lw_ok (n := n) L W.ok (it L i (zs n)) q 0 false (by rw [it_len, zs_len])
   by_cases c : (lw L (it L i (zs n)) q 0 false).2.1 = true
   ·rw [if_pos c, lw_s]
    by_cases e : d = 0
    ·subst e
     have hs := zs_settle W H i (by omega)
     rcases hok.2 c with h | ⟨j, _, h⟩
     ·cases h
     ·rw [hs] at h; omega
    ·exact rdW_pot W H d (i + 1) _ _ (by omega) (by omega)
   ·rw [if_neg c]
def QI (n : Nat) (q : List Sleg) : Prop := q.length = n /\ ∀ j, 0 <= (q.getD j default).from_ /\ (q.getD j default).from_ < (n : Int)
theorem lw_qi (hI : LegI (n : Int) L) (W : Web n L) : ∀ (l : List Sleg), (∀ g, g ∈ l -> g ∈ L) -> ∀ (s : List Int) (q : List Sleg) (x : Int) (ok : Bool), QI n q -> (0 <= x /\ x < (n : Int)) -> QI n (lw l s q x ok).2.2.2 /\ (0 <= (lw l s q x ok).1 /\ (lw l s q x ok).1 < (n : Int))
 | [], _, s, q, x, ok, hq, hx => ⟨hq, hx⟩
 | g :: l, hl, s, q, x, ok, hq, hx => by
   have hl' : ∀ g, g ∈ l -> g ∈ L := fun y hy => hl y (by simp [hy])
   have hg := hI g (hl g (by simp))
   have hw := W.ok g (hl g (by simp))
   unfold lw
   split
   ·exact lw_qi hI W l hl' s q x ok hq hx
   ·split
    ·refine lw_qi hI W l hl' _ _ _ _ ⟨by simp [hq.1], fun j => ?_⟩ hg.2
     rw [getD_set (by rw [hq.1]; exact hw.2)]
     split
     ·exact hg.1
     ·exact hq.2 j
    ·exact lw_qi hI W l hl' s q x ok hq hx
theorem rdW_qi (hI : LegI (n : Int) L) (W : Web n L) : ∀ (d : Nat) (s : List Int) (q : List Sleg) (x : Int) (y : Int × List Int × List Sleg), QI n q -> (0 <= x /\ x < (n : Int)) -> rdW L d s q x = .inr y -> QI n y.2.2 /\ (0 <= y.1 /\ y.1 < (n : Int))
 | 0, s, q, x, y, hq, hx, h => by
   injection h with h; subst h; exact ⟨hq, hx⟩
 | d + 1, s, q, x, y, hq, hx, h => by
   unfold rdW at h
   have := lw_qi hI W L (fun _ h => h) s q 0 false hq ⟨by omega, by have := W.n0; omega⟩
   split at h
   ·exact rdW_qi hI W d _ _ _ y this.1 this.2 h
   ·cases h
theorem qi_start (W : Web n L) : QI n (List.replicate n (⟨0, 0, 0, 0⟩ : Sleg)) := by
 refine ⟨by simp, fun j => ?_⟩
 have h0 := W.n0
 rw [List.getD_eq_getElem?_getD, List.getElem?_replicate]
 split
 ·show 0 <= (0 : Int) /\ (0 : Int) < n; omega
 ·show 0 <= (0 : Int) /\ (0 : Int) < n; omega
def sg (q : List Sleg) (j : Nat) : Nat := fr (q.getD j default)
def cyc (q : List Sleg) : Nat -> Nat -> List Int
 | 0, _ => []
 | m + 1, v => (q.getD v default).signed :: cyc q m (sg q v)
theorem cyc_len (q : List Sleg) : ∀ m v, (cyc q m v).length = m
 | 0, v => rfl
 | m + 1, v => by simp [cyc, cyc_len q m]
theorem QI.sg {q : List Sleg} (h : QI n q) (j : Nat) : sg q j < n /\ ((Vg.sg q j : Nat) : Int) = (q.getD j default).from_ := by
 have := h.2 j
 unfold Vg.sg fr; omega
theorem back_c (k : Nat) (W : Web n L) (hz : z = (n : Int)) (r : Int × List Int × List Sleg) (hq : QI n r.2.2) : ∀ (d fuel i v : Nat), n = i + d -> d < fuel -> v < n -> n_profile_web_circle_l1_0 k ⟨z, L⟩ r fuel (i : Int) (v : Int) = some ((itN (sg r.2.2) d v : Nat) : Int) := by
 intro d
 induction d with
 | zero =>
   intro fuel i v he hf hv
   obtain ⟨f, rfl⟩ : ∃ f, fuel = f + 1 := ⟨fuel - 1, by omega⟩
   rw [n_profile_web_circle_l1_0.eq_2]
   dsimp only
   rw [if_neg (by omega)]; rfl
 | succ d ih =>
   intro fuel i v he hf hv
   obtain ⟨f, rfl⟩ : ∃ f, fuel = f + 1 := ⟨fuel - 1, by omega⟩
   have hn := W.n1
   have hl := hq.1
   rw [n_profile_web_circle_l1_0.eq_2]
   dsimp only
   rw [if_pos (by omega), if_pos (by omega), w64_succ (by omega), Int.toNat_natCast, <- (hq.sg v).2]
   exact ih f (i + 1) _ (by omega) (by omega) (hq.sg v).1
theorem round_c (k : Nat) (W : Web n L) (r : Int × List Int × List Sleg) (hq : QI n r.2.2) {t : Nat} : ∀ (p fuel v : Nat) (y : List Int), p < fuel -> v < n -> itN (sg r.2.2) p v = t -> y.length + p <= 10000 ->
 ∃ m, m <= p /\ itN (sg r.2.2) m v = t /\ (∀ m', m' < m -> itN (sg r.2.2) m' v ≠ t) /\ n_profile_web_circle_l2_0 k ⟨z, L⟩ r (t : Int) fuel y (v : Int) = some (y ++ cyc r.2.2 m v) := by
 intro p
 induction p with
 | zero =>
   intro fuel v y hf hv ht hy
   obtain ⟨f, rfl⟩ : ∃ f, fuel = f + 1 := ⟨fuel - 1, by omega⟩
   have ht : v = t := ht
   refine ⟨0, Nat.le_refl _, ht, fun m' h => absurd h (by omega), ?_⟩
   rw [n_profile_web_circle_l2_0.eq_2, if_pos (by omega)]; simp [cyc]
 | succ p ih =>
   intro fuel v y hf hv ht hy
   obtain ⟨f, rfl⟩ : ∃ f, fuel = f + 1 := ⟨fuel - 1, by omega⟩
   rw [n_profile_web_circle_l2_0.eq_2]
   by_cases c : v = t
   ·refine ⟨0, by omega, c, fun m' h => absurd h (by omega), ?_⟩
    rw [if_pos (by omega)]; simp [cyc]
   ·have hl := hq.1
    have hn := W.n1
    obtain ⟨m, hm, e1, e2, e⟩ := ih f (sg r.2.2 v) (y ++ ([(r.2.2.getD (v : Int).toNat default).signed] : List Int)) (by omega) (hq.sg v).1 ht (by simp; omega)
    refine ⟨m + 1, by omega, e1, fun m' hm' => ?_, ?_⟩
    ·cases m' with
     | zero => exact c
     | succ m' => exact e2 m' (by omega)
    ·rw [if_neg (by omega), if_pos (by omega), if_pos (by simp; omega), Int.toNat_natCast, <- (hq.sg v).2]
     rw [Int.toNat_natCast] at e
     rw [e, List.append_assoc]; rfl
end
theorem rev_l (k : Nat) (a0 : Sweb) (r1 : Int × List Int × List Sleg) (r2 : List Int) (l : List Int) (hl : l.length <= 1000) : ∀ (d fuel i : Nat) (y : List Int) (x3 : Int), l.length <= i + i + d -> d < fuel -> i <= l.length -> x3 = (l.length : Int) - 1 - i -> y.length = l.length ->
 (∀ j, j < l.length -> y.getD j 0 = if j < i \/ l.length - 1 - i < j then l.getD (l.length - 1 - j) 0 else l.getD j 0) ->
 n_profile_web_circle_i35_l0_0 k a0 r1 r2 fuel y (i : Int) x3 = some l.reverse := by
 have fin : ∀ (i : Nat) (y : List Int), l.length <= i + i + 1 -> i <= l.length -> y.length = l.length -> (∀ j, j < l.length -> y.getD j 0 = if j < i \/ l.length - 1 - i < j then l.getD (l.length - 1 - j) 0 else l.getD j 0) -> y = l.reverse := by
  intro i y h h2 hy hj
  apply List.ext_getElem (by rw [hy, List.length_reverse])
  intro j h1 h3
  have := hj j (by omega)
  rw [List.getElem_reverse]
  rw [List.getD_eq_getElem?_getD, List.getElem?_eq_getElem h1, Option.getD_some] at this
  rw [this]
  have e : l.getD (l.length - 1 - j) 0 = l[l.length - 1 - j]'(by omega) := by
   rw [List.getD_eq_getElem?_getD, List.getElem?_eq_getElem (by omega), Option.getD_some]
  by_cases c : j < i \/ l.length - 1 - i < j
  ·rw [if_pos c, e]
  ·rw [if_neg c, <- e, show l.length - 1 - j = j by omega]
 intro d
 induction d with
 | zero =>
   intro fuel i y x3 h hf hi hx hy hj
   obtain ⟨g, rfl⟩ : ∃ g, fuel = g + 1 := ⟨fuel - 1, by omega⟩
   rw [n_profile_web_circle_i35_l0_0.eq_2, if_neg (by omega), fin i y (by omega) hi hy hj]
 | succ d ih =>
   intro fuel i y x3 h hf hi hx hy hj
   obtain ⟨g, rfl⟩ : ∃ g, fuel = g + 1 := ⟨fuel - 1, by omega⟩
   rw [n_profile_web_circle_i35_l0_0.eq_2]
   by_cases c : (i : Int) < x3
   ·obtain ⟨b, hb⟩ : ∃ b : Nat, x3 = (b : Int) := ⟨x3.toNat, by omega⟩
    subst hb
    rw [if_pos c, if_pos (by omega), if_pos (by omega), if_pos (by rw [List.length_set]; omega), if_pos (by omega), Int.toNat_natCast, Int.toNat_natCast, w64_succ (by omega), w64_id (n := (b : Int) - 1) (by omega) (by omega)]
    refine ih g (i + 1) _ _ (by omega) (by omega) (by omega) (by omega) (by simp only [List.length_set]; omega) (fun j hjl => ?_)
    rw [getD_set (by rw [List.length_set]; omega), getD_set (by omega)]
    have hb2 : b = l.length - 1 - i := by omega
    by_cases c1 : j = b
    ·rw [if_pos c1, hj i (by omega), if_neg (by omega), if_pos (by omega)]; congr 1; omega
    ·rw [if_neg c1]
     by_cases c2 : j = i
     ·rw [if_pos c2, hj b (by omega), if_neg (by omega), if_pos (by omega)]; congr 1; omega
     ·rw [if_neg c2, hj j hjl]
      by_cases c3 : j < i \/ l.length - 1 - i < j
      ·rw [if_pos c3, if_pos (by omega)]
      ·rw [if_neg c3, if_neg (by omega)]
   ·rw [if_neg c, fin i y (by omega) hi hy hj]
section
variable {n : Nat} {z : Int} {L : List Sleg}
structure CirS (n : Nat) (L : List Sleg) (c : List Int) (y : Int × List Int × List Sleg) (t m : Nat) : Prop where
 rd : rdW L n (zs n) (List.replicate n ⟨0, 0, 0, 0⟩) 0 = .inr y
 qi : QI n y.2.2
 xi : 0 <= y.1 /\ y.1 < (n : Int)
 te : t = itN (sg y.2.2) n y.1.toNat
 tn : t < n
 ml : m <= n
 back : itN (sg y.2.2) (m + 1) t = t
 first : ∀ m', 0 < m' -> m' < m + 1 -> itN (sg y.2.2) m' t ≠ t
 ce : c = (cyc y.2.2 (m + 1) t).reverse
theorem circle_any {k : Nat} (hk : 2000 < k) (W : Web n L) (hI : LegI z L) (hz : z = (n : Int)) : ∃ c, n_profile_web_circle k ⟨z, L⟩ = some c /\ (c = [] /\ (∃ h, Pot L h) \/ (¬ ∃ h, Pot L h) /\ ∃ y t m, CirS n L c y t m) := by
 have h0 := W.n0
 have h1 := W.n1
 have hI' : LegI (n : Int) L := by rw [<- hz]; exact hI
 unfold n_profile_web_circle
 dsimp only
 rw [if_pos (by omega), show z.toNat = n by omega, show n_profile_web_circle_l0_0 k ⟨z, L⟩ k (List.replicate n 0) (List.replicate n ⟨0, 0, 0, 0⟩) 0 0 = _ from rounds_c k hk W hI hz n k 0 (zs n) _ 0 (by omega) (by omega) (sm_zs.weak (by omega)) (by simp), Option.bind_some]
 cases hr : rdW L n (zs n) (List.replicate n ⟨0, 0, 0, 0⟩) 0 with
 | inl u =>
   obtain ⟨k', hk'⟩ := rdW_inl [] W n 0 _ _ hr
   exact ⟨[], rfl, .inl ⟨rfl, _, zs_pot W hk'⟩⟩
 | inr y =>
   dsimp only
   obtain ⟨hq, hx⟩ := rdW_qi hI' W n _ _ _ y (qi_start W) ⟨by omega, by omega⟩ hr
   have hno : ¬ ∃ h, Pot L h := fun ⟨h, H⟩ => by
    have := rdW_pot W H n 0 (List.replicate n ⟨0, 0, 0, 0⟩) 0 (by omega) h0
    have hr' : rdW L n (it L 0 (zs n)) (List.replicate n ⟨0, 0, 0, 0⟩) 0 = .inr y := hr
    rw [this] at hr'; cases hr'
   have hv : y.1 = ((y.1.toNat : Nat) : Int) := by omega
   have hb := back_c (z := z) (L := L) k W hz y hq n k 0 y.1.toNat (by omega) (by omega) (by omega)
   have hlt : ∀ j, j < n -> sg y.2.2 j < n := fun j _ => (hq.sg j).1
   have ht := itN_lt hlt n y.1.toNat (by omega)
   obtain ⟨p, hp, hc⟩ := on_circle hlt (s := y.1.toNat) (by omega)
   rw [(congrArg (fun v => n_profile_web_circle_l1_0 k ⟨z, L⟩ y k 0 v) hv).trans hb, Option.bind_some]
   obtain ⟨t, ht0⟩ : ∃ t, t = itN (sg y.2.2) n y.1.toNat := ⟨_, rfl⟩
   rw [<- ht0] at ht hc ⊢
   have hl := hq.1
   obtain ⟨m, hm, e1, e2, e⟩ := round_c (z := z) (L := L) k W y hq (t := t) p k (sg y.2.2 t) ([(y.2.2.getD t default).signed] : List Int) (by omega) (hq.sg t).1 hc (by simp; omega)
   refine ⟨(cyc y.2.2 (m + 1) t).reverse, ?_, .inr ⟨hno, y, t, m, hr, hq, hx, ht0, ht, by omega, e1, fun m' h1 h2 => ?_, rfl⟩⟩
   ·rw [if_pos (by omega), Int.toNat_natCast, <- (hq.sg t).2, e, Option.bind_some]
    have hcl : ((cyc y.2.2 (m + 1) t).length : Int) = m + 1 := by rw [cyc_len]; omega
    have e3 : ([(y.2.2.getD t default).signed] : List Int) ++ cyc y.2.2 m (sg y.2.2 t) = cyc y.2.2 (m + 1) t := rfl
    rw [e3, w64_id (n := ((cyc y.2.2 (m + 1) t).length : Int) - 1) (by omega) (by omega), show n_profile_web_circle_i35_l0_0 k ⟨z, L⟩ y (cyc y.2.2 (m + 1) t) k (cyc y.2.2 (m + 1) t) 0 _ = _ from rev_l k ⟨z, L⟩ y _ (cyc y.2.2 (m + 1) t) (by omega) (m + 1) k 0 _ _ (by rw [cyc_len]; omega) (by omega) (by omega) (by omega) rfl (fun j hj => by rw [if_neg (by omega)]), Option.bind_some, if_pos (by rw [List.length_reverse])]
   ·cases m' with
    | zero => omega
    | succ m' => exact e2 m' (by omega)
end
theorem cpy_get {A : Type} {a b : List A} {o k j : Nat} (hj : j < a.length) (d : A) : (cpy a o b k).getD j d = if j < o then a.getD j d else if j < o + k then b.getD (j - o) (a.getD j d) else a.getD j d := by
 unfold cpy
 rw [List.getD_eq_getElem?_getD, List.getElem?_mapIdx, List.getElem?_eq_getElem hj]
 simp only [Option.map_some, Option.getD_some, List.getD_eq_getElem?_getD, List.getElem?_eq_getElem hj]
theorem mul_one {k : Nat} {z : Int} (hz : 1 <= z /\ z <= 40) : nmath_bits_Mul k (IntKind.u64.wrap (1 : Int)) (IntKind.u64.wrap z) = some (0, z) := by
 have key : ∀ j : Fin 41, nmath_bits_Mul 0 (IntKind.u64.wrap (1 : Int)) (IntKind.u64.wrap (j.1 : Int)) = some (0, (j.1 : Int)) := by decide +kernel
 have := key ⟨z.toNat, by omega⟩
 rw [show ((z.toNat : Nat) : Int) = z by omega] at this
 exact this
theorem rep_l (k : Nat) {n : Nat} (hn : n <= 40) : ∀ (d fuel i : Nat) (y : List Int), n = i + d -> d < fuel -> 1 <= i -> y.length = n -> (∀ j, j < i -> y.getD j 0 = far) -> nslices_Repeat_int_int__l0_0 k fuel y (i : Int) = some (List.replicate n far) := by
 intro d
 induction d using Nat.strongRecOn with
 | _ d ih =>
   intro fuel i y he hf hi hy hj
   obtain ⟨f, rfl⟩ : ∃ f, fuel = f + 1 := ⟨fuel - 1, by omega⟩
   rw [nslices_Repeat_int_int__l0_0.eq_2]
   by_cases c : i < n
   ·rw [if_pos (by omega), if_pos (by omega), if_pos (by omega), if_pos (by omega), Int.toNat_natCast]
    obtain ⟨m, hm⟩ : ∃ m, m = Nat.min (i - 0) (y.length - i) := ⟨_, rfl⟩
    rw [<- hm]
    have hm2 : m = min i (n - i) := by rw [hm, hy]; rfl
    rw [w64_id (n := (i : Int) + (m : Int)) (by omega) (by omega), show (i : Int) + (m : Int) = ((i + m : Nat) : Int) by omega]
    refine ih (n - (i + m)) (by omega) f (i + m) _ (by omega) (by omega) (by omega) (by rw [cpy_len, hy]) (fun j hjm => ?_)
    rw [cpy_get (by omega), List.drop_zero]
    by_cases c1 : j < i
    ·rw [if_pos c1]; exact hj j c1
    ·rw [if_neg c1, if_pos hjm]
     have : y.getD (j - i) (y.getD j 0) = y.getD (j - i) 0 := by
      rw [List.getD_eq_getElem?_getD, List.getD_eq_getElem?_getD (l := y) (i := j - i), List.getElem?_eq_getElem (show j - i < y.length by omega)]; rfl
     rw [this]; exact hj _ (by omega)
   ·rw [if_neg (by omega)]
    congr 1
    apply List.ext_getElem (by simp [hy])
    intro j h1 h2
    have := hj j (by omega)
    rw [List.getD_eq_getElem?_getD, List.getElem?_eq_getElem h1] at this
    rw [List.getElem_replicate]; exact this
theorem repeat_p {k : Nat} (hk : 2000 < k) {z : Int} (hz : 1 <= z /\ z <= 40) : nslices_Repeat_int_int_ k ([far] : List Int) z = some (List.replicate z.toNat far) := by
 unfold nslices_Repeat_int_int_
 rw [if_neg (by omega), show IntKind.u64.wrap ((([far] : List Int).length : Nat) : Int) = IntKind.u64.wrap (1 : Int) from rfl, mul_one hz, Option.bind_some]
 dsimp only
 rw [if_neg (by omega), if_neg (by omega), w64_id (n := z) (by omega) (by omega), if_pos (by omega), if_pos (by simp; omega)]
 obtain ⟨n, rfl⟩ : ∃ n : Nat, z = (n : Int) := ⟨z.toNat, by omega⟩
 rw [Int.toNat_natCast, show Nat.min ([far] : List Int).length n = 1 from by show Nat.min 1 n = 1; exact Nat.min_eq_left (by omega)]
 rw [show nslices_Repeat_int_int__l0_0 k k (cpy (List.replicate n 0) 0 (List.drop 0 [far]) 1) ((1 : Nat) : Int) = _ from rep_l k (n := n) (by omega) (n - 1) k 1 _ (by omega) (by omega) (by omega) (by rw [cpy_len]; simp) (fun j hj => by
  rw [cpy_get (by simp; omega), if_neg (by omega), if_pos (by omega), List.drop_zero, show j - 0 = 0 by omega]; rfl)]
 rfl
section
variable {n : Nat} {z : Int} {L : List Sleg}
theorem rounds_f (k : Nat) (hk : 2000 < k) (W : Web n L) (hI : LegI z L) (hz : z = (n : Int)) (s0 : List Int) (h0 : Sm n s0 0) : ∀ (d fuel i : Nat) (q : List Sleg), n = i + d -> d < fuel -> q.length = n ->
 ∃ q', n_profile_web_from_l0_0 k ⟨z, L⟩ fuel (it L i s0) q (i : Int) = some (it L n s0, q') := by
 intro d
 induction d with
 | zero =>
   intro fuel i q he hf hq
   obtain ⟨f, rfl⟩ : ∃ f, fuel = f + 1 := ⟨fuel - 1, by omega⟩
   refine ⟨q, ?_⟩
   rw [n_profile_web_from_l0_0.eq_2]
   dsimp only
   rw [if_neg (by omega), show i = n by omega]
 | succ d ih =>
   intro fuel i q he hf hq
   obtain ⟨f, rfl⟩ : ∃ f, fuel = f + 1 := ⟨fuel - 1, by omega⟩
   have hfew := W.few
   have hn := W.n1
   have sm : ∀ i, Sm n (it L i s0) (-(i : Int) * 200000000) := by
    intro i
    induction i with
    | zero => exact h0.weak (by omega)
    | succ i ih => exact (ih.rnd W (fun _ h => h)).weak (by omega)
   have hS := sm i
   rw [n_profile_web_from_l0_0.eq_2]
   dsimp only
   rw [if_pos (by omega), show n_profile_web_from_i34_l0_0 k ⟨z, L⟩ (it L i s0) q (i : Int) k (it L i s0) q 0 0 false = _ from lower_f k W hI hz _ q (i : Int) L.length k 0 _ q 0 false (by omega) (by omega) (hS.weak (by omega)) hq, Option.bind_some, List.drop_zero]
   dsimp only
   rw [if_pos (by rw [lw_s, rnd_len]), if_pos (lw_q L _ q 0 false), lw_s]
   have hok := lw_ok (n := n) L W.ok (it L i s0) q 0 false hS.len
   by_cases c : (lw L (it L i s0) q 0 false).2.1 = true
   ·rw [if_pos c, w64_succ (by omega)]
    exact ih f (i + 1) _ (by omega) (by omega) (by rw [lw_q, hq])
   ·rw [if_neg c]
    have hs := (hok.1 (by simpa using c)).2
    refine ⟨(lw L (it L i s0) q 0 false).2.2.2, ?_⟩
    rw [hs]
    have := it_fix (l := L) (s := s0) (k := i) hs (n - i)
    rw [show i + (n - i) = n by omega] at this
    rw [this]
theorem from_p {k : Nat} (hk : 2000 < k) (W : Web n L) (hI : LegI z L) (hz : z = (n : Int)) {a : Nat} (ha : a < n) : n_profile_web_from k ⟨z, L⟩ (a : Int) = some (it L n (fs n a)) := by
 have h0 := W.n0
 have h1 := W.n1
 unfold n_profile_web_from
 dsimp only
 rw [show ([9223372036854775807] : List Int) = [far] from rfl, repeat_p hk (by omega), Option.bind_some, if_pos (by omega), show z.toNat = n by omega, if_pos (by simp; omega), Int.toNat_natCast]
 obtain ⟨q', e⟩ := rounds_f k hk W hI hz (fs n a) (sm_fs ha) n k 0 (List.replicate n ⟨0, 0, 0, 0⟩) (by omega) (by omega) (by simp)
 rw [show n_profile_web_from_l0_0 k ⟨z, L⟩ k ((List.replicate n far).set a 0) (List.replicate n ⟨0, 0, 0, 0⟩) 0 = _ from e, Option.bind_some]
theorem getD_Dz (a j : Nat) : (it L n (fs n a)).getD j 0 = Dz n L a j := rfl
end
section
variable {k : Nat} {z : Int} {l : List SHeightReading}
theorem agree_ok (hk : 2000 < k) (h : OKR z l) (he : chkE z l = 0) (hp : ∃ h, Pot (legs l 0) h) : nprofile_agreeing k z l = some (⟨z, legs l 0⟩, 0) := by
 have hn := h.n
 have hz := h.zz
 unfold nprofile_agreeing
 rw [check_p hk z l (by omega), Option.bind_some, if_pos he, newWeb_p hk h z, Option.bind_some]
 obtain ⟨c, e, hc⟩ := circle_any hk h.web h.legI (by omega)
 rw [e, Option.bind_some]
 rcases hc with ⟨hc, _⟩ | ⟨hc, _⟩
 ·rw [hc, if_neg (by simp)]
 ·exact absurd hp hc
theorem index_l (k : Nat) (s : List Int) (hs : s.length <= 1000) (v : Int) : ∀ (d fuel i : Nat), s.length = i + d -> d < fuel -> ∃ r, nslices_Index_int_int__l0_0 k s v fuel (i : Int) = some r /\ ((∃ j : Nat, r = .inl (j : Int)) /\ (∃ j, i <= j /\ j < s.length /\ s.getD j 0 = v) \/ r = .inr () /\ ∀ j, i <= j -> j < s.length -> s.getD j 0 ≠ v) := by
 intro d
 induction d with
 | zero =>
   intro fuel i he hf
   obtain ⟨f, rfl⟩ : ∃ f, fuel = f + 1 := ⟨fuel - 1, by omega⟩
   exact ⟨_, by rw [nslices_Index_int_int__l0_0.eq_2, if_neg (by omega)], .inr ⟨rfl, fun j h1 h2 => by omega⟩⟩
 | succ d ih =>
   intro fuel i he hf
   obtain ⟨f, rfl⟩ : ∃ f, fuel = f + 1 := ⟨fuel - 1, by omega⟩
   rw [nslices_Index_int_int__l0_0.eq_2, if_pos (by omega), if_pos (by omega), Int.toNat_natCast]
   by_cases c : v = s.getD i 0
   ·exact ⟨.inl (i : Int), by rw [if_pos c], .inl ⟨⟨i, rfl⟩, i, Nat.le_refl _, by omega, c.symm⟩⟩
   ·rw [if_neg c, w64_succ (by omega)]
    obtain ⟨r, e, h⟩ := ih f (i + 1) (by omega) (by omega)
    refine ⟨r, e, ?_⟩
    rcases h with ⟨h1, j, h2, h3⟩ | ⟨h1, h2⟩
    ·exact .inl ⟨h1, j, by omega, h3⟩
    ·refine .inr ⟨h1, fun j h3 h4 => ?_⟩
     by_cases e2 : j = i
     ·subst e2; exact fun h => c h.symm
     ·exact h2 j (by omega) h4
theorem contains_p (hk : 2000 < k) (s : List Int) (hs : s.length <= 1000) (v : Int) : ∃ b, nslices_Contains_int_int_ k s v = some b /\ (b = true ↔ ∃ j, j < s.length /\ s.getD j 0 = v) := by
 unfold nslices_Contains_int_int_ nslices_Index_int_int_
 obtain ⟨r, e, h⟩ := index_l k s hs v s.length k 0 (by omega) (by omega)
 rw [show nslices_Index_int_int__l0_0 k s v k 0 = _ from e, Option.bind_some]
 rcases h with ⟨⟨j, rfl⟩, j', _, h3⟩ | ⟨rfl, h2⟩
 ·exact ⟨_, rfl, ⟨fun _ => ⟨j', h3⟩, fun _ => by simp⟩⟩
 ·refine ⟨_, rfl, ⟨fun h => by simp at h, fun ⟨j, h3, h4⟩ => absurd h4 (h2 j (by omega) h3)⟩⟩
def Whole (n : Nat) (L : List Sleg) : Prop := ∀ j, j < n -> Dz n L 0 j ≠ far
theorem joined_open (hk : 2000 < k) (h : OKR z l) (he : chkE z l = 0) (hp : ∃ h, Pot (legs l 0) h) (ho : ¬ Whole z.toNat (legs l 0)) : nprofile_joined k z l = some (⟨0, []⟩, 25) := by
 have hz := h.zz
 have W := h.web
 unfold nprofile_joined
 rw [agree_ok hk h he hp, Option.bind_some]
 dsimp only
 rw [if_pos rfl, show n_profile_web_from k ⟨z, legs l 0⟩ 0 = _ from from_p hk W h.legI (by omega) (a := 0) W.n0, Option.bind_some]
 have hlen : (it (legs l 0) z.toNat (fs z.toNat 0)).length = z.toNat := by rw [it_len, fs_len]
 obtain ⟨b, e, hb⟩ := contains_p hk (it (legs l 0) z.toNat (fs z.toNat 0)) (by omega) 9223372036854775807
 rw [e, Option.bind_some]
 have : b = true := hb.2 (Classical.byContradiction fun hc => ho (fun j hj e2 => hc ⟨j, by omega, e2⟩))
 rw [if_pos this]
theorem joined_ok (hk : 2000 < k) (h : OKR z l) (he : chkE z l = 0) (hp : ∃ h, Pot (legs l 0) h) (ho : Whole z.toNat (legs l 0)) : nprofile_joined k z l = some (⟨z, legs l 0⟩, 0) := by
 have hz := h.zz
 have W := h.web
 unfold nprofile_joined
 rw [agree_ok hk h he hp, Option.bind_some]
 dsimp only
 rw [if_pos rfl, show n_profile_web_from k ⟨z, legs l 0⟩ 0 = _ from from_p hk W h.legI (by omega) (a := 0) W.n0, Option.bind_some]
 have hlen : (it (legs l 0) z.toNat (fs z.toNat 0)).length = z.toNat := by rw [it_len, fs_len]
 obtain ⟨b, e, hb⟩ := contains_p hk (it (legs l 0) z.toNat (fs z.toNat 0)) (by omega) 9223372036854775807
 rw [e, Option.bind_some]
 have : ¬ b = true := fun hc => by
  obtain ⟨j, h1, h2⟩ := hb.1 hc
  exact ho j (by omega) h2
 rw [if_neg this]
theorem between_p (hk : 2000 < k) (h : OKR z l) {p : Nat -> Int} (H : Pot (legs l 0) p) {a b : Nat} (ha : a < z.toNat) (hb : b < z.toNat) : n_profile_web_between k ⟨z, legs l 0⟩ (a : Int) (b : Int) = some (if Dz z.toNat (legs l 0) a b = far then (⟨0, 0⟩, false) else (⟨-Dz z.toNat (legs l 0) b a, Dz z.toNat (legs l 0) a b⟩, true)) := by
 have hz := h.zz
 have W := h.web
 have hlen : ∀ a, (it (legs l 0) z.toNat (fs z.toNat a)).length = z.toNat := fun a => by rw [it_len, fs_len]
 have e1 := hlen a
 have e2 := hlen b
 unfold n_profile_web_between
 rw [from_p hk W h.legI (by omega) ha, Option.bind_some, if_pos (by omega), from_p hk W h.legI (by omega) hb, Option.bind_some, if_pos (by omega), Int.toNat_natCast, Int.toNat_natCast, getD_Dz, getD_Dz]
 have b1 := Dz_lo W H hb ha
 have b2 := Dz_far W b a
 unfold far at b2
 by_cases c : Dz z.toNat (legs l 0) a b = far
 ·rw [if_pos c, if_pos (show Dz z.toNat (legs l 0) a b = 9223372036854775807 from c)]
 ·rw [if_neg c, if_neg (show ¬ Dz z.toNat (legs l 0) a b = 9223372036854775807 from c), w64_id (n := 0 - Dz z.toNat (legs l 0) b a) (by omega) (by omega), show 0 - Dz z.toNat (legs l 0) b a = -Dz z.toNat (legs l 0) b a by omega]
def encl (n : Nat) (L : List Sleg) : List SRange := (List.range n).map fun j => ⟨-Dz n L j 0, Dz n L 0 j⟩
theorem encl_len (n : Nat) (L : List Sleg) : (encl n L).length = n := by simp [encl]
theorem encl_get {n : Nat} {L : List Sleg} {j : Nat} (hj : j < n) : (encl n L).getD j default = ⟨-Dz n L j 0, Dz n L 0 j⟩ := by
 unfold encl
 rw [List.getD_eq_getElem?_getD, List.getElem?_map, List.getElem?_range hj]; rfl
theorem encl_l (k : Nat) (hk : 2000 < k) (h : OKR z l) {p : Nat -> Int} (H : Pot (legs l 0) p) (hw : Whole z.toNat (legs l 0)) (e : Int) : ∀ (d fuel i : Nat) (y : List SRange), z.toNat = i + d -> d < fuel -> y.length = z.toNat -> (∀ j, j < i -> y.getD j default = (encl z.toNat (legs l 0)).getD j default) -> nprofile_Enclosure_l0_0 k z (⟨z, legs l 0⟩, e) fuel y (i : Int) = some (encl z.toNat (legs l 0)) := by
 have hz := h.zz
 have W := h.web
 intro d
 induction d with
 | zero =>
   intro fuel i y he hf hy hj
   obtain ⟨f, rfl⟩ : ∃ f, fuel = f + 1 := ⟨fuel - 1, by omega⟩
   rw [nprofile_Enclosure_l0_0.eq_2, if_neg (by omega)]
   congr 1
   apply List.ext_getElem (by rw [hy, encl_len])
   intro j h1 h2
   have := hj j (by omega)
   rw [List.getD_eq_getElem?_getD, List.getElem?_eq_getElem h1, List.getD_eq_getElem?_getD, List.getElem?_eq_getElem h2] at this
   exact this
 | succ d ih =>
   intro fuel i y he hf hy hj
   obtain ⟨f, rfl⟩ : ∃ f, fuel = f + 1 := ⟨fuel - 1, by omega⟩
   rw [nprofile_Enclosure_l0_0.eq_2, if_pos (by omega)]
   dsimp only
   rw [show n_profile_web_between k ⟨z, legs l 0⟩ 0 (i : Int) = _ from between_p hk h H (a := 0) (b := i) W.n0 (by omega), Option.bind_some, if_neg (hw i (by omega)), if_pos (by omega), w64_succ (by omega), Int.toNat_natCast]
   refine ih f (i + 1) _ (by omega) (by omega) (by simp [hy]) (fun j hj2 => ?_)
   rw [getD_set (by omega)]
   by_cases c : j = i
   ·subst c; rw [if_pos rfl, encl_get (by omega)]
   ·rw [if_neg c]; exact hj j (by omega)
theorem enc_open (hk : 2000 < k) (h : OKR z l) (he : chkE z l = 0) (hp : ∃ h, Pot (legs l 0) h) (ho : ¬ Whole z.toNat (legs l 0)) : nprofile_Enclosure k z l = some ([], [], 25) := by
 unfold nprofile_Enclosure
 rw [joined_open hk h he hp ho, Option.bind_some]; rfl
theorem enc_ok (hk : 2000 < k) (h : OKR z l) (he : chkE z l = 0) (hp : ∃ h, Pot (legs l 0) h) (ho : Whole z.toNat (legs l 0)) : nprofile_Enclosure k z l = some (encl z.toNat (legs l 0), [], 0) := by
 have hz := h.zz
 obtain ⟨p, H⟩ := hp
 unfold nprofile_Enclosure
 rw [joined_ok hk h he ⟨p, H⟩ ho, Option.bind_some]
 dsimp only
 rw [if_neg (by omega), if_pos rfl, if_pos (by omega), show nprofile_Enclosure_l0_0 k z (⟨z, legs l 0⟩, 0) k (List.replicate z.toNat ⟨0, 0⟩) 0 = _ from encl_l k hk h H ho 0 z.toNat k 0 _ (by omega) (by omega) (by simp) (fun j hj => absurd hj (by omega)), Option.bind_some]
end
end Go.Proofs.Ytclgijochagpdaa.Vg
