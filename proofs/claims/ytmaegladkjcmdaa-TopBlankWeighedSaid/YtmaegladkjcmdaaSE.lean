import Derived.Test.YtmaegladkjcmdaaS5
import Derived.Test.YtmaegladkjcmdaaSD
set_option linter.unusedVariables false
set_option linter.unusedSimpArgs false
namespace Go.Proofs.Ytmaegladkjcmdaa.Vg
open Go Go.Proofs.Ytmaegladkjcmdaa.Ev Go.Proofs.Ytmaegladkjcmdaa.Vv
structure Fit (l : List Qj) (ps : List Qe) (w : A27) (j : Nat) : Prop where
 lt : j < l.length
 left : lvF l ps j ≠ 0
 dia : w.e0 <= (l.getD j default).Diameter
 thick : w.e1 <= (l.getD j default).Thick
theorem Qvr (k : Nat) (l : List Qj) (hl : l.length <= 43) (hg : ∀ j, j < l.length -> Qoa l j) (ps : List Qe) (w : A27) (z : List (ByteArray × Int)) (hz : ∀ n, mhas z n = Yx l l.length n) (hv : ∀ i, i < l.length -> mget z (l.getD i default).Name = lvF l ps i) : ∀ (d fuel i : Nat) (x10 : ByteArray) (x11 : Int), l.length = i + d -> d < fuel -> (x10 = (⟨#[]⟩ : ByteArray) \/ ∃ j : Nat, x10 = (l.getD j default).Name /\ Fit l ps w j) ->
 ∃ r10, Z5 k l w z fuel x10 x11 (i : Int) = some r10 /\ (r10 = (⟨#[]⟩ : ByteArray) \/ ∃ j : Nat, r10 = (l.getD j default).Name /\ Fit l ps w j) := by
 intro d
 induction d with
 | zero =>
   intro fuel i x10 x11 h hf hx
   obtain ⟨g, rfl⟩ : ∃ g, fuel = g + 1 := ⟨fuel - 1, by omega⟩
   exact ⟨x10, by rw [Z5.eq_2, if_neg (by omega)], hx⟩
 | succ d ih =>
   intro fuel i x10 x11 h hf hx
   obtain ⟨g, rfl⟩ : ∃ g, fuel = g + 1 := ⟨fuel - 1, by omega⟩
   have hi : i < l.length := by omega
   rw [Z5.eq_2]
   simp only [Int.toNat_natCast]
   simp only [if_pos (show (i : Int) < (l.length : Int) by omega), if_pos (show 0 <= (i : Int) /\ (i : Int) < (l.length : Int) by omega)]
   rw [if_pos (by rw [hz]; exact Qg7 hi), hv i hi, Qfi (by omega)]
   by_cases c1 : lvF l ps i = 0
   ·rw [if_pos c1]; exact ih g (i + 1) _ _ (by omega) (by omega) hx
   ·rw [if_neg c1]
    by_cases c2 : (l.getD i default).Diameter < w.e0
    ·rw [if_pos c2]; exact ih g (i + 1) _ _ (by omega) (by omega) hx
    ·rw [if_neg c2]
     by_cases c3 : (l.getD i default).Thick < w.e1
     ·rw [if_pos c3]; exact ih g (i + 1) _ _ (by omega) (by omega) hx
     ·rw [if_neg c3]
      have hfit : Fit l ps w i := ⟨hi, c1, by omega, by omega⟩
      by_cases c4 : x10 = (⟨#[]⟩ : ByteArray)
      ·rw [if_pos c4]
       exact ih g (i + 1) _ _ (by omega) (by omega) (.inr ⟨i, rfl, hfit⟩)
      ·rw [if_neg c4]
       split
       ·exact ih g (i + 1) _ _ (by omega) (by omega) (.inr ⟨i, rfl, hfit⟩)
       ·exact ih g (i + 1) _ _ (by omega) (by omega) hx
theorem Qzt (k : Nat) (hk : 1000 < k) (hk2 : k <= 100000000000000000000) (l : List Qj) (hl : l.length <= 43) (w : A27) :
 ∃ r, Qcr k l [] w = some r /\ (r.2 ≠ 0 \/ batS l = 0 /\ ∃ j : Nat, r.1 = (l.getD j default).Name /\ Fit l [] w j) := by
 unfold Qcr
 rw [Qgm k hk hk2 l hl, Option.bind_some]
 by_cases h0 : batS l = 0
 ·rw [if_pos h0]
  have hg := (Qh7 h0).2
  obtain ⟨m1, e1, e2, e3⟩ := Qk0 k (by omega) l [] w hl
  have hb1 : Base l m1 := ⟨e2, e3 (fun j hj => (hg j hj).uniq)⟩
  rw [if_neg (show ¬(200 : Int) < (([] : List Qe).length : Int) by simp), e1, Option.bind_some]
  rcases Qmi k hk hk2 l [] w (by simp) m1 (Qql hb1 hg) 0 k 0 m1 [] (by simp) (by omega) e2 (fun n _ => by simp [cntP]) (fun n => by simp [mhas, Qkb]) (fun n h => by cases h) with ⟨h1, h2⟩ | ⟨h1, z, h2, h3, h4⟩
  ·exact absurd rfl h1
  ·have hv : ∀ i, i < l.length -> mget z (l.getD i default).Name = lvF l [] i := fun i hi => by rw [h4 _ (Qg7 hi), hb1.val i hi]; rfl
   obtain ⟨r10, f1, f3⟩ := Qvr k l hl hg [] w z h3 hv l.length k 0 ⟨#[]⟩ 0 (by omega) (by omega) (.inl rfl)
   rw [show Zv k l [] w k m1 [] 0 = _ from h2, Option.bind_some]
   dsimp only
   rw [isw, Option.bind_some]
   cases inR 1 1000 w.e0 with
   | false => exact ⟨_, rfl, .inl (by decide)⟩
   | true =>
     rw [if_pos rfl, isw, Option.bind_some]
     cases inR 1 500 w.e1 with
     | false => exact ⟨_, rfl, .inl (by decide)⟩
     | true =>
       rw [if_pos rfl, show Z5 k l w z k ⟨#[]⟩ 0 0 = _ from f1, Option.bind_some]
       rcases f3 with g2 | ⟨j, g3, g2⟩
       ·rw [if_pos g2]; exact ⟨_, rfl, .inl (by decide)⟩
       ·rw [if_neg (by rw [g3]; exact Qzn (hg j g2.lt).name)]
        exact ⟨_, rfl, .inr ⟨h0, j, g3, g2⟩⟩
 ·rw [if_neg h0]; exact ⟨_, rfl, .inl h0⟩
theorem Qzu {l : List Qj} (hg : ∀ j, j < l.length -> Qoa l j) {i j : Nat} (hi : i < l.length) (hj : j < l.length) (h : (l.getD i default).Name = (l.getD j default).Name) : i = j := by
 rcases Nat.lt_trichotomy i j with c | c | c
 ·have := Qfo l _ (show i + 1 <= j by omega) (Qig l _ hi h)
  rw [(hg j hj).uniq] at this; cases this
 ·exact c
 ·have := Qfo l _ (show j + 1 <= i by omega) (Qig l _ hj h.symm)
  rw [(hg i hi).uniq] at this; cases this
def oneP (n : ByteArray) : List Qe := [⟨⟨#[109]⟩, n⟩]
theorem Q19 : nameB (⟨#[109]⟩ : ByteArray) = true := by decide +kernel
theorem Q2t (k : Nat) (hk : 1000 < k) (hk2 : k <= 100000000000000000000) (l : List Qj) (hl : l.length <= 43) (h0 : batS l = 0) (w : A27) {j : Nat} (hf : Fit l [] w j) :
 Qcm k l [] ⟨⟨#[109]⟩, (l.getD j default).Name⟩ = some (oneP (l.getD j default).Name, 0) /\ Qdr k l (oneP (l.getD j default).Name) = some ((List.range l.length).map (lvF l (oneP (l.getD j default).Name)), 0) := by
 have hg := (Qh7 h0).2
 obtain ⟨m0, _, e2, e3⟩ := Qkp k (by omega) l [] hl
 have hb : Base l m0 := ⟨e2, e3 (fun j hj => (hg j hj).uniq)⟩
 have hp0 : Qob l m0 [] = 0 := by unfold Qob; rw [if_pos h0, if_neg (by simp)]; rfl
 have hp1 : Qob l m0 (oneP (l.getD j default).Name) = 0 := by
  unfold Qob
  rw [if_pos h0, if_neg (by simp [oneP])]
  show (match decide (prE l m0 (oneP (l.getD j default).Name) 0 = 0) with | true => 0 | false => prE l m0 (oneP (l.getD j default).Name) 0) = (0 : Int)
  have : prE l m0 (oneP (l.getD j default).Name) 0 = 0 := by
   unfold prE
   show (match nameB (⟨#[109]⟩ : ByteArray) with | false => 4 | true => match true with | false => 5 | true => match Yx l l.length (l.getD j default).Name with | false => 6 | true => match decide (0 < mget m0 (l.getD j default).Name - cntP [] (l.getD j default).Name) with | false => 20 | true => 0 : Int) = 0
   rw [Q19, Qg7 hf.lt, hb.val j hf.lt]
   have hc := hf.left
   have hc2 := (hg j hf.lt).count
   have hlv : lvF l [] j = (l.getD j default).Count := by unfold lvF; simp [cntP]
   rw [hlv] at hc
   have : decide (0 < (l.getD j default).Count - cntP [] (l.getD j default).Name) = true := decide_eq_true (by simp only [cntP]; omega)
   rw [this]
  rw [this]; rfl
 constructor
 ·unfold Qcm
  rw [Qx1 k hk hk2 l hl m0 (fun _ => hb) [] (by simp), hp0, Option.bind_some, if_pos rfl]
  unfold X3
  rw [if_pos (by simp), Option.bind_some, if_pos (by simp)]
  show (Yr k l (oneP (l.getD j default).Name)).bind _ = _
  rw [Qx1 k hk hk2 l hl m0 (fun _ => hb) _ (by simp [oneP]), hp1, Option.bind_some, if_pos rfl]
  rfl
 ·rw [Qwx k hk hk2 l hl m0 (fun _ => hb) _ (by simp [oneP]), hp1, if_pos rfl]
def bare (p : Qk) : Qk := ⟨p.Outer, p.Inner, p.From, p.To, p.Count, false⟩
def single (t : Int) (p : Qk) : Zd := ⟨1, t, [bare p], []⟩
theorem Qma {p : Qk} {t : Int} (h : Qju p t) : 0 < Qd9 p := by
 unfold Qd9
 have h1 := h.o; have h2 := h.i; have h3 := h.ft; have h4 := Qr2 h.c
 have e : p.Outer * p.Outer - p.Inner * p.Inner = (p.Outer - p.Inner) * (p.Outer + p.Inner) := by grind
 rw [e]
 refine Int.mul_pos (Int.mul_pos (Int.mul_pos (by omega) (Int.mul_pos (by omega) (by omega))) (by omega)) (by omega)
theorem Qkh (t : Int) (p : Qk) : volV (single t p) = Qd9 p := by
 unfold volV single; simp [tsum, Qcq, sg, bare, Qd9]
theorem Qtb (t : Int) (p : Qk) : momV (single t p) = Qd9 p * (p.From + p.To) := by
 unfold momV single; simp [tsum, Qd8, Qcq, sg, bare, Qd9]
theorem Qvs {g : Zd} (h : Gl g) {p : Qk} (hp : p ∈ g.Parts) (he : Qf8 p g.Thick = 0) : glE (single g.Thick p) = 0 := by
 have ht := h.o.th
 have h0 : glE0 (single g.Thick p) = 0 := by
  unfold glE0
  have e1 : inR 1 500 g.Thick = true := Qi9.2 ht
  show (if (inR 1 10000 1 && inR 1 500 g.Thick) = true then (if (1 : Int) <= 40 then (if Qdj (fun p => Qf8 p g.Thick) [bare p] = 0 then (if (0 : Int) <= 4 then 0 else 8) else Qdj (fun p => Qf8 p g.Thick) [bare p]) else 8) else 2) = 0
  rw [e1]
  have e2 : Qdj (fun p => Qf8 p g.Thick) [bare p] = 0 := by
   unfold Qdj Qdj
   rw [show Qf8 (bare p) g.Thick = 0 from he]; rfl
  rw [e2]; rfl
 unfold glE
 rw [if_pos h0, Qkh, if_pos (Qma (h.o.pa p hp))]
theorem Qtc {a b : Int} (hb : 0 < b) : (a * b) / b = a /\ cdiv (a * b) b = a := by
 refine ⟨Int.mul_ediv_cancel a (by omega), ?_⟩
 unfold cdiv
 rw [<- Int.neg_mul, Int.mul_ediv_cancel (-a) (by omega)]; omega
theorem Qtd {g : Zd} (h : Gl g) {p : Qk} (hp : p ∈ g.Parts) : cenV (single g.Thick p) = ⟨500 * (p.From + p.To), 500 * (p.From + p.To)⟩ := by
 unfold cenV rnd
 rw [Qkh, Qtb]
 have hv := Qma (h.o.pa p hp)
 have e : 1000 * (Qd9 p * (p.From + p.To)) = (500 * (p.From + p.To)) * (2 * Qd9 p) := by grind
 obtain ⟨e1, e2⟩ := Qtc (a := 500 * (p.From + p.To)) (b := 2 * Qd9 p) (by omega)
 rw [e, e1, e2]
theorem Qw4 {m v : Int} (hv : 0 < v) : (1000 * m) / (2 * v) = (500 * m) / v /\ cdiv (1000 * m) (2 * v) = cdiv (500 * m) v := by
 have e : 1000 * m = 2 * (500 * m) := by omega
 refine ⟨by rw [e, Int.mul_ediv_mul_of_pos _ _ (by omega)], ?_⟩
 unfold cdiv
 rw [show -(1000 * m) = 2 * (-(500 * m)) by omega, Int.mul_ediv_mul_of_pos _ _ (by omega)]
theorem Qw5 {α : Type} {f : α -> Int} {l : List α} (h : Qdj f l = 0) : ∀ x ∈ l, f x = 0 := Qhi h
theorem Qzv {g : Zd} (h : glE g = 0) : ∀ p ∈ g.Parts, Qf8 p g.Thick = 0 := by
 have h0 : glE0 g = 0 := by
  unfold glE at h
  split at h
  ·assumption
  ·rename_i c; exact absurd h c
 unfold glE0 at h0
 split at h0
 case isFalse => cases h0
 split at h0
 case isFalse => cases h0
 split at h0
 case isFalse => rename_i h3; exact absurd h0 h3
 rename_i h3
 exact Qw5 h3
theorem Qx3 {g : Zd} (h : Gl g) (i : Nat) : -10000000000000 <= tsum Vg.Qcq (g.Parts.take i) /\ tsum Vg.Qcq (g.Parts.take i) <= 10000000000000 := by
 have := h.o.vb i 0
 simpa [tsum] using this
theorem Qx4 {g : Zd} (h : Gl g) (i : Nat) : -8000000000000000 <= tsum Vg.Qd8 (g.Parts.take i) /\ tsum Vg.Qd8 (g.Parts.take i) <= 8000000000000000 := by
 have := h.o.mb i 0
 simpa [tsum] using this
theorem Q2u (k : Nat) (hk : 1000 < k) (g : Zd) (hg : glE g = 0) (hl : g.Parts.length <= 5) (a1 : List Qj) (a2 : A27) (r4 : Int × Int) (r5 : Qct × Int) : ∀ (d fuel i : Nat), g.Parts.length = i + d -> d < fuel ->
 Zr k g a1 a2 r4 r5 fuel (tsum Vg.Qcq (g.Parts.take i)) (500 * tsum Vg.Qd8 (g.Parts.take i)) (500 * tsum Vg.Qd8 (g.Parts.take i)) (i : Int) = some (.inr (tsum Vg.Qcq g.Parts, 500 * tsum Vg.Qd8 g.Parts, 500 * tsum Vg.Qd8 g.Parts)) := by
 have G := Gl.of hg
 intro d
 induction d with
 | zero =>
   intro fuel i h hf
   obtain ⟨f, rfl⟩ : ∃ f, fuel = f + 1 := ⟨fuel - 1, by omega⟩
   rw [Zr.eq_2, if_neg (by omega), List.take_of_length_le (by omega)]
 | succ d ih =>
   intro fuel i h hf
   obtain ⟨f, rfl⟩ : ∃ f, fuel = f + 1 := ⟨fuel - 1, by omega⟩
   have hi : i < g.Parts.length := by omega
   have hp := Qhj hi
   have e1 := Qcb Vg.Qcq hi
   have e2 := Qcb Vg.Qd8 hi
   have b1 := Qx3 G i
   have b2 := Qx4 G i
   have b3 := Qx3 G (i + 1)
   have b4 := Qx4 G (i + 1)
   have b5 := G.o.Qcq _ hp
   have b6 := G.o.Qd8 _ hp
   have hpo := G.o.pa _ hp
   have hs := Qvs G hp (Qzv hg _ hp)
   have hcen := Qtd G hp
   have hvol := Qkh g.Thick (g.Parts.getD i default)
   rw [Zr.eq_2, if_pos (by omega), if_pos (by omega), Int.toNat_natCast]
   have lk : Lk (single g.Thick (g.Parts.getD i default)) k := ⟨by simp [single], by simp [single], hk⟩
   have hV : Qb7 k ⟨1, g.Thick, [⟨(g.Parts.getD i default).Outer, (g.Parts.getD i default).Inner, (g.Parts.getD i default).From, (g.Parts.getD i default).To, (g.Parts.getD i default).Count, false⟩], []⟩ = some (Qd9 (g.Parts.getD i default), 0) := by
    have := Qr5 lk
    rw [hs, if_pos rfl, hvol] at this; exact this
   have hC : Qb8 k ⟨1, g.Thick, [⟨(g.Parts.getD i default).Outer, (g.Parts.getD i default).Inner, (g.Parts.getD i default).From, (g.Parts.getD i default).To, (g.Parts.getD i default).Count, false⟩], []⟩ = some (⟨500 * ((g.Parts.getD i default).From + (g.Parts.getD i default).To), 500 * ((g.Parts.getD i default).From + (g.Parts.getD i default).To)⟩, 0) := by
    have := Qr6 lk
    rw [hs, if_pos rfl, hcen] at this; exact this
   have hft : (g.Parts.getD i default).From + (g.Parts.getD i default).To <= 1000 := by have := hpo.f; have := hpo.t; have := G.o.th; omega
   have hpv := Qma hpo
   have hpm : Qd8 (g.Parts.getD i default) = Qcq (g.Parts.getD i default) * ((g.Parts.getD i default).From + (g.Parts.getD i default).To) := rfl
   have step := ih f (i + 1) (by omega) (by omega)
   rw [<- e1, <- e2] at step
   rw [<- e1] at b3
   rw [<- e2] at b4
   generalize hp' : g.Parts.getD i default = p at *
   have hps : Qcq p = sg (Qd9 p) p.Cut := rfl
   by_cases hc : p.Cut = true
   ·have hps2 : Qcq p = -Qd9 p := by rw [hps, hc]; rfl
    rw [if_pos hc, hV, hC]
    simp only [Option.bind_some, if_true]
    rw [if_neg (by omega), if_neg (by omega)]
    have h1 : w64 ((-1) * Qd9 p) = Qcq p := by rw [hps2, show (-1) * Qd9 p = -Qd9 p by omega]; exact Jv (by omega) (by omega)
    have h2 : Qcq p * (500 * (p.From + p.To)) = 500 * Qd8 p := by rw [hpm]; grind
    rw [h1, h2, Jv (n := 500 * Qd8 p) (by omega) (by omega), Jv (by omega) (by omega), Jv (by omega) (by omega), Qds (by omega), <- Int.mul_add]
    exact step
   ·have hc' : p.Cut = false := by cases hcc : p.Cut <;> simp_all
    have hps2 : Qcq p = Qd9 p := by rw [hps, hc']; rfl
    rw [if_neg hc, hV, hC]
    simp only [Option.bind_some, if_true]
    rw [if_neg (by omega), if_neg (by omega)]
    have h1 : w64 (1 * Qd9 p) = Qcq p := by rw [hps2, Int.one_mul]; exact Jv (by omega) (by omega)
    have h2 : Qcq p * (500 * (p.From + p.To)) = 500 * Qd8 p := by rw [hpm]; grind
    rw [h1, h2, Jv (n := 500 * Qd8 p) (by omega) (by omega), Jv (by omega) (by omega), Jv (by omega) (by omega), Qds (by omega), <- Int.mul_add]
    exact step
theorem Q2v (k : Nat) (g : Zd) (l : List Qj) (hl : l.length <= 43) (hg : ∀ j, j < l.length -> Qoa l j) (w : A27) (r4 : ByteArray × Int) (r5 : List Int × Int) {j : Nat} (hf : Fit l [] w j) (hr4 : r4.1 = (l.getD j default).Name) (hr5 : r5.1 = (List.range l.length).map (lvF l (oneP (l.getD j default).Name))) : ∀ (d fuel i : Nat), l.length = i + d -> i <= j -> d < fuel ->
 Xi k g l w r4 r5 fuel (i : Int) = some (.inl true) := by
 have hj := hf.lt
 intro d
 induction d with
 | zero => intro fuel i h h2 hf; omega
 | succ d ih =>
   intro fuel i h hij hfu
   obtain ⟨f, rfl⟩ : ∃ f, fuel = f + 1 := ⟨fuel - 1, by omega⟩
   have hi : i < l.length := by omega
   rw [Xi.eq_2, if_pos (by omega), if_pos (by omega), Int.toNat_natCast]
   by_cases c : (l.getD i default).Name = r4.1
   ·have hij2 : i = j := Qzu hg hi hj (by rw [c, hr4])
    subst hij2
    have hv : r5.1.getD i 0 = (l.getD i default).Count - 1 := by
     rw [hr5, getD_map hi]; unfold lvF oneP; simp [cntP]
    have hc := (hg i hi).count
    rw [if_pos c, if_pos hf.dia, if_pos hf.thick, if_pos (by rw [hr5]; simp; omega), hv, Jv (by omega) (by omega)]
    simp
   ·rw [if_neg c, Qds (by omega)]
    refine ih f (i + 1) (by omega) ?_ (by omega)
    rcases Nat.lt_or_ge i j with h1 | h1
    ·omega
    ·exfalso; apply c; rw [hr4, show i = j by omega]
theorem Qte : Qbn 100000000000000000000 = some true := by kernel_rfl
theorem Qqo (k : Nat) (hk : k = 100000000000000000000) (g : Zd) (l : List Qj) (w : A27) : Y9 k g l w = some true := by
 unfold Y9
 rw [show Qbn k = some true by rw [hk]; exact Qte, Option.bind_some, if_pos rfl]
 by_cases c1 : 5 < (g.Parts.length : Int)
 ·rw [if_pos c1]
 rw [if_neg c1]
 by_cases c2 : 0 < (g.Caps.length : Int)
 ·rw [if_pos c2]
 rw [if_neg c2]
 by_cases c3 : 6 < (l.length : Int)
 ·rw [if_pos c3]
 have lk : Lk g k := ⟨by omega, by omega, by omega⟩
 rw [if_neg c3, lk.r, Option.bind_some]
 by_cases c4 : glE g = 0
 case neg => rw [if_neg c4]
 have G := Gl.of c4
 have hcaps : g.Caps = [] := List.eq_nil_of_length_eq_zero (by omega)
 have hvol : volV g = tsum Vg.Qcq g.Parts := by unfold volV; rw [hcaps]; simp [tsum]
 have hmom : momV g = tsum Vg.Qd8 g.Parts := by unfold momV; rw [hcaps]; simp [tsum]
 have hl := Q2u k (by omega) g c4 (by omega) l w (volV g, 0) (cenV g, 0) g.Parts.length k 0 (by omega) (by omega)
 rw [List.take_zero] at hl
 rw [if_pos c4, Qr5 lk, if_pos c4, Option.bind_some, Qr6 lk, if_pos c4, Option.bind_some, if_pos rfl, if_pos rfl, show Zr k g l w (volV g, 0) (cenV g, 0) k 0 0 0 0 = _ from hl, Option.bind_some]
 dsimp only
 have hv := G.v
 have hm := G.o.mom
 have hh := Qw4 (m := momV g) hv
 have hce : cenV g = ⟨(500 * momV g) / volV g, cdiv (500 * momV g) (volV g)⟩ := by unfold cenV rnd; rw [hh.1, hh.2]
 have hle : (500 * momV g) / volV g <= cdiv (500 * momV g) (volV g) := by
  have h1 : (500 * momV g) / volV g * volV g <= 500 * momV g := Int.ediv_mul_le _ (by omega)
  have h2 : 500 * momV g <= cdiv (500 * momV g) (volV g) * volV g := (cdiv_le hv).1 (Int.le_refl _)
  exact Int.le_of_mul_le_mul_right (Int.le_trans h1 h2) hv
 rw [if_pos hvol.symm, if_pos rfl, hce, <- hmom]
 dsimp only
 rw [if_neg (by omega), Qpe k (by omega) hv, Option.bind_some, if_pos rfl, Qwq k (by omega) hv, Option.bind_some, if_pos rfl]
 obtain ⟨r, hr, hc⟩ := Qzt k (by omega) (by omega) l (by omega) w
 rw [hr, Option.bind_some]
 rcases hc with hc | ⟨hb, j, hn, hf⟩
 ·rw [if_neg hc]
 by_cases c5 : r.2 = 0
 case neg => rw [if_neg c5]
 obtain ⟨a1, a2⟩ := Q2t k (by omega) (by omega) l (by omega) hb w hf
 rw [if_pos c5, hn, a1, Option.bind_some]
 dsimp only
 rw [a2, Option.bind_some, if_pos rfl, if_pos rfl, if_pos (by simp)]
 have he := Q2v k g l (by omega) (Qh7 hb).2 w r ((List.range l.length).map (lvF l (oneP (l.getD j default).Name)), 0) hf hn rfl l.length k 0 (by omega) (by omega) (by omega)
 rw [show Xi k g l w r ((List.range l.length).map (lvF l (oneP (l.getD j default).Name)), 0) k 0 = _ from he]
 rfl
theorem Qsw (g : Zd) (l : List Qj) (w : A27) : VC Try.prog 3 [VV.ag (Yh g), VV.tr (l.flatMap Qc) l.length, VV.ag (Qf5 w)] (vb true) := Qez _ _ _ _ _ (Qqo 100000000000000000000 rfl g l w)
end Go.Proofs.Ytmaegladkjcmdaa.Vg
