import Derived.Test.YtfeedchjdnedjaaEv16
set_option linter.unusedVariables false
set_option linter.unusedSimpArgs false
namespace Go.Proofs.Ytfeedchjdnedjaa.Ev
open Go
section
variable {P : Program} {O : Orc P} {fl : Nat}
structure Kp (fl : Nat) (H : Tr Obj) (N : Nat) (H' : Tr Obj) (N' : Nat) : Prop where
 le : N <= N'
 small : N' < 1099511627776
 keep : ∀ b, b < fl -> Qat H' N' b = Qat H N b
theorem Kp.refl {H : Tr Obj} {N : Nat} (h : N < 1099511627776) : Kp fl H N H N := ⟨Nat.le_refl _, h, fun _ _ => rfl⟩
theorem Kp.trans {H1 H2 H3 : Tr Obj} {N1 N2 N3 : Nat} (h : Kp fl H1 N1 H2 N2) (k : Kp fl H2 N2 H3 N3) : Kp fl H1 N1 H3 N3 :=
 ⟨Nat.le_trans h.le k.le, k.small, fun b hb => (k.keep b hb).trans (h.keep b hb)⟩
theorem Kp.mono {fl' : Nat} {H H' : Tr Obj} {N N' : Nat} (h : Kp fl H N H' N') (hf : fl' <= fl) : Kp fl' H N H' N' := ⟨h.le, h.small, fun b hb => h.keep b (Nat.lt_of_lt_of_le hb hf)⟩
theorem Kp.set {H : Tr Obj} {N b0 : Nat} (h : N < 1099511627776) (hb : b0 < 1099511627776) (hf : fl <= b0) (o : Obj) : Kp fl H N (H.set b0 o) N :=
 ⟨Nat.le_refl _, h, fun b hb' => by rw [Xt, Xt, Qdg _ _ _ _ hb, if_neg (show ¬ b = b0 by omega)]⟩
theorem Kp.new {H : Tr Obj} {N : Nat} (h : N < 1000000000) (hf : fl <= N) (o : Obj) : Kp fl H N (H.set N o) (N + 1) :=
 ⟨Nat.le_succ _, by omega, fun b hb' => by
  rw [Xt, Xt, Qdg _ _ _ _ (by omega), if_neg (show ¬ b = N by omega), if_pos (show b < N + 1 by omega), if_pos (show b < N by omega)]⟩
theorem Kp.upd {H : Tr Obj} {N : Nat} {u : Upd} (h : N < 1099511627776) (hf : fl <= N) (hu : Qia fl N u = true) : Kp fl H N (updT H N u).1 (updT H N u).2 := by
 cases u with
 | same => exact .refl h
 | put b o =>
   simp only [Qia, Bool.and_eq_true] at hu
   exact .set h (Nat.lt_trans (Z4 hu.1) h) (Nat.le_of_ble_eq_true hu.2) o
 | new o => exact .new (Z4 hu) hf o
 | killNew b o =>
   simp only [Qia, Bool.and_eq_true] at hu
   exact (Kp.set h (Nat.lt_trans (Z4 hu.1.1) h) (Nat.le_of_ble_eq_true hu.2) _).trans (.new (Z4 hu.1.2) hf o)
theorem Qs4 {N N1 : Nat} {v : Value} {H : Tr Obj} (h : N <= N1) : N <= Qf5 N v H N1 /\ Qf5 N v H N1 <= N1 := by
 unfold Qf5
 cases Nat.ble N1 (N + 24) with
 | true => exact ⟨h, Nat.le_refl _⟩
 | false =>
   simp only [cond_false]
   cases (wv N 3 v && Qqu H N N) with
   | true => exact ⟨Nat.le_refl _, h⟩
   | false => exact ⟨h, Nat.le_refl _⟩
theorem Kp.trunc {H H1 : Tr Obj} {N N1 : Nat} (h : Kp fl H N H1 N1) (hf : fl <= N) (v : Value) : Kp fl H N H1 (Qf5 N v H1 N1) := by
 obtain ⟨h1, h2⟩ := Qs4 (v := v) (H := H1) h.le
 refine ⟨h1, Nat.lt_of_le_of_lt h2 h.small, fun b hb => ?_⟩
 rw [<- h.keep b hb, Xt, Xt, if_pos (by omega), if_pos (by omega)]
def Qhi (P : Program) (code : Qa8) : Prop := ∀ fl rd sz c s e s', code fl rd sz c s = some (e, s') -> fl <= s.N -> s.N < 1099511627776 -> Kp fl s.H s.N s'.H s'.N
theorem Qmx : ∀ (M : List Nat) (H H' : Tr Obj) (N : Nat), Qhd fl M H N = some H' -> N < 1099511627776 -> Kp fl H N H' N
 | [], H, H', N, h, hN => by simp only [Qhd, Option.some.injEq] at h; subst h; exact .refl hN
 | r :: rs, H, H', N, h, hN => by
   simp only [Qhd] at h
   split at h
   ·rename_i hm
    have hb0 := Qe h; clear h; obtain ⟨hc, h⟩ := hb0
    have hr : r < N := by
     rw [Xt] at hm
     split at hm
     ·assumption
     ·cases hm
    exact (Kp.set hN (Nat.lt_trans hr hN) (Nat.le_of_ble_eq_true hc) _).trans (Qmx rs _ H' N h hN)
   ·cases h
theorem Qpl {code : Qa8} (hc : Qhi P code) {f : FuncId} {args : List Value} {H H' : Tr Obj} {N N' : Nat} {v : Value} (h : Qih O code fl f args H N = some (v, H', N')) (hf : fl <= N) (hN : N < 1099511627776) :
 Kp fl H N H' N' := by
 unfold Qih at h
 split at h
 ·injection h with h; injection h with e1 h; injection h with e2 e3; subst e2; subst e3
  exact .refl hN
 split at h
 case h_2 => cases h
 split at h
 case h_2 => cases h
 dsimp only at h
 have hb1 := Qe h; clear h; obtain ⟨_, h⟩ := hb1
 split at h
 case h_2 => cases h
 rename_i e s hs
 have hb0 := Qe h; clear h; obtain ⟨_, h⟩ := hb0
 have k1 := hc _ _ _ _ _ _ _ hs hf hN
 split at h
 case h_2 => cases h
 rename_i H1 hm
 have k2 := Qmx _ _ _ _ hm k1.small
 split at h
 ·injection h with h; injection h with e1 h; injection h with e2 e3; subst e1; subst e2; subst e3
  exact (k1.trans k2).trunc hf _
 ·injection h with h; injection h with e1 h; injection h with e2 e3; subst e1; subst e2; subst e3
  exact (k1.trans k2).trunc hf _
 ·cases h
theorem Qj2 {H : Tr Obj} {N b : Nat} {o : Obj} (h : Qat H N b = some o) : b < N := by
 rw [Xt] at h
 split at h
 ·assumption
 ·cases h
theorem Qs5 {code : Qa8} (hc : Qhi P code) {l : Nat} {args : List Value} {H H' : Tr Obj} {N N' : Nat} {v : Value} (h : Qjv code fl l args H N = some (v, H', N')) (hf : fl <= N) (hN : N < 1099511627776) :
 Kp fl H N H' N' := by
 unfold Qjv at h
 split at h
 case h_2 => cases h
 rename_i r hr
 have hb0 := Qe h; clear h; obtain ⟨hfl, h⟩ := hb0
 simp only [Bool.and_eq_true] at hfl
 have hfl1 := Nat.le_of_ble_eq_true hfl.1.1
 have hl := Qj2 hr
 split at h
 case h_2 => cases h
 rename_i A0 _
 split at h
 case h_2 => cases h
 rename_i s1 hs1
 have k1 := hc _ _ _ _ _ _ _ hs1 hf hN
 split at h
 case h_2 => cases h
 rename_i r1 hr1
 split at h
 case h_2 => cases h
 split at h
 case h_2 => cases h
 rename_i e s2 hs2
 have k2 : Kp fl s1.H s1.N (s1.H.set l (.loop { r1 with state := .busy })) s1.N := .set k1.small (Nat.lt_trans (Qj2 hr1) k1.small) hfl1 _
 have k3 := hc _ _ _ _ _ _ _ hs2 (Nat.le_trans hf k1.le) k1.small
 dsimp only at h
 split at h
 ·rename_i r2 _ hr2
  injection h with h; injection h with e1 h; injection h with e2 e3; subst e1; subst e2; subst e3
  exact k1.trans (k2.trans (k3.trans (.set k3.small (Nat.lt_trans (Qj2 hr2) k3.small) hfl1 _)))
 ·rename_i r2 _ hr2
  injection h with h; injection h with e1 h; injection h with e2 e3; subst e1; subst e2; subst e3
  exact k1.trans (k2.trans (k3.trans (.set k3.small (Nat.lt_trans (Qj2 hr2) k3.small) hfl1 _)))
 ·cases h
theorem Qmy {code : Qa8} {o : Oper} {A : Tr Value} {H H' : Tr Obj} {N N' : Nat} {v : Value} (h : fOp O code fl o A H N = some (v, H', N')) :
 (∃ f args ts g first captured, o.op = .call { callee := .value f, args, argTypes := ts } /\ Wh A f = .func (.func g) first captured /\ Qih O code fl g (first.toList ++ args.toList.map (Wh A) ++ captured.toList) H N = some (v, H', N')) \/
 (∃ f args ts l first captured, o.op = .call { callee := .value f, args, argTypes := ts } /\ Wh A f = .func (.yield l) first captured /\ Qjv code fl l (args.toList.map (Wh A)) H N = some (v, H', N')) \/
 (∃ n u, Qdn P fl o (Wh A) (Qat H N) N = some (n, u) /\ Qia fl N u = true /\ valOf n = some v /\ updT H N u = (H', N')) := by
 unfold fOp at h
 split at h
 ·rename_i f args ts ho
  split at h
  ·rename_i g first captured hf
   exact .inl ⟨f, args, ts, g, first, captured, ho, hf, h⟩
  ·rename_i l first captured hf
   exact .inr (.inl ⟨f, args, ts, l, first, captured, ho, hf, h⟩)
  ·cases h
 ·split at h
  ·rename_i n u hu
   have hb0 := Qe h; clear h; obtain ⟨hc, h⟩ := hb0
   refine .inr (.inr ⟨n, u, hu, hc, ?_⟩)
   cases n <;> simp only at h <;> first
    | (cases h; done)
    | (injection h with h; injection h with e1 h; exact ⟨by rw [<- e1]; rfl, h⟩)
  ·cases h
theorem Qpm {code : Qa8} (hc : Qhi P code) {o : Oper} {A : Tr Value} {H H' : Tr Obj} {N N' : Nat} {v : Value} (h : fOp O code fl o A H N = some (v, H', N')) (hf : fl <= N) (hN : N < 1099511627776) :
 Kp fl H N H' N' := by
 rcases Qmy h with ⟨_, _, _, _, _, _, _, _, h⟩ | ⟨_, _, _, _, _, _, _, _, h⟩ | ⟨n, u, _, h2, _, h4⟩
 ·exact Qpl hc h hf hN
 ·exact Qs5 hc h hf hN
 ·have := Kp.upd (H := H) hN hf h2
  rw [h4] at this; exact this
theorem Qn7 {code : Qa8} (hc : Qhi P code) {ops : Array Oper} : ∀ (l : List Oper) (s s' : St), fOps O code fl ops l s = some s' -> fl <= s.N -> s.N < 1099511627776 -> Kp fl s.H s.N s'.H s'.N
 | [], s, s', h, hf, hN => by simp only [fOps, Option.some.injEq] at h; subst h; exact .refl hN
 | o :: rest, s, s', h, hf, hN => by
   simp only [fOps] at h
   cases hw : Qa7 ops s.A o with
   | true =>
     rw [hw] at h
     simp only [cond_true] at h
     split at h
     ·rename_i v H N ho
      have k1 := Qpm hc ho hf hN
      exact k1.trans (Qn7 hc rest _ s' h (Nat.le_trans hf k1.le) k1.small)
     ·cases h
   | false =>
     rw [hw] at h
     simp only [cond_false] at h
     exact Qn7 hc rest ⟨putA s.A o.dst undef, s.M, s.H, s.N⟩ s' h hf hN
theorem Qpn (H : Tr Obj) : ∀ (bs : List Nat), (∀ b ∈ bs, b < 1099511627776) -> ∀ k, Qb2 ((hide H bs).get k) = if k ∈ bs then .pending #[] 0 else Qb2 (H.get k)
 | [], _, k => by simp [hide]
 | b :: bs, h, k => by
   simp only [hide]
   rw [Qdg _ _ _ _ (h b (by simp))]
   by_cases e : k = b
   ·rw [if_pos e, if_pos (by simp [e])]; rfl
   ·rw [if_neg e, Qpn H bs (fun x hx => h x (by simp [hx])) k]
    by_cases e2 : k ∈ bs
    ·rw [if_pos e2, if_pos (by simp [e2])]
    ·rw [if_neg e2, if_neg (by simp [e, e2])]
theorem Qg4 (H' H : Tr Obj) : ∀ (bs : List Nat), (∀ b ∈ bs, b < 1099511627776) -> ∀ k, Qb2 ((Qeq H' H bs).get k) = if k ∈ bs then Qb2 (H.get k) else Qb2 (H'.get k)
 | [], _, k => by simp [Qeq]
 | b :: bs, h, k => by
   simp only [Qeq]
   rw [Qdg _ _ _ _ (h b (by simp))]
   by_cases e : k = b
   ·subst e; rw [if_pos rfl, if_pos (by simp)]; rfl
   ·rw [if_neg e, Qg4 H' H bs (fun x hx => h x (by simp [hx])) k]
    by_cases e2 : k ∈ bs
    ·rw [if_pos e2, if_pos (by simp [e2])]
    ·rw [if_neg e2, if_neg (by simp [e, e2])]
theorem Qla {H : Tr Obj} {N : Nat} {bs : List Nat} (h : ∀ b ∈ bs, b < 1099511627776) (k : Nat) : Qat (hide H bs) N k = if k < N then some (if k ∈ bs then .pending #[] 0 else Qb2 (H.get k)) else none := by
 rw [Xt, Qpn H bs h]
theorem Qq5 {H' H : Tr Obj} {N : Nat} {bs : List Nat} (h : ∀ b ∈ bs, b < 1099511627776) (k : Nat) : Qat (Qeq H' H bs) N k = if k < N then some (if k ∈ bs then Qb2 (H.get k) else Qb2 (H'.get k)) else none := by
 rw [Xt, Qg4 H' H bs h]
theorem Kp.Qeq {H H' : Tr Obj} {N N' : Nat} {bs : List Nat} (h : Kp N (hide H bs) N H' N') (hb : ∀ b ∈ bs, b < 1099511627776) : Kp N H N (Qeq H' H bs) N' := by
 refine ⟨h.le, h.small, fun b hlt => ?_⟩
 have hk := h.keep b hlt
 have hle := h.le
 rw [Qla hb, Xt, if_pos hlt, if_pos (by omega)] at hk
 rw [Qq5 hb, Xt, if_pos hlt, if_pos (by omega)]
 by_cases e : b ∈ bs
 ·rw [if_pos e]
 ·rw [if_neg e]
  rw [if_neg e] at hk
  exact hk
theorem Qeu {ms : List Nat} {i : Nat} : ∀ {bs : List (Nat × Nat)} {b : Nat}, b ∈ Qbl ms i bs -> ∃ k, (k, b) ∈ bs /\ k ≠ i /\ (maskAt ms i).testBit k = false /\ (maskAt ms k).testBit i = false
 | [], b, h => by simp [Qbl] at h
 | (k, b') :: bs, b, h => by
   simp only [Qbl] at h
   cases hc : (Nat.beq k i || (maskAt ms i).testBit k || (maskAt ms k).testBit i) with
   | true =>
     rw [hc] at h
     obtain ⟨k', h1, h2⟩ := Qeu h
     exact ⟨k', by simp [h1], h2⟩
   | false =>
     rw [hc] at h
     simp only [cond_false, List.mem_cons] at h
     rcases h with rfl | h
     ·simp only [Bool.or_eq_false_iff] at hc
      exact ⟨k, by simp, Nat.ne_of_beq_eq_false hc.1.1, hc.1.2, hc.2⟩
     ·obtain ⟨k', h1, h2⟩ := Qeu h
      exact ⟨k', by simp [h1], h2⟩
theorem Qc3 {ms : List Nat} {i k b : Nat} : ∀ {bs : List (Nat × Nat)}, (k, b) ∈ bs -> k ≠ i -> (maskAt ms i).testBit k = false -> (maskAt ms k).testBit i = false -> b ∈ Qbl ms i bs
 | [], h, _, _, _ => by simp at h
 | (k', b') :: bs, h, h1, h2, h3 => by
   simp only [Qbl]
   simp only [List.mem_cons, Prod.mk.injEq] at h
   cases hc : (Nat.beq k' i || (maskAt ms i).testBit k' || (maskAt ms k').testBit i) with
   | true =>
     rcases h with ⟨rfl, rfl⟩ | h
     ·rw [h2, h3, Bool.or_false, Bool.or_false] at hc
      exact absurd (Nat.eq_of_beq_eq_true hc) h1
     ·exact Qc3 h h1 h2 h3
   | false =>
     simp only [cond_false, List.mem_cons]
     rcases h with ⟨rfl, rfl⟩ | h
     ·exact .inl rfl
     ·exact .inr (Qc3 h h1 h2 h3)
theorem Qdk {N k b : Nat} : ∀ {bs : List (Nat × Nat)}, (k, b) ∈ flt N bs ↔ (k, b) ∈ bs /\ b < N
 | [] => by simp [flt]
 | (k', b') :: bs => by
   simp only [flt]
   cases hc : Nat.blt b' N with
   | true =>
     have := Z4 hc
     simp only [cond_true, List.mem_cons, Qdk (bs := bs)]
     constructor
     ·rintro (h | h)
      ·cases h; exact ⟨.inl rfl, this⟩
      ·exact ⟨.inr h.1, h.2⟩
     ·rintro ⟨h | h, h2⟩
      ·exact .inl h
      ·exact .inr ⟨h, h2⟩
   | false =>
     have := Qg0 hc
     simp only [cond_false, List.mem_cons, Qdk (bs := bs)]
     constructor
     ·rintro h; exact ⟨.inr h.1, h.2⟩
     ·rintro ⟨h | h, h2⟩
      ·cases h; exact absurd h2 this
      ·exact ⟨h, h2⟩
theorem Qj7 {ms : List Nat} {i N N' : Nat} : ∀ {bs : List (Nat × Nat)}, Qsi ms i N N' bs = true -> ∀ q b, (q, b) ∈ bs -> N <= b -> b < N' -> (maskAt ms q).testBit i = true
 | [], _, q, b, h, _, _ => by simp at h
 | (q', b') :: bs, h, q, b, hm, h1, h2 => by
   simp only [Qsi, Bool.and_eq_true, Bool.or_eq_true] at h
   rcases List.mem_cons.1 hm with e | e
   ·cases e
    rcases h.1 with (h3 | h3) | h3
    ·have := Z4 h3; omega
    ·have := Nat.le_of_ble_eq_true h3; omega
    ·exact h3
   ·exact Qj7 h.2 q b e h1 h2
inductive OneD {P : Program} (O : Orc P) (code : Qa8) (fl N0 m : Nat) (ms : List Nat) (bs : List (Nat × Nat)) (ops : Array Oper) (i : Nat) (o : Oper) (s : St) : Value -> Tr Obj -> Nat -> Prop
 | no (hw : Qa7 ops s.A o = false) (hb : Qcz i bs = none) : OneD O code fl N0 m ms bs ops i o s undef s.H s.N
 | put {n : Next} {v : Value} {b : Nat} {ob : Obj} (hw : Qa7 ops s.A o = true) (him : i < m) (hs : Qdh o = true) (h : Qdn P fl o (Wh s.A) (Qat (hide s.H (Qbl ms i (flt s.N bs))) s.N) s.N = some (n, .put b ob)) (hv : valOf n = some v)
  (hb : Qcz i bs = some b) (hN : b < s.N) (hf : fl <= b) : OneD O code fl N0 m ms bs ops i o s v (s.H.set b ob) s.N
 | quiet {v : Value} {H : Tr Obj} {N : Nat} (hw : Qa7 ops s.A o = true) (him : i < m) (hb : Qcz i bs = none) (h : fOp O code s.N o s.A (hide s.H (Qbl ms i (flt s.N bs))) s.N = some (v, H, N)) (hown : Qsi ms i s.N N bs = true) :
  OneD O code fl N0 m ms bs ops i o s v (Qeq H s.H (Qbl ms i (flt s.N bs))) N
 | bar {v : Value} {H : Tr Obj} {N : Nat} (hw : Qa7 ops s.A o = true) (him : m <= i) (h : fOp O code fl o s.A s.H s.N = some (v, H, N)) : OneD O code fl N0 m ms bs ops i o s v H N
theorem Qj8 {code : Qa8} {N0 m : Nat} {ms : List Nat} {bs : List (Nat × Nat)} {ops : Array Oper} {i : Nat} {o : Oper} {rest : List Oper} {s s' : St}
 (h : Qhs O code fl N0 m ms bs ops i (o :: rest) s = some s') : s.N < 1000000000 /\ ∃ v H N, OneD O code fl N0 m ms bs ops i o s v H N /\ Qhs O code fl N0 m ms bs ops (i + 1) rest ⟨putA s.A o.dst v, s.M, H, N⟩ = some s' := by
 simp only [Qhs] at h
 have hb0 := Qe h; clear h; obtain ⟨hN, h⟩ := hb0
 refine ⟨Z4 hN, ?_⟩
 cases hw : Qa7 ops s.A o with
 | false =>
   rw [hw] at h
   simp only [cond_false] at h
   cases hb : Qcz i bs with
   | some b => rw [hb] at h; cases h
   | none => rw [hb] at h; exact ⟨_, _, _, .no hw hb, h⟩
 | true =>
   rw [hw] at h
   simp only [cond_true] at h
   cases him : Nat.blt i m with
   | false =>
     rw [him] at h
     simp only [cond_false] at h
     split at h
     ·rename_i v H N ho
      exact ⟨v, H, N, .bar hw (by have := Qg0 him; omega) ho, h⟩
     ·cases h
   | true =>
     rw [him] at h
     simp only [cond_true] at h
     cases hb : Qcz i bs with
     | none =>
       rw [hb] at h
       dsimp only at h
       split at h
       ·rename_i v H N ho
        have hb0 := Qe h; clear h; obtain ⟨hown, h⟩ := hb0
        exact ⟨v, _, N, .quiet hw (Z4 him) hb ho hown, h⟩
       ·cases h
     | some b' =>
       rw [hb] at h
       dsimp only at h
       split at h
       ·rename_i n b ob ho
        split at h
        ·rename_i v hv
         have hb0 := Qe h; clear h; obtain ⟨hc, h⟩ := hb0
         simp only [Bool.and_eq_true] at hc
         have e : b = b' := Nat.eq_of_beq_eq_true hc.1.1.2
         exact ⟨v, _, _, .put hw (Z4 him) hc.1.1.1 ho hv (by rw [hb, e]) (Z4 hc.1.2) (Nat.le_of_ble_eq_true hc.2), h⟩
        ·cases h
       ·cases h
theorem OneD.kp {code : Qa8} (hc : Qhi P code) {N0 m : Nat} {ms : List Nat} {bs : List (Nat × Nat)} {ops : Array Oper} {i : Nat} {o : Oper} {s : St} {v : Value} {H : Tr Obj} {N : Nat}
 (h : OneD O code fl N0 m ms bs ops i o s v H N) (hf : fl <= s.N) (hN : s.N < 1099511627776) : Kp fl s.H s.N H N := by
 have hh : ∀ b ∈ Qbl ms i (flt s.N bs), b < 1099511627776 := fun b hb => by obtain ⟨k, h1, _⟩ := Qeu hb; exact Nat.lt_trans (Qdk.1 h1).2 hN
 cases h with
 | no => exact .refl hN
 | put _ _ _ _ _ _ hlt hfb => exact .set hN (by omega) hfb _
 | quiet _ _ _ h _ => exact ((Qpm hc h (Nat.le_refl _) hN).Qeq hh).mono hf
 | bar _ _ h => exact Qpm hc h hf hN
theorem Qpo {code : Qa8} (hc : Qhi P code) {N0 m : Nat} {ms : List Nat} {bs : List (Nat × Nat)} {ops : Array Oper} : ∀ (l : List Oper) (i : Nat) (s s' : St),
 Qhs O code fl N0 m ms bs ops i l s = some s' -> fl <= s.N -> s.N < 1099511627776 -> Kp fl s.H s.N s'.H s'.N
 | [], i, s, s', h, hf, hN => by simp only [Qhs, Option.some.injEq] at h; subst h; exact .refl hN
 | o :: rest, i, s, s', h, hf, hN => by
   obtain ⟨_, v, H, N, h1, h2⟩ := Qj8 h
   have k1 := h1.kp hc hf hN
   exact k1.trans (Qpo hc rest (i + 1) ⟨putA s.A o.dst v, s.M, H, N⟩ s' h2 (Nat.le_trans hf k1.le) k1.small)
theorem Qpf : ∀ n, Qhi P (Yp O n)
 | 0 => fun fl rd sz c s e s' h => by simp [Yp] at h
 | n + 1 => fun fl rd sz c s e s' h hf hN => by
   have ih := Qpf n
   cases c with
   | skip => simp only [Yp, Option.some.injEq, Prod.mk.injEq] at h; obtain ⟨_, rfl⟩ := h; exact .refl hN
   | label l => simp only [Yp, Option.some.injEq, Prod.mk.injEq] at h; obtain ⟨_, rfl⟩ := h; exact .refl hN
   | exit id => simp only [Yp, Option.some.injEq, Prod.mk.injEq] at h; obtain ⟨_, rfl⟩ := h; exact .refl hN
   | ret => simp only [Yp, Option.some.injEq, Prod.mk.injEq] at h; obtain ⟨_, rfl⟩ := h; exact .refl hN
   | goto l => simp [Yp] at h
   | scope b => simp [Yp] at h
   | refuse w => simp [Yp] at h
   | region id ops draw =>
     simp only [Yp] at h
     have hb0 := Qe h; clear h; obtain ⟨_, h⟩ := hb0
     cases draw with
     | false =>
       dsimp only at h
       split at h
       ·rename_i s1 hs
        simp only [Option.some.injEq, Prod.mk.injEq] at h; obtain ⟨_, rfl⟩ := h
        exact Qn7 ih _ _ _ hs hf hN
       ·cases h
     | true =>
       dsimp only at h
       split at h
       ·have hb0 := Qe h; clear h; obtain ⟨hbs, h⟩ := hb0
        split at h
        ·rename_i s1 hs
         simp only [Option.some.injEq, Prod.mk.injEq] at h; obtain ⟨_, rfl⟩ := h
         exact Qpo ih _ _ _ _ hs hf hN
        ·cases h
       ·cases h
   | seq x y =>
     simp only [Yp] at h
     split at h
     ·rename_i s1 hs1
      have k1 := ih _ _ _ _ _ _ _ hs1 hf hN
      exact k1.trans (ih _ _ _ _ _ _ _ h (Nat.le_trans hf k1.le) k1.small)
     ·exact ih _ _ _ _ _ _ _ h hf hN
   | cond c x y =>
     simp only [Yp] at h
     split at h
     ·exact ih _ _ _ _ _ _ _ h hf hN
     ·exact ih _ _ _ _ _ _ _ h hf hN
     ·cases h
   | block id b =>
     simp only [Yp] at h
     split at h
     ·rename_i id' s1 hs1
      have k1 := ih _ _ _ _ _ _ _ hs1 hf hN
      cases hb : Nat.beq id' id with
      | true => rw [hb] at h; simp only [cond_true, Option.some.injEq, Prod.mk.injEq] at h; obtain ⟨_, rfl⟩ := h; exact k1
      | false => rw [hb] at h; simp only [cond_false, Option.some.injEq, Prod.mk.injEq] at h; obtain ⟨_, rfl⟩ := h; exact k1
     ·exact ih _ _ _ _ _ _ _ h hf hN
   | loop b =>
     simp only [Yp] at h
     split at h
     ·rename_i s1 hs1
      have k1 := ih _ _ _ _ _ _ _ hs1 hf hN
      exact k1.trans (ih _ _ _ _ _ _ _ h (Nat.le_trans hf k1.le) k1.small)
     ·exact ih _ _ _ _ _ _ _ h hf hN
   | rangeFunc f params assign body =>
     simp only [Yp] at h
     have hb1 := Qe h; clear h; obtain ⟨_, h⟩ := hb1
     split at h
     case h_2 => cases h
     split at h
     case h_2 => cases h
     rename_i d M H1 N1 hdr
     have hb0 := Qe h; clear h; obtain ⟨hN1, h⟩ := hb0
     have k0 : Kp fl s.H s.N H1 N1 := by
      split at hdr
      ·have hb0 := Qe hdr; clear hdr; obtain ⟨hlt, hdr⟩ := hb0
       simp only [Option.some.injEq, Prod.mk.injEq] at hdr
       obtain ⟨_, _, rfl, rfl⟩ := hdr
       exact .new (Z4 hlt) hf _
      ·split at hdr
       ·simp only [Option.some.injEq, Prod.mk.injEq] at hdr
        obtain ⟨_, _, rfl, rfl⟩ := hdr
        exact .refl hN
       ·cases hdr
     have k1 := k0.trans (Kp.new (Z4 hN1) (Nat.le_trans hf k0.le) (.loop { state := .ready, pending := none, fn := 0, tmps := ⟨Qdq s.A sz []⟩, params, assign, body, defers := d }))
     split at h
     case h_2 => cases h
     rename_i v2 H2 N2 hcall
     have k2 := Qpl ih hcall (Nat.le_trans hf k1.le) k1.small
     split at h
     case h_2 => cases h
     rename_i r2 hr2
     have k3 : ∀ r2' : Loop, Kp fl H2 N2 (H2.set N1 (.loop r2')) N2 := fun r2' => .set k2.small (Nat.lt_trans (Qj2 hr2) k2.small) (Nat.le_trans hf k0.le) _
     have fin : ∀ r2' : Loop, (match r2.pending with
      | none => some (Exit.normal, (⟨s.A, M, H2.set N1 (.loop r2'), N2⟩ : St))
      | some c => Yp O n fl rd sz c ⟨s.A, M, H2.set N1 (.loop r2'), N2⟩) = some (e, s') -> Kp fl s.H s.N s'.H s'.N := by
      intro r2' h
      have k4 := k1.trans (k2.trans (k3 r2'))
      split at h
      ·simp only [Option.some.injEq, Prod.mk.injEq] at h; obtain ⟨_, rfl⟩ := h
       exact k4
      ·exact k4.trans (ih _ _ _ _ _ _ _ h (Nat.le_trans hf k4.le) k4.small)
     cases hst : r2.state with
     | busy => rw [hst] at h; cases h
     | ready => rw [hst] at h; exact fin _ h
     | done => rw [hst] at h; exact fin _ h
     | exhausted => rw [hst] at h; exact fin _ h
end
end Go.Proofs.Ytfeedchjdnedjaa.Ev
