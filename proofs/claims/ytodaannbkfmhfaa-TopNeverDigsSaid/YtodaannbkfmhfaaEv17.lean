import Derived.Test.YtodaannbkfmhfaaEv16
set_option linter.unusedVariables false
set_option linter.unusedSimpArgs false
namespace Go.Proofs.Ytodaannbkfmhfaa.Ev
open Go
section
variable {P : Program} {O : Orc P} {fl : Nat}
structure Kp (fl : Nat) (H : Tr Obj) (N : Nat) (H' : Tr Obj) (N' : Nat) : Prop where
 le : N <= N'
 small : N' < 1099511627776
 keep : ∀ b, b < fl -> memOf H' N' b = memOf H N b
theorem Kp.refl {H : Tr Obj} {N : Nat} (h : N < 1099511627776) : Kp fl H N H N := ⟨Nat.le_refl _, h, fun _ _ => rfl⟩
theorem Kp.trans {H1 H2 H3 : Tr Obj} {N1 N2 N3 : Nat} (h : Kp fl H1 N1 H2 N2) (k : Kp fl H2 N2 H3 N3) : Kp fl H1 N1 H3 N3 :=
 ⟨Nat.le_trans h.le k.le, k.small, fun b hb => (k.keep b hb).trans (h.keep b hb)⟩
theorem Kp.mono {fl' : Nat} {H H' : Tr Obj} {N N' : Nat} (h : Kp fl H N H' N') (hf : fl' <= fl) : Kp fl' H N H' N' := ⟨h.le, h.small, fun b hb => h.keep b (Nat.lt_of_lt_of_le hb hf)⟩
theorem Kp.set {H : Tr Obj} {N b0 : Nat} (h : N < 1099511627776) (hb : b0 < 1099511627776) (hf : fl <= b0) (o : Obj) : Kp fl H N (H.set b0 o) N :=
 ⟨Nat.le_refl _, h, fun b hb' => by rw [memOf_of, memOf_of, set_get _ _ _ _ hb, if_neg (show ¬ b = b0 by omega)]⟩
theorem Kp.new {H : Tr Obj} {N : Nat} (h : N < 1000000000) (hf : fl <= N) (o : Obj) : Kp fl H N (H.set N o) (N + 1) :=
 ⟨Nat.le_succ _, by omega, fun b hb' => by
  rw [memOf_of, memOf_of, set_get _ _ _ _ (by omega), if_neg (show ¬ b = N by omega), if_pos (show b < N + 1 by omega), if_pos (show b < N by omega)]⟩
theorem Kp.upd {H : Tr Obj} {N : Nat} {u : Upd} (h : N < 1099511627776) (hf : fl <= N) (hu : updOk fl N u = true) : Kp fl H N (updT H N u).1 (updT H N u).2 := by
 cases u with
 | same => exact .refl h
 | put b o =>
   simp only [updOk, Bool.and_eq_true] at hu
   exact .set h (Nat.lt_trans (blt_lt hu.1) h) (Nat.le_of_ble_eq_true hu.2) o
 | new o => exact .new (blt_lt hu) hf o
 | killNew b o =>
   simp only [updOk, Bool.and_eq_true] at hu
   exact (Kp.set h (Nat.lt_trans (blt_lt hu.1.1) h) (Nat.le_of_ble_eq_true hu.2) _).trans (.new (blt_lt hu.1.2) hf o)
theorem truncN_le {N N1 : Nat} {v : Value} {H : Tr Obj} (h : N <= N1) : N <= truncN N v H N1 /\ truncN N v H N1 <= N1 := by
 unfold truncN
 cases Nat.ble N1 (N + 24) with
 | true => exact ⟨h, Nat.le_refl _⟩
 | false =>
   simp only [cond_false]
   cases (wv N 3 v && woAll H N N) with
   | true => exact ⟨Nat.le_refl _, h⟩
   | false => exact ⟨h, Nat.le_refl _⟩
theorem Kp.trunc {H H1 : Tr Obj} {N N1 : Nat} (h : Kp fl H N H1 N1) (hf : fl <= N) (v : Value) : Kp fl H N H1 (truncN N v H1 N1) := by
 obtain ⟨h1, h2⟩ := truncN_le (v := v) (H := H1) h.le
 refine ⟨h1, Nat.lt_of_le_of_lt h2 h.small, fun b hb => ?_⟩
 rw [<- h.keep b hb, memOf_of, memOf_of, if_pos (by omega), if_pos (by omega)]
def CodeKp (P : Program) (code : Coder) : Prop := ∀ fl rd sz c s e s', code fl rd sz c s = some (e, s') -> fl <= s.N -> s.N < 1099511627776 -> Kp fl s.H s.N s'.H s'.N
theorem fMarks_kp : ∀ (M : List Nat) (H H' : Tr Obj) (N : Nat), fMarks fl M H N = some H' -> N < 1099511627776 -> Kp fl H N H' N
 | [], H, H', N, h, hN => by simp only [fMarks, Option.some.injEq] at h; subst h; exact .refl hN
 | r :: rs, H, H', N, h, hN => by
   simp only [fMarks] at h
   split at h
   ·rename_i hm
    have hb0 := bif_cases h; clear h; obtain ⟨hc, h⟩ := hb0
    have hr : r < N := by
     rw [memOf_of] at hm
     split at hm
     ·assumption
     ·cases hm
    exact (Kp.set hN (Nat.lt_trans hr hN) (Nat.le_of_ble_eq_true hc) _).trans (fMarks_kp rs _ H' N h hN)
   ·cases h
theorem fCall_kp {code : Coder} (hc : CodeKp P code) {f : FuncId} {args : List Value} {H H' : Tr Obj} {N N' : Nat} {v : Value} (h : fCall O code fl f args H N = some (v, H', N')) (hf : fl <= N) (hN : N < 1099511627776) :
 Kp fl H N H' N' := by
 unfold fCall at h
 split at h
 ·injection h with h; injection h with e1 h; injection h with e2 e3; subst e2; subst e3
  exact .refl hN
 split at h
 case h_2 => cases h
 split at h
 case h_2 => cases h
 dsimp only at h
 have hb1 := bif_cases h; clear h; obtain ⟨_, h⟩ := hb1
 split at h
 case h_2 => cases h
 rename_i e s hs
 have hb0 := bif_cases h; clear h; obtain ⟨_, h⟩ := hb0
 have k1 := hc _ _ _ _ _ _ _ hs hf hN
 split at h
 case h_2 => cases h
 rename_i H1 hm
 have k2 := fMarks_kp _ _ _ _ hm k1.small
 split at h
 ·injection h with h; injection h with e1 h; injection h with e2 e3; subst e1; subst e2; subst e3
  exact (k1.trans k2).trunc hf _
 ·injection h with h; injection h with e1 h; injection h with e2 e3; subst e1; subst e2; subst e3
  exact (k1.trans k2).trunc hf _
 ·cases h
theorem mem_lt {H : Tr Obj} {N b : Nat} {o : Obj} (h : memOf H N b = some o) : b < N := by
 rw [memOf_of] at h
 split at h
 ·assumption
 ·cases h
theorem fRound_kp {code : Coder} (hc : CodeKp P code) {l : Nat} {args : List Value} {H H' : Tr Obj} {N N' : Nat} {v : Value} (h : fRound code fl l args H N = some (v, H', N')) (hf : fl <= N) (hN : N < 1099511627776) :
 Kp fl H N H' N' := by
 unfold fRound at h
 split at h
 case h_2 => cases h
 rename_i r hr
 have hb0 := bif_cases h; clear h; obtain ⟨hfl, h⟩ := hb0
 simp only [Bool.and_eq_true] at hfl
 have hfl1 := Nat.le_of_ble_eq_true hfl.1.1
 have hl := mem_lt hr
 split at h
 case h_2 => cases h
 rename_i A0 _
 split at h
 case h_2 => cases h
 rename_i s1 hs1
 have k1 := hc _ _ _ _ _ _ _ hs1 hf hN
 split at h
 case h_2 => cases h
 rename_i r1 hr1
 split at h
 case h_2 => cases h
 split at h
 case h_2 => cases h
 rename_i e s2 hs2
 have k2 : Kp fl s1.H s1.N (s1.H.set l (.loop { r1 with state := .busy })) s1.N := .set k1.small (Nat.lt_trans (mem_lt hr1) k1.small) hfl1 _
 have k3 := hc _ _ _ _ _ _ _ hs2 (Nat.le_trans hf k1.le) k1.small
 dsimp only at h
 split at h
 ·rename_i r2 _ hr2
  injection h with h; injection h with e1 h; injection h with e2 e3; subst e1; subst e2; subst e3
  exact k1.trans (k2.trans (k3.trans (.set k3.small (Nat.lt_trans (mem_lt hr2) k3.small) hfl1 _)))
 ·rename_i r2 _ hr2
  injection h with h; injection h with e1 h; injection h with e2 e3; subst e1; subst e2; subst e3
  exact k1.trans (k2.trans (k3.trans (.set k3.small (Nat.lt_trans (mem_lt hr2) k3.small) hfl1 _)))
 ·cases h
theorem fOp_cases {code : Coder} {o : Oper} {A : Tr Value} {H H' : Tr Obj} {N N' : Nat} {v : Value} (h : fOp O code fl o A H N = some (v, H', N')) :
 (∃ f args ts g first captured, o.op = .call { callee := .value f, args, argTypes := ts } /\ fEval A f = .func (.func g) first captured /\ fCall O code fl g (first.toList ++ args.toList.map (fEval A) ++ captured.toList) H N = some (v, H', N')) \/
 (∃ f args ts l first captured, o.op = .call { callee := .value f, args, argTypes := ts } /\ fEval A f = .func (.yield l) first captured /\ fRound code fl l (args.toList.map (fEval A)) H N = some (v, H', N')) \/
 (∃ n u, fOper P fl o (fEval A) (memOf H N) N = some (n, u) /\ updOk fl N u = true /\ valOf n = some v /\ updT H N u = (H', N')) := by
 unfold fOp at h
 split at h
 ·rename_i f args ts ho
  split at h
  ·rename_i g first captured hf
   exact .inl ⟨f, args, ts, g, first, captured, ho, hf, h⟩
  ·rename_i l first captured hf
   exact .inr (.inl ⟨f, args, ts, l, first, captured, ho, hf, h⟩)
  ·cases h
 ·split at h
  ·rename_i n u hu
   have hb0 := bif_cases h; clear h; obtain ⟨hc, h⟩ := hb0
   refine .inr (.inr ⟨n, u, hu, hc, ?_⟩)
   cases n <;> simp only at h <;> first
    | (cases h; done)
    | (injection h with h; injection h with e1 h; exact ⟨by rw [<- e1]; rfl, h⟩)
  ·cases h
theorem fOp_kp {code : Coder} (hc : CodeKp P code) {o : Oper} {A : Tr Value} {H H' : Tr Obj} {N N' : Nat} {v : Value} (h : fOp O code fl o A H N = some (v, H', N')) (hf : fl <= N) (hN : N < 1099511627776) :
 Kp fl H N H' N' := by
 rcases fOp_cases h with ⟨_, _, _, _, _, _, _, _, h⟩ | ⟨_, _, _, _, _, _, _, _, h⟩ | ⟨n, u, _, h2, _, h4⟩
 ·exact fCall_kp hc h hf hN
 ·exact fRound_kp hc h hf hN
 ·have := Kp.upd (H := H) hN hf h2
  rw [h4] at this; exact this
theorem fOps_kp {code : Coder} (hc : CodeKp P code) {ops : Array Oper} : ∀ (l : List Oper) (s s' : St), fOps O code fl ops l s = some s' -> fl <= s.N -> s.N < 1099511627776 -> Kp fl s.H s.N s'.H s'.N
 | [], s, s', h, hf, hN => by simp only [fOps, Option.some.injEq] at h; subst h; exact .refl hN
 | o :: rest, s, s', h, hf, hN => by
   simp only [fOps] at h
   cases hw : fWanted ops s.A o with
   | true =>
     rw [hw] at h
     simp only [cond_true] at h
     split at h
     ·rename_i v H N ho
      have k1 := fOp_kp hc ho hf hN
      exact k1.trans (fOps_kp hc rest _ s' h (Nat.le_trans hf k1.le) k1.small)
     ·cases h
   | false =>
     rw [hw] at h
     simp only [cond_false] at h
     exact fOps_kp hc rest ⟨putA s.A o.dst undef, s.M, s.H, s.N⟩ s' h hf hN
theorem hide_get (H : Tr Obj) : ∀ (bs : List Nat), (∀ b ∈ bs, b < 1099511627776) -> ∀ k, orDead ((hide H bs).get k) = if k ∈ bs then .pending #[] 0 else orDead (H.get k)
 | [], _, k => by simp [hide]
 | b :: bs, h, k => by
   simp only [hide]
   rw [set_get _ _ _ _ (h b (by simp))]
   by_cases e : k = b
   ·rw [if_pos e, if_pos (by simp [e])]; rfl
   ·rw [if_neg e, hide_get H bs (fun x hx => h x (by simp [hx])) k]
    by_cases e2 : k ∈ bs
    ·rw [if_pos e2, if_pos (by simp [e2])]
    ·rw [if_neg e2, if_neg (by simp [e, e2])]
theorem unhide_get (H' H : Tr Obj) : ∀ (bs : List Nat), (∀ b ∈ bs, b < 1099511627776) -> ∀ k, orDead ((unhide H' H bs).get k) = if k ∈ bs then orDead (H.get k) else orDead (H'.get k)
 | [], _, k => by simp [unhide]
 | b :: bs, h, k => by
   simp only [unhide]
   rw [set_get _ _ _ _ (h b (by simp))]
   by_cases e : k = b
   ·subst e; rw [if_pos rfl, if_pos (by simp)]; rfl
   ·rw [if_neg e, unhide_get H' H bs (fun x hx => h x (by simp [hx])) k]
    by_cases e2 : k ∈ bs
    ·rw [if_pos e2, if_pos (by simp [e2])]
    ·rw [if_neg e2, if_neg (by simp [e, e2])]
theorem mem_hide {H : Tr Obj} {N : Nat} {bs : List Nat} (h : ∀ b ∈ bs, b < 1099511627776) (k : Nat) : memOf (hide H bs) N k = if k < N then some (if k ∈ bs then .pending #[] 0 else orDead (H.get k)) else none := by
 rw [memOf_of, hide_get H bs h]
theorem mem_unhide {H' H : Tr Obj} {N : Nat} {bs : List Nat} (h : ∀ b ∈ bs, b < 1099511627776) (k : Nat) : memOf (unhide H' H bs) N k = if k < N then some (if k ∈ bs then orDead (H.get k) else orDead (H'.get k)) else none := by
 rw [memOf_of, unhide_get H' H bs h]
theorem Kp.unhide {H H' : Tr Obj} {N N' : Nat} {bs : List Nat} (h : Kp N (hide H bs) N H' N') (hb : ∀ b ∈ bs, b < 1099511627776) : Kp N H N (unhide H' H bs) N' := by
 refine ⟨h.le, h.small, fun b hlt => ?_⟩
 have hk := h.keep b hlt
 have hle := h.le
 rw [mem_hide hb, memOf_of, if_pos hlt, if_pos (by omega)] at hk
 rw [mem_unhide hb, memOf_of, if_pos hlt, if_pos (by omega)]
 by_cases e : b ∈ bs
 ·rw [if_pos e]
 ·rw [if_neg e]
  rw [if_neg e] at hk
  exact hk
theorem hidAt_sub {ms : List Nat} {i : Nat} : ∀ {bs : List (Nat × Nat)} {b : Nat}, b ∈ hidAt ms i bs -> ∃ k, (k, b) ∈ bs /\ k ≠ i /\ (maskAt ms i).testBit k = false /\ (maskAt ms k).testBit i = false
 | [], b, h => by simp [hidAt] at h
 | (k, b') :: bs, b, h => by
   simp only [hidAt] at h
   cases hc : (Nat.beq k i || (maskAt ms i).testBit k || (maskAt ms k).testBit i) with
   | true =>
     rw [hc] at h
     obtain ⟨k', h1, h2⟩ := hidAt_sub h
     exact ⟨k', by simp [h1], h2⟩
   | false =>
     rw [hc] at h
     simp only [cond_false, List.mem_cons] at h
     rcases h with rfl | h
     ·simp only [Bool.or_eq_false_iff] at hc
      exact ⟨k, by simp, Nat.ne_of_beq_eq_false hc.1.1, hc.1.2, hc.2⟩
     ·obtain ⟨k', h1, h2⟩ := hidAt_sub h
      exact ⟨k', by simp [h1], h2⟩
theorem hidAt_sup {ms : List Nat} {i k b : Nat} : ∀ {bs : List (Nat × Nat)}, (k, b) ∈ bs -> k ≠ i -> (maskAt ms i).testBit k = false -> (maskAt ms k).testBit i = false -> b ∈ hidAt ms i bs
 | [], h, _, _, _ => by simp at h
 | (k', b') :: bs, h, h1, h2, h3 => by
   simp only [hidAt]
   simp only [List.mem_cons, Prod.mk.injEq] at h
   cases hc : (Nat.beq k' i || (maskAt ms i).testBit k' || (maskAt ms k').testBit i) with
   | true =>
     rcases h with ⟨rfl, rfl⟩ | h
     ·rw [h2, h3, Bool.or_false, Bool.or_false] at hc
      exact absurd (Nat.eq_of_beq_eq_true hc) h1
     ·exact hidAt_sup h h1 h2 h3
   | false =>
     simp only [cond_false, List.mem_cons]
     rcases h with ⟨rfl, rfl⟩ | h
     ·exact .inl rfl
     ·exact .inr (hidAt_sup h h1 h2 h3)
theorem flt_mem {N k b : Nat} : ∀ {bs : List (Nat × Nat)}, (k, b) ∈ flt N bs ↔ (k, b) ∈ bs /\ b < N
 | [] => by simp [flt]
 | (k', b') :: bs => by
   simp only [flt]
   cases hc : Nat.blt b' N with
   | true =>
     have := blt_lt hc
     simp only [cond_true, List.mem_cons, flt_mem (bs := bs)]
     constructor
     ·rintro (h | h)
      ·cases h; exact ⟨.inl rfl, this⟩
      ·exact ⟨.inr h.1, h.2⟩
     ·rintro ⟨h | h, h2⟩
      ·exact .inl h
      ·exact .inr ⟨h, h2⟩
   | false =>
     have := blt_not hc
     simp only [cond_false, List.mem_cons, flt_mem (bs := bs)]
     constructor
     ·rintro h; exact ⟨.inr h.1, h.2⟩
     ·rintro ⟨h | h, h2⟩
      ·cases h; exact absurd h2 this
      ·exact ⟨h, h2⟩
theorem okOwn_spec {ms : List Nat} {i N N' : Nat} : ∀ {bs : List (Nat × Nat)}, okOwn ms i N N' bs = true -> ∀ q b, (q, b) ∈ bs -> N <= b -> b < N' -> (maskAt ms q).testBit i = true
 | [], _, q, b, h, _, _ => by simp at h
 | (q', b') :: bs, h, q, b, hm, h1, h2 => by
   simp only [okOwn, Bool.and_eq_true, Bool.or_eq_true] at h
   rcases List.mem_cons.1 hm with e | e
   ·cases e
    rcases h.1 with (h3 | h3) | h3
    ·have := blt_lt h3; omega
    ·have := Nat.le_of_ble_eq_true h3; omega
    ·exact h3
   ·exact okOwn_spec h.2 q b e h1 h2
inductive OneD {P : Program} (O : Orc P) (code : Coder) (fl N0 m : Nat) (ms : List Nat) (bs : List (Nat × Nat)) (ops : Array Oper) (i : Nat) (o : Oper) (s : St) : Value -> Tr Obj -> Nat -> Prop
 | no (hw : fWanted ops s.A o = false) (hb : blkOf i bs = none) : OneD O code fl N0 m ms bs ops i o s undef s.H s.N
 | put {n : Next} {v : Value} {b : Nat} {ob : Obj} (hw : fWanted ops s.A o = true) (him : i < m) (hs : isStore o = true) (h : fOper P fl o (fEval s.A) (memOf (hide s.H (hidAt ms i (flt s.N bs))) s.N) s.N = some (n, .put b ob)) (hv : valOf n = some v)
  (hb : blkOf i bs = some b) (hN : b < s.N) (hf : fl <= b) : OneD O code fl N0 m ms bs ops i o s v (s.H.set b ob) s.N
 | quiet {v : Value} {H : Tr Obj} {N : Nat} (hw : fWanted ops s.A o = true) (him : i < m) (hb : blkOf i bs = none) (h : fOp O code s.N o s.A (hide s.H (hidAt ms i (flt s.N bs))) s.N = some (v, H, N)) (hown : okOwn ms i s.N N bs = true) :
  OneD O code fl N0 m ms bs ops i o s v (unhide H s.H (hidAt ms i (flt s.N bs))) N
 | bar {v : Value} {H : Tr Obj} {N : Nat} (hw : fWanted ops s.A o = true) (him : m <= i) (h : fOp O code fl o s.A s.H s.N = some (v, H, N)) : OneD O code fl N0 m ms bs ops i o s v H N
theorem fOpsD_cons {code : Coder} {N0 m : Nat} {ms : List Nat} {bs : List (Nat × Nat)} {ops : Array Oper} {i : Nat} {o : Oper} {rest : List Oper} {s s' : St}
 (h : fOpsD O code fl N0 m ms bs ops i (o :: rest) s = some s') : s.N < 1000000000 /\ ∃ v H N, OneD O code fl N0 m ms bs ops i o s v H N /\ fOpsD O code fl N0 m ms bs ops (i + 1) rest ⟨putA s.A o.dst v, s.M, H, N⟩ = some s' := by
 simp only [fOpsD] at h
 have hb0 := bif_cases h; clear h; obtain ⟨hN, h⟩ := hb0
 refine ⟨blt_lt hN, ?_⟩
 cases hw : fWanted ops s.A o with
 | false =>
   rw [hw] at h
   simp only [cond_false] at h
   cases hb : blkOf i bs with
   | some b => rw [hb] at h; cases h
   | none => rw [hb] at h; exact ⟨_, _, _, .no hw hb, h⟩
 | true =>
   rw [hw] at h
   simp only [cond_true] at h
   cases him : Nat.blt i m with
   | false =>
     rw [him] at h
     simp only [cond_false] at h
     split at h
     ·rename_i v H N ho
      exact ⟨v, H, N, .bar hw (by have := blt_not him; omega) ho, h⟩
     ·cases h
   | true =>
     rw [him] at h
     simp only [cond_true] at h
     cases hb : blkOf i bs with
     | none =>
       rw [hb] at h
       dsimp only at h
       split at h
       ·rename_i v H N ho
        have hb0 := bif_cases h; clear h; obtain ⟨hown, h⟩ := hb0
        exact ⟨v, _, N, .quiet hw (blt_lt him) hb ho hown, h⟩
       ·cases h
     | some b' =>
       rw [hb] at h
       dsimp only at h
       split at h
       ·rename_i n b ob ho
        split at h
        ·rename_i v hv
         have hb0 := bif_cases h; clear h; obtain ⟨hc, h⟩ := hb0
         simp only [Bool.and_eq_true] at hc
         have e : b = b' := Nat.eq_of_beq_eq_true hc.1.1.2
         exact ⟨v, _, _, .put hw (blt_lt him) hc.1.1.1 ho hv (by rw [hb, e]) (blt_lt hc.1.2) (Nat.le_of_ble_eq_true hc.2), h⟩
        ·cases h
       ·cases h
theorem OneD.kp {code : Coder} (hc : CodeKp P code) {N0 m : Nat} {ms : List Nat} {bs : List (Nat × Nat)} {ops : Array Oper} {i : Nat} {o : Oper} {s : St} {v : Value} {H : Tr Obj} {N : Nat}
 (h : OneD O code fl N0 m ms bs ops i o s v H N) (hf : fl <= s.N) (hN : s.N < 1099511627776) : Kp fl s.H s.N H N := by
 have hh : ∀ b ∈ hidAt ms i (flt s.N bs), b < 1099511627776 := fun b hb => by obtain ⟨k, h1, _⟩ := hidAt_sub hb; exact Nat.lt_trans (flt_mem.1 h1).2 hN
 cases h with
 | no => exact .refl hN
 | put _ _ _ _ _ _ hlt hfb => exact .set hN (by omega) hfb _
 | quiet _ _ _ h _ => exact ((fOp_kp hc h (Nat.le_refl _) hN).unhide hh).mono hf
 | bar _ _ h => exact fOp_kp hc h hf hN
theorem fOpsD_kp {code : Coder} (hc : CodeKp P code) {N0 m : Nat} {ms : List Nat} {bs : List (Nat × Nat)} {ops : Array Oper} : ∀ (l : List Oper) (i : Nat) (s s' : St),
 fOpsD O code fl N0 m ms bs ops i l s = some s' -> fl <= s.N -> s.N < 1099511627776 -> Kp fl s.H s.N s'.H s'.N
 | [], i, s, s', h, hf, hN => by simp only [fOpsD, Option.some.injEq] at h; subst h; exact .refl hN
 | o :: rest, i, s, s', h, hf, hN => by
   obtain ⟨_, v, H, N, h1, h2⟩ := fOpsD_cons h
   have k1 := h1.kp hc hf hN
   exact k1.trans (fOpsD_kp hc rest (i + 1) ⟨putA s.A o.dst v, s.M, H, N⟩ s' h2 (Nat.le_trans hf k1.le) k1.small)
theorem fCode_kp : ∀ n, CodeKp P (fCode O n)
 | 0 => fun fl rd sz c s e s' h => by simp [fCode] at h
 | n + 1 => fun fl rd sz c s e s' h hf hN => by
   have ih := fCode_kp n
   cases c with
   | skip => simp only [fCode, Option.some.injEq, Prod.mk.injEq] at h; obtain ⟨_, rfl⟩ := h; exact .refl hN
   | label l => simp only [fCode, Option.some.injEq, Prod.mk.injEq] at h; obtain ⟨_, rfl⟩ := h; exact .refl hN
   | exit id => simp only [fCode, Option.some.injEq, Prod.mk.injEq] at h; obtain ⟨_, rfl⟩ := h; exact .refl hN
   | ret => simp only [fCode, Option.some.injEq, Prod.mk.injEq] at h; obtain ⟨_, rfl⟩ := h; exact .refl hN
   | goto l => simp [fCode] at h
   | scope b => simp [fCode] at h
   | refuse w => simp [fCode] at h
   | region id ops draw =>
     simp only [fCode] at h
     have hb0 := bif_cases h; clear h; obtain ⟨_, h⟩ := hb0
     cases draw with
     | false =>
       dsimp only at h
       split at h
       ·rename_i s1 hs
        simp only [Option.some.injEq, Prod.mk.injEq] at h; obtain ⟨_, rfl⟩ := h
        exact fOps_kp ih _ _ _ hs hf hN
       ·cases h
     | true =>
       dsimp only at h
       split at h
       ·have hb0 := bif_cases h; clear h; obtain ⟨hbs, h⟩ := hb0
        split at h
        ·rename_i s1 hs
         simp only [Option.some.injEq, Prod.mk.injEq] at h; obtain ⟨_, rfl⟩ := h
         exact fOpsD_kp ih _ _ _ _ hs hf hN
        ·cases h
       ·cases h
   | seq x y =>
     simp only [fCode] at h
     split at h
     ·rename_i s1 hs1
      have k1 := ih _ _ _ _ _ _ _ hs1 hf hN
      exact k1.trans (ih _ _ _ _ _ _ _ h (Nat.le_trans hf k1.le) k1.small)
     ·exact ih _ _ _ _ _ _ _ h hf hN
   | cond c x y =>
     simp only [fCode] at h
     split at h
     ·exact ih _ _ _ _ _ _ _ h hf hN
     ·exact ih _ _ _ _ _ _ _ h hf hN
     ·cases h
   | block id b =>
     simp only [fCode] at h
     split at h
     ·rename_i id' s1 hs1
      have k1 := ih _ _ _ _ _ _ _ hs1 hf hN
      cases hb : Nat.beq id' id with
      | true => rw [hb] at h; simp only [cond_true, Option.some.injEq, Prod.mk.injEq] at h; obtain ⟨_, rfl⟩ := h; exact k1
      | false => rw [hb] at h; simp only [cond_false, Option.some.injEq, Prod.mk.injEq] at h; obtain ⟨_, rfl⟩ := h; exact k1
     ·exact ih _ _ _ _ _ _ _ h hf hN
   | loop b =>
     simp only [fCode] at h
     split at h
     ·rename_i s1 hs1
      have k1 := ih _ _ _ _ _ _ _ hs1 hf hN
      exact k1.trans (ih _ _ _ _ _ _ _ h (Nat.le_trans hf k1.le) k1.small)
     ·exact ih _ _ _ _ _ _ _ h hf hN
   | rangeFunc f params assign body =>
     simp only [fCode] at h
     have hb1 := bif_cases h; clear h; obtain ⟨_, h⟩ := hb1
     split at h
     case h_2 => cases h
     split at h
     case h_2 => cases h
     rename_i d M H1 N1 hdr
     have hb0 := bif_cases h; clear h; obtain ⟨hN1, h⟩ := hb0
     have k0 : Kp fl s.H s.N H1 N1 := by
      split at hdr
      ·have hb0 := bif_cases hdr; clear hdr; obtain ⟨hlt, hdr⟩ := hb0
       simp only [Option.some.injEq, Prod.mk.injEq] at hdr
       obtain ⟨_, _, rfl, rfl⟩ := hdr
       exact .new (blt_lt hlt) hf _
      ·split at hdr
       ·simp only [Option.some.injEq, Prod.mk.injEq] at hdr
        obtain ⟨_, _, rfl, rfl⟩ := hdr
        exact .refl hN
       ·cases hdr
     have k1 := k0.trans (Kp.new (blt_lt hN1) (Nat.le_trans hf k0.le) (.loop { state := .ready, pending := none, fn := 0, tmps := ⟨trList s.A sz []⟩, params, assign, body, defers := d }))
     split at h
     case h_2 => cases h
     rename_i v2 H2 N2 hcall
     have k2 := fCall_kp ih hcall (Nat.le_trans hf k1.le) k1.small
     split at h
     case h_2 => cases h
     rename_i r2 hr2
     have k3 : ∀ r2' : Loop, Kp fl H2 N2 (H2.set N1 (.loop r2')) N2 := fun r2' => .set k2.small (Nat.lt_trans (mem_lt hr2) k2.small) (Nat.le_trans hf k0.le) _
     have fin : ∀ r2' : Loop, (match r2.pending with
      | none => some (Exit.normal, (⟨s.A, M, H2.set N1 (.loop r2'), N2⟩ : St))
      | some c => fCode O n fl rd sz c ⟨s.A, M, H2.set N1 (.loop r2'), N2⟩) = some (e, s') -> Kp fl s.H s.N s'.H s'.N := by
      intro r2' h
      have k4 := k1.trans (k2.trans (k3 r2'))
      split at h
      ·simp only [Option.some.injEq, Prod.mk.injEq] at h; obtain ⟨_, rfl⟩ := h
       exact k4
      ·exact k4.trans (ih _ _ _ _ _ _ _ h (Nat.le_trans hf k4.le) k4.small)
     cases hst : r2.state with
     | busy => rw [hst] at h; cases h
     | ready => rw [hst] at h; exact fin _ h
     | done => rw [hst] at h; exact fin _ h
     | exhausted => rw [hst] at h; exact fin _ h
end
end Go.Proofs.Ytodaannbkfmhfaa.Ev
