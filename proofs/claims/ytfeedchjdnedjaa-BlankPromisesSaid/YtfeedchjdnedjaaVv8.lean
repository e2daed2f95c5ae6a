import Derived.Test.YtfeedchjdnedjaaVv7
set_option linter.unusedVariables false
set_option linter.unusedSimpArgs false
namespace Go.Proofs.Ytfeedchjdnedjaa.Vv
open Go Go.Proofs.Ytfeedchjdnedjaa.Ev
open Go.RowKit (Below)
def VC (P : Program) (f : FuncId) (args : List VV) (r : VV) : Prop := (∃ fn c, P.funcs[f]? = some fn /\ fn.body = some c) /\
 ∀ (w : World) (m : MM) (args' : List Value), Yo m w -> RL .no w.heap.size m args args' ->
   Calls P f args'.toArray w fun e w' => ∃ v' m', e = .returned v' /\ Below w.heap.size w w' /\ m.Le m' /\ Yo m' w' /\ (∀ b ob, m' b = some ob -> m b = some ob \/ w.heap.size <= b) /\ R .no w.heap.size m' r v'
def VM (P : Program) (f : FuncId) (args : List VV) (L : List Blk) (r : VV) (L' : List Blk) : Prop := (∃ fn c, P.funcs[f]? = some fn /\ fn.body = some c) /\ L'.length = L.length /\ (∀ (k : Nat) (b b' : Blk), L[k]? = some b -> L'[k]? = some b' -> b'.bx = b.bx /\ b'.sz = b.sz) /\
 ∀ (w : World) (m : MM) (o : OM) (args' : List Value), Yo m w -> (∀ k oi, o k = some oi -> k < L.length /\ oi.b < w.heap.size /\ m oi.b = none) -> (∀ k k' oi oi', o k = some oi -> o k' = some oi' -> oi.b = oi'.b -> k = k') ->
   (∀ k blk, L[k]? = some blk -> ∃ oi, o k = some oi /\ Holds o w.heap.size m w.heap[oi.b]? oi blk /\ blk.h = true) -> RL o w.heap.size m args args' ->
   Calls P f args'.toArray w fun e w' => ∃ v' m', e = .returned v' /\ w'.os = w.os /\ w'.tape = w.tape /\ w'.output = w.output /\ w.heap.size <= w'.heap.size /\ (∀ k, k < w.heap.size -> (∀ j oi, o j = some oi -> oi.b ≠ k) -> w'.heap[k]? = w.heap[k]?) /\
    m.Le m' /\ Yo m' w' /\ (∀ b ob, m' b = some ob -> m b = some ob \/ w.heap.size <= b) /\ (∀ k oi blk, o k = some oi -> L'[k]? = some blk -> Holds o w.heap.size m' w'.heap[oi.b]? oi blk) /\ R .no w.heap.size m' r v'
def unfr : VV -> VV
 | .fr cs n => .tr cs n
 | v => v
def Qek : VV -> VV
 | .ag cs => .ag (cs.map unfr)
 | v => unfr v
def capX (L : List (Option Blk)) : VV -> Option VV
 | .c v => some (.c v)
 | .e0 => some (.tr [] 0)
 | .tr cs n => some (.tr cs n)
 | .tp cs n => some (.tp cs n)
 | .mt cs => some (.mt cs)
 | .pt k off => match ga L k with
   | some blk => bif blk.bx && blk.cells.all VV.still then some (.tp (blk.cells.map unfr) off) else none
   | none => none
 | _ => none
def Qqr (L : List (Option Blk)) : List VV -> Option (List VV)
 | [] => some []
 | v :: l => match capX L v, Qqr L l with
   | some v, some l => some (v :: l)
   | _, _ => none
def argV (L : List (Option Blk)) : VV -> Option VV
 | .c v => some (.c v)
 | .tr cs n => some (.tr cs n)
 | .fr cs n => some (.tr cs n)
 | .rf k off n => match gc L k with
   | some blk => bif !blk.bx || blk.cells.all VV.still then some (.tr ((blk.cells.map unfr).drop off) n) else none
   | none => none
 | .mp k => match gb L k with
   | some blk => bif Nat.beq blk.sz (bigX + 1) || Nat.beq blk.sz (bigX + 2) then some (.mt (blk.cells.map Qek)) else none
   | none => none
 | .mt cs => some (.mt cs)
 | .tp cs n => some (.tp cs n)
 | .pt k off => capX L (.pt k off)
 | .any => some .any
 | .e0 => some (.tr [] 0)
 | .fn g cs => match Qqr L cs with
   | some l => some (.fn g l)
   | none => none
 | _ => none
def Qs7 (L : List (Option Blk)) : List VV -> Option (List VV)
 | [] => some []
 | v :: l => match argV L v, Qs7 L l with
   | some v, some l => some (v :: l)
   | _, _ => none
def arg1 (L : List (Option Blk)) : VV -> Option VV
 | .ag cs => match Qs7 L cs with
   | some l => some (.ag l)
   | none => none
 | v => argV L v
def Qlb (L : List (Option Blk)) : List VV -> Option (List VV)
 | [] => some []
 | v :: l => match arg1 L v, Qlb L l with
   | some v, some l => some (v :: l)
   | _, _ => none
def noPt : VV -> Bool
 | .pt _ _ => false
 | _ => true
def noRf : VV -> Bool
 | .rf _ _ _ => false
 | .pt _ _ => false
 | .mp _ => false
 | .fn _ cs => cs.all noPt
 | _ => true
def Qn8 : VV -> Bool
 | .ag cs => cs.all noRf
 | v => noRf v
def new0 : VV -> Bool
 | .c _ | .fr _ _ | .fw _ _ _ | .e0 => true
 | _ => false
def new1 : VV -> Bool
 | .ag cs => cs.all new0
 | v => new0 v
def new2 : VV -> Bool
 | .tu vs => vs.all new1
 | v => new1 v
def setAt (i : Nat) (u : VV) : List VV -> List VV
 | [] => []
 | v :: l => match i with
   | 0 => u :: l
   | i + 1 => v :: setAt i u l
def Qs8 (N : Nat) (cells : List VV) (n : Nat) (i : Option Nat) (r : VV) : Option (VV × Nat × Prop) := match i, r with
 | none, .fr cs n' => some (.rf N 0 n, 0, cs = cells /\ n' = n)
 | none, .fw s cs n' => bif Nat.blt s bigH then some (.rf N 0 n, s, cs = cells /\ n' = n) else none
 | some i, .tu vs => match getL i vs with
   | some (.fr cs n') => bif (setAt i (.c (.bool true)) vs).all VV.isC then some (.tu (setAt i (.rf N 0 n) vs), 0, cs = cells /\ n' = n) else none
   | some (.fw s cs n') => bif Nat.blt s bigH && (setAt i (.c (.bool true)) vs).all VV.isC then some (.tu (setAt i (.rf N 0 n) vs), s, cs = cells /\ n' = n) else none
   | _ => none
 | _, _ => none
def idx (k : Nat) : List Nat -> Option Nat
 | [] => none
 | j :: l => bif Nat.beq j k then some 0 else match idx k l with
   | some i => some (i + 1)
   | none => none
def renV (ks : List Nat) : VV -> Option VV
 | .c v => some (.c v)
 | .fn g cs => match cs with
   | [] => some (.fn g [])
   | _ :: _ => none
 | .e0 => some (.tr [] 0)
 | .tr cs n => some (.tr cs n)
 | .fr cs n => some (.tr cs n)
 | .tp cs n => some (.tp cs n)
 | .mt cs => some (.mt cs)
 | .any => some .any
 | .rf k off n => match idx k ks with
   | some j => some (.rf j off n)
   | none => none
 | .pt k off => match idx k ks with
   | some j => some (.pt j off)
   | none => none
 | .mp k => match idx k ks with
   | some j => some (.mp j)
   | none => none
 | _ => none
def Qht (ks : List Nat) : List VV -> Option (List VV)
 | [] => some []
 | v :: l => match renV ks v, Qht ks l with
   | some v, some l => some (v :: l)
   | _, _ => none
def ren1 (ks : List Nat) : VV -> Option VV
 | .ag cs => match Qht ks cs with
   | some l => some (.ag l)
   | none => none
 | v => renV ks v
def Qmz (ks : List Nat) : List VV -> Option (List VV)
 | [] => some []
 | v :: l => match ren1 ks v, Qmz ks l with
   | some v, some l => some (v :: l)
   | _, _ => none
def Qn9 (ks : List Nat) (b : Blk) : Option Blk := bif b.x then (bif Nat.beq b.sz (bigX + 1) || Nat.beq b.sz (bigX + 2) then some ⟨true, bigX + 2, b.cells.map Qek⟩ else none)
 else bif b.bx then (match Qht ks b.cells with
  | some l => some ⟨true, bigH, l⟩
  | none => none) else some ⟨false, bigH, b.cells.map unfr⟩
def Qhj (ks : List Nat) (L : List (Option Blk)) : List Nat -> Option (List Blk)
 | [] => some []
 | k :: l => match gb L k with
   | some b => (match Qn9 ks b, Qhj ks L l with
     | some b, some r => some (b :: r)
     | _, _ => none)
   | none => none
def unV (ks : List Nat) : VV -> VV
 | .rf j off n => match getL j ks with
   | some k => .rf k off n
   | none => .any
 | .pt j off => match getL j ks with
   | some k => .pt k off
   | none => .any
 | .mp j => match getL j ks with
   | some k => .mp k
   | none => .any
 | .fr cs n => .fr cs n
 | .c v => .c v
 | .tr cs n => .tr cs n
 | .tp cs n => .tp cs n
 | .mt cs => .mt cs
 | _ => .any
def Qg5 (ks : List Nat) (old new : Blk) : Blk × Prop := bif old.x then ({ old with cells := new.cells }, new.cells.all VV.mval = true /\ old.bx = true)
 else bif old.bx then ({ old with cells := new.cells.map (unV ks) }, True) else ({ old with cells := new.cells }, new.cells.all VV.still = true)
def Qev (ks : List Nat) (L : List (Option Blk)) : List Nat -> List Blk -> Option (List (Nat × Blk) × Prop)
 | [], [] => some ([], True)
 | k :: l, b :: bs => match gb L k, Qev ks L l bs with
   | some old, some (r, q) => some ((k, (Qg5 ks old b).1) :: r, (Qg5 ks old b).2 /\ q)
   | _, _ => none
 | _, _ => none
def nodupB : List Nat -> Bool
 | [] => true
 | k :: l => l.all (fun j => !Nat.beq j k) && nodupB l
def refN (k : Nat) : VV -> Nat
 | .rf j _ n => bif Nat.beq j k then n else 0
 | _ => 0
def Qi0 (k : Nat) : List VV -> Nat
 | [] => 0
 | .ag cs :: l => (cs.map (refN k)).sum + Qi0 k l
 | v :: l => refN k v + Qi0 k l
def boxed (L : List (Option Blk)) : List Nat -> List VV
 | [] => []
 | k :: l => (match gb L k with
   | some b => bif b.bx && !b.x then b.cells else []
   | none => []) ++ boxed L l
def Qm0 (L : List (Option Blk)) (E : List VV) : List Nat -> Prop
 | [] => True
 | k :: l => (match gb L k with
   | some b => bif b.bx then True else 0 < Qi0 k E
   | none => True) /\ Qm0 L E l
def vMod (P : Program) (L : List (Option Blk)) (g : FuncId) (args : List VV) (ks : List Nat) (r : VV) (l : List Blk) : Option (VV × Eff × Prop) := match Qmz ks args, Qhj ks L ks, Qev ks L ks l with
 | some as, some hs, some (bs, q) => bif nodupB ks then some (r, .mods bs, VM P g as hs r l /\ q /\ Qm0 L (args ++ boxed L ks) ks) else none
 | _, _, _ => none
def Qi1 (k : Nat) : VV -> Bool
 | .pt j _ => Nat.beq j k
 | _ => false
def Qy2 (P : Program) (L : List (Option Blk)) (g : FuncId) (args : List VV) (k : Nat) (r : VV) (b : Blk) : Option (VV × Eff × Prop) := match vMod P L g args [k] r [b] with
 | some (v, .mods [(k', b')], q) => bif args.any (Qi1 k') && b'.bx then some (v, .put k' b', q) else none
 | _ => none
def Qc5 (P : Program) (o : Oper) (A : Tr VV) (L : List (Option Blk)) (G : Tr VV) (N : Nat) (a : Ans) : Option (VV × Eff × Prop) := match o.op with
 | .call { callee := .value (.func g), args, .. } => match a with
   | .mod ks r l => vMod P L g (args.toList.map (ev A)) ks r l
   | .mod1 k r b => Qy2 P L g (args.toList.map (ev A)) k r b
   | .inl f => (match f.run P g (args.toList.map (ev A)) A L G with
     | some r => some (r.v, .jump r.A r.L r.G, r.q)
     | none => none)
   | _ => match Qlb L (args.toList.map (ev A)) with
   | some as => match a with
     | .call r => bif (args.toList.map (ev A)).all Qn8 || new2 r then some (r, .no, VC P g as r) else none
     | .own cells n i r => match Qs8 N cells n i r with
       | some (v, sz, p) => some (v, .new ⟨false, sz, cells⟩, VC P g as r /\ p /\ cells.all VV.isC = true /\ (n = 0 -> cells = []))
       | none => none
     | _ => none
   | none => none
 | .call { callee := .value (.tmp t), args, .. } => match ev A (.tmp t) with
   | .fn g caps => match a with
     | .inl f => (match f.run P g (args.toList.map (ev A) ++ caps) A L G with
       | some r => some (r.v, .jump r.A r.L r.G, r.q)
       | none => none)
     | _ => match Qlb L (.fn g caps :: args.toList.map (ev A)), a with
     | some (.fn g' cs :: as), .call r => bif (VV.fn g caps :: args.toList.map (ev A)).all Qn8 || new2 r then some (r, .no, VC P g' (as ++ cs) r) else none
     | _, _ => none
   | _ => none
 | _ => vOp P o A L N a
def Eff.quiet : Eff -> Bool
 | .no | .new _ => true
 | _ => false
def Eff.Qj9 : Eff -> Bool
 | .no | .new _ => true
 | .put _ _ => true
 | _ => false
structure Same (w w' : World) : Prop where
 os : w'.os = w.os
 tape : w'.tape = w.tape
 output : w'.output = w.output
structure Quiet (base : Nat) (o : OM) (m : MM) (w : World) (N : Nat) (eff : Eff) (v : VV) (v' : Value) (m' : MM) (w' : World) : Prop where
 le : m.Le m'
 mem : Yo m' w'
 new : ∀ b ob, m' b = some ob -> m b = some ob \/ w.heap.size <= b
 keep : ∀ b, b < w.heap.size -> w'.heap[b]? = w.heap[b]?
 size : w.heap.size <= w'.heap.size
 same : Same w w'
 res : match eff with
  | .no => R o base m' v v'
  | .new blk => (blk.cells = [] /\ blk.bx = false /\ R o base m' v v') \/ ∃ oi, w.heap.size <= oi.b /\ oi.b < w'.heap.size /\ m' oi.b = none /\ Holds o base m' w'.heap[oi.b]? oi blk /\
   ∀ o' : OM, o.Le o' -> o' N = some oi -> R o' base m' v v'
  | _ => False
section
variable {P : Program} {gv : Nat -> Value} {base : Nat} {o : OM} {m : MM} {L : List (Option Blk)} {w : World} {N : Nat} {rd : Option Nat}
theorem Res.quiet {eff : Eff} {v : VV} {v' : Value} {w' : World} (h : Res base o m L w N eff v v' w') (hq : eff.quiet = true) (hM : Yo m w) : ∃ m', Quiet base o m w N eff v v' m' w' := by
 have al : ∀ (ob : Obj) (d b : Nat), b < w.heap.size -> ({ (w.alloc ob) with drawn := d } : World).heap[b]? = w.heap[b]? := by
  intro ob d b hb
  show (w.heap.push _)[b]? = _
  rw [Array.getElem?_push, if_neg (by omega)]
 cases h with
 | no hv => exact ⟨m, .refl m, hM, fun b ob e => .inl e, fun b _ => rfl, Nat.le_refl _, ⟨rfl, rfl, rfl⟩, hv⟩
 | @frNo _ _ ob d hv =>
   have hsz : ({ (w.alloc ob) with drawn := d } : World).heap.size = w.heap.size + 1 := by show (w.heap.push _).size = _; simp
   have hm0 : m w.heap.size = none := by
    cases hm : m w.heap.size with
    | none => rfl
    | some ob => have := hM.lt hm; omega
   have hle : m.Le (fun b => if b = w.heap.size then some ob else m b) := fun b o e => by
    show (if b = w.heap.size then some ob else m b) = _
    rw [if_neg (fun hb => by rw [hb, hm0] at e; cases e)]; exact e
   refine ⟨fun b => if b = w.heap.size then some ob else m b, hle, fun b o e => ?_, fun b o e => ?_, fun b hb => al ob d b hb, by omega, ⟨rfl, rfl, rfl⟩, hv _ hle (if_pos rfl)⟩
   ·have e : (if b = w.heap.size then some ob else m b) = some o := e
    by_cases hb : b = w.heap.size
    ·rw [if_pos hb] at e
     rw [hb]
     show (w.heap.push _)[w.heap.size]? = _
     rw [Array.getElem?_push, if_pos rfl]; exact e
    ·rw [if_neg hb] at e
     rw [al _ d b (hM.lt e)]; exact hM b o e
   ·have e : (if b = w.heap.size then some ob else m b) = some o := e
    by_cases hb : b = w.heap.size
    ·exact .inr (by omega)
    ·rw [if_neg hb] at e; exact .inl e
 | newNo hb hx hv => exact ⟨m, .refl m, hM, fun b ob e => .inl e, fun b _ => rfl, Nat.le_refl _, ⟨rfl, rfl, rfl⟩, .inl ⟨hb, hx, hv⟩⟩
 | @new blk _ _ ob oi d hoi hl hv =>
   have hsz : ({ (w.alloc ob) with drawn := d } : World).heap.size = w.heap.size + 1 := by show (w.heap.push _).size = _; simp
   refine ⟨m, .refl m, fun b ob e => ?_, fun b ob e => .inl e, fun b hb => al ob d b hb, by omega, ⟨rfl, rfl, rfl⟩, .inr ⟨oi, by omega, by omega, ?_, ?_, hv⟩⟩
   ·rw [al _ d b (hM.lt e)]; exact hM b ob e
   ·rw [hoi]
    cases hm : m w.heap.size with
    | none => rfl
    | some ob => have := hM.lt hm; omega
   ·rw [hoi]
    have : ({ (w.alloc ob) with drawn := d } : World).heap[w.heap.size]? = some ob := by
     show (w.heap.push _)[w.heap.size]? = _
     rw [Array.getElem?_push, if_pos rfl]
    rw [this]; exact hl
 | put => cases hq
 | growNo => cases hq
 | growIn => cases hq
 | growNew => cases hq
theorem T.unfr {m : MM} {fb : Nat} {v : VV} {v' : Value} (h : R .no fb m v v') (hs : v.still = true) : T m (unfr v) v' := by
 cases h with
 | t h => cases v <;> first | exact h | (cases hs; done) | (cases h; done)
 | fr h => exact h.mono (MM.Qjk _ _)
 | rf => cases hs
 | rf0 => cases hs
 | pt => cases hs
 | ag => cases hs
 | tu => cases hs
 | fn a b => exact .fn a (fun j v v' x y => Qy3 (b j v v' x y) (List.all_eq_true.1 hs v (List.mem_of_getElem? x)))
 | it => cases hs
 | mp => cases hs
 | fw => cases hs
theorem T.Qek {m : MM} {fb : Nat} {v : VV} {v' : Value} (h : R .no fb m v v') (hs : v.mval = true) : T m (Qek v) v' := by
 unfold VV.mval at hs
 split at hs
 ·rename_i cs
  obtain ⟨c, rfl, hc⟩ := Qf1 h
  refine .ag (by simpa using hc.1) (fun j u u' a b => ?_)
  rw [List.getElem?_map] at a
  cases hcj : cs[j]? with
  | none => rw [hcj] at a; cases a
  | some x =>
    rw [hcj] at a
    simp only [Option.map_some, Option.some.injEq] at a
    subst a
    exact T.unfr (hc.2 j x u' hcj (by simpa using b)) (List.all_eq_true.1 hs x (List.mem_of_getElem? hcj))
 ·rename_i hno
  have : Vv.Qek v = Vv.unfr v := by cases v <;> first | rfl | exact absurd rfl (hno _)
  rw [this]; exact T.unfr h hs
def allM (w : World) : MM := fun b => w.heap[b]?
theorem Qoa (w : World) : Yo (allM w) w := fun b ob h => h
theorem Qu4 {k off : Nat} {oi : OI} {blk : Blk} {M : MM} (ho : o k = some oi) (hb : gc L k = some blk) (hbx : blk.bx = true) (hst : blk.cells.all VV.still = true) (hO : Own gv base o m L w) (hle : m.Le M) (hM : ∀ c t, w.heap[oi.b]? = some (.cells c t (0, 0)) -> M oi.b = some (.cells c t (0, 0))) :
 T M (.tp (blk.cells.map unfr) off) (.pointer (some ⟨oi.b, oi.off + off, none⟩)) := by
 obtain ⟨c, t, hc, htot, hz, hat⟩ := hO.row ho hb
 rw [if_pos hbx] at hat
 refine .tp (hb := hM _ _ hc) (by have := hat.1; simpa using this) (fun j u u' a b => ?_)
 rw [List.getElem?_map] at a
 cases hcj : blk.cells[j]? with
 | none => rw [hcj] at a; cases a
 | some x =>
   rw [hcj] at a
   simp only [Option.map_some, Option.some.injEq] at a
   subst a
   have hs := List.all_eq_true.1 hst x (List.mem_of_getElem? hcj)
   exact (T.unfr (Qgj (hat.2 j x u' hcj b) hs) hs).mono hle
theorem Qs9 {M : MM} {v u : VV} {v' : Value} (h : capX L v = some u) (hr : R o base m v v') (hO : Own gv base o m L w) (hle : m.Le M) (hM : ∀ b ob, base <= b -> w.heap[b]? = some ob -> M b = some ob) : T M u v' /\ (noPt v = true -> T m u v') := by
 cases hr with
 | t hr =>
   have hu : T m u v' := by
    cases v <;> simp only [capX, Option.some.injEq] at h <;> first
     | (subst h; exact hr)
     | (subst h; cases hr; exact .e)
     | (cases hr; done)
     | (cases h; done)
   exact ⟨hu.mono hle, fun _ => hu⟩
 | fr hr => simp [capX] at h
 | rf => simp [capX] at h
 | rf0 => simp [capX] at h
 | @pt k0 off0 oi0 ho =>
   refine ⟨?_, fun e => by cases e⟩
   simp only [capX] at h
   split at h
   case h_2 => cases h
   rename_i blk hblk
   have hb0 := Qe h; clear h; obtain ⟨hc, h⟩ := hb0
   simp only [Bool.and_eq_true] at hc
   injection h with h; subst h
   have hbase : base <= oi0.b := by
    cases hO.at_ _ _ _ ho (Yb hblk).1 with
    | row _ _ _ _ hh _ => exact hh (Yb hblk).2.2
    | it _ _ hh => exact hh
    | mp _ _ _ hh _ _ => exact hh (Yb hblk).2.2
   exact Qu4 ho (Qqs hblk) hc.1 hc.2 hO hle (fun c t e => hM _ _ hbase e)
 | ag => simp [capX] at h
 | tu => simp [capX] at h
 | fn => simp [capX] at h
 | it => simp [capX] at h
 | mp => simp [capX] at h
 | fw => simp [capX] at h
theorem Qkr {M : MM} : ∀ {l u : List VV} {l' : List Value}, Qqr L l = some u -> RL o base m l l' -> Own gv base o m L w -> m.Le M -> (∀ b ob, base <= b -> w.heap[b]? = some ob -> M b = some ob) ->
 u.length = l'.length /\ (∀ (j : Nat) (v : VV) (v' : Value), u[j]? = some v -> l'[j]? = some v' -> T M v v') /\ (l.all noPt = true -> ∀ (j : Nat) (v : VV) (v' : Value), u[j]? = some v -> l'[j]? = some v' -> T m v v')
 | [], u, l', h, hr, _, _, _ => by
   simp only [Qqr, Option.some.injEq] at h; subst h
   exact ⟨by have := hr.1; simpa using this, fun j v v' a => by simp at a, fun _ j v v' a => by simp at a⟩
 | v :: l, u, l', h, hr, hO, hle, hM => by
   cases l' with
   | nil => have := hr.1; simp at this
   | cons v' l' =>
     obtain ⟨h1, h2⟩ := hr.tail
     simp only [Qqr] at h
     split at h
     case h_2 => cases h
     rename_i u1 us hu1 hus
     injection h with h; subst h
     obtain ⟨g1, g2⟩ := Qs9 hu1 h1 hO hle hM
     obtain ⟨k1, k2, k3⟩ := Qkr hus h2 hO hle hM
     refine ⟨by simp [k1], fun j x x' a b => ?_, fun hall j x x' a b => ?_⟩
     ·cases j with
      | zero => simp at a b; subst a; subst b; exact g1
      | succ j => simp at a b; exact k2 j x x' a b
     ·simp only [List.all_cons, Bool.and_eq_true] at hall
      cases j with
      | zero => simp at a b; subst a; subst b; exact g2 hall.1
      | succ j => simp at a b; exact k3 hall.2 j x x' a b
theorem Qks {M : MM} {cells : List VV} {es : Array MapEntry} {clock b : Nat} (h : ER .no base m cells es) (hm : cells.all VV.mval = true) (hle : m.Le M) (hb : M b = some (.map es clock)) : T M (.mt (cells.map Qek)) (.map (some b)) := by
 refine .mt hb (by rw [List.length_map]; exact h.len) (fun j e he => ?_) (fun j v e h1 h2 => ?_)
 ·rw [List.getElem?_map, h.key j e he]; rfl
 ·rw [List.getElem?_map] at h1
  cases hc : cells[2 * j + 1]? with
  | none => rw [hc] at h1; cases h1
  | some x =>
    rw [hc] at h1
    simp only [Option.map_some, Option.some.injEq] at h1
    subst h1
    exact (T.Qek (h.val j x e hc h2) (List.all_eq_true.1 hm x (List.mem_of_getElem? hc))).mono hle
theorem Qta {v u : VV} {v' : Value} (h : argV L v = some u) (hr : R o base m v v') (hO : Own gv base o m L w) (hS : Still L) (hM : Yo m w) : T (allM w) u v' /\ (noRf v = true -> T m u v') := by
 have hle : m.Le (allM w) := fun b ob e => hM b ob e
 have fnok : ∀ {g : FuncId} {cells : List VV} {cs : Array Value}, argV L (.fn g cells) = some u -> RL o base m cells cs.toList -> T (allM w) u (.func (.func g) #[] cs) /\ (noRf (.fn g cells) = true -> T m u (.func (.func g) #[] cs)) := by
  intro g cells cs h hc
  simp only [argV] at h
  split at h
  case h_2 => cases h
  rename_i l hl
  injection h with h; subst h
  obtain ⟨g1, g2, g3⟩ := Qkr (M := allM w) hl hc hO hle (fun b ob _ e => e)
  exact ⟨.fn (by simpa using g1) (fun j x x' a b => g2 j x x' a (by simpa using b)), fun hn => .fn (by simpa using g1) (fun j x x' a b => g3 hn j x x' a (by simpa using b))⟩
 cases hr with
 | fn hs hh => exact fnok h ⟨by simpa using hs, fun j x x' a b => hh j x x' a (by simpa using b)⟩
 | t hr =>
   cases v with
   | fn g cells =>
     cases hr with
     | fn hs hh => exact fnok h ⟨by simpa using hs, fun j x x' a b => .t (hh j x x' a (by simpa using b))⟩
   | _ =>
     have hu : T m u v' := by
      simp only [argV, Option.some.injEq] at h <;> first
       | (subst h; exact hr)
       | (subst h; cases hr; exact .e)
       | (cases hr; done)
       | (cases h; done)
     exact ⟨hu.mono hle, fun _ => hu⟩
 | fr hr =>
   simp only [argV, Option.some.injEq] at h; subst h
   exact ⟨(hr.mono (MM.Qjk _ _)).mono hle, fun _ => hr.mono (MM.Qjk _ _)⟩
 | @rf k off n cap oi ho hn hrm =>
   refine ⟨?_, fun e => by cases e⟩
   simp only [argV] at h
   split at h
   case h_2 => cases h
   rename_i blk hblk
   have hb0 := Qe h; clear h; obtain ⟨hcond, h⟩ := hb0
   have hst : blk.cells.all VV.still = true := by
    cases hbx : blk.bx with
    | true => rw [hbx] at hcond; simpa using hcond
    | false => exact hS k blk (Qc6 hblk).1 hbx
   ·simp only [Option.some.injEq] at h
    subst h
    obtain ⟨c, t, hc, htot, hz, hat0⟩ := hO.row ho hblk
    have hat : At .no base m blk.cells c oi.off := ⟨hat0.1, fun j x x' a b => Qgj (by
     have h9 := hat0.2 j x x' a b
     cases hbx : blk.bx with
     | true => rw [hbx] at h9; exact h9.mono (.refl _) (.refl m) (Nat.le_refl _)
     | false => rw [hbx] at h9; exact h9.mono (OM.Qhq o) (.refl m) (Nat.le_refl _)) (List.all_eq_true.1 hst x (List.mem_of_getElem? a))⟩
    by_cases hoff : off <= blk.cells.length
    ·refine .tr (hb := by show w.heap[oi.b]? = _; exact hc) hn ?_ (fun j u u' a b => ?_)
     ·have := hat.1; simp only [List.length_drop, List.length_map]; omega
     ·rw [List.getElem?_drop, List.getElem?_map] at a
      cases hcj : blk.cells[off + j]? with
      | none => rw [hcj] at a; cases a
      | some x =>
        rw [hcj] at a
        simp only [Option.map_some, Option.some.injEq] at a
        subst a
        have := hat.2 (off + j) x u' hcj (by rw [<- b]; congr 1; omega)
        exact (T.unfr this (List.all_eq_true.1 hst x (List.mem_of_getElem? hcj))).mono hle
    ·have hd : (blk.cells.map Vv.unfr).drop off = [] := by rw [List.drop_eq_nil_iff]; simp; omega
     rw [hd]
     refine .tr (hb := by show w.heap[oi.b]? = _; exact hc) hn ?_ (fun j u u' a b => by simp at a)
     simp only [List.length_nil, Nat.add_zero]
     rw [htot]; omega
 | @rf0 k off a =>
   refine ⟨?_, fun e => by cases e⟩
   simp only [argV] at h
   split at h
   case h_2 => cases h
   rename_i blk hblk
   have hb0 := Qe h; clear h; obtain ⟨hcond, h⟩ := hb0
   simp only [Option.some.injEq] at h
   subst h
   exact .e
 | @pt k0 off0 _ ho => exact ⟨(Qs9 (show capX L (.pt k0 off0) = some u from h) (.pt ho) hO hle (fun b ob _ e => e)).1, fun e => by cases e⟩
 | it ho => simp [argV] at h
 | fw => simp [argV] at h
 | @mp k oi ho =>
   refine ⟨?_, fun e => by cases e⟩
   simp only [argV] at h
   split at h
   case h_2 => cases h
   rename_i blk hblk
   obtain ⟨hz, h⟩ := Qe h
   injection h with h; subst h
   obtain ⟨es, clock, g1, g2, _, _, g5⟩ := (hO.at_ k oi blk ho hblk).mapOf (Qhk hz)
   exact Qks g2 g5 hle (show allM w oi.b = _ from g1)
 | ag => simp [argV] at h
 | tu => simp [argV] at h
theorem Qpq : ∀ {l u : List VV} {l' : List Value}, Qs7 L l = some u -> RL o base m l l' -> Own gv base o m L w -> Still L -> Yo m w ->
 u.length = l'.length /\ (∀ (j : Nat) (v : VV) (v' : Value), u[j]? = some v -> l'[j]? = some v' -> T (allM w) v v') /\ (l.all noRf = true -> ∀ (j : Nat) (v : VV) (v' : Value), u[j]? = some v -> l'[j]? = some v' -> T m v v')
 | [], u, l', h, hr, _, _, _ => by
   simp only [Qs7, Option.some.injEq] at h; subst h
   exact ⟨by have := hr.1; simpa using this, fun j v v' a => by simp at a, fun _ j v v' a => by simp at a⟩
 | v :: l, u, l', h, hr, hO, hS, hM => by
   cases l' with
   | nil => have := hr.1; simp at this
   | cons v' l' =>
     obtain ⟨h1, h2⟩ := hr.tail
     simp only [Qs7] at h
     split at h
     case h_2 => cases h
     rename_i u1 us hu1 hus
     injection h with h; subst h
     obtain ⟨g1, g2⟩ := Qta hu1 h1 hO hS hM
     obtain ⟨k1, k2, k3⟩ := Qpq hus h2 hO hS hM
     refine ⟨by simp [k1], fun j x x' a b => ?_, fun hall j x x' a b => ?_⟩
     ·cases j with
      | zero => simp at a b; subst a; subst b; exact g1
      | succ j => simp at a b; exact k2 j x x' a b
     ·simp only [List.all_cons, Bool.and_eq_true] at hall
      cases j with
      | zero => simp at a b; subst a; subst b; exact g2 hall.1
      | succ j => simp at a b; exact k3 hall.2 j x x' a b
theorem Qxn {v u : VV} {v' : Value} (h : arg1 L v = some u) (hr : R o base m v v') (hO : Own gv base o m L w) (hS : Still L) (hM : Yo m w) : T (allM w) u v' /\ (Qn8 v = true -> T m u v') := by
 unfold arg1 at h
 split at h
 ·split at h
  case h_2 => cases h
  rename_i cs l hl
  injection h with h; subst h
  obtain ⟨c, rfl, hc⟩ := Qf1 hr
  obtain ⟨g1, g2, g3⟩ := Qpq hl hc hO hS hM
  exact ⟨.ag (by simpa using g1) (fun j x x' a b => g2 j x x' a (by simpa using b)), fun hn => .ag (by simpa using g1) (fun j x x' a b => g3 hn j x x' a (by simpa using b))⟩
 ·rename_i hno
  obtain ⟨g1, g2⟩ := Qta h hr hO hS hM
  refine ⟨g1, fun hn => g2 ?_⟩
  cases v <;> first | exact hn | exact absurd rfl (hno _)
theorem Qgk : ∀ {l u : List VV} {l' : List Value}, Qlb L l = some u -> RL o base m l l' -> Own gv base o m L w -> Still L -> Yo m w -> ∀ fb, RL .no fb (allM w) u l' /\ (l.all Qn8 = true -> RL .no fb m u l')
 | [], u, l', h, hr, _, _, _, fb => by
   simp only [Qlb, Option.some.injEq] at h; subst h
   obtain rfl : l' = [] := by have := hr.1; simpa using this.symm
   exact ⟨.nil, fun _ => .nil⟩
 | v :: l, u, l', h, hr, hO, hS, hM, fb => by
   cases l' with
   | nil => have := hr.1; simp at this
   | cons v' l' =>
     obtain ⟨h1, h2⟩ := hr.tail
     simp only [Qlb] at h
     split at h
     case h_2 => cases h
     rename_i u1 us hu1 hus
     injection h with h; subst h
     obtain ⟨g1, g2⟩ := Qxn hu1 h1 hO hS hM
     obtain ⟨k1, k2⟩ := Qgk hus h2 hO hS hM fb
     refine ⟨.cons (.t g1) k1, fun hall => ?_⟩
     simp only [List.all_cons, Bool.and_eq_true] at hall
     exact .cons (.t (g2 hall.1)) (k2 hall.2)
def mEx (m : MM) (w w' : World) : MM := fun b => match m b with
 | some ob => some ob
 | none => if w.heap.size <= b then w'.heap[b]? else none
theorem Qie (m : MM) (w w' : World) : m.Le (mEx m w w') := fun b ob h => by unfold mEx; rw [h]
theorem Qtb {w' : World} (hM : Yo m w) (hk : ∀ b, b < w.heap.size -> w'.heap[b]? = w.heap[b]?) : Yo (mEx m w w') w' := fun b ob h => by
 unfold mEx at h
 split at h
 ·rename_i ob' e
  injection h with h; subst h
  rw [hk b (hM.lt e)]; exact hM b _ e
 ·split at h
  ·exact h
  ·cases h
theorem Qg1 {w' : World} {b : Nat} {ob : Obj} (h : mEx m w w' b = some ob) : m b = some ob \/ w.heap.size <= b := by
 unfold mEx at h
 split at h
 ·rename_i e; rw [e]; exact .inl h
 ·split at h
  ·exact .inr ‹_›
  ·cases h
theorem Qtc {m1 m2 : MM} {fb1 fb2 : Nat} {r : VV} {v' : Value} (hn : new0 r = true) (h : R .no fb1 m1 r v') (hm : (m1.fr fb1).Le (m2.fr fb2)) : R .no fb2 m2 r v' := by
 cases h with
 | t h => cases h <;> first | (cases hn; done) | exact .t (.c ‹_›) | exact .t .z
 | fr h => exact .fr (h.mono hm)
 | rf h => cases h
 | rf0 => cases hn
 | pt h => cases h
 | ag => cases hn
 | tu => cases hn
 | fn => cases hn
 | it h => cases h
 | mp h => cases h
 | fw h hc =>
   refine .fw (h.mono hm) (fun b off c e hp => ?_)
   obtain ⟨z, cs, t, x, y⟩ := hc b off c e hp
   refine ⟨z, cs, t, ?_, y⟩
   subst e
   cases h with
   | e => omega
   | tr hb _ _ _ =>
     have h1 := (MM.Qch.1 (hm _ _ hb)).2.1
     have h2 := (MM.Qch.1 hb).2.1
     rw [x] at h2; rw [h1, <- h2]
theorem Qtd {m1 m2 : MM} {fb1 fb2 : Nat} {r : VV} {v' : Value} (hn : new1 r = true) (h : R .no fb1 m1 r v') (hm : (m1.fr fb1).Le (m2.fr fb2)) : R .no fb2 m2 r v' := by
 unfold new1 at hn
 split at hn
 ·obtain ⟨c, rfl, hc⟩ := Qf1 h
  exact R.Qd4 ⟨hc.1, fun j v v' a b => Qtc (List.all_eq_true.1 hn v (List.mem_of_getElem? a)) (hc.2 j v v' a b) hm⟩
 ·exact Qtc hn h hm
theorem Qxo {m1 m2 : MM} {fb1 fb2 : Nat} {r : VV} {v' : Value} (hn : new2 r = true) (h : R .no fb1 m1 r v') (hm : (m1.fr fb1).Le (m2.fr fb2)) : R .no fb2 m2 r v' := by
 unfold new2 at hn
 split at hn
 ·obtain ⟨c, rfl, hc⟩ := Qm1 h
  exact .tu (by simpa using hc.1) (fun j v v' a b => Qtd (List.all_eq_true.1 hn v (List.mem_of_getElem? a)) (hc.2 j v v' a (by simpa using b)) hm)
 ·exact Qtd hn h hm
theorem Qm2 {g : FuncId} {as : List VV} {r : VV} {fl : Bool} {args' : List Value} (hvc : VC P g as r) (g1 : RL .no w.heap.size (allM w) as args') (g2 : fl = true -> RL .no w.heap.size m as args') (hM : Yo m w) (hb : base <= w.heap.size)
 (hc : (fl || new2 r) = true) : Calls P g args'.toArray w fun e w' => ∃ v', e = .returned v' /\ Below w.heap.size w w' /\ R .no base (mEx m w w') r v' := by
 cases hn : fl with
 | true =>
   refine (hvc.2 w m args' hM (g2 hn)).mono ?_
   rintro e w' ⟨v', m', rfl, hbel, hle, hM', hnew, hR⟩
   refine ⟨v', rfl, hbel, hR.mono (.refl _) (fun b ob h => ?_) hb⟩
   rcases hnew b ob h with h1 | h1
   ·exact Qie _ _ _ b ob h1
   ·unfold mEx
    split
    ·rename_i e; have := hM.lt e; omega
    ·rw [if_pos h1]; exact hM' b ob h
 | false =>
   rw [hn] at hc
   have hc : new2 r = true := by simpa using hc
   refine (hvc.2 w (allM w) args' (Qoa w) g1).mono ?_
   rintro e w' ⟨v', m', rfl, hbel, hle, hM', hnew, hR⟩
   refine ⟨v', rfl, hbel, Qxo hc hR (fun b ob h => ?_)⟩
   obtain ⟨h1, h2, h3⟩ := MM.Qch.1 h
   refine MM.Qch.2 ⟨by omega, ?_, h3⟩
   unfold mEx
   split
   ·rename_i e; have := hM.lt e; omega
   ·rw [if_pos h1]; exact hM' b ob h2
theorem Qu5 {g : FuncId} {as : List VV} {r : VV} {args : List VV} {args' : List Value} (hvc : VC P g as r) (has : Qlb L args = some as) (hr : RL o base m args args') (hO : Own gv base o m L w) (hS : Still L) (hM : Yo m w) (hb : base <= w.heap.size)
 (hc : (args.all Qn8 || new2 r) = true) : Calls P g args'.toArray w fun e w' => ∃ v', e = .returned v' /\ Below w.heap.size w w' /\ R .no base (mEx m w w') r v' :=
 Qm2 hvc (Qgk has hr hO hS hM w.heap.size).1 (Qgk has hr hO hS hM w.heap.size).2 hM hb hc
theorem Qte {o : OM} {fb : Nat} {m : MM} {g : FuncId} {cs : List VV} {v : Value} (h : R o fb m (.fn g cs) v) : ∃ c : Array Value, v = .func (.func g) #[] c /\ RL o fb m cs c.toList := by
 cases h with
 | t h => cases h with
   | fn hs h => exact ⟨_, rfl, by simpa using hs, fun j v v' a b => .t (h j v v' a (by simpa using b))⟩
 | fn hs h => exact ⟨_, rfl, by simpa using hs, fun j v v' a b => h j v v' a (by simpa using b)⟩
theorem RL.append {o : OM} {fb : Nat} {m : MM} {l1 l2 : List VV} {l1' l2' : List Value} (h1 : RL o fb m l1 l1') (h2 : RL o fb m l2 l2') : RL o fb m (l1 ++ l2) (l1' ++ l2') := by
 refine ⟨by simp [h1.1, h2.1], fun j v v' a b => ?_⟩
 rcases Nat.lt_or_ge j l1.length with hj | hj
 ·rw [List.getElem?_append_left hj] at a
  rw [List.getElem?_append_left (by rw [<- h1.1]; exact hj)] at b
  exact h1.2 j v v' a b
 ·rw [List.getElem?_append_right hj] at a
  rw [List.getElem?_append_right (by rw [<- h1.1]; exact hj), <- h1.1] at b
  exact h2.2 _ v v' a b
theorem spread {fb : Nat} {mm : MM} {g' : FuncId} {cs as : List VV} {F : Value} {l : List Value} {cv : Array Value} (hF : F = .func (.func g') #[] cv) (h : RL .no fb mm (.fn g' cs :: as) (F :: l)) : RL .no fb mm (as ++ cs) (l ++ cv.toList) := by
 obtain ⟨c, e, hc⟩ := Qte (h.2 0 _ _ rfl rfl)
 rw [hF] at e
 injection e with _ _ e
 subst e
 exact RL.append ⟨by have := h.1; simpa using this, fun j v v' a b => h.2 (j + 1) v v' a b⟩ hc
def MM.but (m : MM) (b0 : Nat) : MM := fun b => if b = b0 then none else m b
theorem Qv8 {m m' : MM} {fb : Nat} {v : VV} {v' : Value} {o : OM} (h : T m v v') (hc : v.isC = true) : R o fb m' v v' := by
 cases h <;> first | (cases hc; done) | exact .t (.c ‹_›)
theorem Qy4 {m m' : MM} {fb fb' : Nat} {v : VV} {v' : Value} {o : OM} (h : R .no fb m v v') (hc : v.isC = true) : R o fb' m' v v' := by
 cases v with
 | c v => obtain ⟨rfl, hg⟩ := h.J9; exact .t (.c hg)
 | _ => cases hc
theorem Qv9 {cells : List VV} {n : Nat} {v' : Value} {m1 : MM} {fb : Nat} {w' : World} (h : R .no fb m1 (.fr cells n) v') (hM : Yo m1 w') (hc : cells.all VV.isC = true) (hn : n = 0 -> cells = []) :
 (cells = [] /\ ∀ o base m', R o base m' (.rf N 0 n) v') \/ ∃ oi c t, fb <= oi.b /\ w'.heap[oi.b]? = some (.cells c t (0, 0)) /\ c.size = oi.tot /\ oi.sz = 0 /\ (∀ base m', At .no base m' cells c oi.off) /\ ∀ (o' : OM) base m', o' N = some oi -> R o' base m' (.rf N 0 n) v' := by
 cases h with
 | t h => cases h
 | fr h =>
   cases h with
   | e => exact .inl ⟨hn rfl, fun _ _ _ => .rf0⟩
   | @tr _ _ b off cap cs t fz hb hle hs hh =>
     obtain ⟨h1, h2, h3⟩ := MM.Qch.1 hb
     have hz : fz = (0, 0) := by
      unfold Qob at h3
      split at h3
      ·rename_i e; injection e
      ·cases h3
     subst hz
     refine .inr ⟨⟨b, off, cs.size, 0⟩, cs, t, h1, hM _ _ h2, rfl, rfl, fun base m' => ⟨hs, fun j v u a b => ?_⟩, fun o' base m' ho => ?_⟩
     ·exact Qv8 (hh j v u a b) (List.all_eq_true.1 hc v (List.mem_of_getElem? a))
     ·exact .rf (oi := ⟨b, off, cs.size, 0⟩) (off := 0) ho hle (by show off + 0 + cap * 0 <= cs.size; omega)
theorem Qwa {s : Nat} {cells : List VV} {n : Nat} {v' : Value} {m1 : MM} {fb : Nat} {w' : World} (h : R .no fb m1 (.fw s cells n) v') (hM : Yo m1 w') (hc : cells.all VV.isC = true) (hn : n = 0 -> cells = []) :
 (cells = [] /\ ∀ o base m', R o base m' (.rf N 0 n) v') \/ ∃ oi c t, fb <= oi.b /\ w'.heap[oi.b]? = some (.cells c t (0, 0)) /\ c.size = oi.tot /\ oi.sz = s /\ (∀ base m', At .no base m' cells c oi.off) /\ ∀ (o' : OM) base m', o' N = some oi -> R o' base m' (.rf N 0 n) v' := by
 cases h with
 | t h => cases h
 | fw h hcap =>
   cases h with
   | e => exact .inl ⟨hn rfl, fun _ _ _ => .rf0⟩
   | @tr _ _ b off cap cs t fz hb hle hs hh =>
     obtain ⟨h1, h2, h3⟩ := MM.Qch.1 hb
     rcases Nat.eq_zero_or_pos cap with h0 | h0
     ·have : n = 0 := by omega
      subst this; subst h0
      exact .inl ⟨hn rfl, fun _ _ _ => .rf0⟩
     obtain ⟨_, cs', t', g1, g2⟩ := hcap b off cap rfl h0
     rw [g1] at h2
     injection h2 with h2; injection h2 with e1 e2 e3; subst e1; subst e2; subst e3
     refine .inr ⟨⟨b, off, cs'.size, s⟩, cs', t', h1, hM _ _ g1, rfl, rfl, fun base m' => ⟨hs, fun j v u a b => ?_⟩, fun o' base m' ho => ?_⟩
     ·exact Qv8 (hh j v u a b) (List.all_eq_true.1 hc v (List.mem_of_getElem? a))
     ·exact .rf (oi := ⟨b, off, cs'.size, s⟩) (off := 0) ho hle (by show off + 0 + cap * s <= cs'.size; omega)
theorem Qdv : ∀ (i : Nat) (u : VV) (l : List VV) (j : Nat), (setAt i u l)[j]? = if j = i /\ i < l.length then some u else l[j]?
 | _, _, [], j => by simp [setAt]
 | 0, u, v :: l, j => by cases j <;> simp [setAt]
 | i + 1, u, v :: l, j => by
   cases j with
   | zero => simp [setAt]
   | succ j => simp only [setAt, List.getElem?_cons_succ]; rw [Qdv i u l j]; simp
theorem Qgl : ∀ (i : Nat) (u : VV) (l : List VV), (setAt i u l).length = l.length
 | i, _, [] => by cases i <;> rfl
 | 0, _, _ :: _ => rfl
 | i + 1, u, v :: l => by simp [setAt, Qgl i u l]
theorem Qu6 {cells : List VV} {n sz : Nat} {i : Option Nat} {r v : VV} {p : Prop} {v' : Value} {m1 : MM} {fb : Nat} {w' : World} (h : Qs8 N cells n i r = some (v, sz, p)) (hp : p) (hR : R .no fb m1 r v') (hM : Yo m1 w')
 (hc : cells.all VV.isC = true) (hn : n = 0 -> cells = []) :
 ((cells = [] /\ ∀ o base m', R o base m' v v') \/ ∃ oi c t, fb <= oi.b /\ w'.heap[oi.b]? = some (.cells c t (0, 0)) /\ c.size = oi.tot /\ oi.sz = sz /\ (∀ base m', At .no base m' cells c oi.off) /\ ∀ (o' : OM) base m', o' N = some oi -> R o' base m' v v') /\ sz < bigH := by
 have tup : ∀ {i : Nat} {vs : List VV} {c : Array Value} {u : Value} {n' : Nat} {x : VV}, RL .no fb m1 vs c.toList -> vs[i]? = some x -> c.toList[i]? = some u -> (setAt i (.c (.bool true)) vs).all VV.isC = true -> ∀ (o : OM) base m', R o base m' (.rf N 0 n') u -> R o base m' (.tu (setAt i (.rf N 0 n') vs)) (.tuple c) := by
  intro i vs c u n' x hcc hg hu hall o base m' hru'
  have hilt : i < vs.length := (List.getElem?_eq_some_iff.1 hg).1
  refine .tu (by rw [Qgl]; simpa using hcc.1) (fun j x x' a b => ?_)
  rw [Qdv] at a
  by_cases e : j = i
  ·subst e
   rw [if_pos ⟨rfl, hilt⟩] at a
   injection a with a; subst a
   have : u = x' := by
    have hb : c.toList[j]? = some x' := by simpa using b
    rw [hu] at hb; injection hb
   rw [<- this]; exact hru'
  ·rw [if_neg (fun h => e h.1)] at a
   have hx : (setAt i (.c (.bool true)) vs)[j]? = some x := by rw [Qdv, if_neg (fun h => e h.1)]; exact a
   exact Qy4 (hcc.2 j x x' a (by simpa using b)) (List.all_eq_true.1 hall x (List.mem_of_getElem? hx))
 unfold Qs8 at h
 split at h
 ·injection h with h; injection h with h1 h2; injection h2 with h2 h3; subst h1; subst h2; subst h3
  obtain ⟨rfl, rfl⟩ := hp
  exact ⟨Qv9 hR hM hc hn, by unfold bigH; omega⟩
 ·obtain ⟨hs, h⟩ := Qe h
  injection h with h; injection h with h1 h2; injection h2 with h2 h3; subst h1; subst h2; subst h3
  obtain ⟨rfl, rfl⟩ := hp
  exact ⟨Qwa hR hM hc hn, Qdw hs⟩
 ·rename_i i vs
  split at h
  ·rename_i cs n' hg
   have hb0 := Qe h; clear h; obtain ⟨hall, h⟩ := hb0
   injection h with h; injection h with h1 h2; injection h2 with h2 h3; subst h1; subst h2; subst h3
   obtain ⟨rfl, rfl⟩ := hp
   obtain ⟨c, rfl, hcc⟩ := Qm1 hR
   rw [Jj] at hg
   obtain ⟨u, hu, hru⟩ := hcc.get hg
   refine ⟨?_, by unfold bigH; omega⟩
   rcases Qv9 (N := N) hru hM hc hn with ⟨g1, g2⟩ | ⟨oi, cc, t, g1, g2, g3, g4, g5, g6⟩
   ·exact .inl ⟨g1, fun o base m' => tup hcc hg hu hall o base m' (g2 o base m')⟩
   ·exact .inr ⟨oi, cc, t, g1, g2, g3, g4, g5, fun o' base m' ho => tup hcc hg hu hall o' base m' (g6 o' base m' ho)⟩
  ·rename_i s cs n' hg
   have hb0 := Qe h; clear h; obtain ⟨hall, h⟩ := hb0
   rw [Bool.and_eq_true] at hall
   injection h with h; injection h with h1 h2; injection h2 with h2 h3; subst h1; subst h2; subst h3
   obtain ⟨rfl, rfl⟩ := hp
   obtain ⟨c, rfl, hcc⟩ := Qm1 hR
   rw [Jj] at hg
   obtain ⟨u, hu, hru⟩ := hcc.get hg
   refine ⟨?_, Qdw hall.1⟩
   rcases Qwa (N := N) hru hM hc hn with ⟨g1, g2⟩ | ⟨oi, cc, t, g1, g2, g3, g4, g5, g6⟩
   ·exact .inl ⟨g1, fun o base m' => tup hcc hg hu hall.2 o base m' (g2 o base m')⟩
   ·exact .inr ⟨oi, cc, t, g1, g2, g3, g4, g5, fun o' base m' ho => tup hcc hg hu hall.2 o' base m' (g6 o' base m' ho)⟩
  ·cases h
 ·cases h
theorem Qdx {op : Oper} {A G : Tr VV} {an : Ans} {v : VV} {eff : Eff} {q : Prop} (h : Qc5 P op A L G N an = some (v, eff, q)) :
 (∃ g args ts as, op.op = .call { callee := .value (.func g), args := args, argTypes := ts } /\ Qlb L (args.toList.map (ev A)) = some as /\
  ((eff = .no /\ q = VC P g as v /\ ((args.toList.map (ev A)).all Qn8 || new2 v) = true) \/
    ∃ cells n i r p sz, Qs8 N cells n i r = some (v, sz, p) /\ eff = .new ⟨false, sz, cells⟩ /\ q = (VC P g as r /\ p /\ cells.all VV.isC = true /\ (n = 0 -> cells = [])) /\ new2 r = true)) \/
 (∃ t args ts g caps g' cs as, op.op = .call { callee := .value (.tmp t), args := args, argTypes := ts } /\ ev A (.tmp t) = .fn g caps /\ Qlb L (.fn g caps :: args.toList.map (ev A)) = some (.fn g' cs :: as) /\
  eff = .no /\ q = VC P g' (as ++ cs) v /\ ((VV.fn g caps :: args.toList.map (ev A)).all Qn8 || new2 v) = true) \/
 (∃ g args ts ks l as hs bs q0, op.op = .call { callee := .value (.func g), args := args, argTypes := ts } /\ Qmz ks (args.toList.map (ev A)) = some as /\ Qhj ks L ks = some hs /\ Qev ks L ks l = some (bs, q0) /\ nodupB ks = true /\
  (eff = .mods bs \/ ∃ k b, ks = [k] /\ bs = [(k, b)] /\ eff = .put k b /\ (args.toList.map (ev A)).any (Qi1 k) = true /\ b.bx = true) /\ q = (VM P g as hs v l /\ q0 /\ Qm0 L (args.toList.map (ev A) ++ boxed L ks) ks)) \/
 (∃ (f : Inl) (g : FuncId) (x : Operand) (args : Array Operand) (ts : Array TypeId) (caps : List VV) (r : InlR), op.op = .call { callee := .value x, args := args, argTypes := ts } /\ ev A x = .fn g caps /\ (x = .func g \/ ∃ t, x = .tmp t) /\
  f.run P g (args.toList.map (ev A) ++ caps) A L G = some r /\ v = r.v /\ eff = .jump r.A r.L r.G /\ q = r.q) \/ vOp P op A L N an = some (v, eff, q) := by
 unfold Qc5 at h
 split at h
 ·rename_i g args ts hop
  split at h
  ·rename_i ks r l
   unfold vMod at h
   split at h
   case h_2 => cases h
   rename_i as hs bs q0 e1 e2 e3
   obtain ⟨hnd, h⟩ := Qe h
   injection h with h; injection h with h1 h2; injection h2 with h2 h3; subst h1; subst h2; subst h3
   exact .inr (.inr (.inl ⟨g, args, ts, ks, l, as, hs, bs, q0, hop, e1, e2, e3, hnd, .inl rfl, rfl⟩))
  ·rename_i k r b
   unfold Qy2 at h
   split at h
   case h_2 => cases h
   rename_i v0 k' b' q1 hm
   obtain ⟨hnb, h⟩ := Qe h
   injection h with h; injection h with h1 h2; injection h2 with h2 h3; subst h1; subst h2; subst h3
   unfold vMod at hm
   split at hm
   case h_2 => cases hm
   rename_i as hs bs q0 e1 e2 e3
   obtain ⟨hnd, hm⟩ := Qe hm
   injection hm with hm; injection hm with h1 h2; injection h2 with h2 h3; subst h1; injection h2 with h2; subst h2; subst h3
   have hk : k' = k := by
    simp only [Qev] at e3
    split at e3
    case h_2 => cases e3
    rename_i hz
    injection e3 with e3; injection e3 with e3 e4
    injection e3 with e3 e5; injection e3 with e3 e6
    exact e3.symm
   subst hk
   rw [Bool.and_eq_true] at hnb
   exact .inr (.inr (.inl ⟨g, args, ts, [k'], [b], as, hs, _, q0, hop, e1, e2, e3, hnd, .inr ⟨k', b', rfl, rfl, rfl, hnb.1, hnb.2⟩, rfl⟩))
  ·rename_i f
   split at h
   case h_2 => cases h
   rename_i r hr
   injection h with h; injection h with h1 h2; injection h2 with h2 h3
   exact .inr (.inr (.inr (.inl ⟨f, g, .func g, args, ts, [], r, hop, rfl, .inl rfl, by rw [List.append_nil]; exact hr, h1.symm, h2.symm, h3.symm⟩)))
  split at h
  case h_2 => cases h
  rename_i as has
  refine .inl ⟨g, args, ts, as, hop, has, ?_⟩
  split at h
  ·have hb0 := Qe h; clear h; obtain ⟨hc, h⟩ := hb0
   injection h with h; injection h with h1 h2; injection h2 with h2 h3; subst h1; subst h2; subst h3
   exact .inl ⟨rfl, rfl, hc⟩
  ·rename_i cells n i r _ _ _
   split at h
   case h_2 => cases h
   rename_i u sz p hu
   injection h with h; injection h with h1 h2; injection h2 with h2 h3; subst h1; subst h2; subst h3
   refine .inr ⟨cells, n, i, r, p, sz, hu, rfl, rfl, ?_⟩
   have fin : ∀ {i : Nat} {vs : List VV} {x : VV}, getL i vs = some x -> new0 x = true -> (setAt i (.c (.bool true)) vs).all VV.isC = true -> vs.all new1 = true := by
    intro i vs x0 hg hx0 hall
    rw [List.all_eq_true] at hall ⊢
    intro x hx
    obtain ⟨j, hj⟩ := List.mem_iff_getElem?.1 hx
    by_cases e : j = i
    ·subst e; rw [Jj] at hg; rw [hg] at hj; injection hj with hj; subst hj
     cases x0 <;> first | exact hx0 | cases hx0
    ·have := hall x (List.mem_of_getElem? (by rw [Qdv, if_neg (fun h => e h.1)]; exact hj : (setAt i (.c (.bool true)) vs)[j]? = some x))
     cases x <;> first | rfl | cases this
   unfold Qs8 at hu
   split at hu
   ·rfl
   ·rfl
   ·rename_i i vs _
    split at hu
    ·rename_i cs n' hg
     have hb0 := Qe hu; clear hu; obtain ⟨hall, hu⟩ := hb0
     exact fin hg rfl hall
    ·rename_i s cs n' hg
     have hb0 := Qe hu; clear hu; obtain ⟨hall, hu⟩ := hb0
     rw [Bool.and_eq_true] at hall
     exact fin hg rfl hall.2
    ·cases hu
   ·cases hu
  ·cases h
 ·rename_i t args ts hop
  split at h
  case h_2 => cases h
  rename_i g caps ht
  split at h
  ·rename_i f
   split at h
   case h_2 => cases h
   rename_i r hr
   injection h with h; injection h with h1 h2; injection h2 with h2 h3
   exact .inr (.inr (.inr (.inl ⟨f, g, .tmp t, args, ts, caps, r, hop, ht, .inr ⟨t, rfl⟩, hr, h1.symm, h2.symm, h3.symm⟩)))
  split at h
  case h_2 => cases h
  rename_i g' cs as r has _
  have hb0 := Qe h; clear h; obtain ⟨hc, h⟩ := hb0
  injection h with h; injection h with h1 h2; injection h2 with h2 h3; subst h1; subst h2; subst h3
  exact .inr (.inl ⟨t, args, ts, g, caps, g', cs, as, hop, ht, has, rfl, rfl, hc⟩)
 ·exact .inr (.inr (.inr (.inr h)))
theorem Qlc {op : Oper} {A G : Tr VV} {an : Ans} {v : VV} {eff : Eff} {q : Prop} {a : Act} {K : Act -> World -> Prop} {Q : Exit -> Act -> World -> Prop} (hn : Named P)
 (h : Qc5 P op A L G N an = some (v, eff, q)) (heff : eff.quiet = true) (hq : q) (hO : Own gv base o m L w) (hS : Still L) (hM : Yo m w) (hb : base <= w.heap.size) (he : ∀ x ∈ op.op.operands, R o base m (ev A x) (a.eval x))
 (k : ∀ v' m' w', Quiet base o m w N eff v v' m' w' -> K (a.put op.dst v') w') : op.wpIn (fen rd) 0 P a w K Q := by
 refine ⟨fun _ _ => trivial, ?_⟩
 rcases Qdx h with ⟨g, args, ts, as, ho, has, hcase⟩ | ⟨t, args, ts, g, caps, g', cs, as, ho, ht, has, rfl, rfl, hc⟩ | ⟨_, _, _, _, _, _, _, _, _, _, _, _, _, _, rfl | ⟨_, _, _, _, rfl, _⟩, _⟩ | ⟨_, _, _, _, _, _, _, _, _, _, _, _, rfl, _⟩ | h
 ·have hsem : op.semAt rd a.eval = execOp a.eval op := Oper.semAt_eq _ _ _ (fun c => by rw [ho]; intro e; cases e)
  show op.uponIn (fen rd) 0 P a K Q ((op.semAt rd a.eval).run P w)
  rw [hsem]
  have hargs : RL o base m (args.toList.map (ev A)) (args.toList.map a.eval) := Qgm args.toList fun x hx => he x (by rw [ho]; simp [Op.operands, Call.operands]; exact .inr (Array.mem_toList_iff.1 hx))
  have hbod : ∃ fn c, P.funcs[g]? = some fn /\ fn.body = some c := by
   rcases hcase with ⟨_, rfl, _⟩ | ⟨_, _, _, _, _, _, _, _, rfl, _⟩
   ·exact hq.1
   ·exact hq.1.1
  obtain ⟨fn, c, hfn, hbody⟩ := hbod
  have hrun : (execOp a.eval op).run P w = .ok (.enter g (args.toList.map a.eval).toArray) w := by
   have e : (args.toList.map a.eval).toArray = #[] ++ args.map a.eval ++ #[] := by apply Array.ext'; simp
   rw [e]
   obtain ⟨dst, oo, type, pos, after, guard⟩ := op
   dsimp only at ho
   subst ho
   show (resolve a.eval { callee := .value (.func g), args, argTypes := ts } type >>= fun d => invoke d.target d.args).run P w = _
   unfold resolve
   show (callFunc g (#[] ++ args.map a.eval ++ #[])).run P w = _
   exact Qdd hn hfn hbody _ w
  rw [hrun]
  refine ⟨fun h => by simp [fen, Fence.wide] at h, ?_⟩
  show CallsIn (fen none) 0 P g _ w _
  have quietOf : ∀ {w' : World}, Below w.heap.size w w' -> ∀ b, b < w.heap.size -> w'.heap[b]? = w.heap[b]? := fun hbel b hb => hbel.block b hb
  rcases hcase with ⟨rfl, rfl, hc⟩ | ⟨cells, n, i, r, p, sz0, hown, rfl, rfl, hnew⟩
  ·refine (callsIn_wide (n := 0)).2 ((Qu5 hq has hargs hO hS hM hb hc).mono ?_)
   rintro e w' ⟨v', rfl, hbel, hR⟩
   exact k v' (mEx m w w') w' ⟨Qie _ _ _, Qtb hM (quietOf hbel), fun b ob hh => Qg1 hh, quietOf hbel, hbel.size, ⟨hbel.os, hbel.tape, hbel.output⟩, hR.mono (OM.Qhq o) (.refl _) (Nat.le_refl _)⟩
  ·obtain ⟨q1, q2, q3, q4⟩ := hq
   refine (callsIn_wide (n := 0)).2 ((q1.2 w (allM w) _ (Qoa w) (Qgk has hargs hO hS hM w.heap.size).1).mono ?_)
   rintro e w' ⟨v', m1, rfl, hbel, hle1, hM1, _, hR⟩
   have hM' := Qtb hM (quietOf hbel)
   obtain ⟨hcs, hsm⟩ := Qu6 hown q2 hR hM1 q3 q4
   rcases hcs with ⟨g1, g2⟩ | ⟨oi, c, t, g1, g2, g3, g4, g5, g6⟩
   ·exact k v' (mEx m w w') w' ⟨Qie _ _ _, hM', fun b ob hh => Qg1 hh, quietOf hbel, hbel.size, ⟨hbel.os, hbel.tape, hbel.output⟩, .inl ⟨g1, rfl, g2 _ _ _⟩⟩
   ·refine k v' ((mEx m w w').but oi.b) w' ⟨fun b ob hh => ?_, fun b ob hh => ?_, fun b ob hh => ?_, quietOf hbel, hbel.size, ⟨hbel.os, hbel.tape, hbel.output⟩, .inr ⟨oi, g1, (Array.getElem?_eq_some_iff.1 g2).1, if_pos rfl, .row g2 g3 (fun _ => g4) (Qpr (b := ⟨false, sz0, cells⟩) hsm).1 (fun _ => Nat.le_trans hb g1) (g5 _ _), fun o' _ ho' => g6 o' _ _ ho'⟩⟩
    ·unfold MM.but
     rw [if_neg (by have := hM.lt hh; omega)]
     exact Qie _ _ _ _ _ hh
    ·unfold MM.but at hh
     split at hh
     ·cases hh
     ·exact hM' _ _ hh
    ·unfold MM.but at hh
     split at hh
     ·cases hh
     ·exact Qg1 hh
 ·have hsem : op.semAt rd a.eval = execOp a.eval op := Oper.semAt_eq _ _ _ (fun c => by rw [ho]; intro e; cases e)
  show op.uponIn (fen rd) 0 P a K Q ((op.semAt rd a.eval).run P w)
  rw [hsem]
  have hF := he (.tmp t) (by rw [ho]; simp [Op.operands, Call.operands])
  have hargs : RL o base m (args.toList.map (ev A)) (args.toList.map a.eval) := Qgm args.toList fun x hx => he x (by rw [ho]; simp [Op.operands, Call.operands]; exact .inr (Array.mem_toList_iff.1 hx))
  rw [ht] at hF
  obtain ⟨g1, g2⟩ := Qgk has (RL.cons hF hargs) hO hS hM w.heap.size
  obtain ⟨cv, hFv, _⟩ := Qte (g1.2 0 _ _ rfl rfl)
  obtain ⟨fn, c, hfn, hbody⟩ := hq.1
  have hrun : (execOp a.eval op).run P w = .ok (.enter g' (args.toList.map a.eval ++ cv.toList).toArray) w := by
   have e : (args.toList.map a.eval ++ cv.toList).toArray = #[] ++ args.map a.eval ++ cv := by apply Array.ext'; simp
   rw [e]
   obtain ⟨dst, oo, type, pos, after, guard⟩ := op
   dsimp only at ho
   subst ho
   show (resolve a.eval { callee := .value (.tmp t), args, argTypes := ts } type >>= fun d => invoke d.target d.args).run P w = _
   unfold resolve
   dsimp only
   rw [hFv]
   show (callFunc g' (#[] ++ args.map a.eval ++ cv)).run P w = _
   exact Qdd hn hfn hbody _ w
  rw [hrun]
  refine ⟨fun h => by simp [fen, Fence.wide] at h, ?_⟩
  show CallsIn (fen none) 0 P g' _ w _
  have quietOf : ∀ {w' : World}, Below w.heap.size w w' -> ∀ b, b < w.heap.size -> w'.heap[b]? = w.heap[b]? := fun hbel b hb => hbel.block b hb
  refine (callsIn_wide (n := 0)).2 ((Qm2 hq (spread hFv g1) (fun hfl => spread hFv (g2 hfl)) hM hb hc).mono ?_)
  rintro e w' ⟨v', rfl, hbel, hR⟩
  exact k v' (mEx m w w') w' ⟨Qie _ _ _, Qtb hM (quietOf hbel), fun b ob hh => Qg1 hh, quietOf hbel, hbel.size, ⟨hbel.os, hbel.tape, hbel.output⟩, hR.mono (OM.Qhq o) (.refl _) (Nat.le_refl _)⟩
 ·cases heff
 ·cases heff
 ·cases heff
 ·have hnd : ∀ c, op.op ≠ .defer c := by
   intro c e
   unfold vOp at h
   rw [e] at h
   cases h
  have hsem : op.semAt rd a.eval = execOp a.eval op := Oper.semAt_eq _ _ _ hnd
  show op.uponIn (fen rd) 0 P a K Q ((op.semAt rd a.eval).run P w)
  rw [hsem]
  obtain ⟨nx, v', w', g1, g2, g3⟩ := Qps h hq hb hO hM he
  rw [g1]
  obtain ⟨m', hquiet⟩ := g3.quiet heff hM
  have hk := k v' m' w' hquiet
  cases nx <;> first | (simp [valOf] at g2; done) | (simp only [valOf, Option.some.injEq] at g2; subst g2; exact hk)
end
end Go.Proofs.Ytfeedchjdnedjaa.Vv
