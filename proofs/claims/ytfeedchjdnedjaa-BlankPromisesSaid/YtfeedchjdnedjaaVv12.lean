import Derived.Test.YtfeedchjdnedjaaVv11
set_option linter.unusedVariables false
set_option linter.unusedSimpArgs false
namespace Go.Proofs.Ytfeedchjdnedjaa.Vv
open Go Go.Proofs.Ytfeedchjdnedjaa.Ev
open Go.RowKit (Below)
def oneV (P : Program) (ops : Array Oper) (o : Oper) (an : Ans) (s : VS) : Option (VV × Eff × Prop) := match o.guard with
 | none => match an with
   | .skip => none
   | an => Qc5 P o s.A s.L s.G s.L.length an
 | some (j, want) => match getL j ops.toList with
   | some g => match g.dst with
     | some d => match ev s.A (.tmp d) with
       | .c (.bool b) => match an with
         | .skip => some (.tu [], .no, b = !want)
         | an => match Qc5 P o s.A s.L s.G s.L.length an with
           | some (v, e, q) => some (v, e, b = want /\ q)
           | none => none
       | .tu [] => match an with
         | .skip => some (.tu [], .no, True)
         | _ => none
       | _ => none
     | none => none
   | none => none
def vOps (P : Program) (ops : Array Oper) (m : Nat) : Nat -> List Oper -> List Ans -> VS -> Option (VS × Prop)
 | _, [], [], s => some (s, True)
 | i, o :: os, an :: as, s => match oneV P ops o an s with
   | some (v, e, q) => bif Nat.blt i m && !e.Qj9 then none else match vOps P ops m (i + 1) os as ((e.app s).put o.dst v) with
     | some (s', q') => some (s', q /\ q')
     | none => none
   | none => none
 | _, _, _, _ => none
section
variable {P : Program} {gv : Nat -> Value} {base : Nat} {w0 : World} {m0 : MM} {sz : Nat} {s : VS} {o : OM} {m : MM} {a : Act} {w : World} {rd : Option Nat}
theorem Qvq (h : Rel gv base w0 m0 sz s o m a w) {d : Nat} {b : Bool} (e : Vv.ev s.A (.tmp d) = .c (.bool b)) : a.tmps.getD d undef = .bool b := by
 have := h.tm d
 rw [e] at this
 exact this.J9.1
theorem Qgv {ops : Array Oper} {op : Oper} {j : Nat} {want b : Bool} {g : Oper} {d : Nat} (hg : op.guard = some (j, want)) (hj : getL j ops.toList = some g) (hd : g.dst = some d) (hb : a.tmps.getD d undef = .bool b) :
 Region.wanted op (yielded ops a.tmps) = (b == want) := by
 unfold Region.wanted
 rw [hg]
 dsimp only
 unfold yielded
 rw [Jj, J7] at hj
 rw [hj]
 simp only [Option.bind_some, hd]
 rw [Array.getD_eq_getD_getElem?] at hb
 cases ht : a.tmps[d]? with
 | none => rw [ht] at hb; simp [undef] at hb
 | some v =>
   rw [ht] at hb
   simp only [Option.getD_some] at hb
   subst hb
   simp only
   cases b <;> cases want <;> rfl
theorem Qgw {o : OM} {fb : Nat} {m : MM} : R o fb m (.tu []) undef := .t (.tu (cs := #[]) rfl (fun j v v' a b => by simp at a))
theorem Qnm {o : OM} {fb : Nat} {m : MM} {v' : Value} (h : R o fb m (.tu []) v') : v' = undef := by
 cases h with
 | t h => cases h with
   | tu hs => rename_i cs _; have : cs = #[] := by apply Array.eq_empty_of_size_eq_zero; simpa using hs.symm
              subst this; rfl
 | tu hs => rename_i cs _; have : cs = #[] := by apply Array.eq_empty_of_size_eq_zero; simpa using hs.symm
            subst this; rfl
theorem Quh (h : Rel gv base w0 m0 sz s o m a w) {d : Nat} (e : Vv.ev s.A (.tmp d) = .tu []) : a.tmps.getD d undef = undef := by
 have := h.tm d
 rw [e] at this
 exact Qnm this
theorem Qkk {ops : Array Oper} {op : Oper} {j : Nat} {want : Bool} {g : Oper} {d : Nat} (hg : op.guard = some (j, want)) (hj : getL j ops.toList = some g) (hd : g.dst = some d) (hb : a.tmps.getD d undef = undef) :
 Region.wanted op (yielded ops a.tmps) = false := by
 unfold Region.wanted
 rw [hg]
 dsimp only
 unfold yielded
 rw [Jj, J7] at hj
 rw [hj]
 simp only [Option.bind_some, hd]
 rw [Array.getD_eq_getD_getElem?] at hb
 cases ht : a.tmps[d]? with
 | none => simp
 | some v =>
   rw [ht] at hb
   simp only [Option.getD_some] at hb
   subst hb
   simp [undef]
theorem Qwl (hn : Named P) (hmx : P.follows .mixedOrders = true) (hR : Rel gv base w0 m0 sz s o m a w) {ops : Array Oper} {op : Oper} {an : Ans} {v : VV} {eff : Eff} {q : Prop} (hd : ∀ d : Nat, op.dst = some d -> d < sz) (hsz : sz < 1000000)
 (h : oneV P ops op an s = some (v, eff, q)) (hq : q) {K : Act -> World -> Prop} {Q : Exit -> Act -> World -> Prop} (k : ∀ o' m' a' w', Rel gv base w0 m0 sz ((eff.app s).put op.dst v) o' m' a' w' -> K a' w') :
 if Region.wanted op (yielded ops a.tmps) then op.wpIn (fen rd) 0 P a w K Q else (∀ f, op.about P w a.eval = some f -> (fen rd).fn f) /\ K (a.put op.dst undef) w := by
 unfold oneV at h
 split at h
 ·rename_i hg
  have hw : Region.wanted op (yielded ops a.tmps) = true := by unfold Region.wanted; rw [hg]
  rw [hw, if_pos rfl]
  split at h
  ·cases h
  ·exact Qts hn hmx hR hd hsz h hq k
 ·rename_i j want hg
  split at h
  case h_2 => cases h
  rename_i g hj
  split at h
  case h_2 => cases h
  rename_i d hdg
  split at h
  case h_3 => cases h
  case h_2 hb =>
   split at h
   case h_2 => cases h
   injection h with h; injection h with h1 h2; injection h2 with h2 h3; subst h1; subst h2
   rw [Qkk (ops := ops) hg hj hdg (Quh hR hb), if_neg (by simp)]
   exact ⟨fun _ _ => trivial, k o m _ w (hR.put hd hsz Qgw)⟩
  rename_i b hb
  have hw := Qgv (ops := ops) hg hj hdg (Qvq hR hb)
  split at h
  ·injection h with h; injection h with h1 h2; injection h2 with h2 h3; subst h1; subst h2; subst h3
   rw [hw, hq]
   have : ((!want) == want) = false := by cases want <;> rfl
   rw [this, if_neg (by simp)]
   exact ⟨fun _ _ => trivial, k o m _ w (hR.put hd hsz Qgw)⟩
  ·split at h
   case h_2 => cases h
   rename_i v1 e1 q1 hs
   injection h with h; injection h with h1 h2; injection h2 with h2 h3; subst h1; subst h2; subst h3
   rw [hw, hq.1]
   rw [beq_self_eq_true, if_pos rfl]
   exact Qts hn hmx hR hd hsz hs hq.2 k
theorem Qui (hn : Named P) (hmx : P.follows .mixedOrders = true) {ops : Array Oper} (hok : Qhr sz ops = true) {Q : Exit -> Act -> World -> Prop} {mm : Nat} : ∀ (l : List Oper) (as : List Ans) (i : Nat) (s s' : VS) (q : Prop), (∀ o ∈ l, o ∈ ops) -> vOps P ops mm i l as s = some (s', q) -> q ->
 ∀ (o : OM) (m : MM) (a : Act) (w : World), Rel gv base w0 m0 sz s o m a w -> (∀ o' m' a' w', Rel gv base w0 m0 sz s' o' m' a' w' -> Q .normal a' w') -> wpListIn (fen rd) 0 P ops Q l a w
 | [], [], i, s, s', q, hl, h, hq, o, m, a, w, hR, k => by
   simp only [vOps, Option.some.injEq, Prod.mk.injEq] at h
   obtain ⟨rfl, rfl⟩ := h
   exact k o m a w hR
 | [], _ :: _, i, s, s', q, hl, h, hq, o, m, a, w, hR, k => by simp [vOps] at h
 | _ :: _, [], i, s, s', q, hl, h, hq, o, m, a, w, hR, k => by simp [vOps] at h
 | op :: os, an :: as, i, s, s', q, hl, h, hq, o, m, a, w, hR, k => by
   simp only [vOps] at h
   split at h
   case h_2 => cases h
   rename_i v e q1 h1
   cases hb : (Nat.blt i mm && !e.Qj9) with
   | true => rw [hb] at h; cases h
   | false =>
     rw [hb] at h
     simp only [cond_false] at h
     split at h
     case h_2 => cases h
     rename_i s2 q2 h2
     simp only [Option.some.injEq, Prod.mk.injEq] at h
     obtain ⟨rfl, rfl⟩ := h
     obtain ⟨kk, hk, hko⟩ := Array.mem_iff_getElem.1 (hl op (by simp))
     have hok1 : ops[kk]? = some op := by rw [Array.getElem?_eq_getElem hk, hko]
     obtain ⟨hsz, hdst, _⟩ := Qa1 hok hok1
     exact Qwl hn hmx hR hdst hsz h1 hq.1 (fun o' m' a' w' hR' => Qui hn hmx hok os as (i + 1) _ s2 q2 (fun x hx => hl x (by simp [hx])) h2 hq.2 o' m' a' w' hR' k)
end
def VRun (rd : Option Nat) (P : Program) (sz : Nat) (c : Code) (s : VS) (e : Exit) (s' : VS) : Prop :=
 ∀ gv base w0 m0 o m a w, Rel gv base w0 m0 sz s o m a w -> ∀ Q : Exit -> Act -> World -> Prop, (∀ o' m' a' w', Rel gv base w0 m0 sz s' o' m' a' w' -> Q e a' w') -> c.wpIn (fen rd) 0 P Q a w
def Ya (rd : Option Nat) (P : Program) (sz : Nat) (c : Code) (s : VS) (e : Exit) (s' : VS) : Prop :=
 ∀ gv base w0 m0 o m a w, Rel gv base w0 m0 sz s o m a w -> ∀ Q : Exit -> Act -> World -> Prop, (∀ o' m' a' w', Rel gv base w0 m0 sz s' o' m' a' w' -> Q e a' w') -> LoopIn (fen rd) 0 P c Q a w
def Wk (s s' : VS) : Prop := ∀ gv base w0 m0 sz o m a w, Rel gv base w0 m0 sz s o m a w -> ∃ o' m', Rel gv base w0 m0 sz s' o' m' a w
theorem Wk.refl (s : VS) : Wk s s := fun _ _ _ _ _ o m _ _ h => ⟨o, m, h⟩
theorem Wk.trans {a b c : VS} (h : Wk a b) (k : Wk b c) : Wk a c := fun gv base w0 m0 sz o m x w hr => by
 obtain ⟨o', m', h1⟩ := h gv base w0 m0 sz o m x w hr
 exact k gv base w0 m0 sz o' m' x w h1
section
variable {rd : Option Nat} {P : Program} {sz : Nat} {s s1 s2 : VS} {c x y : Code} {e : Exit}
theorem VRun.weak (h : Wk s s1) (k : VRun rd P sz c s1 e s2) : VRun rd P sz c s e s2 := fun gv base w0 m0 o m a w hR Q hQ => by
 obtain ⟨o', m', h1⟩ := h gv base w0 m0 sz o m a w hR
 exact k gv base w0 m0 o' m' a w h1 Q hQ
theorem VRun.Qvf (k : VRun rd P sz c s e s1) (h : Wk s1 s2) : VRun rd P sz c s e s2 := fun gv base w0 m0 o m a w hR Q hQ =>
 k gv base w0 m0 o m a w hR Q (fun o' m' a' w' hR' => by
   obtain ⟨o2, m2, h2⟩ := h gv base w0 m0 sz o' m' a' w' hR'
   exact hQ o2 m2 a' w' h2)
theorem Ya.weak (h : Wk s s1) (k : Ya rd P sz c s1 e s2) : Ya rd P sz c s e s2 := fun gv base w0 m0 o m a w hR Q hQ => by
 obtain ⟨o', m', h1⟩ := h gv base w0 m0 sz o m a w hR
 exact k gv base w0 m0 o' m' a w h1 Q hQ
theorem VRun.skip : VRun rd P sz .skip s .normal s := fun _ _ _ _ o m a w hR Q hQ => wpIn_skip (hQ o m a w hR)
theorem VRun.label {l : Nat} : VRun rd P sz (.label l) s .normal s := fun _ _ _ _ o m a w hR Q hQ => wpIn_label (hQ o m a w hR)
theorem VRun.exit {id : Nat} : VRun rd P sz (.exit id) s (.exit id) s := fun _ _ _ _ o m a w hR Q hQ => wpIn_exit (hQ o m a w hR)
theorem VRun.ret : VRun rd P sz .ret s .ret s := fun _ _ _ _ o m a w hR Q hQ => wpIn_ret (hQ o m a w hR)
theorem VRun.seq (h : VRun rd P sz x s .normal s1) (k : VRun rd P sz y s1 e s2) : VRun rd P sz (.seq x y) s e s2 := fun gv base w0 m0 o m a w hR Q hQ =>
 wpIn_seq (h gv base w0 m0 o m a w hR _ (fun o' m' a' w' hR' => k gv base w0 m0 o' m' a' w' hR' Q hQ))
theorem VRun.Qx9 (h : VRun rd P sz x s e s1) (he : e ≠ .normal) : VRun rd P sz (.seq x y) s e s1 := fun gv base w0 m0 o m a w hR Q hQ =>
 wpIn_seq (h gv base w0 m0 o m a w hR _ (fun o' m' a' w' hR' => by
  have := hQ o' m' a' w' hR'
  cases e <;> first | exact absurd rfl he | exact this))
theorem Quj {gv : Nat -> Value} {base : Nat} {w0 : World} {m0 : MM} {o : OM} {m : MM} {a : Act} {w : World} (hR : Rel gv base w0 m0 sz s o m a w) {cc : Operand} {b : Bool} (h : ev s.A cc = .c (.bool b)) : a.eval cc = .bool b := by
 have := hR.ev cc
 rw [h] at this
 exact this.J9.1
theorem VRun.yes {cc : Operand} {b : Bool} (h : ev s.A cc = .c (.bool b)) (hb : b = true) (k : VRun rd P sz x s e s1) : VRun rd P sz (.cond cc x y) s e s1 := fun gv base w0 m0 o m a w hR Q hQ =>
 wpIn_cond_true (by rw [Quj hR h, hb]) (k gv base w0 m0 o m a w hR Q hQ)
theorem VRun.nope {cc : Operand} {b : Bool} (h : ev s.A cc = .c (.bool b)) (hb : b = false) (k : VRun rd P sz y s e s1) : VRun rd P sz (.cond cc x y) s e s1 := fun gv base w0 m0 o m a w hR Q hQ =>
 wpIn_cond_false (by rw [Quj hR h, hb]) (k gv base w0 m0 o m a w hR Q hQ)
theorem VRun.block {id : Nat} (h : VRun rd P sz x s (.exit id) s1) : VRun rd P sz (.block id x) s .normal s1 := fun gv base w0 m0 o m a w hR Q hQ =>
 wpIn_block (h gv base w0 m0 o m a w hR _ (fun o' m' a' w' hR' => by
  show (if id = id then Q .normal a' w' else Q (.exit id) a' w')
  rw [if_pos rfl]; exact hQ o' m' a' w' hR'))
theorem VRun.Qnn {id : Nat} (h : VRun rd P sz x s e s1) (he : e ≠ .exit id) : VRun rd P sz (.block id x) s e s1 := fun gv base w0 m0 o m a w hR Q hQ =>
 wpIn_block (h gv base w0 m0 o m a w hR _ (fun o' m' a' w' hR' => by
  have := hQ o' m' a' w' hR'
  cases e with
  | exit id' =>
    show (if id' = id then Q .normal a' w' else Q (.exit id') a' w')
    rw [if_neg (fun h => he (by rw [h]))]; exact this
  | _ => exact this))
theorem VRun.loop (h : Ya rd P sz c s e s1) : VRun rd P sz (.loop c) s e s1 := fun gv base w0 m0 o m a w hR Q hQ => Qmn (h gv base w0 m0 o m a w hR Q hQ)
theorem Ya.next (h : VRun rd P sz c s .normal s1) (k : Ya rd P sz c s1 e s2) : Ya rd P sz c s e s2 := fun gv base w0 m0 o m a w hR Q hQ =>
 Qea (h gv base w0 m0 o m a w hR _ (fun o' m' a' w' hR' => k gv base w0 m0 o' m' a' w' hR' Q hQ))
theorem Ya.stop (h : VRun rd P sz c s e s1) (he : e ≠ .normal) : Ya rd P sz c s e s1 := fun gv base w0 m0 o m a w hR Q hQ =>
 Qea (h gv base w0 m0 o m a w hR _ (fun o' m' a' w' hR' => by
  have := hQ o' m' a' w' hR'
  cases e <;> first | exact absurd rfl he | exact this))
theorem VRun.region (hn : Named P) (hmx : P.follows .mixedOrders = true) {id : Nat} {ops : Array Oper} {as : List Ans} {q : Prop} (hok : Qhr sz ops = true) (h : vOps P ops 0 0 ops.toList as s = some (s1, q)) (hq : q) : VRun rd P sz (.region id ops false) s .normal s1 :=
 fun gv base w0 m0 o m a w hR Q hQ => wpIn_region_list (Qui hn hmx hok ops.toList as 0 s s1 q (fun o ho => by simpa using ho) h hq o m a w hR hQ)
end
end Go.Proofs.Ytfeedchjdnedjaa.Vv
