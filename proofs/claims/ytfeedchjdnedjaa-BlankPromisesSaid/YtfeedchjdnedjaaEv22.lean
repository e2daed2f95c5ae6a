import Derived.Test.YtfeedchjdnedjaaEv21
set_option linter.unusedVariables false
set_option linter.unusedSimpArgs false
namespace Go.Proofs.Ytfeedchjdnedjaa.Ev
open Go
section
variable {P : Program} {O : Orc P} {base fl : Nat} {ρ : Ren}
theorem Qq4 {x : Img} {c c' : Array Value} {t : TypeId} (h : ORel P ρ x (.cells c t (0, 0)) (.cells c' t (0, 0))) {o : Nat} {xs xs' : List Value} (hx : LRel ρ xs xs') (hfit : o + xs.length <= c.toList.length) :
 ORel P ρ x (.cells ⟨c.toList.take o ++ xs ++ c.toList.drop (o + xs.length)⟩ t (0, 0))
  (.cells (c'.toList.take (o + x.shift) ++ xs' ++ c'.toList.drop (o + x.shift + xs'.length)).toArray t (0, 0)) := by
 cases h with
 | cells ht hs hz hh =>
   have hlen := hx.len
   have hcl : c.toList.length = c.size := Array.length_toList
   have hcl' : c'.toList.length = c'.size := Array.length_toList
   refine .cells ?_ ?_ hz (fun i v hi => ?_)
   ·simp only [List.size_toArray, List.length_append, List.length_take, List.length_drop]; omega
   ·show x.shift + (c.toList.take o ++ xs ++ c.toList.drop (o + xs.length)).length <= x.tot
    simp only [List.length_append, List.length_take, List.length_drop]; omega
   ·have hi' : (c.toList.take o ++ xs ++ c.toList.drop (o + xs.length))[i]? = some v := by simpa using hi
    have goal : ∀ v', (c'.toList.take (o + x.shift) ++ xs' ++ c'.toList.drop (o + x.shift + xs'.length))[i + x.shift]? = some v' -> VRel ρ v v' -> ∃ v', ((c'.toList.take (o + x.shift) ++ xs' ++ c'.toList.drop (o + x.shift + xs'.length)).toArray)[i + x.shift]? = some v' /\ VRel ρ v v' :=
     fun v' a b => ⟨v', by simpa using a, b⟩
    have l1 : (c.toList.take o).length = o := by rw [List.length_take]; omega
    have l2 : (c'.toList.take (o + x.shift)).length = o + x.shift := by rw [List.length_take]; omega
    by_cases c1 : i < o
    ·rw [List.append_assoc, List.getElem?_append_left (by omega), List.getElem?_take, if_pos c1] at hi'
     obtain ⟨v', a, b⟩ := hh i v (by simpa using hi')
     refine goal v' ?_ b
     rw [List.append_assoc, List.getElem?_append_left (by omega), List.getElem?_take, if_pos (by omega)]
     simpa using a
    ·by_cases c2 : i < o + xs.length
     ·rw [List.append_assoc, List.getElem?_append_right (by omega), List.getElem?_append_left (by omega), l1] at hi'
      have hlt : i - o < xs'.length := by omega
      have := hx.getD (i - o)
      rw [List.getD_eq_getElem?_getD, List.getD_eq_getElem?_getD, hi', List.getElem?_eq_getElem hlt] at this
      refine goal (xs'[i - o]) ?_ this
      rw [List.append_assoc, List.getElem?_append_right (by omega), List.getElem?_append_left (by omega), l2, show i + x.shift - (o + x.shift) = i - o by omega, List.getElem?_eq_getElem hlt]
     ·rw [List.getElem?_append_right (by simp only [List.length_append]; omega), List.length_append, l1, List.getElem?_drop] at hi'
      rw [show o + xs.length + (i - (o + xs.length)) = i by omega] at hi'
      obtain ⟨v', a, b⟩ := hh i v (by simpa using hi')
      refine goal v' ?_ b
      rw [List.getElem?_append_right (by simp only [List.length_append]; omega), List.length_append, l2, List.getElem?_drop, show o + x.shift + xs'.length + (i + x.shift - (o + x.shift + xs'.length)) = i + x.shift by omega]
      simpa using a
theorem Qiz {wA w : World} (hr : WRel P base ρ wA w) {b o : Nat} {x : Img} {c : Array Value} {ct : TypeId} (hb : ρ b = some x) (hA : wA.heap[b]? = some (.cells c ct (0, 0))) {xs xs' : List Value} (hx : LRel ρ xs xs')
 (hfit : o + xs.length <= c.toList.length) (hone : ∀ v ∈ xs, v.oneCell' = true) :
 ∃ o0 o1, w.heap[x.blk]? = some o0 /\ (Go.storeCells ⟨x.blk, o + x.shift, none⟩ xs').run P w = .ok () { w with heap := w.heap.setIfInBounds x.blk o1 } /\
   ORel P ρ x (.cells ⟨c.toList.take o ++ xs ++ c.toList.drop (o + xs.length)⟩ ct (0, 0)) o1 := by
 obtain ⟨o', h1, h2⟩ := hr.obj b _ x hA rfl hb
 have h2' := h2
 cases h2 with
 | @cells _ c' _ ht hs hz hh =>
   have hone' : ∀ v ∈ xs', v.oneCell' = true := by
    clear hfit
    induction hx with
    | nil => simp
    | cons hv _ ih =>
      intro v hvm
      simp only [List.mem_cons] at hvm
      rcases hvm with rfl | hvm
      ·rw [<- hv.one]; exact hone _ (by simp)
      ·exact ih (fun v hv => hone v (by simp [hv])) v hvm
   have hcl : c.toList.length = c.size := Array.length_toList
   have hst := run_storeCells_at P x.blk (o + x.shift) ct xs' 0 c' w h1 (by rw [<- hx.len]; omega) hone'
   simp only [Nat.add_zero] at hst
   refine ⟨_, _, h1, ?_, Qq4 h2' hx hfit⟩
   rw [hst, Qcw h1]; rfl
theorem Qmw {fl : Nat} {wA w : World} {t : TypeId} {m m' k v v' : Value} {r0 : Nat} {o0 : Obj} (he : Qbw P fl (fun b => wA.heap[b]?) t m k v = some (r0, o0)) (hr : WRel P base ρ wA w) (hm : VRel ρ m m') (hv : VRel ρ v v') :
 ∃ x oA p0 p1, ρ r0 = some x /\ wA.heap[r0]? = some oA /\ alive oA = true /\ w.heap[x.blk]? = some p0 /\ (Instr.mapUpdate t m' k v').run P w = .ok () { w with heap := w.heap.setIfInBounds x.blk p1 } /\ ORel P ρ x o0 p1 := by
 unfold Qbw at he
 split at he
 case h_2 => cases he
 rename_i kt et r hu
 split at he
 case h_2 => cases he
 rename_i kd es clock hk hA
 split at he
 case isFalse => cases he
 rename_i hc
 obtain ⟨hfr, hkk⟩ := hc
 cases hm with
 | @map _ x hb =>
   obtain ⟨o', h1, h2⟩ := hr.obj r _ x hA rfl hb
   cases h2 with
   | @map _ es' _ hs hh =>
     have hes : Qn1 ρ es.toList es'.toList := ⟨by simpa using hs, fun i e e' a b => hh i e e' (by simpa using a) (by simpa using b)⟩
     have hgk : VRel ρ k k := by
      cases kd <;> cases k <;> simp [Qav] at hkk <;> constructor
     unfold Instr.mapUpdate
     rw [Sem.run_bind, Qh hu]
     simp only [Result.andThen_ok]
     rw [Sem.run_bind, J5 h1 (fun _ _ _ h => by cases h)]
     simp only [Result.andThen_ok]
     rw [Sem.run_bind, Qb8 hk hkk]
     simp only [Result.andThen_ok]
     cases hfn : Instr.findNow kd k es.toList 0 with
     | none => rw [hfn] at he; cases he
     | some q =>
       rw [hfn] at he
       rcases Qd9 _ _ 0 q hes hfn with ⟨rfl, q2⟩ | ⟨j, u, u', e, e', rfl, q2, hs2, _, ge, ge', ke, ke'⟩
       ·injection he with he
        injection he with he1 he2
        subst he1; subst he2
        rw [Sem.run_bind, Qas hk q2]
        simp only [Result.andThen_ok]
        refine ⟨x, _, _, _, hb, hA, rfl, h1, Y3 h1 (fun _ _ _ h => by cases h), .map (by simp [hs]) ?_⟩
        intro i a a' p q
        rw [Array.getElem?_push] at p q
        rw [<- hs] at q
        split at p
        ·rw [if_pos ‹_›] at q; injection p with p; injection q with q; subst p; subst q
         exact ⟨hgk, hv, rfl⟩
        ·rw [if_neg ‹_›] at q; exact hh i a a' p q
       ·injection he with he
        injection he with he1 he2
        subst he1; subst he2
        rw [Sem.run_bind, Qas hk q2]
        simp only [Result.andThen_ok]
        have hkey : ((es'[j]?).map (·.key)).getD k = k := by
         simp only [Nat.sub_zero, Array.getElem?_toList] at ge'
         rw [ge']; exact ke'
        rw [hkey, Sem.run_bind]
        have hstay : (Instr.keyThatStays k k).run P w = .ok k w := by
         unfold Instr.keyThatStays
         rw [if_pos (Qio hkk)]; rfl
        rw [hstay]
        simp only [Result.andThen_ok]
        refine ⟨x, _, _, _, hb, hA, rfl, h1, Y3 h1 (fun _ _ _ h => by cases h), .map (by simp [hs]) ?_⟩
        intro i a a' p q
        rw [Array.getElem?_modify] at p q
        by_cases hij : j = i
        ·subst hij
         rw [if_pos rfl] at p q
         simp only [Nat.sub_zero, Array.getElem?_toList] at ge ge'
         rw [ge] at p; rw [ge'] at q
         simp only [Option.map_some, Option.some.injEq] at p q
         subst p; subst q
         exact ⟨hgk, hv, (hh j e e' ge ge').born⟩
        ·rw [if_neg hij] at p q
         exact hh i a a' p q
theorem Qs3 {o : Oper} {evA ev : Operand -> Value} {H : Tr Obj} {N b : Nat} {ob : Obj} {n : Next} {wA w : World} (h : Qdn P fl o evA (Qat H N) N = some (n, .put b ob)) (hs : Qdh o = true)
 (hR : Rep H N wA) (hr : WRel P base ρ wA w) (hev : ∀ x ∈ o.op.operands, VRel ρ (evA x) (ev x)) :
 ∃ x oA o0 o1 n', ρ b = some x /\ wA.heap[b]? = some oA /\ alive oA = true /\ w.heap[x.blk]? = some o0 /\ (execOp ev o).run P w = .ok n' { w with heap := w.heap.setIfInBounds x.blk o1 } /\ NRel ρ n n' /\ ORel P ρ x ob o1 := by
 rw [hR.mem] at h
 obtain ⟨dst, op, type, pos, after, guard⟩ := o
 unfold Qdh at hs
 dsimp only at hs
 split at hs
 ·rename_i t a v
  simp only [Qdn] at h
  split at h
  case h_2 => cases h
  rename_i up hup
  injection h with h; injection h with h1 h2
  subst h1; subst h2
  have ha := hev a (by simp [Op.operands])
  have hv := hev v (by simp [Op.operands])
  unfold Qic at hup
  split at hup
  case h_2 => cases hup
  rename_i b0 o0 hpa
  have hb0 := Qe hup; clear hup; obtain ⟨hfl, hup⟩ := hb0
  split at hup
  case h_2 => cases hup
  rename_i c ct hb
  split at hup
  case h_2 => cases hup
  rename_i sz hsz
  dsimp only at hup
  have hb0 := Qe hup; clear hup; obtain ⟨hc, hup⟩ := hb0
  simp only [Bool.and_eq_true] at hc
  split at hup
  case h_2 => cases hup
  rename_i l hl
  injection hup with hup
  injection hup with e1 e2
  subst e1; subst e2
  obtain ⟨g1, g2⟩ := Qd2 _ _ _ _ hl
  rw [hpa] at ha
  generalize hva : ev a = va at ha
  cases ha with
  | @ptr _ _ x hx =>
    have hcs := hv.cells
    obtain ⟨p0, p1, q1, q2, q3⟩ := Qiz hr hx hb hcs.list g2 (fun y hy => (List.all_eq_true.1 hc.2) y hy)
    refine ⟨x, _, p0, p1, .skip, hx, hb, rfl, q1, ?_, .skip, by rw [g1]; exact q3⟩
    show ((Instr.storeAt t (ev a) (ev v)) >>= fun _ => Pure.pure Next.skip).run P w = _
    rw [hva, Sem.run_bind]
    have : (Instr.storeAt t (.pointer (some ⟨x.blk, o0 + x.shift, none⟩)) (ev v)).run P w = .ok () { w with heap := w.heap.setIfInBounds x.blk p1 } := by
     show (Go.storeVar t _ (ev v)).run P w = _
     unfold Go.storeVar
     rw [Sem.run_bind, Xn hsz]
     simp only [Result.andThen_ok]
     rw [if_neg (by have := Nat.eq_of_beq_eq_true hc.1; rw [Array.length_toList] at this; rw [<- hcs.1, this]; simp)]
     exact q2
    rw [this]; rfl
 ·rename_i args argTypes
  simp only [Qdn] at h
  split at h
  case h_2 => cases h
  rename_i t u d v e1 e2
  obtain ⟨argTypes⟩ := argTypes
  obtain ⟨args⟩ := args
  dsimp only at e1 e2
  subst e1; subst e2
  split at h
  case h_2 => cases h
  rename_i val up hup
  injection h with h; injection h with h1 h2
  subst h1; subst h2
  have hd := hev d (by simp [Op.operands, Call.operands])
  have hv := hev v (by simp [Op.operands, Call.operands])
  unfold fCopy at hup
  split at hup
  case h_2 => cases hup
  rename_i e a dl c1 a2 n2 c2 hu hda hva
  split at hup
  case h_2 => cases hup
  rename_i s hsz
  split at hup
  case h_2 => cases hup
  rename_i cells hcells
  split at hup
  ·injection hup with hup; injection hup with _ hup; cases hup
  ·rename_i b0 o0
   have hb0 := Qe hup; clear hup; obtain ⟨hc, hup⟩ := hb0
   simp only [Bool.and_eq_true] at hc
   split at hup
   ·injection hup with hup; injection hup with _ hup; cases hup
   ·rename_i y ys
    split at hup
    case h_2 => cases hup
    rename_i c ct hb
    split at hup
    case h_2 => cases hup
    rename_i l hl
    injection hup with hup; injection hup with e1 e2; injection e2 with e2 e3
    subst e1; subst e2; subst e3
    obtain ⟨g1, g2⟩ := Qd2 _ _ _ _ hl
    rw [hda] at hd
    rw [hva] at hv
    have hkl : Nat.min n2 dl <= n2 := Nat.min_le_left _ _
    have hfirst := (Qau (P := P) (wA := wA) (size := s) (n := Nat.min n2 dl) (l := n2) (c := c2) hcells).1
    obtain ⟨r', hr1, hr2⟩ := Qg2 hr hv hkl hfirst
    have hrun0 := hr1 w.drawn
    have hpos : 0 < dl := by
     rcases Nat.eq_zero_or_pos dl with e0 | e0
     ·subst e0
      rw [show Nat.min n2 0 = 0 from Nat.min_zero _, Nat.zero_mul] at hcells
      exfalso
      unfold Qcg at hcells
      split at hcells
      ·cases hcells
      ·split at hcells
       ·simp [Qbe] at hcells
       ·cases hcells
      ·cases hcells
     ·exact e0
    obtain ⟨A2, C2, hA2⟩ : ∃ A2 C2, ev v = .slice A2 n2 C2 := by generalize ev v = z at hv; cases hv <;> exact ⟨_, _, rfl⟩
    have fin : ∀ (x : Img) (C : Nat), ρ b0 = some x -> ev d = .slice (some ⟨x.blk, o0 + x.shift, none⟩) dl C -> ∃ x oA o0 o1 n', ρ b0 = some x /\ wA.heap[b0]? = some oA /\ alive oA = true /\ w.heap[x.blk]? = some o0 /\
     (execOp ev { dst := dst, op := .call { callee := .builtin .copy, args := #[d, v], argTypes := #[t, u] }, type := type, pos := pos, after := after, guard := guard }).run P w = .ok n' { w with heap := w.heap.setIfInBounds x.blk o1 } /\
     NRel ρ (.value (goInt (Nat.min n2 dl))) n' /\ ORel P ρ x (.cells ⟨l⟩ ct (0, 0)) o1 := by
     intro x C hx hed
     obtain ⟨p0, p1, q1, q2, q3⟩ := Qiz hr hx hb hr2.list g2 (fun z hz => (List.all_eq_true.1 hc.2) z hz)
     refine ⟨x, _, p0, p1, .value (goInt (Nat.min n2 dl)), hx, hb, rfl, q1, ?_, .value (.int _ _), by rw [g1]; exact q3⟩
     have hex : execOp ev { dst := dst, op := .call { callee := .builtin .copy, args := #[d, v], argTypes := #[t, u] }, type := type, pos := pos, after := after, guard := guard } =
      (do Pure.pure (Next.value (<- Builtin.copy_ #[t, u] type #[ev d, ev v]))) := by
      rw [show #[ev d, ev v] = #[d, v].map ev by simp]; rfl
     rw [hex, hed, hA2, Sem.run_bind]
     rw [hA2] at hrun0
     have : (Builtin.copy_ #[t, u] type #[.slice (some ⟨x.blk, o0 + x.shift, none⟩) dl C, .slice A2 n2 C2]).run P w = .ok (goInt (Nat.min n2 dl)) { w with heap := w.heap.setIfInBounds x.blk p1 } := by
      unfold Builtin.copy_
      simp only [List.getElem?_toArray, List.getElem?_cons_zero, List.getElem?_cons_succ]
      rw [Sem.run_bind, Qh hu]
      simp only [Result.andThen_ok, Builtin.lenOf, pure_bind]
      rw [Sem.run_bind, Xn hsz]
      simp only [Result.andThen_ok]
      rw [Sem.run_bind, hrun0]
      simp only [Result.andThen_ok]
      rw [Sem.run_bind, q2]; rfl
     rw [this]; rfl
    generalize hed : ev d = vd at hd
    cases hd with
    | slice hx hcc => exact fin _ _ hx hed
    | loose hx hcc hn ht ho => exact fin _ _ hx (by rw [hed, ho hpos])
  ·cases hup
 ·rename_i t mm k v
  simp only [Qdn] at h
  have hb0 := Qe h; clear h; obtain ⟨hg, h⟩ := hb0
  split at h
  case h_2 => cases h
  rename_i r ob' hup
  injection h with h; injection h with h1 h2
  subst h1
  injection h2 with e1 e2
  subst e1; subst e2
  have hk := Qbg hg (hev k (by simp [Op.operands]))
  obtain ⟨x, oA, p0, p1, q1, q2, q3, q4, q5, q6⟩ := Qmw hup hr (hev mm (by simp [Op.operands])) (hev v (by simp [Op.operands]))
  exact ⟨x, oA, p0, p1, .skip, q1, q2, q3, q4, by simp only [execOp, hk]; rw [Sem.run_bind, q5]; rfl, .skip, q6⟩
 ·rename_i t mm k v
  simp only [Qdn] at h
  have hb0 := Qe h; clear h; obtain ⟨hg, h⟩ := hb0
  split at h
  case h_2 => cases h
  rename_i r ob' hup
  injection h with h; injection h with h1 h2
  subst h1
  injection h2 with e1 e2
  subst e1; subst e2
  have hk := Qbg hg (hev k (by simp [Op.operands]))
  obtain ⟨x, oA, p0, p1, q1, q2, q3, q4, q5, q6⟩ := Qmw hup hr (hev mm (by simp [Op.operands])) (hev v (by simp [Op.operands]))
  exact ⟨x, oA, p0, p1, .skip, q1, q2, q3, q4, by simp only [execOp, hk]; rw [Sem.run_bind, q5]; rfl, .skip, q6⟩
 ·cases hs
end
end Go.Proofs.Ytfeedchjdnedjaa.Ev
