import Derived.Test.YtfeedchjdnedjaaEv14
set_option linter.unusedVariables false
set_option linter.unusedSimpArgs false
namespace Go.Proofs.Ytfeedchjdnedjaa.Ev
open Go
section
variable {P : Program} {base fl : Nat}
theorem Quz {o : Oper} {ev : Operand -> Value} {wA : World} {n : Next} {u : Upd} (h : Qdn P fl o ev (fun b => wA.heap[b]?) wA.heap.size = some (n, u)) :
 Qph P fl o ev wA = some (n, World.upd wA u) := by
 obtain ⟨dst, op, type, pos, after, guard⟩ := o
 cases op <;> simp only [Qdn, Qph] at h ⊢
 case move x => injection h with h; injection h with h1 h2; subst h1; subst h2; rfl
 case assign x => injection h with h; injection h with h1 h2; subst h1; subst h2; rfl
 case pick c a b =>
  split at h
  ·rename_i t ht
   injection h with h; injection h with h1 h2; subst h1; subst h2
   rw [ht]; cases t <;> rfl
  ·cases h
 case alloc t =>
  split at h
  ·rename_i z hz
   injection h with h; injection h with h1 h2; subst h1; subst h2
   rw [if_pos (Qk5 hz)]
   exact Qar (Qmt hz wA)
  ·cases h
 case box t x =>
  have hb0 := Qe h; clear h; obtain ⟨hc, h⟩ := hb0
  injection h with h; injection h with h1 h2; subst h1; subst h2
  rw [if_pos hc]
  exact Qar (Qsv wA)
 case build t ps =>
  obtain ⟨x, h1, rfl, rfl⟩ := Qaz h
  obtain ⟨g1, g2⟩ := Qj3 (ps := ps.map fun (i, x) => (i, ev x)) (by rw [Qf0]; exact h1) wA
  rw [if_pos g2]
  exact Qar g1
 case buildSlice t m ps =>
  split at h
  ·rename_i v ob hv
   injection h with h; injection h with h1 h2; subst h1; subst h2
   obtain ⟨g1, g2, g3⟩ := Qc1 (P := P) (w := wA) (ps := ps.map fun (i, x) => (i, ev x)) (by rw [Qf0]; exact hv)
   rw [if_pos (by simp [g2, g3])]
   exact Qar g1
  ·cases h
 case load t a =>
  obtain ⟨x, h1, rfl, rfl⟩ := Qaz h
  exact Qar (Qen h1)
 case store t a x =>
  split at h
  ·rename_i up hup
   injection h with h; injection h with h1 h2; subst h1; subst h2
   obtain ⟨g1, ad, g2, g3⟩ := Qj4 hup
   rw [g2]
   dsimp only
   rw [if_pos g3]
   exact Qwv g1
  ·cases h
 case nilCheck x =>
  split at h
  ·rename_i a ha
   injection h with h; injection h with h1 h2; subst h1; subst h2
   rw [ha]; rfl
  ·rename_i f a c ha
   injection h with h; injection h with h1 h2; subst h1; subst h2
   rw [ha]; rfl
  ·cases h
 case binOp op t x y yt =>
  split at h
  ·rename_i m hm
   injection h with h; injection h with h1 h2; subst h1; subst h2
   exact Qxj hm
  ·cases h
 case unOp op t x =>
  split at h
  ·rename_i b hb
   injection h with h; injection h with h1 h2; subst h1; subst h2
   rw [hb, if_pos (show Zn (.bool b) = true from rfl)]; rfl
  ·have hb0 := Qe h; clear h; obtain ⟨hc, h⟩ := hb0
   split at h
   ·rename_i m w1 hm
    injection h with h; injection h with h1 h2; subst h1; subst h2
    rw [if_pos hc]
    exact Qh2 hm (.unary _ hc)
   ·cases h
 case convert s d x =>
  split at h
  ·rename_i m w1 hm
   injection h with h; injection h with h1 h2; subst h1; subst h2
   exact Qkq hm
  ·cases h
 case makeFunc fn first captured =>
  have hb0 := Qe h; clear h; obtain ⟨hc, h⟩ := hb0
  injection h with h; injection h with h1 h2; subst h1; subst h2
  rw [if_pos hc]
  have e : ∀ l : Array Operand, (⟨l.toList.map ev⟩ : Array Value) = l.map ev := fun l => by apply Array.ext'; simp
  rw [e, e]; rfl
 case makeMap t r =>
  split at h
  case h_2 => cases h
  rename_i kt et hu
  split at h
  ·injection h with h; injection h with h1 h2; subst h1; subst h2
   exact Qar rfl
  ·rename_i x
   split at h
   ·rename_i k i hi
    injection h with h; injection h with h1 h2; subst h1; subst h2
    have hgc : Zn (ev x) = true := by rw [hi]; rfl
    simp only [hgc, if_true]
    refine Qar ?_
    show (Instr.makeMap t (some (ev x))).run P wA = _
    rw [hi]
    unfold Instr.makeMap
    dsimp only
    rw [Sem.run_bind, Qh hu]; rfl
   ·cases h
 case makeSlice t l c =>
  split at h
  ·rename_i k1 l k2 c h1 h2
   split at h
   ·rename_i v ob hv
    injection h with h; injection h with e1 e2; subst e1; subst e2
    obtain ⟨g1, g2, g3⟩ := Qfj (P := P) hv k1 k2
    rw [h1, h2]
    dsimp only
    rw [if_pos (by simp [g2, g3])]
    refine Qar ?_
    rw [h1, h2]; exact g1
   ·cases h
  ·cases h
 case slice t x lo hi mx =>
  have hb0 := Qe h; clear h; obtain ⟨hc, h⟩ := hb0
  obtain ⟨y, h1, rfl, rfl⟩ := Qaz h
  rw [if_pos hc, h1]; rfl
 case fieldAddr s x f =>
  obtain ⟨y, h1, rfl, rfl⟩ := Qaz h
  obtain ⟨g1, g2⟩ := Qdi h1 wA
  rw [if_pos g2]
  exact Qar g1
 case field t x f =>
  obtain ⟨y, h1, rfl, rfl⟩ := Qaz h
  exact Qar (Qj5 h1 wA)
 case indexAddr t x i =>
  split at h
  ·rename_i k m hk
   obtain ⟨y, h1, rfl, rfl⟩ := Qaz h
   rw [hk]
   dsimp only
   refine Qar ?_
   rw [hk]; exact Qa2 h1 wA
  ·cases h
 case index t x i =>
  split at h
  ·rename_i k m hk
   obtain ⟨y, h1, rfl, rfl⟩ := Qaz h
   rw [hk]
   dsimp only
   refine Qar ?_
   rw [hk]; exact Qj6 h1 wA
  ·cases h
 case lookup t m k ok =>
  have hb0 := Qe h; clear h; obtain ⟨hc, h⟩ := hb0
  obtain ⟨y, h1, rfl, rfl⟩ := Qaz h
  rw [if_pos hc, h1]; rfl
 case mapUpdate t m k v =>
  have hb0 := Qe h; clear h; obtain ⟨hc, h⟩ := hb0
  split at h
  ·rename_i r ob hr
   injection h with h; injection h with h1 h2; subst h1; subst h2
   rw [if_pos hc, hr]; rfl
  ·cases h
 case insert t m k v =>
  have hb0 := Qe h; clear h; obtain ⟨hc, h⟩ := hb0
  split at h
  ·rename_i r ob hr
   injection h with h; injection h with h1 h2; subst h1; subst h2
   rw [if_pos hc, hr]; rfl
  ·cases h
 case range t x =>
  split at h
  ·rename_i s hu hs
   injection h with h; injection h with h1 h2; subst h1; subst h2
   unfold Qk7
   rw [hu, hs]; rfl
  ·cases h
 case next it s =>
  cases s with
  | false => cases h
  | true =>
    simp only at h ⊢
    split at h
    ·rename_i v hv
     injection h with h; injection h with h1 h2; subst h1; subst h2
     rw [hv]; rfl
    ·rename_i v r ob hv
     injection h with h; injection h with h1 h2; subst h1; subst h2
     rw [hv]; rfl
    ·cases h
 case extract t i =>
  obtain ⟨y, h1, rfl, rfl⟩ := Qaz h
  exact Qar (Qhh h1 wA)
 case call c =>
  obtain ⟨callee, args, argTypes⟩ := c
  cases callee with
  | value f => cases h
  | invoke f m => cases h
  | builtin b =>
    have e : ∀ l : Array Operand, (⟨l.toList.map ev⟩ : Array Value) = l.map ev := fun l => by apply Array.ext'; simp
    cases b <;> simp only at h ⊢
    case len =>
     split at h
     ·obtain ⟨y, h1, rfl, rfl⟩ := Qaz h
      rename_i t x e1 e2
      rw [e1, e2]
      dsimp only
      rw [h1]; rfl
     ·cases h
    case append =>
     split at h
     ·rename_i t u s x e1 e2
      have hb0 := Qe h; clear h; obtain ⟨hc, h⟩ := hb0
      split at h
      ·rename_i v up hv
       injection h with h; injection h with h1 h2; subst h1; subst h2
       rw [e1, e2]
       dsimp only
       rw [if_pos (Nat.eq_of_beq_eq_true hc), Qq1 hv]; rfl
      ·cases h
     ·cases h
    case copy =>
     split at h
     ·rename_i t u d x e1 e2
      split at h
      ·rename_i v up hv
       injection h with h; injection h with h1 h2; subst h1; subst h2
       obtain ⟨argTypes⟩ := argTypes
       obtain ⟨args⟩ := args
       dsimp only at e1 e2
       subst e1; subst e2
       obtain ⟨g1, ⟨a2, l2, c2, g2⟩, g3⟩ := Ql6 (ty := type) (u := u) hv
       have hex : execOp ev { dst := dst, op := .call { callee := .builtin .copy, args := #[d, x], argTypes := #[t, u] }, type := type, pos := pos, after := after, guard := guard } =
        (do Pure.pure (Next.value (<- Builtin.copy_ #[t, u] type #[ev d, ev x]))) := by
        rw [show #[ev d, ev x] = #[d, x].map ev by simp]; rfl
       dsimp only
       rcases g3 with ⟨l, c, g3⟩ | ⟨a, l, c, g3, g4⟩
       ·rw [g3, g2]
        dsimp only
        rw [hex]
        exact Qar g1
       ·rw [g3, g2]
        dsimp only
        rw [if_pos g4, hex]
        exact Qar g1
      ·cases h
     ·cases h
    case clear =>
     split at h
     ·rename_i t x e1 e2
      have hb0 := Qe h; clear h; obtain ⟨hz, h⟩ := hb0
      split at h
      ·rename_i up hv
       injection h with h; injection h with h1 h2; subst h1; subst h2
       obtain ⟨argTypes⟩ := argTypes
       obtain ⟨args⟩ := args
       dsimp only at e1 e2
       subst e1; subst e2
       obtain ⟨g1, g3⟩ := Qqq (ty := type) hz hv
       have hex : execOp ev { dst := dst, op := .call { callee := .builtin .clear, args := #[x], argTypes := #[t] }, type := type, pos := pos, after := after, guard := guard } =
        (do Pure.pure (Next.value (<- Builtin.clear_ #[t] type #[ev x]))) := by
        rw [show #[ev x] = #[x].map ev by simp]; rfl
       dsimp only
       rw [if_pos hz]
       rcases g3 with ⟨l, c, g3⟩ | ⟨a, l, c, g3, g4⟩
       ·rw [g3]
        dsimp only
        rw [hex]
        exact Qar g1
       ·rw [g3]
        dsimp only
        rw [if_pos g4, hex]
        exact Qar g1
      ·cases h
     ·cases h
    case min =>
     have hb0 := Qe h; clear h; obtain ⟨hc, h⟩ := hb0
     split at h
     ·rename_i m w1 hm
      injection h with h; injection h with h1 h2; subst h1; subst h2
      have hall : (args.all fun x => Zn (ev x)) = true := by
       rw [Array.all_eq_true_iff_forall_mem]; intro x hx; exact (List.all_eq_true.1 hc) x (Array.mem_toList_iff.2 hx)
      rw [if_pos hall]
      rw [e] at hm
      refine Qh2 hm (by
       unfold Builtin.min_
       refine Free.Qk8 Free.min2 fun y hy => ?_
       simp only [Array.toList_map, List.mem_map] at hy
       obtain ⟨z, hz, rfl⟩ := hy
       exact (List.all_eq_true.1 hc) z hz)
     ·cases h
    case max =>
     have hb0 := Qe h; clear h; obtain ⟨hc, h⟩ := hb0
     split at h
     ·rename_i m w1 hm
      injection h with h; injection h with h1 h2; subst h1; subst h2
      have hall : (args.all fun x => Zn (ev x)) = true := by
       rw [Array.all_eq_true_iff_forall_mem]; intro x hx; exact (List.all_eq_true.1 hc) x (Array.mem_toList_iff.2 hx)
      rw [if_pos hall]
      rw [e] at hm
      refine Qh2 hm (by
       unfold Builtin.max_
       refine Free.Qk8 Free.max2 fun y hy => ?_
       simp only [Array.toList_map, List.mem_map] at hy
       obtain ⟨z, hz, rfl⟩ := hy
       exact (List.all_eq_true.1 hc) z hz)
     ·cases h
    all_goals (first | (cases h; done) | skip)
 all_goals (first | (cases h; done) | skip)
theorem Qu0 {ρ : Ren} {o : Oper} {evA ev : Operand -> Value} {H : Tr Obj} {N : Nat} {wA w : World} {n : Next} {u : Upd} (h : Qdn P fl o evA (Qat H N) N = some (n, u)) (hu : Qia fl N u = true)
 (hR : Rep H N wA) (hr : WRel P base ρ wA w) (hf : fl <= N) (he : ∀ x ∈ o.op.operands, VRel ρ (evA x) (ev x)) :
 ∃ ρ' n' w' wA', (execOp ev o).run P w = .ok n' w' /\ NRel ρ' n n' /\ Rep (updT H N u).1 (updT H N u).2 wA' /\ Stp P base fl ρ wA w ρ' wA' w' := by
 rw [hR.mem, <- hR.size] at h
 obtain ⟨ρ', n', w', h1, h2, h3⟩ := Qsx (Quz h) hr (by rw [hR.size]; exact hf) he
 exact ⟨ρ', n', w', _, h1, h2, hR.upd hu, h3⟩
end
end Go.Proofs.Ytfeedchjdnedjaa.Ev
