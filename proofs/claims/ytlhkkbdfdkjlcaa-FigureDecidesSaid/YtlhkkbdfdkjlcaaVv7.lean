/- A calculus of calls over values that are trees. Part 7: one operation. -/
import Derived.Test.YtlhkkbdfdkjlcaaVv6
set_option linter.unusedVariables false
set_option linter.unusedSimpArgs false
namespace Go.Proofs.Ytlhkkbdfdkjlcaa.Vv
open Go Go.Proofs.Ytlhkkbdfdkjlcaa.Ev
open Go.RowKit (Below)
section
variable {P : Program} {base : Nat} {o : OM} {m : MM} {L : List (Option Blk)} {w : World} {N : Nat}

theorem run_v {s : Sem Value} {v : Value} {w' : World} (h : s.run P w = .ok v w') : (do Pure.pure (Next.value (← s)) : Sem Next).run P w = .ok (.value v) w' := by
  rw [Sem.run_bind, h]; rfl
theorem run_u {s : Sem Unit} {v : Unit} {w' : World} (h : s.run P w = .ok v w') : (do s; Pure.pure Next.skip : Sem Next).run P w = .ok .skip w' := by
  rw [Sem.run_bind, h]; rfl
theorem parts_pl {A : Tr VV} {e : Operand → Value} : ∀ (ps : List (Nat × Operand)), (∀ x ∈ ps.map (·.2), R o base m (ev A x) (e x)) → PL o base m (ps.map fun p => (p.1, ev A p.2)) (ps.map fun p => (p.1, e p.2))
  | [], _ => trivial
  | p :: ps, h => ⟨rfl, h p.2 (by simp), parts_pl ps (fun x hx => h x (by simp at hx ⊢; exact .inr hx))⟩
theorem map_rl {A : Tr VV} {e : Operand → Value} : ∀ (l : List Operand), (∀ x ∈ l, R o base m (ev A x) (e x)) → RL o base m (l.map (ev A)) (l.map e)
  | [], _ => .nil
  | x :: l, h => .cons (h x (by simp)) (map_rl l (fun y hy => h y (by simp [hy])))
theorem capV_ok {v u : VV} {v' : Value} (h : capV v = some u) (hr : R o base m v v') : R o base m u v' := by
  cases hr with
  | t hr => cases v <;> simp only [capV, Option.some.injEq] at h <;> first
      | (subst h; exact .t hr)
      | (cases hr; done)
      | (cases h; done)
  | fr hr => simp only [capV, Option.some.injEq] at h; subst h; exact .t (hr.mono (MM.fr_le _ _))
  | rf => simp [capV] at h
  | rf0 => simp [capV] at h
  | pt ho => simp only [capV, Option.some.injEq] at h; subst h; exact .pt ho
  | ag => simp [capV] at h
  | tu => simp [capV] at h
  | fn => simp [capV] at h
theorem capVs_ok : ∀ {l u : List VV} {l' : List Value}, capVs l = some u → RL o base m l l' → RL o base m u l'
  | [], u, l', h, hr => by
    simp only [capVs, Option.some.injEq] at h; subst h
    exact hr
  | v :: l, u, l', h, hr => by
    cases l' with
    | nil => have := hr.1; simp at this
    | cons v' l' =>
      obtain ⟨h1, h2⟩ := hr.tail
      simp only [capVs] at h
      split at h
      case h_2 => cases h
      rename_i u1 us hu1 hus
      injection h with h; subst h
      exact .cons (capV_ok hu1 h1) (capVs_ok hus h2)
theorem optR_map {A : Tr VV} {e : Operand → Value} {x : Option Operand} (h : ∀ y, x = some y → R o base m (ev A y) (e y)) : OptR o base m (x.map (ev A)) (x.map e) := by
  cases x with
  | none => trivial
  | some y => exact h y rfl
theorem noP_some {v0 : Option VV} {v : VV} {e : Eff} {q : Prop} (h : noP v0 = some (v, e, q)) : v0 = some v ∧ e = .no := by
  unfold noP at h; split at h
  · injection h with h; injection h with h1 h2; injection h2 with h2 h3; subst h1; subst h2; exact ⟨rfl, rfl⟩
  · cases h
theorem wiP_some {v0 : Option (VV × Prop)} {v : VV} {e : Eff} {q : Prop} (h : wiP v0 = some (v, e, q)) : v0 = some (v, q) ∧ e = .no := by
  unfold wiP at h; split at h
  · injection h with h; injection h with h1 h2; injection h2 with h2 h3; subst h1; subst h2; subst h3; exact ⟨rfl, rfl⟩
  · cases h
set_option maxHeartbeats 2000000 in
theorem vOp_ok {op : Oper} {A : Tr VV} {a : Ans} {e : Operand → Value} {v : VV} {eff : Eff} {q : Prop} (h : vOp P op A L N a = some (v, eff, q)) (hq : q) (hO : Own base o m L w) (hM : MemOK m w)
    (he : ∀ x ∈ op.op.operands, R o base m (ev A x) (e x)) : ∃ n v' w', (execOp e op).run P w = .ok n w' ∧ valOf n = some v' ∧ Res base o m L w N eff v v' w' := by
  obtain ⟨dst, op, type, pos, after, guard⟩ := op
  have pure_ : ∀ {v : VV} {v' : Value}, R o base m v v' → ∃ n u w', (Pure.pure (Next.value v') : Sem Next).run P w = .ok n w' ∧ valOf n = some u ∧ Res base o m L w N .no v u w' :=
    fun h => ⟨_, _, w, rfl, rfl, .no h⟩
  have val_ : ∀ {s : Sem Value} {v : VV}, (∃ v', s.run P w = .ok v' w ∧ R o base m v v') → ∃ n u w', (do Pure.pure (Next.value (← s)) : Sem Next).run P w = .ok n w' ∧ valOf n = some u ∧ Res base o m L w N .no v u w' := by
    rintro s v ⟨v', h1, h2⟩
    exact ⟨_, _, w, run_v h1, rfl, .no h2⟩
  have res_ : ∀ {s : Sem Value} {v : VV} {eff : Eff}, (∃ v' w', s.run P w = .ok v' w' ∧ Res base o m L w N eff v v' w') → ∃ n u w', (do Pure.pure (Next.value (← s)) : Sem Next).run P w = .ok n w' ∧ valOf n = some u ∧ Res base o m L w N eff v u w' := by
    rintro s v eff ⟨v', w', h1, h2⟩
    exact ⟨_, _, w', run_v h1, rfl, h2⟩
  cases op <;> simp only [vOp, Op.operands] at h he
  case move x => injection h with h; injection h with h1 h2; injection h2 with h2 h3; subst h1; subst h2; exact pure_ (he x (by simp))
  case assign x => injection h with h; injection h with h1 h2; injection h2 with h2 h3; subst h1; subst h2; exact pure_ (he x (by simp))
  case pick c x y =>
    have hc := he c (by simp)
    split at h
    · rename_i t d ht
      injection h with h; injection h with h1 h2; injection h2 with h2 h3; subst h1; subst h2; subst h3
      rw [ht] at hc
      have hcb := (hc.c_inv).1
      subst hq
      simp only [execOp, hcb, asBool, pure_bind]
      exact pure_ (by cases t; exact he y (by simp); exact he x (by simp))
    · cases h
  case alloc t =>
    split at h
    case h_2 => cases h
    rename_i z hz
    have hb0 := bif_cases h; clear h; obtain ⟨hg, h⟩ := hb0
    injection h with h; injection h with h1 h2; injection h2 with h2 h3; subst h1; subst h2
    refine res_ ⟨_, _, alloc_run hz w, Res.new (d := w.drawn) ?_ (fun o' _ ho => ?_)⟩
    · exact at_of_list (zero_rel (fun v hv => Array.all_eq_true_iff_forall_mem.1 hg v (by simpa using hv)))
    · exact R.pt (oi := ⟨w.heap.size, 0, z.cells.size, 1⟩) (off := 0) ho
  case box t x =>
    have hb0 := bif_cases h; clear h; obtain ⟨hg, h⟩ := hb0
    simp only [Bool.and_eq_true] at hg
    injection h with h; injection h with h1 h2; injection h2 with h2 h3; subst h1; subst h2
    refine res_ ⟨_, _, box_run w, Res.new (d := w.drawn) ?_ (fun o' _ ho => ?_)⟩
    · exact at_of_list ((he x (by simp)).cells hg.1.2).1
    · exact R.pt (oi := ⟨w.heap.size, 0, (e x).cells.size, 1⟩) (off := 0) ho
  case build t ps =>
    have hb0 := bif_cases h; clear h; obtain ⟨hg, h⟩ := hb0
    obtain ⟨hv, rfl⟩ := noP_some h
    obtain ⟨v', h1, h2⟩ := vBuild_ok hv hg (parts_pl (e := e) ps.toList (fun x hx => he x (by simpa using hx)))
    refine val_ ⟨v', (fBuild_run (ps := ps.map fun (i, x) => (i, e x)) ?_ w).1, h2⟩
    rw [parts_map]; exact h1
  case buildSlice t n ps =>
    split at h
    case h_2 => cases h
    rename_i u blk hu
    injection h with h; injection h with h1 h2; injection h2 with h2 h3; subst h1; subst h2
    have hpl : PL o base m (ps.toList.map fun p => (p.1, ev A p.2)) (ps.map fun (i, x) => (i, e x)).toList := by
      rw [parts_map]
      exact parts_pl (e := e) ps.toList (fun x hx => he x (by simpa using hx))
    exact res_ (vBuildSlice_ok hu hpl)
  case load t p =>
    have hz0 := wiP_some h; clear h; obtain ⟨h, rfl⟩ := hz0
    obtain ⟨v', h1, h2⟩ := vLoad_ok h hq hO hM (he p (by simp))
    exact val_ ⟨v', fLoad_run h1, h2⟩
  case store t p x =>
    split at h
    case h_2 => cases h
    rename_i e1 q1 hs
    injection h with h; injection h with h1 h2; injection h2 with h2 h3; subst h1; subst h2; subst h3
    obtain ⟨w', h1, h2⟩ := vStore_ok (N := N) hs hq hO (he p (by simp)) (he x (by simp))
    exact ⟨_, _, w', run_u h1, rfl, h2⟩
  case binOp op t x y yt =>
    have hz0 := wiP_some h; clear h; obtain ⟨h, rfl⟩ := hz0
    exact val_ (vBin_ok h hq (he x (by simp)) (he y (by simp)) x y)
  case unOp op t x =>
    have hz0 := noP_some h; clear h; obtain ⟨h, rfl⟩ := hz0
    exact val_ (vUn_ok h (he x (by simp)))
  case convert s d x =>
    have hz0 := noP_some h; clear h; obtain ⟨h, rfl⟩ := hz0
    exact val_ (vConvert_ok h (he x (by simp)))
  case makeSlice t l c =>
    split at h
    case h_2 => cases h
    rename_i u blk q1 hu
    injection h with h; injection h with h1 h2; injection h2 with h2 h3; subst h1; subst h2; subst h3
    exact res_ (vMakeSlice_ok hu hq (he l (by simp)) (he c (by simp)))
  case slice t x lo hi mx =>
    cases mx with
    | some mx => cases h
    | none =>
      have hz0 := wiP_some h; clear h; obtain ⟨h, rfl⟩ := hz0
      exact val_ (vSlice_ok h hq hO (he x (by simp)) (optR_map (fun y hy => he y (by subst hy; simp))) (optR_map (fun y hy => he y (by subst hy; simp))))
  case fieldAddr s x f =>
    have hz0 := noP_some h; clear h; obtain ⟨h, rfl⟩ := hz0
    exact val_ (vFieldAddr_ok h (he x (by simp)))
  case field t x f =>
    have hz0 := noP_some h; clear h; obtain ⟨h, rfl⟩ := hz0
    exact val_ (vField_ok h (he x (by simp)))
  case indexAddr t x i =>
    have hz0 := wiP_some h; clear h; obtain ⟨h, rfl⟩ := hz0
    exact val_ (vIndexAddr_ok h hq (he x (by simp)) (he i (by simp)))
  case index t x i =>
    have hz0 := wiP_some h; clear h; obtain ⟨h, rfl⟩ := hz0
    exact val_ (vIndex_ok h hq (he x (by simp)) (he i (by simp)))
  case extract t i =>
    have hz0 := noP_some h; clear h; obtain ⟨h, rfl⟩ := hz0
    exact val_ (vExtract_ok h (he t (by simp)))
  case makeFunc fn first caps =>
    cases fn with
    | func g =>
      simp only [vOp] at h
      split at h
      case h_2 => cases h
      rename_i l hf hl
      injection h with h; injection h with h1 h2; injection h2 with h2 h3; subst h1; subst h2
      obtain ⟨first⟩ := first
      dsimp only at hf
      subst hf
      have hr : RL o base m (caps.toList.map (ev A)) (caps.toList.map e) := map_rl (e := e) caps.toList (fun x hx => he x (by simp; exact Array.mem_toList_iff.1 hx))
      have hT := capVs_ok hl hr
      refine val_ (s := Pure.pure (Value.func (.func g) ((⟨[]⟩ : Array Operand).map e) (caps.map e))) ⟨_, rfl, ?_⟩
      rw [show (⟨[]⟩ : Array Operand).map e = #[] by simp]
      exact R.fn (cs := caps.map e) (by have := hT.1; simpa using this) (fun j v v' a b => hT.2 j v v' a (by rw [← b]; simp))
    | _ => cases h
  case call c =>
    obtain ⟨callee, args, argTypes⟩ := c
    cases callee with
    | value f => cases h
    | invoke f m => cases h
    | builtin b =>
      cases b <;> simp only [Call.operands] at h he
      case len =>
        split at h
        case h_2 => cases h
        rename_i t x e1 e2
        obtain ⟨argTypes⟩ := argTypes
        obtain ⟨args⟩ := args
        dsimp only at e1 e2
        subst e1; subst e2
        have hz0 := noP_some h; clear h; obtain ⟨h, rfl⟩ := hz0
        obtain ⟨v', h1, h2⟩ := vLen_ok (ty := type) (w := w) h (he x (by simp))
        exact ⟨.value v', v', w, by show ((do Pure.pure (Next.value (← Builtin.len_ #[t] type (#[x].map e)))) : Sem Next).run P w = _; rw [show (#[x].map e) = #[e x] by simp, Sem.run_bind, h1]; rfl, rfl, .no h2⟩
      case append =>
        split at h
        case h_2 => cases h
        rename_i t u s x e1 e2
        obtain ⟨argTypes⟩ := argTypes
        obtain ⟨args⟩ := args
        dsimp only at e1 e2
        subst e1; subst e2
        have hb0 := bif_cases h; clear h; obtain ⟨htu, h⟩ := hb0
        have htu := Nat.eq_of_beq_eq_true htu
        subst htu
        obtain ⟨v', w', h1, h2⟩ := vAppend_ok (ty := type) h hq hO hM (he s (by simp)) (he x (by simp))
        exact ⟨.value v', v', w', by show ((do Pure.pure (Next.value (← Builtin.append_ #[t, t] type (#[s, x].map e)))) : Sem Next).run P w = _; rw [show (#[s, x].map e) = #[e s, e x] by simp, Sem.run_bind, h1]; rfl, rfl, h2⟩
      case min =>
        have hz0 := noP_some h; clear h; obtain ⟨h, rfl⟩ := hz0
        obtain ⟨args⟩ := args
        obtain ⟨v', h1, h2⟩ := vFoldI_ok (P := P) (w := w) (f := minI) (g := Builtin.min2) (why := "min: at least one argument expected") (fun _ _ _ _ => rfl) h (map_rl (e := e) args (fun x hx => he x (by simp [hx])))
        refine ⟨.value v', v', w, ?_, rfl, .no h2⟩
        show ((do Pure.pure (Next.value (← Builtin.min_ argTypes type ((⟨args⟩ : Array Operand).map e)))) : Sem Next).run P w = _
        refine run_v ?_
        unfold Builtin.min_
        rw [show ((⟨args⟩ : Array Operand).map e).toList = args.map e by simp]
        exact h1
      case max =>
        have hz0 := noP_some h; clear h; obtain ⟨h, rfl⟩ := hz0
        obtain ⟨args⟩ := args
        obtain ⟨v', h1, h2⟩ := vFoldI_ok (P := P) (w := w) (f := maxI) (g := Builtin.max2) (why := "max: at least one argument expected") (fun _ _ _ _ => rfl) h (map_rl (e := e) args (fun x hx => he x (by simp [hx])))
        refine ⟨.value v', v', w, ?_, rfl, .no h2⟩
        show ((do Pure.pure (Next.value (← Builtin.max_ argTypes type ((⟨args⟩ : Array Operand).map e)))) : Sem Next).run P w = _
        refine run_v ?_
        unfold Builtin.max_
        rw [show ((⟨args⟩ : Array Operand).map e).toList = args.map e by simp]
        exact h1
      all_goals (cases h)
  all_goals (cases h)
end
end Go.Proofs.Ytlhkkbdfdkjlcaa.Vv
