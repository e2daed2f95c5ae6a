import Derived.Test.YtfeedchjdnedjaaVv6
set_option linter.unusedVariables false
set_option linter.unusedSimpArgs false
namespace Go.Proofs.Ytfeedchjdnedjaa.Vv
open Go Go.Proofs.Ytfeedchjdnedjaa.Ev
open Go.RowKit (Below)
section
variable {P : Program} {gv : Nat -> Value} {base : Nat} {o : OM} {m : MM} {L : List (Option Blk)} {w : World} {N : Nat}
theorem Qvi {s : Sem Value} {v : Value} {w' : World} (h : s.run P w = .ok v w') : (do Pure.pure (Next.value (<- s)) : Sem Next).run P w = .ok (.value v) w' := by
 rw [Sem.run_bind, h]; rfl
theorem Qy9 {s : Sem Unit} {v : Unit} {w' : World} (h : s.run P w = .ok v w') : (do s; Pure.pure Next.skip : Sem Next).run P w = .ok .skip w' := by
 rw [Sem.run_bind, h]; rfl
theorem Qlp {A : Tr VV} {e : Operand -> Value} : ∀ (ps : List (Nat × Operand)), (∀ x ∈ ps.map (·.2), R o base m (ev A x) (e x)) -> PL o base m (ps.map fun p => (p.1, ev A p.2)) (ps.map fun p => (p.1, e p.2))
 | [], _ => trivial
 | p :: ps, h => ⟨rfl, h p.2 (by simp), Qlp ps (fun x hx => h x (by simp at hx ⊢; exact .inr hx))⟩
theorem Qgm {A : Tr VV} {e : Operand -> Value} : ∀ (l : List Operand), (∀ x ∈ l, R o base m (ev A x) (e x)) -> RL o base m (l.map (ev A)) (l.map e)
 | [], _ => .nil
 | x :: l, h => .cons (h x (by simp)) (Qgm l (fun y hy => h y (by simp [hy])))
theorem Qxy {v u : VV} {v' : Value} (h : capV v = some u) (hr : R o base m v v') : R o base m u v' := by
 cases hr with
 | t hr => cases v <;> simp only [capV, Option.some.injEq] at h <;> first
     | (subst h; exact .t hr)
     | (subst h; cases hr; exact .t .e)
     | (cases hr; done)
     | (cases h; done)
 | fr hr => simp only [capV, Option.some.injEq] at h; subst h; exact .t (hr.mono (MM.Qjk _ _))
 | rf => simp [capV] at h
 | rf0 => simp [capV] at h
 | pt ho => simp only [capV, Option.some.injEq] at h; subst h; exact .pt ho
 | it ho => simp [capV] at h
 | mp ho => simp [capV] at h
 | fw => simp [capV] at h
 | ag => simp [capV] at h
 | tu => simp [capV] at h
 | fn => simp [capV] at h
theorem Qp7 : ∀ {l u : List VV} {l' : List Value}, Qtz l = some u -> RL o base m l l' -> RL o base m u l'
 | [], u, l', h, hr => by
   simp only [Qtz, Option.some.injEq] at h; subst h
   exact hr
 | v :: l, u, l', h, hr => by
   cases l' with
   | nil => have := hr.1; simp at this
   | cons v' l' =>
     obtain ⟨h1, h2⟩ := hr.tail
     simp only [Qtz] at h
     split at h
     case h_2 => cases h
     rename_i u1 us hu1 hus
     injection h with h; subst h
     exact .cons (Qxy hu1 h1) (Qp7 hus h2)
theorem Qp8 {A : Tr VV} {e : Operand -> Value} {x : Option Operand} (h : ∀ y, x = some y -> R o base m (ev A y) (e y)) : OptR o base m (x.map (ev A)) (x.map e) := by
 cases x with
 | none => trivial
 | some y => exact h y rfl
theorem Qal {v0 : Option VV} {v : VV} {e : Eff} {q : Prop} (h : noP v0 = some (v, e, q)) : v0 = some v /\ e = .no := by
 unfold noP at h; split at h
 ·injection h with h; injection h with h1 h2; injection h2 with h2 h3; subst h1; subst h2; exact ⟨rfl, rfl⟩
 ·cases h
theorem Qbz {v0 : Option (VV × Prop)} {v : VV} {e : Eff} {q : Prop} (h : wiP v0 = some (v, e, q)) : v0 = some (v, q) /\ e = .no := by
 unfold wiP at h; split at h
 ·injection h with h; injection h with h1 h2; injection h2 with h2 h3; subst h1; subst h2; subst h3; exact ⟨rfl, rfl⟩
 ·cases h
def EL (o : OM) (fb : Nat) (m : MM) : List VV -> List MapEntry -> Prop
 | [], [] => True
 | .c k :: v :: cs, e :: es => k = e.key /\ R o fb m v e.val /\ EL o fb m cs es
 | _, _ => False
theorem EL.of {o : OM} {fb : Nat} {m : MM} : ∀ (es : List MapEntry) (cs : List VV), cs.length = 2 * es.length -> (∀ (j : Nat) (e : MapEntry), es[j]? = some e -> cs[2 * j]? = some (.c e.key)) -> (∀ (j : Nat) (v : VV) (e : MapEntry), cs[2 * j + 1]? = some v -> es[j]? = some e -> R o fb m v e.val) -> EL o fb m cs es
 | [], cs, hl, hk, hv => by
   obtain rfl : cs = [] := by simpa using hl
   trivial
 | e :: es, cs, hl, hk, hv => by
   match cs, hl with
   | [], hl => simp at hl
   | [_], hl => simp at hl; omega
   | a :: v :: cs, hl =>
     have h0 := hk 0 e rfl
     simp at h0
     subst h0
     refine ⟨rfl, hv 0 v e rfl rfl, EL.of es cs (by simp at hl; omega) (fun j e' he => ?_) (fun j v' e' h1 h2 => ?_)⟩
     ·have := hk (j + 1) e' (by simpa using he)
      rw [show 2 * (j + 1) = 2 * j + 1 + 1 by omega] at this
      simpa using this
     ·refine hv (j + 1) v' e' ?_ (by simpa using h2)
      rw [show 2 * (j + 1) + 1 = 2 * j + 1 + 1 + 1 by omega]
      simpa using h1
theorem EL.er {o : OM} {fb : Nat} {m : MM} : ∀ (cs : List VV) (es : List MapEntry), EL o fb m cs es -> cs.length = 2 * es.length /\ (∀ (j : Nat) (e : MapEntry), es[j]? = some e -> cs[2 * j]? = some (.c e.key)) /\ (∀ (j : Nat) (v : VV) (e : MapEntry), cs[2 * j + 1]? = some v -> es[j]? = some e -> R o fb m v e.val)
 | [], [], _ => ⟨rfl, fun j e h => by simp at h, fun j v e h => by simp at h⟩
 | [], _ :: _, h => h.elim
 | [a], es, h => by cases a <;> cases es <;> exact h.elim
 | a :: v :: cs, [], h => by cases a <;> exact h.elim
 | a :: v :: cs, e :: es, h => by
   cases a with
   | c k =>
     obtain ⟨rfl, h2, h3⟩ := h
     obtain ⟨g1, g2, g3⟩ := EL.er cs es h3
     refine ⟨by simp only [List.length_cons, g1]; omega, fun j e' he => ?_, fun j v' e' h1 h2' => ?_⟩
     ·cases j with
      | zero => simp at he; subst he; rfl
      | succ j =>
        rw [show 2 * (j + 1) = 2 * j + 1 + 1 by omega]
        simpa using g2 j e' (by simpa using he)
     ·cases j with
      | zero => simp at h1 h2'; subst h1; subst h2'; exact h2
      | succ j =>
        rw [show 2 * (j + 1) + 1 = 2 * j + 1 + 1 + 1 by omega] at h1
        exact g3 j v' e' (by simpa using h1) (by simpa using h2')
   | _ => exact h.elim
theorem Qxz {kd : TypeDesc} {key k : Value} (hk : Qav kd key = true) (hh : kdV k = kdV key) : Instr.sameNow kd key k = some (eqS key k) /\ (eqS key k = true -> k = key) := by
 cases key with
 | int k1 a =>
   cases k <;> simp [kdV] at hh
   rename_i k2 b
   subst hh
   cases kd <;> simp [Qav] at hk
   refine ⟨by unfold Instr.sameNow; dsimp only; rw [if_pos rfl]; rfl, fun e => ?_⟩
   have e : (a == b) = true := e
   rw [eq_of_beq e]
 | string a =>
   cases k <;> simp [kdV] at hh
   rename_i b
   cases kd <;> simp [Qav] at hk
   refine ⟨by show some (a == b) = some (decide (a = b)); rw [bytes_beq], fun e => ?_⟩
   have : a = b := of_decide_eq_true e
   rw [this]
 | bool a =>
   cases k <;> simp [kdV] at hh
   rename_i b
   cases kd <;> simp [Qav] at hk
   refine ⟨rfl, fun e => ?_⟩
   have e : (a == b) = true := e
   rw [eq_of_beq e]
 | _ => cases kd <;> simp [Qav] at hk
theorem Qza {z : Value} (h : z.cells.all Zn = true) : R o base m (zVV z) z := by
 have hall : ∀ v ∈ z.cells.toList, Zn v = true := fun v hv => Array.all_eq_true_iff_forall_mem.1 h v (by simpa using hv)
 cases z with
 | agg zs => exact R.Qd4 (Qec (cs := zs.toList) (by simpa [Value.cells] using hall))
 | _ => exact .t (.c (Qu8 (hall _ (by simp [Value.cells]))))
theorem find_ok {o : OM} {fb : Nat} {m : MM} {kd : TypeDesc} {key : Value} (hk : Qav kd key = true) {x : VV} {xv : Value} (hx : R o fb m x xv) : ∀ (cs : List VV) (es : List MapEntry) (i : Nat), EL o fb m cs es -> Qbo (kdV key) cs = true ->
 (lkM key cs = none /\ Instr.findNow kd key es i = some none /\ ∀ b, EL o fb m (upM key x cs) (es ++ [⟨key, xv, b⟩])) \/
 (∃ v j e, lkM key cs = some v /\ Instr.findNow kd key es i = some (some (i + j, e.val)) /\ R o fb m v e.val /\ es[j]? = some e /\ e.key = key /\ EL o fb m (upM key x cs) (es.modify j fun e => { e with key := key, val := xv }))
 | [], [], i, _, _ => .inl ⟨rfl, rfl, fun b => (⟨rfl, hx, trivial⟩ : _ /\ _ /\ _)⟩
 | [], _ :: _, i, h, _ => h.elim
 | [a], es, i, h, _ => by cases a <;> cases es <;> exact h.elim
 | a :: v :: cs, [], i, h, _ => by cases a <;> exact h.elim
 | a :: v :: cs, e :: es, i, h, hkk => by
   cases a with
   | c k =>
     obtain ⟨rfl, h2, h3⟩ := h
     simp only [Qbo, Bool.and_eq_true] at hkk
     have hkd : kdV e.key = kdV key := by
      have := hkk.1
      split at this
      ·rename_i x y e1 e2
       rw [e1, e2, of_decide_eq_true this]
      ·cases this
     obtain ⟨s1, s2⟩ := Qxz hk hkd
     simp only [lkM, upM, Instr.findNow]
     rw [s1]
     cases hE : eqS key e.key with
     | true =>
       refine .inr ⟨v, 0, e, rfl, rfl, h2, rfl, s2 hE, ?_⟩
       simp only [cond_true]
       exact ⟨s2 hE, hx, h3⟩
     | false =>
       simp only [cond_false]
       rcases find_ok hk hx cs es (i + 1) h3 hkk.2 with ⟨g1, g2, g3⟩ | ⟨u, j, e', g1, g2, g3, g4, g5, g6⟩
       ·exact .inl ⟨g1, g2, fun b => ⟨rfl, h2, g3 b⟩⟩
       ·exact .inr ⟨u, j + 1, e', g1, by rw [g2, show i + 1 + j = i + (j + 1) by omega], g3, g4, g5, ⟨rfl, h2, g6⟩⟩
   | _ => exact h.elim
theorem Qhk {n : Nat} (h : (Nat.beq n (bigX + 1) || Nat.beq n (bigX + 2)) = true) : n = bigX + 1 \/ n = bigX + 2 := by
 rw [Bool.or_eq_true] at h
 rcases h with h | h
 ·exact .inl (Nat.eq_of_beq_eq_true h)
 ·exact .inr (Nat.eq_of_beq_eq_true h)
theorem Holds.mapOf {ob : Option Obj} {oi : OI} {blk : Blk} (h : Holds o base m ob oi blk) (hs : blk.sz = bigX + 1 \/ blk.sz = bigX + 2) : ∃ es clock, ob = some (.map es clock) /\ ER .no base m blk.cells es /\ blk.bx = true /\ (blk.h = false -> base <= oi.b) /\ blk.cells.all VV.mval = true := by
 cases h with
 | row h _ _ hx =>
   have : blk.x = true := by unfold Blk.x; exact Nat.ble_eq_true_of_le (by omega)
   rw [this] at hx; cases hx
 | it h hb => rw [hb] at hs; have hs : bigX = bigX + 1 \/ bigX = bigX + 2 := hs; omega
 | mp h hb hz hh hv ha => exact ⟨_, _, h, ha, hb, hh, hv⟩
theorem Qt0 {x : VV} {cs : List VV} {x' : Value} (h : mapC L x = some cs) (hO : Own gv base o m L w) (hM : Yo m w) (hx : R o base m x x') : ∃ es : Array MapEntry, EL o base m cs es.toList /\ ∀ {β : Type} (f : Array MapEntry -> Sem β), (match x' with
 | Value.map none => Pure.pure #[] >>= f
 | Value.map (some r) => Go.getObj r >>= fun o => (match o with | Obj.map es _ => Pure.pure es >>= f | _ => Go.stuck "Lookup: map expected" >>= f)
 | _ => Go.stuck "Lookup: map expected" >>= f).run P w = (f es).run P w := by
 unfold mapC at h
 split at h
 ·rename_i k
  split at h
  case h_2 => cases h
  rename_i blk hblk
  obtain ⟨hz, h⟩ := Qe h
  injection h with h; subst h
  cases hx with
  | t hx => cases hx
  | mp ho =>
    obtain ⟨es, clock, g1, g2, _, _, _⟩ := (hO.at_ k _ blk ho hblk).mapOf (Qhk hz)
    refine ⟨es, EL.of _ _ (by simpa using g2.len) (fun j e he => g2.key j e (by simpa using he)) (fun j v e h1 h2 => (g2.val j v e h1 (by simpa using h2)).mono (OM.Qhq o) (.refl m) (Nat.le_refl _)), fun f => ?_⟩
    dsimp only
    rw [Sem.run_bind, J5 g1 (fun _ _ _ h => by cases h)]
    rfl
 ·rename_i cs0
  injection h with h; subst h
  cases hx with
  | t hx =>
    cases hx with
    | mt hb hs hk hv =>
      refine ⟨_, EL.of _ _ (by simpa using hs) (fun j e he => hk j e (by simpa using he)) (fun j v e h1 h2 => .t (hv j v e h1 (by simpa using h2))), fun f => ?_⟩
      dsimp only
      rw [Sem.run_bind, J5 (hM _ _ hb) (fun _ _ _ h => by cases h)]
      rfl
 ·injection h with h; subst h
  obtain ⟨rfl, _⟩ := hx.J9
  exact ⟨#[], trivial, fun f => rfl⟩
 ·cases h
theorem Qna {t : TypeId} {kd : TypeDesc} {et : TypeId} (h : mapT P t = some (kd, et)) : ∃ kt, P.underlying t = some (.map kt et) /\ P.underlying kt = some kd := by
 unfold mapT at h
 split at h
 ·rename_i kt et' hu
  split at h
  ·rename_i kd' hk
   injection h with h; injection h with h1 h2; subst h1; subst h2
   exact ⟨kt, hu, hk⟩
  ·cases h
 ·cases h
theorem Qre {a : Ans} {t : TypeId} {x k v : VV} {ok : Bool} {e : Eff} {q : Prop} {x' k' : Value} (h : Qlq P L a t x k ok = some (v, e, q)) (hq : q) (hO : Own gv base o m L w) (hM : Yo m w) (hx : R o base m x x') (hk : R o base m k k') :
 e = .no /\ ∃ v', (Instr.lookup t x' k' ok).run P w = .ok v' w /\ R o base m v v' := by
 unfold Qlq at h
 split at h
 case h_2 => cases h
 rename_i kd et cs key hmt hmc
 obtain rfl : key = k' := hk.J9.1.symm
 obtain ⟨hkk, h⟩ := Qe h
 obtain ⟨kt, hu, hku⟩ := Qna hmt
 obtain ⟨es, hes, hrun⟩ := Qt0 (P := P) hmc hO hM hx
 have hrun' := fun (f : Array MapEntry -> Sem Value) => hrun f
 have key' : ∀ (r : Option (Nat × Value)), Instr.findNow kd key es.toList 0 = some r -> ∀ (f : Option (Nat × Value) -> Sem Value), (Instr.checkKey es.isEmpty 10000 kt key >>= fun _ => Instr.findKey kt key es.toList >>= f).run P w = (f r).run P w := by
  intro r hf f
  rw [Sem.run_bind, Qb8 hku hkk]
  simp only [Result.andThen_ok]
  rw [Sem.run_bind, Qas hku hf]
  rfl
 have pair : ∀ {u : VV} {u' : Value} (b : Bool), R o base m u u' -> R o base m (bif ok then .tu [u, .c (.bool b)] else u) (if ok then .tuple #[u', .bool b] else u') := by
  intro u u' b hr
  cases ok with
  | false => exact hr
  | true => exact .tu (cs := #[u', .bool b]) rfl (fun j v v' h1 h2 => by
   match j with
   | 0 => simp at h1 h2; subst h1; subst h2; exact hr
   | 1 => simp at h1 h2; subst h1; subst h2; exact .t (.c rfl)
   | j + 2 => simp at h1)
 unfold Instr.lookup
 split at h
 ·rename_i u
  injection h with h; injection h with h1 h2; injection h2 with h2 h3; subst h1; subst h2; subst h3
  refine ⟨rfl, ?_⟩
  rcases find_ok hkk (x := .any) (xv := undef) .undef cs es.toList 0 hes hq.1 with ⟨g1, _⟩ | ⟨v1, j, e1, g1, g2, g3, _⟩
  ·rw [g1] at hq; cases hq.2
  ·rw [hq.2] at g1; injection g1 with g1; subst g1
   refine ⟨_, ?_, pair true g3⟩
   rw [Sem.run_bind, Qh hu]
   simp only [Result.andThen_ok]
   refine (hrun' _).trans ?_
   refine (key' _ g2 _).trans ?_
   rfl
 ·split at h
  case h_2 => cases h
  rename_i z hz
  obtain ⟨hg, h⟩ := Qe h
  injection h with h; injection h with h1 h2; injection h2 with h2 h3; subst h1; subst h2; subst h3
  refine ⟨rfl, ?_⟩
  rcases find_ok hkk (x := .any) (xv := undef) .undef cs es.toList 0 hes hq.1 with ⟨_, g2, _⟩ | ⟨v1, j, e1, g1, _⟩
  ·obtain ⟨hz1, _⟩ := Qes hz w
   refine ⟨_, ?_, pair false (Qza hg)⟩
   rw [Sem.run_bind, Qh hu]
   simp only [Result.andThen_ok]
   refine (hrun' _).trans ?_
   refine (key' _ g2 _).trans ?_
   dsimp only
   rw [Sem.run_bind, hz1]
   rfl
  ·rw [hq.2] at g1; cases g1
 ·cases h
theorem Qx0 {v : VV} {v' : Value} (h : R o base m v v') (hs : v.mval = true) : R .no base m v v' := by
 unfold VV.mval at hs
 split at hs
 ·obtain ⟨c, rfl, hc⟩ := Qf1 h
  exact R.Qd4 (hc.still hs)
 ·exact Qgj h hs
theorem Qt1 {key : Value} {x : VV} (hx : x.mval = true) : ∀ (cs : List VV), cs.all VV.mval = true -> (upM key x cs).all VV.mval = true
 | [], _ => by simp [upM, hx]; rfl
 | [a], h => by cases a <;> (simp [upM, hx]; rfl)
 | a :: v :: cs, h => by
   simp only [List.all_cons, Bool.and_eq_true] at h
   cases a with
   | c k =>
     simp only [upM]
     cases eqS key k with
     | true => simp only [cond_true, List.all_cons, Bool.and_eq_true]; exact ⟨rfl, hx, h.2.2⟩
     | false => simp only [cond_false, List.all_cons, Bool.and_eq_true]; exact ⟨rfl, h.2.1, Qt1 hx cs h.2.2⟩
   | _ => simp [upM, hx]; rfl
theorem Qlr {t : TypeId} {x k v u : VV} {e : Eff} {q : Prop} {x' k' v' : Value} (h : Qfd P L t x k v = some (u, e, q)) (hq : q) (hO : Own gv base o m L w) (hx : R o base m x x') (hk : R o base m k k') (hv : R o base m v v') :
 ∃ w', (Instr.mapUpdate t x' k' v').run P w = .ok () w' /\ u = .any /\ Res base o m L w N e .any undef w' := by
 unfold Qfd at h
 split at h
 case h_2 => cases h
 rename_i kd et kk key hmt
 obtain rfl : key = k' := hk.J9.1.symm
 split at h
 case h_2 => cases h
 rename_i blk hblk
 obtain ⟨hc, h⟩ := Qe h
 simp only [Bool.and_eq_true] at hc
 obtain ⟨⟨⟨hz, hkk⟩, hmv⟩, _⟩ := hc
 injection h with h; injection h with h1 h2; injection h2 with h2 h3; subst h1; subst h2; subst h3
 obtain ⟨kt, hu, hku⟩ := Qna hmt
 cases hx with
 | t hx => cases hx
 | @mp _ oi ho =>
   obtain ⟨es, clock, g1, g2, g3, g4, g5⟩ := (hO.at_ kk _ blk ho hblk).mapOf (Qhk hz)
   have hes := EL.of (o := .no) (fb := base) (m := m) es.toList blk.cells (by simpa using g2.len) (fun j e he => g2.key j e (by simpa using he)) (fun j v e h1 h2 => g2.val j v e h1 (by simpa using h2))
   have fin : ∀ (es' : Array MapEntry) (clock' : Nat), EL .no base m (upM key v blk.cells) es'.toList -> Holds o base m (some (.map es' clock')) oi { blk with cells := upM key v blk.cells } := fun es' clock' hh => by
    obtain ⟨k1, k2, k3⟩ := hh.er
    exact .mp rfl g3 (Qhk hz) g4 (Qt1 hmv _ g5) ⟨by simpa using k1, fun j e he => k2 j e (by simpa using he), fun j v e h1 h2 => k3 j v e h1 (by simpa using h2)⟩
   unfold Instr.mapUpdate
   rw [Sem.run_bind, Qh hu]
   simp only [Result.andThen_ok]
   rw [Sem.run_bind, J5 g1 (fun _ _ _ h => by cases h)]
   simp only [Result.andThen_ok]
   rw [Sem.run_bind, Qb8 hku hkk]
   simp only [Result.andThen_ok]
   rcases find_ok hkk (Qx0 hv hmv) blk.cells es.toList 0 hes hq with ⟨_, f2, f3⟩ | ⟨v1, j, e1, _, f2, _, f4, f5, f6⟩
   ·rw [Sem.run_bind, Qas hku f2]
    simp only [Result.andThen_ok]
    exact ⟨_, Y3 g1 (fun _ _ _ h => by cases h), by trivial, .put ho g1 (fin _ _ (by simpa using f3 clock)) (fun _ => .undef)⟩
   ·rw [Sem.run_bind, Qas hku f2]
    simp only [Result.andThen_ok, Nat.zero_add]
    have hkey : ((es[j]?).map (·.key)).getD key = key := by
     simp only [Array.getElem?_toList] at f4
     rw [f4]; exact f5
    rw [hkey, Sem.run_bind]
    have hstay : (Instr.keyThatStays key key).run P w = .ok key w := by
     unfold Instr.keyThatStays
     rw [if_pos (Qio hkk)]; rfl
    rw [hstay]
    simp only [Result.andThen_ok]
    exact ⟨_, Y3 g1 (fun _ _ _ h => by cases h), by trivial, .put ho g1 (fin _ _ (by simpa using f6)) (fun _ => .undef)⟩
theorem Qvj {k : Nat} {a : Ans} {u : VV} {e : Eff} {q : Prop} {x' : Value} (h : Qvk L k a = some (u, e, q)) (hq : q) (hO : Own gv base o m L w) (hx : R o base m (.it k) x') (t : TypeId) :
 ∃ v' w', (Instr.next x' true t).run P w = .ok v' w' /\ Res base o m L w N e u v' w' := by
 have key : ∀ {blk : Blk} {s : ByteArray} {p : Int} {z : Nat}, gx L k bigX = some blk -> blk = ⟨true, z, [.c (.string s), .c (.int .i64 p)]⟩ -> ∃ oi, x' = .pointer (some ⟨oi.b, 0, none⟩) /\ o k = some oi /\ w.heap[oi.b]? = some (.stringIter s p.toNat) /\ 0 <= p /\ base <= oi.b /\ z = bigX := by
  intro blk s p z hg hb
  obtain ⟨hg, hz⟩ := Qx1 hg
  cases hx with
  | t hx => cases hx
  | it ho =>
    refine ⟨_, rfl, ho, ?_⟩
    subst hb
    have hz : z = bigX := hz
    cases hO.at_ k _ _ ho hg with
    | row _ _ _ hx' =>
      have : Blk.x ⟨true, z, [.c (.string s), .c (.int .i64 p)]⟩ = true := by unfold Blk.x; exact Nat.ble_eq_true_of_le (Nat.le_of_eq hz.symm)
      rw [this] at hx'; cases hx'
    | it h hb hh =>
      injection hb with _ _ hb
      injection hb with hb1 hb2
      injection hb1 with hb1; injection hb1 with hb1
      injection hb2 with hb2 _
      injection hb2 with hb2; injection hb2 with _ hb2
      subst hb1; subst hb2
      exact ⟨by simpa using h, by omega, hh, hz⟩
    | mp h _ hz' => have hz' : z = bigX + 1 \/ z = bigX + 2 := hz'; omega
 unfold Qvk at h
 split at h
 ·rename_i z s p hg
  obtain ⟨oi, rfl, ho, hw, hp, hb, hz⟩ := key hg rfl
  injection h with h; injection h with h1 h2; injection h2 with h2 h3; subst h1; subst h2; subst h3
  have hlt : p.toNat < s.size := by omega
  refine ⟨.tuple #[.bool true, goInt p.toNat, .int .i32 (Utf8.decode s p.toNat).1], _, ?_, Res.put (ob := .stringIter s (p.toNat + (Utf8.decode s p.toNat).2)) ho hw (.it rfl (by rw [hz]; congr 4; congr 1; congr 1; omega) hb) (fun o' => ?_)⟩
  ·unfold Instr.next
   simp only []
   rw [Sem.run_bind, J5 hw (fun _ _ _ h => by cases h)]
   simp only [Result.andThen_ok]
   rw [if_pos hlt, Sem.run_bind, Y3 hw (fun _ _ _ h => by cases h)]
   rfl
  ·refine .tu rfl (fun j v v' a b => ?_)
   match j with
   | 0 => simp at a b; subst a; subst b; exact .t (.c rfl)
   | 1 =>
     have a' : VV.c (.int .i64 p) = v := Option.some.inj a
     have b' : goInt p.toNat = v' := Option.some.inj b
     have e : goInt p.toNat = .int .i64 p := by unfold goInt; congr 1; omega
     rw [<- a', <- b', e]; exact .t (.c rfl)
   | 2 => simp at a b; subst a; subst b; exact .t (.c rfl)
   | j + 3 => simp at a
 ·rename_i z s p hg
  obtain ⟨oi, rfl, ho, hw, hp, hb, hz⟩ := key hg rfl
  injection h with h; injection h with h1 h2; injection h2 with h2 h3; subst h1; subst h2; subst h3
  refine ⟨.tuple #[.bool false], w, ?_, .no (.tu rfl (fun j v v' a b => ?_))⟩
  ·unfold Instr.next
   simp only []
   rw [Sem.run_bind, J5 hw (fun _ _ _ h => by cases h)]
   simp only [Result.andThen_ok]
   rw [if_neg (by omega)]
   rfl
  ·match j with
   | 0 => simp at a b; subst a; subst b; exact .t (.c rfl)
   | j + 1 => simp at a
 ·cases h
theorem Qvl {a : Ans} {t ty : TypeId} {x v : VV} {e : Eff} {q : Prop} {x' : Value} (h : Qoh P L a t x = some (v, e, q)) (hq : q) (hO : Own gv base o m L w) (hM : Yo m w) (hx : R o base m x x') : e = .no /\ ∃ v', (Builtin.len_ #[t] ty #[x']).run P w = .ok v' w /\ R o base m v v' := by
 unfold Qoh at h
 split at h
 case h_2 => cases h
 rename_i n
 obtain ⟨ht, h⟩ := Qe h
 split at h
 case h_2 => cases h
 rename_i cs hmc
 injection h with h; injection h with h1 h2; injection h2 with h2 h3; subst h1; subst h2; subst h3
 refine ⟨rfl, .int .i64 n, ?_, .t (.c rfl)⟩
 unfold Qp9 at ht
 split at ht
 case h_2 => cases ht
 rename_i kt et hu
 obtain ⟨es, hes, hrun⟩ := Qt0 (P := P) hmc hO hM hx
 have hl := hes.er.1
 have hn : n = (es.size : Int) := by rw [hl] at hq; simp at hq; omega
 unfold mapC at hmc
 split at hmc
 ·rename_i k
  split at hmc
  case h_2 => cases hmc
  rename_i blk hblk
  obtain ⟨hz, hmc⟩ := Qe hmc
  injection hmc with hmc
  cases hx with
  | t hx => cases hx
  | mp ho =>
    obtain ⟨es2, clock, g1, g2, _, _, _⟩ := (hO.at_ k _ blk ho hblk).mapOf (Qhk hz)
    have : es2.size = es.size := by have := g2.len; rw [hmc, hl] at this; simp at this; omega
    simp [Builtin.len_, run_underlying hu, Sem.run_bind, J5 g1 (fun _ _ _ h => by cases h), this, hn, goInt]
 ·injection hmc with hmc
  cases hx with
  | t hx =>
    cases hx with
    | @mt _ b clock es2 hb hs hk hv =>
      have : es2.size = es.size := by have := hs; rw [hmc, hl] at this; simp at this; omega
      simp [Builtin.len_, run_underlying hu, Sem.run_bind, J5 (hM _ _ hb) (fun _ _ _ h => by cases h), this, hn, goInt]
 ·injection hmc with hmc
  subst hmc
  obtain ⟨rfl, _⟩ := hx.J9
  have : n = 0 := by simp at hq; omega
  simp [Builtin.len_, run_underlying hu, this, goInt]
 ·cases hmc
set_option maxHeartbeats 2000000 in
theorem Qps {op : Oper} {A : Tr VV} {a : Ans} {e : Operand -> Value} {v : VV} {eff : Eff} {q : Prop} (h : vOp P op A L N a = some (v, eff, q)) (hq : q) (hbl : base <= w.heap.size) (hO : Own gv base o m L w) (hM : Yo m w)
 (he : ∀ x ∈ op.op.operands, R o base m (ev A x) (e x)) : ∃ n v' w', (execOp e op).run P w = .ok n w' /\ valOf n = some v' /\ Res base o m L w N eff v v' w' := by
 obtain ⟨dst, op, type, pos, after, guard⟩ := op
 have pure_ : ∀ {v : VV} {v' : Value}, R o base m v v' -> ∃ n u w', (Pure.pure (Next.value v') : Sem Next).run P w = .ok n w' /\ valOf n = some u /\ Res base o m L w N .no v u w' :=
  fun h => ⟨_, _, w, rfl, rfl, .no h⟩
 have val_ : ∀ {s : Sem Value} {v : VV}, (∃ v', s.run P w = .ok v' w /\ R o base m v v') -> ∃ n u w', (do Pure.pure (Next.value (<- s)) : Sem Next).run P w = .ok n w' /\ valOf n = some u /\ Res base o m L w N .no v u w' := by
  rintro s v ⟨v', h1, h2⟩
  exact ⟨_, _, w, Qvi h1, rfl, .no h2⟩
 have res_ : ∀ {s : Sem Value} {v : VV} {eff : Eff}, (∃ v' w', s.run P w = .ok v' w' /\ Res base o m L w N eff v v' w') -> ∃ n u w', (do Pure.pure (Next.value (<- s)) : Sem Next).run P w = .ok n w' /\ valOf n = some u /\ Res base o m L w N eff v u w' := by
  rintro s v eff ⟨v', w', h1, h2⟩
  exact ⟨_, _, w', Qvi h1, rfl, h2⟩
 cases op <;> simp only [vOp, Op.operands] at h he
 case move x => injection h with h; injection h with h1 h2; injection h2 with h2 h3; subst h1; subst h2; exact pure_ (he x (by simp))
 case assign x => injection h with h; injection h with h1 h2; injection h2 with h2 h3; subst h1; subst h2; exact pure_ (he x (by simp))
 case nilCheck x =>
  have hx := he x (by simp)
  split at h
  ·rename_i k off ht
   injection h with h; injection h with h1 h2; injection h2 with h2 h3; subst h1; subst h2; subst h3
   rw [ht] at hx
   simp only [execOp]
   generalize e x = y at hx
   cases hx with
   | t ht => cases ht
   | pt ho => exact pure_ (.pt ho)
  ·cases h
 case pick c x y =>
  have hc := he c (by simp)
  split at h
  ·rename_i t d ht
   injection h with h; injection h with h1 h2; injection h2 with h2 h3; subst h1; subst h2; subst h3
   rw [ht] at hc
   have hcb := (hc.J9).1
   subst hq
   simp only [execOp, hcb, asBool, pure_bind]
   exact pure_ (by cases t; exact he y (by simp); exact he x (by simp))
  ·cases h
 case alloc t =>
  split at h
  case h_2 => cases h
  rename_i z hz
  have hb0 := Qe h; clear h; obtain ⟨hg, h⟩ := hb0
  injection h with h; injection h with h1 h2; injection h2 with h2 h3; subst h1; subst h2
  refine res_ ⟨_, _, Qmt hz w, Res.new (d := w.drawn) rfl (Holds.fresh (blk := ⟨true, 1, z.cells.toList.map .c⟩) (by show 1 < bigH; unfold bigH; omega) hbl ?_) (fun o' _ ho => ?_)⟩
  ·exact Qbt (Qec (fun v hv => Array.all_eq_true_iff_forall_mem.1 hg v (by simpa using hv)))
  ·exact R.pt (oi := ⟨w.heap.size, 0, z.cells.size, 1⟩) (off := 0) ho
 case box t x =>
  have hb0 := Qe h; clear h; obtain ⟨hg, h⟩ := hb0
  simp only [Bool.and_eq_true] at hg
  injection h with h; injection h with h1 h2; injection h2 with h2 h3; subst h1; subst h2
  refine res_ ⟨_, _, Qsv w, Res.new (d := w.drawn) rfl (Holds.fresh (blk := ⟨true, 1, (ev A x).cells⟩) (by show 1 < bigH; unfold bigH; omega) hbl ?_) (fun o' _ ho => ?_)⟩
  ·exact Qbt ((he x (by simp)).cells hg.1.2).1
  ·exact R.pt (oi := ⟨w.heap.size, 0, (e x).cells.size, 1⟩) (off := 0) ho
 case build t ps =>
  have hb0 := Qe h; clear h; obtain ⟨hg, h⟩ := hb0
  obtain ⟨hv, rfl⟩ := Qal h
  obtain ⟨v', h1, h2⟩ := Qt2 hv hg (Qlp (e := e) ps.toList (fun x hx => he x (by simpa using hx)))
  refine val_ ⟨v', (Qj3 (ps := ps.map fun (i, x) => (i, e x)) ?_ w).1, h2⟩
  rw [Qf0]; exact h1
 case buildSlice t n ps =>
  split at h
  case h_2 => cases h
  rename_i u blk hu
  have hpl : PL o base m (ps.toList.map fun p => (p.1, ev A p.2)) (ps.map fun (i, x) => (i, e x)).toList := by
   rw [Qf0]
   exact Qlp (e := e) ps.toList (fun x hx => he x (by simpa using hx))
  obtain ⟨v', w', r1, r2, r3⟩ := Qjn (w := w) (L := L) hu hbl hpl
  split at h
  ·injection h with h; injection h with h1 h2; injection h2 with h2 h3; subst h1; subst h2
   exact res_ ⟨v', w', r1, r3 rfl⟩
  ·have hb0 := Qe h; clear h; obtain ⟨hcc, h⟩ := hb0
   injection h with h; injection h with h1 h2; injection h2 with h2 h3; subst h1; subst h2
   obtain ⟨v2, w2, q1, _, q2⟩ := Qfl (w := w) (L := L) hu hbl hpl hcc
   exact res_ ⟨v2, w2, q1, q2⟩
  ·have hb0 := Qe h; clear h; obtain ⟨hcc, h⟩ := hb0
   injection h with h; injection h with h1 h2; injection h2 with h2 h3; subst h1; subst h2
   obtain ⟨v2, w2, q1, q2, _⟩ := Qfl (w := w) (L := L) hu hbl hpl hcc
   exact res_ ⟨v2, w2, q1, q2⟩
  ·injection h with h; injection h with h1 h2; injection h2 with h2 h3; subst h1; subst h2
   exact res_ ⟨v', w', r1, r2⟩
 case load t p =>
  have hz0 := Qbz h; clear h; obtain ⟨h, rfl⟩ := hz0
  obtain ⟨v', h1, h2⟩ := Qko h hq hO hM (he p (by simp))
  exact val_ ⟨v', Qen h1, h2⟩
 case store t p x =>
  split at h
  case h_2 => cases h
  rename_i e1 q1 hs
  injection h with h; injection h with h1 h2; injection h2 with h2 h3; subst h1; subst h2; subst h3
  obtain ⟨w', h1, h2⟩ := Qtq (N := N) hs hq hO (he p (by simp)) (he x (by simp))
  exact ⟨_, _, w', Qy9 h1, rfl, h2⟩
 case binOp op t x y yt =>
  have hz0 := Qbz h; clear h; obtain ⟨h, rfl⟩ := hz0
  exact val_ (Qx2 h hq (he x (by simp)) (he y (by simp)) x y)
 case unOp op t x =>
  have hz0 := Qal h; clear h; obtain ⟨h, rfl⟩ := hz0
  exact val_ (Qzb h (he x (by simp)))
 case convert s d x =>
  have hz0 := Qal h; clear h; obtain ⟨h, rfl⟩ := hz0
  exact val_ (Qoi h (he x (by simp)))
 case makeSlice t l c =>
  split at h
  case h_2 => cases h
  rename_i u blk q1 hu
  injection h with h; injection h with h1 h2; injection h2 with h2 h3; subst h1; subst h2; subst h3
  exact res_ (Qls hu hq hbl (he l (by simp)) (he c (by simp)))
 case slice t x lo hi mx =>
  cases mx with
  | some mx => cases h
  | none =>
    have hz0 := Qbz h; clear h; obtain ⟨h, rfl⟩ := hz0
    exact val_ (Qrf h hq hO (he x (by simp)) (Qp8 (fun y hy => he y (by subst hy; simp))) (Qp8 (fun y hy => he y (by subst hy; simp))))
 case fieldAddr s x f =>
  have hz0 := Qal h; clear h; obtain ⟨h, rfl⟩ := hz0
  exact val_ (Qll h (he x (by simp)))
 case field t x f =>
  have hz0 := Qal h; clear h; obtain ⟨h, rfl⟩ := hz0
  exact val_ (Qtt h (he x (by simp)))
 case indexAddr t x i =>
  have hz0 := Qbz h; clear h; obtain ⟨h, rfl⟩ := hz0
  exact val_ (Qjm h hq (he x (by simp)) (he i (by simp)))
 case index t x i =>
  split at h
  ·rename_i s hs
   have hz0 := Qbz h; clear h; obtain ⟨h, rfl⟩ := hz0
   have hx := he x (by simp)
   rw [hs] at hx
   obtain ⟨v', h1, h2⟩ := Qq9 (P := P) (w := w) h hq (he i (by simp))
   exact val_ ⟨v', by rw [(hx.J9).1]; exact h1, h2⟩
  ·have hz0 := Qbz h; clear h; obtain ⟨h, rfl⟩ := hz0
   exact val_ (Qtv h hq (he x (by simp)) (he i (by simp)))
 case range t x =>
  split at h
  case h_2 => cases h
  rename_i s hu hs
  injection h with h; injection h with h1 h2; injection h2 with h2 h3; subst h1; subst h2
  have hx := he x (by simp)
  rw [hs] at hx
  have hxv := (hx.J9).1
  refine res_ ⟨.pointer (some ⟨w.heap.size, 0, none⟩), w.alloc (.stringIter s 0), ?_, Res.new (d := w.drawn) (oi := ⟨w.heap.size, 0, 0, 0⟩) rfl (.it rfl rfl hbl) (fun o' _ ho => R.it ho)⟩
  rw [hxv]
  unfold Instr.range
  rw [Sem.run_bind, Qh hu]
  simp only [Result.andThen_ok]
  rfl
 case next x b =>
  cases b with
  | false => cases h
  | true =>
    simp only at h
    split at h
    case h_2 => cases h
    rename_i k hk
    have hx := he x (by simp)
    rw [hk] at hx
    exact res_ (Qvj h hq hO hx _)
 case makeMap t r =>
  cases r with
  | some r => cases h
  | none =>
    have hb0 := Qe h; clear h; obtain ⟨hg, h⟩ := hb0
    injection h with h; injection h with h1 h2; injection h2 with h2 h3; subst h1; subst h2
    refine res_ ⟨.map (some w.heap.size), w.alloc (.map #[] 0), ?_, Res.new (d := w.drawn) (oi := ⟨w.heap.size, 0, 0, 0⟩) rfl (.mp rfl rfl (.inl rfl) (fun _ => hbl) rfl ⟨rfl, fun j e h => by simp at h, fun j v e h => by simp at h⟩) (fun o' _ ho => R.mp ho)⟩
    rfl
 case lookup t x k ok =>
  obtain ⟨rfl, hv⟩ := Qre h hq hO hM (he x (by simp)) (he k (by simp))
  exact val_ hv
 case mapUpdate t x k u =>
  obtain ⟨w', h1, rfl, h2⟩ := Qlr (N := N) h hq hO (he x (by simp)) (he k (by simp)) (he u (by simp))
  exact ⟨_, _, w', Qy9 h1, rfl, h2⟩
 case extract t i =>
  have hz0 := Qal h; clear h; obtain ⟨h, rfl⟩ := hz0
  exact val_ (Qof h (he t (by simp)))
 case makeFunc fn first caps =>
  cases fn with
  | func g =>
    simp only [vOp] at h
    split at h
    case h_2 => cases h
    rename_i l hf hl
    injection h with h; injection h with h1 h2; injection h2 with h2 h3; subst h1; subst h2
    obtain ⟨first⟩ := first
    dsimp only at hf
    subst hf
    have hr : RL o base m (caps.toList.map (ev A)) (caps.toList.map e) := Qgm (e := e) caps.toList (fun x hx => he x (by simp; exact Array.mem_toList_iff.1 hx))
    have hT := Qp7 hl hr
    refine val_ (s := Pure.pure (Value.func (.func g) ((⟨[]⟩ : Array Operand).map e) (caps.map e))) ⟨_, rfl, ?_⟩
    rw [show (⟨[]⟩ : Array Operand).map e = #[] by simp]
    exact R.fn (cs := caps.map e) (by have := hT.1; simpa using this) (fun j v v' a b => hT.2 j v v' a (by rw [<- b]; simp))
  | _ => cases h
 case call c =>
  obtain ⟨callee, args, argTypes⟩ := c
  cases callee with
  | value f => cases h
  | invoke f m => cases h
  | builtin b =>
    cases b <;> simp only [Call.operands] at h he
    case len =>
     split at h
     case h_2 => cases h
     rename_i t x e1 e2
     obtain ⟨argTypes⟩ := argTypes
     obtain ⟨args⟩ := args
     dsimp only at e1 e2
     subst e1; subst e2
     split at h
     ·rename_i r hr
      injection h with h; subst h
      obtain ⟨rfl, v', h1, h2⟩ := Qvl (ty := type) hr hq hO hM (he x (by simp))
      exact ⟨.value v', v', w, by show ((do Pure.pure (Next.value (<- Builtin.len_ #[t] type (#[x].map e)))) : Sem Next).run P w = _; rw [show (#[x].map e) = #[e x] by simp, Sem.run_bind, h1]; rfl, rfl, .no h2⟩
     have hz0 := Qal h; clear h; obtain ⟨h, rfl⟩ := hz0
     obtain ⟨v', h1, h2⟩ := Qxv (ty := type) (w := w) h (he x (by simp))
     exact ⟨.value v', v', w, by show ((do Pure.pure (Next.value (<- Builtin.len_ #[t] type (#[x].map e)))) : Sem Next).run P w = _; rw [show (#[x].map e) = #[e x] by simp, Sem.run_bind, h1]; rfl, rfl, .no h2⟩
    case append =>
     split at h
     case h_2 => cases h
     rename_i t u s x e1 e2
     obtain ⟨argTypes⟩ := argTypes
     obtain ⟨args⟩ := args
     dsimp only at e1 e2
     subst e1; subst e2
     have hb0 := Qe h; clear h; obtain ⟨htu, h⟩ := hb0
     have htu := Nat.eq_of_beq_eq_true htu
     subst htu
     obtain ⟨v', w', h1, h2⟩ := Qra (ty := type) h hq hbl hO hM (he s (by simp)) (he x (by simp))
     exact ⟨.value v', v', w', by show ((do Pure.pure (Next.value (<- Builtin.append_ #[t, t] type (#[s, x].map e)))) : Sem Next).run P w = _; rw [show (#[s, x].map e) = #[e s, e x] by simp, Sem.run_bind, h1]; rfl, rfl, h2⟩
    case copy =>
     split at h
     case h_2 => cases h
     rename_i t u s x e1 e2
     obtain ⟨argTypes⟩ := argTypes
     obtain ⟨args⟩ := args
     dsimp only at e1 e2
     subst e1; subst e2
     have hb0 := Qe h; clear h; obtain ⟨htu, h⟩ := hb0
     have htu := Nat.eq_of_beq_eq_true htu
     subst htu
     obtain ⟨v', w', h1, h2⟩ := Qvd (ty := type) (N := N) h hq hO hM (he s (by simp)) (he x (by simp))
     exact ⟨.value v', v', w', by show ((do Pure.pure (Next.value (<- Builtin.copy_ #[t, t] type (#[s, x].map e)))) : Sem Next).run P w = _; rw [show (#[s, x].map e) = #[e s, e x] by simp, Sem.run_bind, h1]; rfl, rfl, h2⟩
    case min =>
     have hz0 := Qal h; clear h; obtain ⟨h, rfl⟩ := hz0
     obtain ⟨args⟩ := args
     obtain ⟨v', h1, h2⟩ := Qm7 (P := P) (w := w) (f := minI) (g := Builtin.min2) (why := "min: at least one argument expected") (fun _ _ _ _ => rfl) h (Qgm (e := e) args (fun x hx => he x (by simp [hx])))
     refine ⟨.value v', v', w, ?_, rfl, .no h2⟩
     show ((do Pure.pure (Next.value (<- Builtin.min_ argTypes type ((⟨args⟩ : Array Operand).map e)))) : Sem Next).run P w = _
     refine Qvi ?_
     unfold Builtin.min_
     rw [show ((⟨args⟩ : Array Operand).map e).toList = args.map e by simp]
     exact h1
    case max =>
     have hz0 := Qal h; clear h; obtain ⟨h, rfl⟩ := hz0
     obtain ⟨args⟩ := args
     obtain ⟨v', h1, h2⟩ := Qm7 (P := P) (w := w) (f := maxI) (g := Builtin.max2) (why := "max: at least one argument expected") (fun _ _ _ _ => rfl) h (Qgm (e := e) args (fun x hx => he x (by simp [hx])))
     refine ⟨.value v', v', w, ?_, rfl, .no h2⟩
     show ((do Pure.pure (Next.value (<- Builtin.max_ argTypes type ((⟨args⟩ : Array Operand).map e)))) : Sem Next).run P w = _
     refine Qvi ?_
     unfold Builtin.max_
     rw [show ((⟨args⟩ : Array Operand).map e).toList = args.map e by simp]
     exact h1
    all_goals (cases h)
 all_goals (cases h)
end
end Go.Proofs.Ytfeedchjdnedjaa.Vv
