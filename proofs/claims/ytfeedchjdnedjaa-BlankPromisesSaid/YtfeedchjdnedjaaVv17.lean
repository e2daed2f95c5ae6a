import Derived.Test.YtfeedchjdnedjaaVv16
set_option linter.unusedVariables false
set_option linter.unusedSimpArgs false
namespace Go.Proofs.Ytfeedchjdnedjaa.Vv
open Go Go.Proofs.Ytfeedchjdnedjaa.Ev
open Go.RowKit (Below)
def vi (n : Int) : VV := .c (.int .i64 n)
def vb (b : Bool) : VV := .c (.bool b)
def w64 (n : Int) : Int := IntKind.i64.wrap n
def loops : Code -> List Code
 | .seq a b => loops a ++ loops b
 | .cond _ a b => loops a ++ loops b
 | .block _ b => loops b
 | .loop b => b :: loops b
 | .rangeFunc _ _ a b => loops a ++ loops b
 | .scope b => loops b
 | _ => []
def X9 (fn : Func) (k : Nat) : Code := match fn.body with
 | some c => (match getL k (loops c) with
   | some b => b
   | none => .skip)
 | none => .skip
def mkA : List (Nat × VV) -> Tr VV
 | [] => .nil
 | (t, v) :: l => (mkA l).set t v
def szF (fn : Func) : Nat := fn.params.size + (fn.ntmps - fn.params.size)
def vFun (P : Program) (fn : Func) (args : List VV) (as : List An) (fr : Bool) : Option (VV × Prop) := match fn.body with
 | some c => bif Nat.blt (szF fn) 1000000 && Nat.beq (args.length + (fn.ntmps - args.length)) (szF fn) then
  (match Wy none P (szF fn) c as ⟨Qhp args 0 .nil, [], .nil⟩ with
  | some (.normal, s, q, []) => (match Ql9 P s fr fn.results.toList with
    | some (l, q2) => some (Qfx l, q /\ q2)
    | none => none)
  | some (.ret, s, q, []) => (match Ql9 P s fr fn.results.toList with
    | some (l, q2) => some (Qfx l, q /\ q2)
    | none => none)
  | _ => none) else none
 | none => none
def Qkd (rd : Option Nat) (P : Program) (fn : Func) (k : Nat) (s : VS) (as : List An) (c : Cut) : Option (Exit × VS × Prop) := match Wy rd P (szF fn) (X9 fn k) as s with
 | some (e, s1, q, []) => (match cutS c s1 with
   | some (s2, p) => some (e, s2, q /\ p)
   | none => none)
 | _ => none
section
variable {P : Program}
theorem VC.weak {f : FuncId} {as : List VV} {r r' : VV} (h : VC P f as r) (hw : Wv r r') : VC P f as r' :=
 ⟨h.1, fun w m args' hM ha => (h.2 w m args' hM ha).mono fun e w' ⟨v', m', h1, h2, h3, h4, h5, h6⟩ => ⟨v', m', h1, h2, h3, h4, h5, hw _ _ _ _ h6⟩⟩
theorem VC.Qy7 {f : FuncId} {pre post cells : List VV} {r : VV} (h1 : VC P f (pre ++ .c (.slice none 0 0) :: post) r) (h2 : VC P f (pre ++ .en :: post) r) : VC P f (pre ++ .tr cells 0 :: post) r := by
 refine ⟨h1.1, fun w m args' hM ha => ?_⟩
 have hl := ha.1
 simp only [List.length_append, List.length_cons] at hl
 have hx : pre.length < args'.length := by omega
 have go : ∀ x, R .no w.heap.size m x args'[pre.length] -> RL .no w.heap.size m (pre ++ x :: post) args' := fun x hR => by
  refine ⟨by simp only [List.length_append, List.length_cons]; omega, fun j v v' a b => ?_⟩
  rcases Nat.lt_trichotomy j pre.length with h | h | h
  ·rw [List.getElem?_append_left h] at a
   exact ha.2 j v v' (by rw [List.getElem?_append_left h]; exact a) b
  ·subst h
   rw [List.getElem?_append_right (Nat.le_refl _), Nat.sub_self, List.getElem?_cons_zero] at a
   injection a with a; subst a
   rw [List.getElem?_eq_getElem hx] at b
   injection b with b; subst b
   exact hR
  ·obtain ⟨i, hi⟩ : ∃ i, j - pre.length = i + 1 := ⟨j - pre.length - 1, by omega⟩
   rw [List.getElem?_append_right (by omega), hi, List.getElem?_cons_succ] at a
   exact ha.2 j v v' (by rw [List.getElem?_append_right (by omega), hi, List.getElem?_cons_succ]; exact a) b
 have hv := ha.2 pre.length (.tr cells 0) args'[pre.length] (by rw [List.getElem?_append_right (Nat.le_refl _), Nat.sub_self, List.getElem?_cons_zero]) (List.getElem?_eq_getElem hx)
 generalize hy : args'[pre.length] = y at *
 cases hv with
 | t hv =>
   cases hv with
   | @e _ a =>
     cases a with
     | none => exact h1.2 w m args' hM (go _ (.t (.c rfl)))
     | some a => exact h2.2 w m args' hM (go _ (.t .en))
   | tr a b c d => exact h2.2 w m args' hM (go _ (.t .en))
theorem VC.args {f : FuncId} {as as' : List VV} {r : VV} (h : VC P f as r) (e : as = as') : VC P f as' r := e ▸ h
theorem Qo (hmx : P.follows .mixedOrders = true) (hn : Named P) {f : FuncId} {fn : Func} (hf : P.funcs[f]? = some fn) {args : List VV} {ans : List An} {fr : Bool} {r0 r : VV} {q : Prop} (h : vFun P fn args ans fr = some (r0, q)) (hq : q) (hw : Wv r0 r) : VC P f args r := by
 refine VC.weak ?_ hw
 unfold vFun at h
 split at h
 case h_2 => cases h
 rename_i c hb
 have hb0 := Qe h; clear h; obtain ⟨hc, h⟩ := hb0
 simp only [Bool.and_eq_true] at hc
 have hlt := Z4 hc.1
 have hsz := Nat.eq_of_beq_eq_true hc.2
 split at h
 ·rename_i s q1 hv
  split at h
  case h_2 => cases h
  rename_i l q2 hres
  simp only [Option.some.injEq, Prod.mk.injEq] at h
  obtain ⟨rfl, rfl⟩ := h
  exact VC.intro hf hb hsz hlt (Qfy hmx hn _ _ _ _ _ _ _ hv hq.1) (.inl rfl) hres hq.2
 ·rename_i s q1 hv
  split at h
  case h_2 => cases h
  rename_i l q2 hres
  simp only [Option.some.injEq, Prod.mk.injEq] at h
  obtain ⟨rfl, rfl⟩ := h
  exact VC.intro hf hb hsz hlt (Qfy hmx hn _ _ _ _ _ _ _ hv hq.1) (.inr rfl) hres hq.2
 ·cases h
theorem VM.weak {f : FuncId} {as : List VV} {L L1 L2 : List Blk} {r r' : VV} (h : VM P f as L r L1) (hw : Wv r r') (hL : L1 = L2) : VM P f as L r' L2 := by
 subst hL
 refine ⟨h.1, h.2.1, h.2.2.1, fun w m o args' a b c d e => (h.2.2.2 w m o args' a b c d e).mono ?_⟩
 rintro e w' ⟨v', m', h1, h2, h3, h4, h5, h6, h7, h8, h9, h10, h11⟩
 exact ⟨v', m', h1, h2, h3, h4, h5, h6, h7, h8, h9, h10, hw _ _ _ _ h11⟩
theorem VM.args {f : FuncId} {as as' : List VV} {L L0 L' L1 : List Blk} {r : VV} (h : VM P f as L r L') (e : as = as') (e0 : L = L0) (e1 : L' = L1) : VM P f as' L0 r L1 := e ▸ e0 ▸ e1 ▸ h
theorem Qp {rd : Option Nat} (hmx : P.follows .mixedOrders = true) (hn : Named P) {fn : Func} {k : Nat} {s s1 s2 : VS} {ans : List An} {c : Cut} {q : Prop} {e : Exit} (h : Qkd rd P fn k s ans c = some (.normal, s1, q)) (hq : q) (hk : Ya rd P (szF fn) (X9 fn k) s1 e s2) : Ya rd P (szF fn) (X9 fn k) s e s2 := by
 unfold Qkd at h
 split at h
 case h_2 => cases h
 rename_i e1 s3 q1 hv
 split at h
 case h_2 => cases h
 rename_i s4 p hc
 simp only [Option.some.injEq, Prod.mk.injEq] at h
 obtain ⟨rfl, rfl, rfl⟩ := h
 exact .next (Qfy hmx hn _ _ _ _ _ _ _ hv hq.1) (.weak (Qog hc hq.2) hk)
theorem Ya.Qvf {rd : Option Nat} {sz : Nat} {c : Code} {s s1 s2 : VS} {e : Exit} (k : Ya rd P sz c s e s1) (h : Wk s1 s2) : Ya rd P sz c s e s2 := fun gv base w0 m0 o m a w hR Q hQ =>
 k gv base w0 m0 o m a w hR Q (fun o' m' a' w' hR' => by
   obtain ⟨o2, m2, h2⟩ := h gv base w0 m0 sz o' m' a' w' hR'
   exact hQ o2 m2 a' w' h2)
theorem Qq {rd : Option Nat} (hmx : P.follows .mixedOrders = true) (hn : Named P) {fn : Func} {k : Nat} {s s1 : VS} {ans : List An} {c : Cut} {q : Prop} {e : Exit} (h : Qkd rd P fn k s ans c = some (e, s1, q)) (he : e ≠ .normal) (hq : q) : Ya rd P (szF fn) (X9 fn k) s e s1 := by
 unfold Qkd at h
 split at h
 case h_2 => cases h
 rename_i e1 s3 q1 hv
 split at h
 case h_2 => cases h
 rename_i s4 p hc
 simp only [Option.some.injEq, Prod.mk.injEq] at h
 obtain ⟨rfl, rfl, rfl⟩ := h
 exact .Qvf (.stop (Qfy hmx hn _ _ _ _ _ _ _ hv hq.1) he) (Qog hc hq.2)
theorem Zd {b : Bool} (h : b = false) : (!b) = true := by rw [h]; rfl
theorem Ql {b : Bool} (h : b = true) : (!b) = false := by rw [h]; rfl
theorem Qz {b : Bool} (h : ¬ b = true) : b = false := by simpa using h
theorem Qwe {α : Type} {t : TypeId} (hag : Qaq P t = some false) (f : α -> VV) (xs : List α) (d : α) {i : Int} (h : 0 <= i /\ i < (xs.length : Int)) {off : Nat} (ho : off = i.toNat * 1) : Jw P t off (xs.map f) = some (f (xs.getD i.toNat d)) := by
 subst ho
 unfold Jw
 rw [hag]
 dsimp only
 have hlt : i.toNat < xs.length := by omega
 rw [Jj, Nat.mul_one, List.getElem?_map, List.getElem?_eq_getElem hlt, List.getD_eq_getElem?_getD, List.getElem?_eq_getElem hlt]; rfl
theorem Qe4 {α : Type} {c : α -> List VV} {s : Nat} (hc : ∀ x, (c x).length = s) : ∀ (xs : List α) (k : Nat), (xs.flatMap c).drop (k * s) = (xs.drop k).flatMap c
 | [], k => by simp
 | x :: xs, 0 => by simp
 | x :: xs, k + 1 => by
   rw [List.flatMap_cons, List.drop_succ_cons, <- Qe4 hc xs k, List.drop_append]
   have : (k + 1) * s = s + k * s := by rw [Nat.add_mul]; omega
   rw [this, hc x, List.drop_eq_nil_of_le (by rw [hc]; omega), List.nil_append]; congr 1; omega
theorem Qke {α : Type} {c : α -> List VV} {s : Nat} (hc : ∀ x, (c x).length = s) (xs : List α) (d : α) {k : Nat} (hk : k < xs.length) : (xs.flatMap c).drop (k * s) = c (xs.getD k d) ++ (xs.drop (k + 1)).flatMap c := by
 rw [Qe4 hc, List.drop_eq_getElem_cons hk, List.flatMap_cons, List.getD_eq_getElem?_getD, List.getElem?_eq_getElem hk]; rfl
theorem J4 {α : Type} {c : α -> List VV} {s : Nat} (hc : ∀ x, (c x).length = s) : ∀ (xs : List α), (xs.flatMap c).length = xs.length * s
 | [] => by simp
 | x :: xs => by rw [List.flatMap_cons, List.length_append, hc, J4 hc xs, List.length_cons, Nat.add_mul]; omega
theorem Yh {α : Type} {t : TypeId} (hag : Qaq P t = some false) (c : α -> List VV) (s j : Nat) (hc : ∀ x, (c x).length = s) (hj : j < s) (xs : List α) (d : α) {i : Int} (h : 0 <= i /\ i < (xs.length : Int)) {off : Nat} (ho : off = i.toNat * s + j) :
 Jw P t off (xs.flatMap c) = getL j (c (xs.getD i.toNat d)) := by
 subst ho
 unfold Jw
 rw [hag]
 dsimp only
 have hlt : i.toNat < xs.length := by omega
 rw [Jj, Jj, <- List.getElem?_drop, Qke hc xs d hlt, List.getElem?_append_left (by rw [hc]; exact hj)]
theorem Qfw {α : Type} {t : TypeId} (hag : Qaq P t = some true) (c : α -> List VV) (s : Nat) (hs : szOf P t = some s) (hc : ∀ x, (c x).length = s) (xs : List α) (d : α) {i : Int} (h : 0 <= i /\ i < (xs.length : Int)) {off : Nat} (ho : off = i.toNat * s) :
 Jw P t off (xs.flatMap c) = some (.ag (c (xs.getD i.toNat d))) := by
 subst ho
 unfold Jw
 rw [hag]
 dsimp only
 rw [hs]
 dsimp only
 have hlt : i.toNat < xs.length := by omega
 rw [Qa5, Qke hc xs d hlt, Qbd (by rw [List.length_append, hc]; omega), List.take_append_of_le_length (by rw [hc]; exact Nat.le_refl _), List.take_of_length_le (by rw [hc]; exact Nat.le_refl _)]
theorem X5 (xs : List Int) : (xs.map vi).map unfr = xs.map vi := by rw [List.map_map]; rfl
theorem Qf7 {α : Type} {c : α -> List VV} {p : VV -> Bool} (h : ∀ x, (c x).all p = true) (xs : List α) : (xs.flatMap c).all p = true := by
 rw [List.all_eq_true]; intro v hv; obtain ⟨x, _, hx⟩ := List.mem_flatMap.1 hv; exact List.all_eq_true.1 (h x) v hx
theorem all_map {α : Type} {c : α -> VV} {p : VV -> Bool} (h : ∀ x, p (c x) = true) (xs : List α) : (xs.map c).all p = true := by
 rw [List.all_eq_true]; intro v hv; obtain ⟨x, _, rfl⟩ := List.mem_map.1 hv; exact h x
theorem Qmh {α : Type} {c : α -> List VV} (h : ∀ x, (c x).map unfr = c x) (xs : List α) : (xs.flatMap c).map unfr = xs.flatMap c := by
 rw [List.map_flatMap]; congr 1; funext x; exact h x
theorem Qcc (l : List VV) : List.drop 0 l = l := rfl
inductive WvL : List VV -> List VV -> Prop
 | nil : WvL [] []
 | cons {a b : VV} {l l' : List VV} (h : Wv a b) (k : WvL l l') : WvL (a :: l) (b :: l')
theorem WvL.rl {l l' : List VV} (h : WvL l l') {o : OM} {fb : Nat} {m : MM} : ∀ {x : List Value}, RL o fb m l x -> RL o fb m l' x := by
 induction h with
 | nil => exact fun h => h
 | cons h _ ih =>
   intro x hx
   cases x with
   | nil => have := hx.1; simp at this
   | cons y x => exact .cons (h _ _ _ _ hx.tail.1) (ih hx.tail.2)
theorem Wv.tuL {l l' : List VV} (h : WvL l l') : Wv (.tu l) (.tu l') := fun o fb m x hr => by
 obtain ⟨c, rfl, hc⟩ := Qm1 hr
 have := h.rl hc
 exact .tu (by simpa using this.1) (fun j v v' a b => this.2 j v v' a (by simpa using b))
end
end Go.Proofs.Ytfeedchjdnedjaa.Vv
