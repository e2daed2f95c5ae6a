import Derived.Test.YtgoohnencoipoaaEv15
import Derived.Below
set_option linter.unusedVariables false
set_option linter.unusedSimpArgs false
namespace Go.Proofs.Ytgoohnencoipoaa.Ev
open Go
structure St where
 A : Tr Value
 M : List Nat
 H : Tr Obj
 N : Nat
def Y5 (A : Tr Value) : Operand -> Value
 | .tmp t => match A.get t with
   | some v => v
   | none => undef
 | .const v => v
 | .global g => .pointer (some ⟨g, 0, none⟩)
 | .func f => .func (.func f) #[] #[]
def Qhj (sz : Nat) (ops : Array Oper) : Bool := Nat.blt sz 1000000 && ops.toList.all fun o => o.op.operands.toList.all Qef && (match o.dst with | some d => Nat.blt d sz | none => true)
def putA (A : Tr Value) (d : Option Tmp) (v : Value) : Tr Value := match d with
 | some d => A.set d v
 | none => A
def Qa3 (ops : Array Oper) (A : Tr Value) (o : Oper) : Bool :=
 match o.guard with
 | none => true
 | some (j, want) => match getL j ops.toList with
   | some g => match g.dst with
     | some d => match A.get d with
       | some (.bool b) => b == want
       | _ => false
     | none => false
   | none => false
def wv (N : Nat) : Nat -> Value -> Bool
 | _, .bool _ | _, .int _ _ | _, .string _ | _, .pointer none | _, .slice none _ _ | _, .map none | _, .nilFunc | _, .nilIface => true
 | _, .pointer (some a) => Nat.blt a.block N
 | _, .slice (some a) _ _ => Nat.blt a.block N
 | _, .map (some r) => Nat.blt r N
 | d + 1, .func (.func _) fs cs => fs.toList.all (wv N d) && cs.toList.all (wv N d)
 | d + 1, .agg cs => cs.toList.all (wv N d)
 | d + 1, .tuple cs => cs.toList.all (wv N d)
 | _, _ => false
def wo (N : Nat) : Obj -> Bool
 | .cells c _ _ => c.toList.all (wv N 3)
 | .map es _ => es.toList.all fun e => wv N 3 e.key && wv N 3 e.val
 | .stringIter _ _ => true
 | .deferred _ => true
 | .loop l => l.tmps.toList.all (wv N 3) && Nat.blt l.defers N
 | .pending _ _ => true
 | _ => false
def Qp4 (H : Tr Obj) (N : Nat) : Nat -> Bool
 | 0 => true
 | k + 1 => (match H.get k with | some o => wo N o | none => true) && Qp4 H N k
def Qf3 (N : Nat) (v : Value) (H : Tr Obj) (N1 : Nat) : Nat :=
 bif Nat.ble N1 (N + 24) then N1 else bif wv N 3 v && Qp4 H N N then N else N1
def Qn2 (P : Program) (A : Tr Value) (mem : Mem) : ResultVar -> Option Value
 | .tmp t => some (match A.get t with | some v => v | none => undef)
 | .cell a t => match A.get a with
   | some v => Qjd P mem t v
   | none => none
def Qe7 (P : Program) (A : Tr Value) (mem : Mem) : List ResultVar -> Option (List Value)
 | [] => some []
 | r :: rs => match Qn2 P A mem r, Qe7 P A mem rs with
   | some v, some vs => some (v :: vs)
   | _, _ => none
def Qhb (fl : Nat) : List Nat -> Tr Obj -> Nat -> Option (Tr Obj)
 | [], H, _ => some H
 | r :: rs, H, N => match Qar H N r with
   | some (.deferred (some [])) => bif Nat.ble fl r then Qhb fl rs (H.set r (.pending #[] 0)) N else none
   | _ => none
def Qi0 : List Value -> Nat -> Tr Value -> Tr Value
 | [], _, A => A
 | v :: vs, i, A => Qi0 vs (i + 1) (A.set i v)
abbrev Qa2 := Nat -> Option Nat -> Nat -> Code -> St -> Option (Exit × St)
def scV : Nat -> Value -> Bool
 | _, .bool _ | _, .int _ _ => true
 | d + 1, .agg cs => cs.toList.all (scV d)
 | d + 1, .tuple cs => cs.toList.all (scV d)
 | _, _ => false
def allTwo (f : Value -> Value -> Bool) : List Value -> List Value -> Bool
 | [], [] => true
 | a :: as, b :: bs => f a b && allTwo f as bs
 | _, _ => false
def Qn3 : Nat -> Value -> Value -> Bool
 | _, .bool a, .bool b => a == b
 | _, .int k a, .int l b => decide (k = l) && decide (a = b)
 | d + 1, .agg a, .agg b => allTwo (Qn3 d) a.toList b.toList
 | d + 1, .tuple a, .tuple b => allTwo (Qn3 d) a.toList b.toList
 | _, _, _ => false
theorem Qgj {f : Value -> Value -> Bool} (h : ∀ a b, f a b = true -> a = b) : ∀ {as bs : List Value}, allTwo f as bs = true -> as = bs
 | [], [], _ => rfl
 | [], _ :: _, k => by cases k
 | _ :: _, [], k => by cases k
 | a :: as, b :: bs, k => by
   simp only [allTwo, Bool.and_eq_true] at k
   rw [h a b k.1, Qgj h k.2]
theorem Qhx : ∀ {d : Nat} {a b : Value}, Qn3 d a b = true -> a = b
 | d, a, b, k => by
   unfold Qn3 at k
   split at k
   ·rw [eq_of_beq k]
   ·simp only [Bool.and_eq_true, decide_eq_true_eq] at k; rw [k.1, k.2]
   ·rename_i a b; exact congrArg _ (Array.toList_inj.1 (Qgj (fun a b h => Qhx h) k))
   ·rename_i a b; exact congrArg _ (Array.toList_inj.1 (Qgj (fun a b h => Qhx h) k))
   ·cases k
structure Ent where
 f : FuncId
 args : List Value
 v : Value
structure Good (P : Program) (e : Ent) : Prop where
 body : ∃ fn c, P.funcs[e.f]? = some fn /\ fn.body = some c
 args : e.args.all (scV 3) = true
 val : scV 3 e.v = true
 calls : ∀ w, Calls P e.f e.args.toArray w fun x w' => x = .returned e.v /\ Go.RowKit.Below w.heap.size w w'
structure Orc (P : Program) where
 tr : Tr (List Ent)
 ok : ∀ k l e, tr.get k = some l -> e ∈ l -> Good P e
def Orc.empty (P : Program) : Orc P := ⟨.nil, fun _ _ _ h _ => by cases h⟩
def key1 : Value -> Nat
 | .int _ n => n.toNat % 1024
 | .agg cs => match cs.toList with
   | .int _ a :: .int _ b :: _ => a.toNat % 1024 + 1024 * (b.toNat % 1024)
   | .int _ a :: _ => a.toNat % 1024
   | _ => 0
 | _ => 0
def keyOf (_ : FuncId) : List Value -> Nat
 | [] => 0
 | a :: _ => key1 a
def Qtx (f : FuncId) (args : List Value) : List Ent -> Option Value
 | [] => none
 | e :: es => bif Nat.beq e.f f && allTwo (Qn3 3) e.args args then some e.v else Qtx f args es
def Orc.look {P : Program} (O : Orc P) (f : FuncId) (args : List Value) : Option Value := match O.tr.get (keyOf f args) with
 | some l => Qtx f args l
 | none => none
theorem Qmw {f : FuncId} {args : List Value} {v : Value} : ∀ {l : List Ent}, Qtx f args l = some v -> (⟨f, args, v⟩ : Ent) ∈ l
 | [], h => by cases h
 | e :: es, h => by
   simp only [Qtx] at h
   cases hc : (Nat.beq e.f f && allTwo (Qn3 3) e.args args) with
   | true =>
     rw [hc] at h
     simp only [cond_true, Option.some.injEq] at h
     simp only [Bool.and_eq_true] at hc
     obtain ⟨g, a, u⟩ := e
     have h1 := Nat.eq_of_beq_eq_true hc.1
     have h2 := Qgj (fun a b h => Qhx h) hc.2
     dsimp only at h h1 h2
     rw [h, h1, h2]; simp
   | false =>
     rw [hc] at h
     exact List.mem_cons_of_mem _ (Qmw h)
theorem Orc.good {P : Program} (O : Orc P) {f : FuncId} {args : List Value} {v : Value} (h : O.look f args = some v) : Good P ⟨f, args, v⟩ := by
 unfold Orc.look at h
 split at h
 ·rename_i l hl
  exact O.ok _ _ _ hl (Qmw h)
 ·cases h
def Qvt : Option (List Ent) -> List Ent
 | some l => l
 | none => []
def addE (t : Tr (List Ent)) (e : Ent) : Tr (List Ent) := t.set (keyOf e.f e.args) (e :: Qvt (t.get (keyOf e.f e.args)))
theorem Qvu (v : Value) : key1 v < 1048576 := by
 unfold key1
 split
 ·omega
 ·split <;> omega
 ·omega
theorem Qtz (f : FuncId) (args : List Value) : keyOf f args < 1099511627776 := by
 unfold keyOf
 split
 ·omega
 ·rename_i a _; have := Qvu a; omega
def Orc.add {P : Program} (O : Orc P) (e : Ent) (h : Good P e) : Orc P := ⟨addE O.tr e, fun k l x hk hx => by
 unfold addE at hk
 have hs : (O.tr.set (keyOf e.f e.args) (e :: Qvt (O.tr.get (keyOf e.f e.args)))).get k = if k = keyOf e.f e.args then some (e :: Qvt (O.tr.get (keyOf e.f e.args))) else O.tr.get k := Tr.Qhu _ 40 _ _ _ (Qtz _ _)
 rw [hs] at hk
 split at hk
 ·rename_i hke
  injection hk with hk
  subst hk
  rcases List.mem_cons.1 hx with rfl | hx
  ·exact h
  ·cases hg : O.tr.get (keyOf e.f e.args) with
   | none => rw [hg] at hx; cases hx
   | some l => rw [hg] at hx; exact O.ok _ _ _ hg hx
 ·exact O.ok _ _ _ hk hx⟩
def Qhn {P : Program} (O : Orc P) (code : Qa2) (fl : Nat) (f : FuncId) (args : List Value) (H : Tr Obj) (N : Nat) : Option (Value × Tr Obj × Nat) :=
 match O.look f args with
 | some v => some (v, H, N)
 | none =>
 match P.funcs[f]? with
 | some fn => match fn.body with
   | some c =>
     let sz := args.length + (fn.ntmps - args.length)
     bif Nat.blt sz 1000000 then
     match code fl none sz c ⟨Qi0 args 0 .nil, [], H, N⟩ with
     | some (e, s) => bif (match e with | .normal => true | .ret => true | _ => false) then
       match Qhb fl s.M s.H s.N with
       | some H1 => match Qe7 P s.A (Qar H1 s.N) fn.results.toList with
         | some [v] => some (v, H1, Qf3 N v H1 s.N)
         | some vs => let v : Value := .tuple ⟨vs⟩; some (v, H1, Qf3 N v H1 s.N)
         | none => none
       | none => none
       else none
     | none => none
     else none
   | none => none
 | none => none
def Qdt (A : Tr Value) : Nat -> List Value -> List Value
 | 0, acc => acc
 | n + 1, acc => Qdt A n ((match A.get n with | some v => v | none => undef) :: acc)
def Qn4 : List Nat -> List Value -> Tr Value -> Option (Tr Value)
 | [], [], A => some A
 | p :: ps, v :: vs, A => Qn4 ps vs (A.set p v)
 | _, _, _ => none
def Qju (code : Qa2) (fl : Nat) (l : Nat) (args : List Value) (H : Tr Obj) (N : Nat) : Option (Value × Tr Obj × Nat) :=
 match Qar H N l with
 | some (.loop r) =>
   bif Nat.ble fl l && Nat.blt r.tmps.size 1000000 && (r.params.toList.all fun p => Nat.blt p r.tmps.size) then
    match Qn4 r.params.toList args (Qi0 r.tmps.toList 0 .nil) with
    | some A0 => match code fl (some l) r.tmps.size r.assign ⟨A0, [], H, N⟩ with
      | some (.normal, s1) => match Qar s1.H s1.N l with
        | some (.loop r1) => match r1.state with
          | .ready => match code fl (some l) r.tmps.size r.body { s1 with H := s1.H.set l (.loop { r1 with state := .busy }) } with
            | some (e, s2) =>
              let jump : Option (Option Code) := match e with
               | .normal => some none
               | .ret => some (some .ret)
               | .exit id => some (some (.exit id))
               | _ => none
              match jump, Qar s2.H s2.N l with
              | some none, some (.loop r2) => some (.bool true, s2.H.set l (.loop { r2 with state := .ready, pending := none }), s2.N)
              | some (some j), some (.loop r2) => some (.bool false, s2.H.set l (.loop { r2 with state := .done, pending := some j }), s2.N)
              | _, _ => none
            | none => none
          | _ => none
        | _ => none
      | _ => none
    | none => none
   else none
 | _ => none
def fOp {P : Program} (O : Orc P) (code : Qa2) (fl : Nat) (o : Oper) (A : Tr Value) (H : Tr Obj) (N : Nat) : Option (Value × Tr Obj × Nat) :=
 match o.op with
 | .call { callee := .value f, args, .. } => match Y5 A f with
   | .func (.func g) first captured => Qhn O code fl g (first.toList ++ args.toList.map (Y5 A) ++ captured.toList) H N
   | .func (.yield l) _ _ => Qju code fl l (args.toList.map (Y5 A)) H N
   | _ => none
 | _ => match Qds P fl o (Y5 A) (Qar H N) N with
   | some (n, u) => bif Qie fl N u then (match n with
     | .value v => some (v, updT H N u)
     | .skip => some (undef, updT H N u)
     | _ => none) else none
   | none => none
def fOps {P : Program} (O : Orc P) (code : Qa2) (fl : Nat) (ops : Array Oper) : List Oper -> St -> Option St
 | [], s => some s
 | o :: rest, s => bif Qa3 ops s.A o then
     match fOp O code fl o s.A s.H s.N with
     | some (v, H, N) => fOps O code fl ops rest ⟨putA s.A o.dst v, s.M, H, N⟩
     | none => none
   else fOps O code fl ops rest ⟨putA s.A o.dst undef, s.M, s.H, s.N⟩
def Qce (o : Oper) : List Nat := o.after.toList.filterMap fun e => match e.ground with
 | .textOnly _ | .gcOnly _ => none
 | _ => some e.on
def maskAt (ms : List Nat) (k : Nat) : Nat := match getL k ms with
 | some m => m
 | none => 0
def Qhc (ms : List Nat) : List Nat -> Nat
 | [] => 0
 | j :: js => (2 ^ j ||| maskAt ms j) ||| Qhc ms js
def masks : List Oper -> List Nat -> List Nat
 | [], acc => acc
 | o :: os, acc => masks os (acc ++ [Qhc acc (Qce o)])
def Qkw (ms : List Nat) : Nat -> List Oper -> Bool
 | _, [] => true
 | k, o :: os => (Qce o).all (fun j => Nat.blt j k) && Nat.beq (maskAt ms k) (Qhc ms (Qce o)) && Qkw ms (k + 1) os
def Qaf (t : Nat) : Nat -> List Oper -> Option Nat
 | _, [] => none
 | k, o :: os => match o.dst with
   | some d => bif Nat.beq d t then some k else Qaf t (k + 1) os
   | none => Qaf t (k + 1) os
def Qcg (ops : List Oper) (o : Oper) : List Nat :=
 (o.op.operands.toList.filterMap fun | .tmp t => some t | _ => none) ++
 (match o.guard with
  | some (g, _) => match getL g ops with
    | some x => x.dst.toList
    | none => []
  | none => [])
def Qkx (ms : List Nat) (ops : List Oper) : Nat -> List Oper -> Bool
 | _, [] => true
 | k, o :: os => ((Qcg ops o).all fun t => match Qaf t 0 ops with
  | none => true
  | some j => Nat.beq j k || (Nat.blt j k && (maskAt ms k).testBit j) || (Nat.blt k j && (maskAt ms j).testBit k)) && Qkx ms ops (k + 1) os
def Qo3 (ops : List Oper) : Nat -> List Oper -> Bool
 | _, [] => true
 | k, o :: os => (match o.dst with
   | none => true
   | some d => match Qaf d 0 ops with
     | some j => Nat.beq j k
     | none => false) && Qo3 ops (k + 1) os
def Qo4 (ms : List Nat) (m : Nat) : Nat -> List Oper -> Bool
 | _, [] => true
 | k, _ :: os => (Nat.blt k m || Nat.beq (maskAt ms k) (2 ^ k - 1)) && Qo4 ms m (k + 1) os
def Qhy (ms : List Nat) : Nat -> Nat -> Nat
 | 0, m => m
 | k + 1, m => bif Nat.beq (maskAt ms k) (2 ^ k - 1) then Qhy ms k k else m
def Qh0 (ops : Array Oper) : Option Nat :=
 let ms := masks ops.toList []
 let m := Qhy ms ops.toList.length ops.toList.length
 bif Qkw ms 0 ops.toList && Qkx ms ops.toList 0 ops.toList && Qo3 ops.toList 0 ops.toList && Qo4 ms m 0 ops.toList then some m else none
def Qdk (o : Oper) : Bool := match o.op with
 | .store _ _ _ | .call { callee := .builtin .copy, .. } => true
 | .mapUpdate _ _ _ _ => true
 | .insert _ _ _ _ => true
 | _ => false
def valOf : Next -> Option Value
 | .value v => some v
 | .skip => some undef
 | _ => none
def Qlf (m : Nat) : Nat -> List Oper -> Bool
 | _, [] => false
 | k, o :: os => (Qdk o && Nat.blt k m) || Qlf m (k + 1) os
def hide (H : Tr Obj) : List Nat -> Tr Obj
 | [] => H
 | b :: bs => (hide H bs).set b (.pending #[] 0)
def Qep (H' H : Tr Obj) : List Nat -> Tr Obj
 | [] => H'
 | b :: bs => (Qep H' H bs).set b (Qci (H.get b))
def Qbw (ms : List Nat) (i : Nat) : List (Nat × Nat) -> List Nat
 | [] => []
 | (k, b) :: bs => bif Nat.beq k i || (maskAt ms i).testBit k || (maskAt ms k).testBit i then Qbw ms i bs else b :: Qbw ms i bs
def flt (N : Nat) : List (Nat × Nat) -> List (Nat × Nat)
 | [] => []
 | (k, b) :: bs => bif Nat.blt b N then (k, b) :: flt N bs else flt N bs
def Qrg (ms : List Nat) (i N N' : Nat) : List (Nat × Nat) -> Bool
 | [] => true
 | (q, b) :: bs => (Nat.blt b N || Nat.ble N' b || (maskAt ms q).testBit i) && Qrg ms i N N' bs
def Qcy (i : Nat) : List (Nat × Nat) -> Option Nat
 | [] => none
 | (k, b) :: bs => bif Nat.beq k i then some b else Qcy i bs
def Qho {P : Program} (O : Orc P) (code : Qa2) (fl N0 m : Nat) (ms : List Nat) (bs : List (Nat × Nat)) (ops : Array Oper) : Nat -> List Oper -> St -> Option St
 | _, [], s => some s
 | i, o :: rest, s => bif Nat.blt s.N 1000000000 then
  bif Qa3 ops s.A o then
   bif Nat.blt i m then
    match Qcy i bs with
    | some b' => match Qds P fl o (Y5 s.A) (Qar (hide s.H (Qbw ms i (flt s.N bs))) s.N) s.N with
      | some (n, .put b ob) => match valOf n with
        | some v => bif Qdk o && Nat.beq b b' && Nat.blt b s.N && Nat.ble fl b then
         Qho O code fl N0 m ms bs ops (i + 1) rest ⟨putA s.A o.dst v, s.M, s.H.set b ob, s.N⟩
          else none
        | none => none
      | _ => none
    | none =>
      match fOp O code s.N o s.A (hide s.H (Qbw ms i (flt s.N bs))) s.N with
      | some (v, H, N) => bif Qrg ms i s.N N bs then Qho O code fl N0 m ms bs ops (i + 1) rest ⟨putA s.A o.dst v, s.M, Qep H s.H (Qbw ms i (flt s.N bs)), N⟩ else none
      | none => none
   else
    match fOp O code fl o s.A s.H s.N with
    | some (v, H, N) => Qho O code fl N0 m ms bs ops (i + 1) rest ⟨putA s.A o.dst v, s.M, H, N⟩
    | none => none
  else match Qcy i bs with
   | some _ => none
   | none => Qho O code fl N0 m ms bs ops (i + 1) rest ⟨putA s.A o.dst undef, s.M, s.H, s.N⟩
   else none
def Qdz {P : Program} (O : Orc P) (code : Qa2) (fl m : Nat) (ops : Array Oper) : Nat -> List Oper -> St -> List (Nat × Nat)
 | _, [], _ => []
 | i, o :: rest, s => bif Nat.blt i m then
  bif Qa3 ops s.A o then
   bif Qdk o then
    match Qds P fl o (Y5 s.A) (Qar s.H s.N) s.N with
    | some (n, .same) => match valOf n with
      | some v => Qdz O code fl m ops (i + 1) rest ⟨putA s.A o.dst v, s.M, s.H, s.N⟩
      | none => []
    | some (n, .put b ob) => match valOf n with
      | some v => (i, b) :: Qdz O code fl m ops (i + 1) rest ⟨putA s.A o.dst v, s.M, s.H.set b ob, s.N⟩
      | none => []
    | _ => []
   else
    match fOp O code fl o s.A s.H s.N with
    | some (v, H, N) => Qdz O code fl m ops (i + 1) rest ⟨putA s.A o.dst v, s.M, H, N⟩
    | none => []
  else Qdz O code fl m ops (i + 1) rest ⟨putA s.A o.dst undef, s.M, s.H, s.N⟩
   else []
def Yq {P : Program} (O : Orc P) : Nat -> Qa2
 | 0, _, _, _, _, _ => none
 | n + 1, fl, rd, sz, c, s =>
   match c with
   | .skip | .label _ => some (.normal, s)
   | .region _ ops draw =>
     bif Qhj sz ops then
      match draw with
      | false => match fOps O (Yq O n) fl ops ops.toList s with
        | some s' => some (.normal, s')
        | none => none
      | true => match Qh0 ops with
        | some m =>
          let bs := bif Qlf m 0 ops.toList then Qdz O (Yq O n) fl m ops 0 ops.toList s else []
          bif true then
           match Qho O (Yq O n) fl s.N m (masks ops.toList []) bs ops 0 ops.toList s with
           | some s' => some (.normal, s')
           | none => none
          else none
        | none => none
     else none
   | .seq x y => match Yq O n fl rd sz x s with
     | some (.normal, s1) => Yq O n fl rd sz y s1
     | r => r
   | .cond c x y => match Y5 s.A c with
     | .bool true => Yq O n fl rd sz x s
     | .bool false => Yq O n fl rd sz y s
     | _ => none
   | .block id body => match Yq O n fl rd sz body s with
     | some (.exit id', s1) => bif Nat.beq id' id then some (.normal, s1) else some (.exit id', s1)
     | r => r
   | .loop body => match Yq O n fl rd sz body s with
     | some (.normal, s1) => Yq O n fl rd sz (.loop body) s1
     | r => r
   | .rangeFunc f params assign body =>
     bif Qef f then
     match Y5 s.A f with
     | .func (.func g) first captured =>
       let dr : Option (Nat × List Nat × Tr Obj × Nat) := match rd with
        | none => bif Nat.blt s.N 1000000000 then some (s.N, s.N :: s.M, s.H.set s.N (.deferred (some [])), s.N + 1) else none
        | some l => match Qar s.H s.N l with
          | some (.loop r) => some (r.defers, s.M, s.H, s.N)
          | _ => none
       match dr with
       | some (d, M, H1, N1) =>
         bif Nat.blt N1 1000000000 then
          match Qhn O (Yq O n) fl g (first.toList ++ [.func (.yield N1) #[] #[]] ++ captured.toList)
           (H1.set N1 (.loop { state := .ready, pending := none, fn := 0, tmps := ⟨Qdt s.A sz []⟩, params, assign, body, defers := d })) (N1 + 1) with
          | some (_, H2, N2) => match Qar H2 N2 N1 with
            | some (.loop r2) => match r2.state with
              | .busy => none
              | _ =>
                let s3 : St := ⟨s.A, M, H2.set N1 (.loop { r2 with state := .exhausted }), N2⟩
                match r2.pending with
                | none => some (.normal, s3)
                | some c => Yq O n fl rd sz c s3
            | _ => none
          | none => none
         else none
       | none => none
     | _ => none
     else none
   | .exit id => some (.exit id, s)
   | .ret => some (.ret, s)
   | _ => none
def Qn5 {P : Program} (O : Orc P) (n : Nat) (f : FuncId) : Bool :=
 match Qhn O (Yq O n) 0 f [] .nil 0 with
 | some (.bool true, _) => true
 | _ => false
def Qr7 (P : Program) (n : Nat) (f : FuncId) : Bool := Qn5 (Orc.empty P) n f
def evIs {P : Program} (O : Orc P) (n : Nat) (e : Ent) : Bool :=
 e.args.all (scV 3) && scV 3 e.v && match Qhn O (Yq O n) 0 e.f e.args .nil 0 with
 | some (v, _) => Qn3 3 e.v v
 | none => false
end Go.Proofs.Ytgoohnencoipoaa.Ev
