import Derived.Test.YtfeedchjdnedjaaEv15
import Derived.Below
set_option linter.unusedVariables false
set_option linter.unusedSimpArgs false
namespace Go.Proofs.Ytfeedchjdnedjaa.Ev
open Go
structure St where
 A : Tr Value
 M : List Nat
 H : Tr Obj
 N : Nat
def Wh (A : Tr Value) : Operand -> Value
 | .tmp t => match A.get t with
   | some v => v
   | none => undef
 | .const v => v
 | .global g => .pointer (some ⟨g, 0, none⟩)
 | .func f => .func (.func f) #[] #[]
def Qhr (sz : Nat) (ops : Array Oper) : Bool := Nat.blt sz 1000000 && ops.toList.all fun o => o.op.operands.toList.all Qep && (match o.dst with | some d => Nat.blt d sz | none => true)
def putA (A : Tr Value) (d : Option Tmp) (v : Value) : Tr Value := match d with
 | some d => A.set d v
 | none => A
def Qa7 (ops : Array Oper) (A : Tr Value) (o : Oper) : Bool :=
 match o.guard with
 | none => true
 | some (j, want) => match getL j ops.toList with
   | some g => match g.dst with
     | some d => match A.get d with
       | some (.bool b) => b == want
       | _ => false
     | none => false
   | none => false
def wv (N : Nat) : Nat -> Value -> Bool
 | _, .bool _ | _, .int _ _ | _, .string _ | _, .pointer none | _, .slice none _ _ | _, .map none | _, .nilFunc | _, .nilIface => true
 | _, .pointer (some a) => Nat.blt a.block N
 | _, .slice (some a) _ _ => Nat.blt a.block N
 | _, .map (some r) => Nat.blt r N
 | d + 1, .func (.func _) fs cs => fs.toList.all (wv N d) && cs.toList.all (wv N d)
 | d + 1, .agg cs => cs.toList.all (wv N d)
 | d + 1, .tuple cs => cs.toList.all (wv N d)
 | _, _ => false
def wo (N : Nat) : Obj -> Bool
 | .cells c _ _ => c.toList.all (wv N 3)
 | .map es _ => es.toList.all fun e => wv N 3 e.key && wv N 3 e.val
 | .stringIter _ _ => true
 | .deferred _ => true
 | .loop l => l.tmps.toList.all (wv N 3) && Nat.blt l.defers N
 | .pending _ _ => true
 | _ => false
def Qqu (H : Tr Obj) (N : Nat) : Nat -> Bool
 | 0 => true
 | k + 1 => (match H.get k with | some o => wo N o | none => true) && Qqu H N k
def Qf5 (N : Nat) (v : Value) (H : Tr Obj) (N1 : Nat) : Nat :=
 bif Nat.ble N1 (N + 24) then N1 else bif wv N 3 v && Qqu H N N then N else N1
def Qnv (P : Program) (A : Tr Value) (mem : Mem) : ResultVar -> Option Value
 | .tmp t => some (match A.get t with | some v => v | none => undef)
 | .cell a t => match A.get a with
   | some v => Qh6 P mem t v
   | none => none
def Qfa (P : Program) (A : Tr Value) (mem : Mem) : List ResultVar -> Option (List Value)
 | [] => some []
 | r :: rs => match Qnv P A mem r, Qfa P A mem rs with
   | some v, some vs => some (v :: vs)
   | _, _ => none
def Qhd (fl : Nat) : List Nat -> Tr Obj -> Nat -> Option (Tr Obj)
 | [], H, _ => some H
 | r :: rs, H, N => match Qat H N r with
   | some (.deferred (some [])) => bif Nat.ble fl r then Qhd fl rs (H.set r (.pending #[] 0)) N else none
   | _ => none
def Qig : List Value -> Nat -> Tr Value -> Tr Value
 | [], _, A => A
 | v :: vs, i, A => Qig vs (i + 1) (A.set i v)
abbrev Qa8 := Nat -> Option Nat -> Nat -> Code -> St -> Option (Exit × St)
def scV : Nat -> Value -> Bool
 | _, .bool _ | _, .int _ _ => true
 | d + 1, .agg cs => cs.toList.all (scV d)
 | d + 1, .tuple cs => cs.toList.all (scV d)
 | _, _ => false
def allTwo (f : Value -> Value -> Bool) : List Value -> List Value -> Bool
 | [], [] => true
 | a :: as, b :: bs => f a b && allTwo f as bs
 | _, _ => false
def Qqv : Nat -> Value -> Value -> Bool
 | _, .bool a, .bool b => a == b
 | _, .int k a, .int l b => decide (k = l) && decide (a = b)
 | d + 1, .agg a, .agg b => allTwo (Qqv d) a.toList b.toList
 | d + 1, .tuple a, .tuple b => allTwo (Qqv d) a.toList b.toList
 | _, _, _ => false
theorem Qf6 {f : Value -> Value -> Bool} (h : ∀ a b, f a b = true -> a = b) : ∀ {as bs : List Value}, allTwo f as bs = true -> as = bs
 | [], [], _ => rfl
 | [], _ :: _, k => by cases k
 | _ :: _, [], k => by cases k
 | a :: as, b :: bs, k => by
   simp only [allTwo, Bool.and_eq_true] at k
   rw [h a b k.1, Qf6 h k.2]
theorem Qku : ∀ {d : Nat} {a b : Value}, Qqv d a b = true -> a = b
 | d, a, b, k => by
   unfold Qqv at k
   split at k
   ·rw [eq_of_beq k]
   ·simp only [Bool.and_eq_true, decide_eq_true_eq] at k; rw [k.1, k.2]
   ·rename_i a b; exact congrArg _ (Array.toList_inj.1 (Qf6 (fun a b h => Qku h) k))
   ·rename_i a b; exact congrArg _ (Array.toList_inj.1 (Qf6 (fun a b h => Qku h) k))
   ·cases k
structure Ent where
 f : FuncId
 args : List Value
 v : Value
structure Good (P : Program) (e : Ent) : Prop where
 body : ∃ fn c, P.funcs[e.f]? = some fn /\ fn.body = some c
 args : e.args.all (scV 3) = true
 val : scV 3 e.v = true
 calls : ∀ w, Calls P e.f e.args.toArray w fun x w' => x = .returned e.v /\ Go.RowKit.Below w.heap.size w w'
structure Orc (P : Program) where
 tr : Tr (List Ent)
 ok : ∀ k l e, tr.get k = some l -> e ∈ l -> Good P e
def Orc.empty (P : Program) : Orc P := ⟨.nil, fun _ _ _ h _ => by cases h⟩
def key1 : Value -> Nat
 | .int _ n => n.toNat % 1024
 | .agg cs => match cs.toList with
   | .int _ a :: .int _ b :: _ => a.toNat % 1024 + 1024 * (b.toNat % 1024)
   | .int _ a :: _ => a.toNat % 1024
   | _ => 0
 | _ => 0
def keyOf (_ : FuncId) : List Value -> Nat
 | [] => 0
 | a :: _ => key1 a
def Qut (f : FuncId) (args : List Value) : List Ent -> Option Value
 | [] => none
 | e :: es => bif Nat.beq e.f f && allTwo (Qqv 3) e.args args then some e.v else Qut f args es
def Orc.look {P : Program} (O : Orc P) (f : FuncId) (args : List Value) : Option Value := match O.tr.get (keyOf f args) with
 | some l => Qut f args l
 | none => none
theorem Qmg {f : FuncId} {args : List Value} {v : Value} : ∀ {l : List Ent}, Qut f args l = some v -> (⟨f, args, v⟩ : Ent) ∈ l
 | [], h => by cases h
 | e :: es, h => by
   simp only [Qut] at h
   cases hc : (Nat.beq e.f f && allTwo (Qqv 3) e.args args) with
   | true =>
     rw [hc] at h
     simp only [cond_true, Option.some.injEq] at h
     simp only [Bool.and_eq_true] at hc
     obtain ⟨g, a, u⟩ := e
     have h1 := Nat.eq_of_beq_eq_true hc.1
     have h2 := Qf6 (fun a b h => Qku h) hc.2
     dsimp only at h h1 h2
     rw [h, h1, h2]; simp
   | false =>
     rw [hc] at h
     exact List.mem_cons_of_mem _ (Qmg h)
theorem Orc.good {P : Program} (O : Orc P) {f : FuncId} {args : List Value} {v : Value} (h : O.look f args = some v) : Good P ⟨f, args, v⟩ := by
 unfold Orc.look at h
 split at h
 ·rename_i l hl
  exact O.ok _ _ _ hl (Qmg h)
 ·cases h
def Qw0 : Option (List Ent) -> List Ent
 | some l => l
 | none => []
def addE (t : Tr (List Ent)) (e : Ent) : Tr (List Ent) := t.set (keyOf e.f e.args) (e :: Qw0 (t.get (keyOf e.f e.args)))
theorem Qw1 (v : Value) : key1 v < 1048576 := by
 unfold key1
 split
 ·omega
 ·split <;> omega
 ·omega
theorem Quu (f : FuncId) (args : List Value) : keyOf f args < 1099511627776 := by
 unfold keyOf
 split
 ·omega
 ·rename_i a _; have := Qw1 a; omega
def Orc.add {P : Program} (O : Orc P) (e : Ent) (h : Good P e) : Orc P := ⟨addE O.tr e, fun k l x hk hx => by
 unfold addE at hk
 have hs : (O.tr.set (keyOf e.f e.args) (e :: Qw0 (O.tr.get (keyOf e.f e.args)))).get k = if k = keyOf e.f e.args then some (e :: Qw0 (O.tr.get (keyOf e.f e.args))) else O.tr.get k := Tr.Qhx _ 40 _ _ _ (Quu _ _)
 rw [hs] at hk
 split at hk
 ·rename_i hke
  injection hk with hk
  subst hk
  rcases List.mem_cons.1 hx with rfl | hx
  ·exact h
  ·cases hg : O.tr.get (keyOf e.f e.args) with
   | none => rw [hg] at hx; cases hx
   | some l => rw [hg] at hx; exact O.ok _ _ _ hg hx
 ·exact O.ok _ _ _ hk hx⟩
def Qih {P : Program} (O : Orc P) (code : Qa8) (fl : Nat) (f : FuncId) (args : List Value) (H : Tr Obj) (N : Nat) : Option (Value × Tr Obj × Nat) :=
 match O.look f args with
 | some v => some (v, H, N)
 | none =>
 match P.funcs[f]? with
 | some fn => match fn.body with
   | some c =>
     let sz := args.length + (fn.ntmps - args.length)
     bif Nat.blt sz 1000000 then
     match code fl none sz c ⟨Qig args 0 .nil, [], H, N⟩ with
     | some (e, s) => bif (match e with | .normal => true | .ret => true | _ => false) then
       match Qhd fl s.M s.H s.N with
       | some H1 => match Qfa P s.A (Qat H1 s.N) fn.results.toList with
         | some [v] => some (v, H1, Qf5 N v H1 s.N)
         | some vs => let v : Value := .tuple ⟨vs⟩; some (v, H1, Qf5 N v H1 s.N)
         | none => none
       | none => none
       else none
     | none => none
     else none
   | none => none
 | none => none
def Qdq (A : Tr Value) : Nat -> List Value -> List Value
 | 0, acc => acc
 | n + 1, acc => Qdq A n ((match A.get n with | some v => v | none => undef) :: acc)
def Qnw : List Nat -> List Value -> Tr Value -> Option (Tr Value)
 | [], [], A => some A
 | p :: ps, v :: vs, A => Qnw ps vs (A.set p v)
 | _, _, _ => none
def Qjv (code : Qa8) (fl : Nat) (l : Nat) (args : List Value) (H : Tr Obj) (N : Nat) : Option (Value × Tr Obj × Nat) :=
 match Qat H N l with
 | some (.loop r) =>
   bif Nat.ble fl l && Nat.blt r.tmps.size 1000000 && (r.params.toList.all fun p => Nat.blt p r.tmps.size) then
    match Qnw r.params.toList args (Qig r.tmps.toList 0 .nil) with
    | some A0 => match code fl (some l) r.tmps.size r.assign ⟨A0, [], H, N⟩ with
      | some (.normal, s1) => match Qat s1.H s1.N l with
        | some (.loop r1) => match r1.state with
          | .ready => match code fl (some l) r.tmps.size r.body { s1 with H := s1.H.set l (.loop { r1 with state := .busy }) } with
            | some (e, s2) =>
              let jump : Option (Option Code) := match e with
               | .normal => some none
               | .ret => some (some .ret)
               | .exit id => some (some (.exit id))
               | _ => none
              match jump, Qat s2.H s2.N l with
              | some none, some (.loop r2) => some (.bool true, s2.H.set l (.loop { r2 with state := .ready, pending := none }), s2.N)
              | some (some j), some (.loop r2) => some (.bool false, s2.H.set l (.loop { r2 with state := .done, pending := some j }), s2.N)
              | _, _ => none
            | none => none
          | _ => none
        | _ => none
      | _ => none
    | none => none
   else none
 | _ => none
def fOp {P : Program} (O : Orc P) (code : Qa8) (fl : Nat) (o : Oper) (A : Tr Value) (H : Tr Obj) (N : Nat) : Option (Value × Tr Obj × Nat) :=
 match o.op with
 | .call { callee := .value f, args, .. } => match Wh A f with
   | .func (.func g) first captured => Qih O code fl g (first.toList ++ args.toList.map (Wh A) ++ captured.toList) H N
   | .func (.yield l) _ _ => Qjv code fl l (args.toList.map (Wh A)) H N
   | _ => none
 | _ => match Qdn P fl o (Wh A) (Qat H N) N with
   | some (n, u) => bif Qia fl N u then (match n with
     | .value v => some (v, updT H N u)
     | .skip => some (undef, updT H N u)
     | _ => none) else none
   | none => none
def fOps {P : Program} (O : Orc P) (code : Qa8) (fl : Nat) (ops : Array Oper) : List Oper -> St -> Option St
 | [], s => some s
 | o :: rest, s => bif Qa7 ops s.A o then
     match fOp O code fl o s.A s.H s.N with
     | some (v, H, N) => fOps O code fl ops rest ⟨putA s.A o.dst v, s.M, H, N⟩
     | none => none
   else fOps O code fl ops rest ⟨putA s.A o.dst undef, s.M, s.H, s.N⟩
def Qb3 (o : Oper) : List Nat := o.after.toList.filterMap fun e => match e.ground with
 | .textOnly _ | .gcOnly _ => none
 | _ => some e.on
def maskAt (ms : List Nat) (k : Nat) : Nat := match getL k ms with
 | some m => m
 | none => 0
def Qhe (ms : List Nat) : List Nat -> Nat
 | [] => 0
 | j :: js => (2 ^ j ||| maskAt ms j) ||| Qhe ms js
def masks : List Oper -> List Nat -> List Nat
 | [], acc => acc
 | o :: os, acc => masks os (acc ++ [Qhe acc (Qb3 o)])
def Qkv (ms : List Nat) : Nat -> List Oper -> Bool
 | _, [] => true
 | k, o :: os => (Qb3 o).all (fun j => Nat.blt j k) && Nat.beq (maskAt ms k) (Qhe ms (Qb3 o)) && Qkv ms (k + 1) os
def Qah (t : Nat) : Nat -> List Oper -> Option Nat
 | _, [] => none
 | k, o :: os => match o.dst with
   | some d => bif Nat.beq d t then some k else Qah t (k + 1) os
   | none => Qah t (k + 1) os
def Qb4 (ops : List Oper) (o : Oper) : List Nat :=
 (o.op.operands.toList.filterMap fun | .tmp t => some t | _ => none) ++
 (match o.guard with
  | some (g, _) => match getL g ops with
    | some x => x.dst.toList
    | none => []
  | none => [])
def Qkw (ms : List Nat) (ops : List Oper) : Nat -> List Oper -> Bool
 | _, [] => true
 | k, o :: os => ((Qb4 ops o).all fun t => match Qah t 0 ops with
  | none => true
  | some j => Nat.beq j k || (Nat.blt j k && (maskAt ms k).testBit j) || (Nat.blt k j && (maskAt ms j).testBit k)) && Qkw ms ops (k + 1) os
def Qo5 (ops : List Oper) : Nat -> List Oper -> Bool
 | _, [] => true
 | k, o :: os => (match o.dst with
   | none => true
   | some d => match Qah d 0 ops with
     | some j => Nat.beq j k
     | none => false) && Qo5 ops (k + 1) os
def Qo6 (ms : List Nat) (m : Nat) : Nat -> List Oper -> Bool
 | _, [] => true
 | k, _ :: os => (Nat.blt k m || Nat.beq (maskAt ms k) (2 ^ k - 1)) && Qo6 ms m (k + 1) os
def Qh0 (ms : List Nat) : Nat -> Nat -> Nat
 | 0, m => m
 | k + 1, m => bif Nat.beq (maskAt ms k) (2 ^ k - 1) then Qh0 ms k k else m
def Qii (ops : Array Oper) : Option Nat :=
 let ms := masks ops.toList []
 let m := Qh0 ms ops.toList.length ops.toList.length
 bif Qkv ms 0 ops.toList && Qkw ms ops.toList 0 ops.toList && Qo5 ops.toList 0 ops.toList && Qo6 ms m 0 ops.toList then some m else none
def Qdh (o : Oper) : Bool := match o.op with
 | .store _ _ _ | .call { callee := .builtin .copy, .. } => true
 | .mapUpdate _ _ _ _ => true
 | .insert _ _ _ _ => true
 | _ => false
def valOf : Next -> Option Value
 | .value v => some v
 | .skip => some undef
 | _ => none
def Qkx (m : Nat) : Nat -> List Oper -> Bool
 | _, [] => false
 | k, o :: os => (Qdh o && Nat.blt k m) || Qkx m (k + 1) os
def hide (H : Tr Obj) : List Nat -> Tr Obj
 | [] => H
 | b :: bs => (hide H bs).set b (.pending #[] 0)
def Qeq (H' H : Tr Obj) : List Nat -> Tr Obj
 | [] => H'
 | b :: bs => (Qeq H' H bs).set b (Qb2 (H.get b))
def Qbl (ms : List Nat) (i : Nat) : List (Nat × Nat) -> List Nat
 | [] => []
 | (k, b) :: bs => bif Nat.beq k i || (maskAt ms i).testBit k || (maskAt ms k).testBit i then Qbl ms i bs else b :: Qbl ms i bs
def flt (N : Nat) : List (Nat × Nat) -> List (Nat × Nat)
 | [] => []
 | (k, b) :: bs => bif Nat.blt b N then (k, b) :: flt N bs else flt N bs
def Qsi (ms : List Nat) (i N N' : Nat) : List (Nat × Nat) -> Bool
 | [] => true
 | (q, b) :: bs => (Nat.blt b N || Nat.ble N' b || (maskAt ms q).testBit i) && Qsi ms i N N' bs
def Qcz (i : Nat) : List (Nat × Nat) -> Option Nat
 | [] => none
 | (k, b) :: bs => bif Nat.beq k i then some b else Qcz i bs
def Qhs {P : Program} (O : Orc P) (code : Qa8) (fl N0 m : Nat) (ms : List Nat) (bs : List (Nat × Nat)) (ops : Array Oper) : Nat -> List Oper -> St -> Option St
 | _, [], s => some s
 | i, o :: rest, s => bif Nat.blt s.N 1000000000 then
  bif Qa7 ops s.A o then
   bif Nat.blt i m then
    match Qcz i bs with
    | some b' => match Qdn P fl o (Wh s.A) (Qat (hide s.H (Qbl ms i (flt s.N bs))) s.N) s.N with
      | some (n, .put b ob) => match valOf n with
        | some v => bif Qdh o && Nat.beq b b' && Nat.blt b s.N && Nat.ble fl b then
         Qhs O code fl N0 m ms bs ops (i + 1) rest ⟨putA s.A o.dst v, s.M, s.H.set b ob, s.N⟩
          else none
        | none => none
      | _ => none
    | none =>
      match fOp O code s.N o s.A (hide s.H (Qbl ms i (flt s.N bs))) s.N with
      | some (v, H, N) => bif Qsi ms i s.N N bs then Qhs O code fl N0 m ms bs ops (i + 1) rest ⟨putA s.A o.dst v, s.M, Qeq H s.H (Qbl ms i (flt s.N bs)), N⟩ else none
      | none => none
   else
    match fOp O code fl o s.A s.H s.N with
    | some (v, H, N) => Qhs O code fl N0 m ms bs ops (i + 1) rest ⟨putA s.A o.dst v, s.M, H, N⟩
    | none => none
  else match Qcz i bs with
   | some _ => none
   | none => Qhs O code fl N0 m ms bs ops (i + 1) rest ⟨putA s.A o.dst undef, s.M, s.H, s.N⟩
   else none
def Qdr {P : Program} (O : Orc P) (code : Qa8) (fl m : Nat) (ops : Array Oper) : Nat -> List Oper -> St -> List (Nat × Nat)
 | _, [], _ => []
 | i, o :: rest, s => bif Nat.blt i m then
  bif Qa7 ops s.A o then
   bif Qdh o then
    match Qdn P fl o (Wh s.A) (Qat s.H s.N) s.N with
    | some (n, .same) => match valOf n with
      | some v => Qdr O code fl m ops (i + 1) rest ⟨putA s.A o.dst v, s.M, s.H, s.N⟩
      | none => []
    | some (n, .put b ob) => match valOf n with
      | some v => (i, b) :: Qdr O code fl m ops (i + 1) rest ⟨putA s.A o.dst v, s.M, s.H.set b ob, s.N⟩
      | none => []
    | _ => []
   else
    match fOp O code fl o s.A s.H s.N with
    | some (v, H, N) => Qdr O code fl m ops (i + 1) rest ⟨putA s.A o.dst v, s.M, H, N⟩
    | none => []
  else Qdr O code fl m ops (i + 1) rest ⟨putA s.A o.dst undef, s.M, s.H, s.N⟩
   else []
def Yp {P : Program} (O : Orc P) : Nat -> Qa8
 | 0, _, _, _, _, _ => none
 | n + 1, fl, rd, sz, c, s =>
   match c with
   | .skip | .label _ => some (.normal, s)
   | .region _ ops draw =>
     bif Qhr sz ops then
      match draw with
      | false => match fOps O (Yp O n) fl ops ops.toList s with
        | some s' => some (.normal, s')
        | none => none
      | true => match Qii ops with
        | some m =>
          let bs := bif Qkx m 0 ops.toList then Qdr O (Yp O n) fl m ops 0 ops.toList s else []
          bif true then
           match Qhs O (Yp O n) fl s.N m (masks ops.toList []) bs ops 0 ops.toList s with
           | some s' => some (.normal, s')
           | none => none
          else none
        | none => none
     else none
   | .seq x y => match Yp O n fl rd sz x s with
     | some (.normal, s1) => Yp O n fl rd sz y s1
     | r => r
   | .cond c x y => match Wh s.A c with
     | .bool true => Yp O n fl rd sz x s
     | .bool false => Yp O n fl rd sz y s
     | _ => none
   | .block id body => match Yp O n fl rd sz body s with
     | some (.exit id', s1) => bif Nat.beq id' id then some (.normal, s1) else some (.exit id', s1)
     | r => r
   | .loop body => match Yp O n fl rd sz body s with
     | some (.normal, s1) => Yp O n fl rd sz (.loop body) s1
     | r => r
   | .rangeFunc f params assign body =>
     bif Qep f then
     match Wh s.A f with
     | .func (.func g) first captured =>
       let dr : Option (Nat × List Nat × Tr Obj × Nat) := match rd with
        | none => bif Nat.blt s.N 1000000000 then some (s.N, s.N :: s.M, s.H.set s.N (.deferred (some [])), s.N + 1) else none
        | some l => match Qat s.H s.N l with
          | some (.loop r) => some (r.defers, s.M, s.H, s.N)
          | _ => none
       match dr with
       | some (d, M, H1, N1) =>
         bif Nat.blt N1 1000000000 then
          match Qih O (Yp O n) fl g (first.toList ++ [.func (.yield N1) #[] #[]] ++ captured.toList)
           (H1.set N1 (.loop { state := .ready, pending := none, fn := 0, tmps := ⟨Qdq s.A sz []⟩, params, assign, body, defers := d })) (N1 + 1) with
          | some (_, H2, N2) => match Qat H2 N2 N1 with
            | some (.loop r2) => match r2.state with
              | .busy => none
              | _ =>
                let s3 : St := ⟨s.A, M, H2.set N1 (.loop { r2 with state := .exhausted }), N2⟩
                match r2.pending with
                | none => some (.normal, s3)
                | some c => Yp O n fl rd sz c s3
            | _ => none
          | none => none
         else none
       | none => none
     | _ => none
     else none
   | .exit id => some (.exit id, s)
   | .ret => some (.ret, s)
   | _ => none
def Qnx {P : Program} (O : Orc P) (n : Nat) (f : FuncId) : Bool :=
 match Qih O (Yp O n) 0 f [] .nil 0 with
 | some (.bool true, _) => true
 | _ => false
def Qsj (P : Program) (n : Nat) (f : FuncId) : Bool := Qnx (Orc.empty P) n f
end Go.Proofs.Ytfeedchjdnedjaa.Ev
