import Derived.Test.YtfeedchjdnedjaaVv1
set_option linter.unusedVariables false
set_option linter.unusedSimpArgs false
namespace Go.Proofs.Ytfeedchjdnedjaa.Vv
open Go Go.Proofs.Ytfeedchjdnedjaa.Ev
open Go.RowKit (Below)
def ofV (v : Value) : VV := bif Zn v then .c v else match v with
 | .agg cs => bif cs.all Zn then .ag (cs.toList.map .c) else .any
 | _ => .any
def ev (A : Tr VV) : Operand -> VV
 | .tmp t => match A.get t with
   | some v => v
   | none => .any
 | .const v => ofV v
 | .func f => .fn f []
 | _ => .any
def Still (L : List (Option Blk)) : Prop := ∀ k blk, gb L k = some blk -> blk.bx = false -> blk.cells.all VV.still = true
structure Frame (gv : Nat -> Value) (base : Nat) (w0 : World) (m0 : MM) (A : Tr VV) (L : List (Option Blk)) (G : Tr VV) (tv : Nat -> Value) (o : OM) (m : MM) (w : World) : Prop where
 tm : ∀ t : Nat, R o base m (ev A (.tmp t)) (tv t)
 own : Own gv base o m L w
 olt : ∀ k oi, o k = some oi -> k < L.length
 still : Still L
 mem : Yo m w
 mfr : ∀ b ob, m b = some ob -> m0 b = some ob \/ base <= b
 below : Qel gv base w0 w
 hb : base = w0.heap.size
 gh : ∀ t : Nat, R o base m (ev G (.tmp t)) (gvl gv t)
 mlo : m0.Le m
 ex : ∀ k blk, gb L k = some blk -> blk.bx = true -> ∃ oi, o k = some oi
structure InlR where
 v : VV
 A : Tr VV
 L : List (Option Blk)
 G : Tr VV
 q : Prop
def Qwt (P : Program) (g : FuncId) (args : List VV) (A : Tr VV) (L : List (Option Blk)) (G : Tr VV) (r : InlR) : Prop := (∃ fn c, P.funcs[g]? = some fn /\ fn.body = some c) /\
 ∀ (gv : Nat -> Value) (base : Nat) (w0 : World) (m0 : MM) (tv : Nat -> Value) (o : OM) (m : MM) (w : World) (args' : List Value), Frame gv base w0 m0 A L G tv o m w -> RL o base m args args' ->
   Calls P g args'.toArray w fun e w' => ∃ v' o' m', e = .returned v' /\ m.Le m' /\ Frame gv base w0 m0 r.A r.L r.G tv o' m' w' /\ R o' base m' r.v v'
structure Inl where
 run : Program -> FuncId -> List VV -> Tr VV -> List (Option Blk) -> Tr VV -> Option InlR
 ok : ∀ (P : Program) (g : FuncId) (args : List VV) (A : Tr VV) (L : List (Option Blk)) (G : Tr VV) (r : InlR), run P g args A L G = some r -> r.q -> P.follows .mixedOrders = true -> Named P -> Qwt P g args A L G r
inductive Ans where
 | n
 | v (v : VV)
 | b (d : Bool)
 | skip
 | call (r : VV)
 | own (cells : List VV) (n : Nat) (i : Option Nat) (r : VV)
 | mod (ks : List Nat) (r : VV) (l : List Blk)
 | mod1 (k : Nat) (r : VV) (b : Blk)
 | inl (f : Inl)
inductive Eff where
 | no
 | put (k : Nat) (blk : Blk)
 | new (blk : Blk)
 | grow (k : Nat) (blk : Blk)
 | mods (l : List (Nat × Blk))
 | jump (A : Tr VV) (L : List (Option Blk)) (G : Tr VV)
def Jw (P : Program) (t : TypeId) (off : Nat) (cells : List VV) : Option VV := match Qaq P t with
 | some true => match szOf P t with
   | some n => match Qbe n (Qbm off cells) with
     | some l => some (.ag l)
     | none => none
   | none => none
 | some false => getL off cells
 | none => none
def Qh5 (P : Program) (L : List (Option Blk)) (a : Ans) (t : TypeId) (p : VV) : Option (VV × Prop) := match p with
 | .pt k off => match gc L k with
   | some blk => match a with
     | .v v => some (v, Jw P t off blk.cells = some v)
     | _ => bif blk.bx then (match Jw P t off blk.cells with
       | some v => some (v, True)
       | none => none)
       else none
   | none => none
 | .tp cells off => match a with
   | .v v => some (v, Jw P t off cells = some v)
   | _ => none
 | _ => none
def VV.flat : VV -> Bool
 | .any | .tu _ | .ag _ => false
 | _ => true
def putT (off : Nat) (cells xs : List VV) : List VV := cells.take off ++ xs ++ cells.drop (off + xs.length)
def Qpz (P : Program) (L : List (Option Blk)) (t : TypeId) (p v : VV) : Option (Eff × Prop) := match p with
 | .pt k off => match gc L k, szOf P t with
   | some blk, some n => bif Nat.beq v.cells.length n && v.cells.all VV.flat then
    bif blk.bx then (match setL off blk.cells v.cells with
     | some l => some (.put k { blk with cells := l }, True)
     | none => none)
    else bif v.cells.all VV.still then some (.put k { blk with cells := putT off blk.cells v.cells }, off + v.cells.length <= blk.cells.length) else none
     else none
   | _, _ => none
 | _ => none
def Qjr (place : Nat -> Option (Nat × Nat)) (cells : List VV) : List (Nat × VV) -> Option (List VV)
 | [] => some cells
 | (i, v) :: rest => match place i with
   | none => none
   | some (off, size) => bif Nat.beq v.cells.length size && v.cells.all VV.flat then
    match setL off cells v.cells with
    | some cells' => Qjr place cells' rest
    | none => none
     else none
def Qt9 (P : Program) (t : TypeId) (ps : List (Nat × VV)) : Option VV := match Qfo P t, placeOf P t with
 | some z, some (.inl pl) => (match Qjr (fun i => getL i pl) (z.cells.toList.map .c) ps with
   | some l => some (.ag l)
   | none => none)
 | some z, some (.inr s) => (match Qjr (fun i => some (i * s, s)) (z.cells.toList.map .c) ps with
   | some l => some (.ag l)
   | none => none)
 | _, _ => none
def Qbv (P : Program) (N : Nat) (t : TypeId) (n : Nat) (ps : List (Nat × VV)) : Option (VV × Blk) := match P.underlying t with
 | some (.slice e) => match szOf P e with
   | some s => bif Nat.ble (n * s) 16777216 && Nat.blt n big && Nat.blt s bigH then
    match Qcf P e (n * s) with
    | some zl => match Qjr (fun i => some (i * s, s)) (zl.map .c) ps with
      | some l => some (.rf N 0 n, ⟨!(l.all VV.still), s, l⟩)
      | none => none
    | none => none
     else none
   | none => none
 | _ => none
def Qvo (f : (n : Nat) -> BitVec n -> BitVec n -> BitVec n) (k : IntKind) (a b : Int) : Int := k.wrap (f k.bits (BitVec.ofInt k.bits a) (BitVec.ofInt k.bits b)).toNat
def vInt (op : BinOp) (k : IntKind) (a b : Int) : Option (VV × Prop) := match op with
 | .add => some (.c (.int k (k.wrap (a + b))), True)
 | .sub => some (.c (.int k (k.wrap (a - b))), True)
 | .mul => some (.c (.int k (k.wrap (a * b))), True)
 | .quo => some (.c (.int k (k.wrap (a.tdiv b))), b ≠ 0)
 | .rem => some (.c (.int k (a.tmod b)), b ≠ 0)
 | .eql => some (.c (.bool (decide (a = b))), True)
 | .neq => some (.c (.bool (!decide (a = b))), True)
 | .lss => some (.c (.bool (decide (a < b))), True)
 | .leq => some (.c (.bool (decide (a <= b))), True)
 | .gtr => some (.c (.bool (decide (b < a))), True)
 | .geq => some (.c (.bool (decide (b <= a))), True)
 | .and => some (.c (.int k (Qvo (fun _ x y => x &&& y) k a b)), True)
 | .or => some (.c (.int k (Qvo (fun _ x y => x ||| y) k a b)), True)
 | .xor => some (.c (.int k (Qvo (fun _ x y => x ^^^ y) k a b)), True)
 | .andNot => some (.c (.int k (Qvo (fun _ x y => x &&& ~~~y) k a b)), True)
 | _ => none
def Qqg (P : Program) (t : TypeId) : Bool := match P.underlying t with
 | some (.slice _) => true
 | _ => false
def vNil (P : Program) (op : BinOp) (t : TypeId) (x : VV) : Option (VV × Prop) :=
 bif Qqg P t then
 match op, x with
 | .eql, .c (.slice none _ _) => some (.c (.bool true), True)
 | .neq, .c (.slice none _ _) => some (.c (.bool false), True)
 | .eql, .en => some (.c (.bool false), True)
 | .neq, .en => some (.c (.bool true), True)
 | .eql, .tr _ n | .eql, .fr _ n | .eql, .rf _ _ n => some (.c (.bool false), 0 < n)
 | .neq, .tr _ n | .neq, .fr _ n | .neq, .rf _ _ n => some (.c (.bool true), 0 < n)
 | _, _ => none
 else none
inductive KK where
 | i (k : IntKind)
 | s
 | b
 deriving DecidableEq
def kdV : Value -> Option KK
 | .int k _ => some (.i k)
 | .string _ => some .s
 | .bool _ => some .b
 | _ => none
def Qua : List VV -> Option (List Value)
 | [] => some []
 | .c v :: l => match kdV v, Qua l with
   | some _, some r => some (v :: r)
   | _, _ => none
 | _ :: _ => none
def eqS : Value -> Value -> Bool
 | .int _ a, .int _ b => a == b
 | .string a, .string b => decide (a = b)
 | .bool a, .bool b => a == b
 | _, _ => false
def eqL : List Value -> List Value -> Bool
 | [], [] => true
 | a :: l, b :: m => eqS a b && eqL l m
 | _, _ => false
def EqOK (P : Program) (t : TypeId) (ks : List (Option KK)) : Prop := P.eqGuardType P.depth t = false /\ ∀ (l r : List Value), l.map kdV = ks -> r.map kdV = ks -> ∀ w : World, (Op.equal t (.agg l.toArray) (.agg r.toArray)).run P w = .ok (eqL l r) w
def Qx7 (P : Program) (op : BinOp) (t : TypeId) (x y : List VV) : Option (VV × Prop) := match op, Qua x, Qua y with
 | .eql, some l, some r => some (.c (.bool (eqL l r)), l.map kdV = r.map kdV /\ EqOK P t (r.map kdV))
 | .neq, some l, some r => some (.c (.bool (!eqL l r)), l.map kdV = r.map kdV /\ EqOK P t (r.map kdV))
 | _, _, _ => none
def vStr (op : BinOp) (a b : ByteArray) : Option (VV × Prop) := match op with
 | .eql => some (.c (.bool (decide (a = b))), True)
 | .neq => some (.c (.bool (!decide (a = b))), True)
 | .add => some (.c (.string (a ++ b)), a.size + b.size <= 9223372036854775807)
 | _ => none
def Qub (op : BinOp) (k : IntKind) (a b : Int) : Option (VV × Prop) := match op with
 | .shl => some (.c (.int k (k.wrap (a * 2 ^ (min b.toNat k.bits)))), 0 <= b)
 | .shr => some (.c (.int k (a.fdiv (2 ^ (min b.toNat k.bits)))), 0 <= b)
 | _ => none
def vBin (P : Program) (op : BinOp) (t : TypeId) (x y : VV) : Option (VV × Prop) := match x, y with
 | .c (.int k a), .c (.int k' b) => match op with
   | .shl | .shr => Qub op k a b
   | _ => bif k == k' then vInt op k a b else none
 | .c (.bool a), .c (.bool b) => match P.underlying t, op with
   | some .bool, .eql => some (.c (.bool (a == b)), True)
   | some .bool, .neq => some (.c (.bool (!(a == b))), True)
   | _, _ => none
 | .c (.string a), .c (.string b) => vStr op a b
 | .ag x, .ag y => Qx7 P op t x y
 | x, .c (.slice none _ _) => vNil P op t x
 | _, _ => none
def vUn (op : UnOp) (x : VV) : Option VV := match op, x with
 | .not, .c (.bool b) => some (.c (.bool !b))
 | .neg, .c (.int k n) => some (.c (.int k (k.wrap (0 - n))))
 | _, _ => none
def Qlx (P : Program) (s d : TypeId) (x : VV) : Option VV := match P.underlying s, P.underlying d, x with
 | some _, some (.int k), .c (.int _ n) => some (.c (.int k (k.wrap n)))
 | _, _, _ => none
def zeroCells (z : Value) (n : Nat) : List VV := (List.range n).map fun j => .c (z.cells[j % z.cells.size]!)
def Qfe (P : Program) (N : Nat) (t : TypeId) (l c : VV) : Option (VV × Blk × Prop) := match P.underlying t, l, c with
 | some (.slice e), .c (.int k l), .c (.int _ c) => match P.info? e with
   | some i => match i.zero with
     | some z => bif z.cells.all Zn && Nat.beq z.cells.size i.size && Nat.blt i.size bigH then
      bif Nat.beq i.size 1 then some (.rf N 0 l.toNat, ⟨false, 1, List.replicate l.toNat (.c (z.cells[0]!))⟩, 0 <= l /\ c = l /\ (i.bytes * l.toNat) <= 281474976710656 /\ l < 1099511627776)
      else some (.rf N 0 l.toNat, ⟨false, i.size, zeroCells z (l.toNat * i.size)⟩, 0 <= l /\ c = l /\ (i.bytes * l.toNat) <= 281474976710656 /\ l < 1099511627776)
       else none
     | none => none
   | none => none
 | _, _, _ => none
def vBnd (x : Option VV) (d : Nat) : Option (Nat × Prop) := match x with
 | none => some (d, True)
 | some (.c (.int _ i)) => some (i.toNat, 0 <= i)
 | _ => none
def Quc (P : Program) (L : List (Option Blk)) (t : TypeId) (x : VV) (lo hi : Option VV) : Option (VV × Prop) := match P.underlying t with
 | some (.slice e) => match szOf P e, x with
   | some s, .tr cells n => match vBnd lo 0, vBnd hi n with
     | some (l, p), some (h, q) => some (.tr ((cells.drop (l * s)).take ((h - l) * s)) (h - l), p /\ q /\ l <= h /\ h <= n /\ h * s <= cells.length)
     | _, _ => none
   | some s, .fr cells n => match vBnd lo 0, vBnd hi n with
     | some (l, p), some (h, q) => some (.fr ((cells.drop (l * s)).take ((h - l) * s)) (h - l), p /\ q /\ l <= h /\ h <= n /\ h * s <= cells.length)
     | _, _ => none
   | some s, .rf k off n => match vBnd lo 0, vBnd hi n, ga L k with
     | some (l, p), some (h, q), some blk => bif Nat.beq blk.sz s then some (.rf k (off + l * s) (h - l), p /\ q /\ l <= h /\ h <= n) else none
     | _, _, _ => none
   | _, _ => none
 | some .string => match x with
   | .c (.string s) => match vBnd lo 0, vBnd hi s.size with
     | some (l, p), some (h, q) => some (.c (.string (s.extract l h)), p /\ q /\ l <= h /\ h <= s.size)
     | _, _ => none
   | _ => none
 | some (.array N e) => match szOf P e, x with
   | some s, .tp cells off => match vBnd lo 0, vBnd hi N with
     | some (l, p), some (h, q) => some (.tr ((cells.drop (off + l * s)).take ((h - l) * s)) (h - l), p /\ q /\ l <= h /\ h <= N /\ off + h * s <= cells.length)
     | _, _ => none
   | some s, .pt k off => match vBnd lo 0, vBnd hi N, ga L k with
     | some (l, p), some (h, q), some blk => bif Nat.beq blk.sz s then some (.rf k (off + l * s) (h - l), p /\ q /\ l <= h /\ h <= N /\ off + N * s <= blk.cells.length) else none
     | _, _, _ => none
   | _, _ => none
 | _ => none
def Qoo (P : Program) (L : List (Option Blk)) (a : Ans) (t : TypeId) (x : VV) (lo hi : Option VV) : Option (VV × Prop) := match Quc P L t x lo hi, a with
 | some (v0, p), .v v => some (v, p /\ v0 = v)
 | r, _ => r
def Qha (P : Program) (s : TypeId) (x : VV) (f : Nat) : Option VV := match Qlw P s f, x with
 | some fo, .pt k off => some (.pt k (off + fo))
 | some fo, .tp cells off => some (.tp cells (off + fo))
 | _, _ => none
def Qvb (off : Nat) (n : Option Nat) (cs : List VV) : Option VV := match n with
 | some n => match Qbe n (Qbm off cs) with
   | some l => some (.ag l)
   | none => none
 | none => getL off cs
def Qtu (P : Program) (t : TypeId) (x : VV) (f : Nat) : Option VV := match fieldInfo P t f, x with
 | some (off, n), .ag cs => Qvb off n cs
 | _, _ => none
def Qhb (P : Program) (t : TypeId) (x i : VV) : Option (VV × Prop) := match Qgr P t, x, i with
 | some (s, none), .tr cells n, .c (.int _ i) => some (.tp cells (i.toNat * s), 0 <= i /\ i < n)
 | some (s, none), .fr cells n, .c (.int _ i) => some (.tp cells (i.toNat * s), 0 <= i /\ i < n)
 | some (s, none), .rf k off n, .c (.int _ i) => some (.pt k (off + i.toNat * s), 0 <= i /\ i < n)
 | some (s, some N), .pt k off, .c (.int _ i) => some (.pt k (off + i.toNat * s), 0 <= i /\ i < N)
 | some (s, some N), .tp cells off, .c (.int _ i) => some (.tp cells (off + i.toNat * s), 0 <= i /\ i < N)
 | _, _, _ => none
def Qfv (P : Program) (a : Ans) (t : TypeId) (x i : VV) : Option (VV × Prop) := match Qhb P t x i, a with
 | some (v0, p), .v v => some (v, p /\ v0 = v)
 | r, _ => r
def Qtw (P : Program) (a : Ans) (t : TypeId) (x i : VV) : Option (VV × Prop) := match Qok P t, x, i, a with
 | some (N, s, n), .ag cs, .c (.int _ i), .v v => some (v, 0 <= i /\ i < N /\ Qvb (i.toNat * s) n cs = some v)
 | _, _, _, _ => none
def bat (s : ByteArray) (i : Int) : Int := match s[i.toNat]? with
 | some b => (b.toNat : Int)
 | none => 0
def Qoe (P : Program) (t : TypeId) (s : ByteArray) (i : VV) : Option (VV × Prop) := match P.underlying t, i with
 | some .string, .c (.int _ i) => some (.c (.int .u8 (bat s i)), 0 <= i /\ i < s.size)
 | _, _ => none
def Qlm (x : VV) (i : Nat) : Option VV := match x with
 | .tu vs => getL i vs
 | _ => none
def vLen (P : Program) (t : TypeId) (x : VV) : Option VV := match P.underlying t, x with
 | some (.slice _), .tr _ n => some (.c (goInt n))
 | some (.slice _), .fr _ n => some (.c (goInt n))
 | some (.slice _), .rf _ _ n => some (.c (goInt n))
 | some (.slice _), .c (.slice none n _) => some (.c (goInt n))
 | some (.slice _), .e0 => some (.c (goInt 0))
 | some (.string), .c (.string s) => some (.c (goInt s.size))
 | some (.array n _), _ => some (.c (goInt n))
 | _, _ => none
def Qxw (L : List (Option Blk)) (x : VV) : Option (List VV × Nat) := match x with
 | .c (.slice none 0 _) => some ([], 0)
 | .e0 => some ([], 0)
 | .en => some ([], 0)
 | .tr cells n => some (cells, n)
 | .fr cells n => some (cells, n)
 | .rf k off n => match gc L k, off with
   | some blk, 0 => bif blk.bx then none else some (blk.cells, n)
   | _, _ => none
 | _ => none
def Qlo (P : Program) (L : List (Option Blk)) (N : Nat) (a : Ans) (t : TypeId) (s x : VV) : Option (VV × Eff × Prop) := match P.underlying t with
 | some (.slice e) => match P.info? e with
   | some i => match i.zero, Qxw L x with
     | some z, some (xs, n) => bif Nat.beq z.cells.size i.size && Nat.blt 0 i.size && Nat.blt i.size bigH then
      match s with
      | .c (.slice none 0 0) => some (.rf N 0 n, .new ⟨false, i.size, xs⟩, xs.length = n * i.size /\ n * i.bytes <= 140737488355328 /\ n < 1099511627776 /\ xs.all VV.still = true)
      | .e0 => match a with
        | .b _ => some (.fr xs n, .no, xs.length = n * i.size /\ n * i.bytes <= 140737488355328 /\ n < 1099511627776 /\ xs.all VV.isC = true)
        | _ => some (.rf N 0 n, .new ⟨false, i.size, xs⟩, xs.length = n * i.size /\ n * i.bytes <= 140737488355328 /\ n < 1099511627776 /\ xs.all VV.still = true)
      | .rf k 0 n0 => match ga L k with
        | some blk => bif !blk.bx && Nat.beq blk.sz i.size then
         some (.rf k 0 (n0 + n), .grow k { blk with cells := blk.cells ++ xs },
          blk.cells.length = n0 * i.size /\ xs.length = n * i.size /\ (n0 + n) * i.bytes <= 140737488355328 /\ n0 + n < 1099511627776 /\ xs.all VV.still = true)
          else none
        | none => none
      | .fw 0 cells0 n0 => some (match a with | .v _ => .tr (cells0 ++ xs) (n0 + n) | _ => .fr (cells0 ++ xs) (n0 + n), .no, cells0.length = n0 * i.size /\ xs.length = n * i.size /\ (n0 + n) * i.bytes <= 140737488355328 /\ n0 + n < 1099511627776 /\ xs.all VV.isC = true /\ 0 < n0)
      | _ => none
       else none
     | _, _ => none
   | none => none
 | _ => none
def Qrb (L : List (Option Blk)) (s : Nat) (x : VV) : Option (List VV × Nat × Prop) := match x with
 | .tr cells n => some (cells.take (n * s), n, n * s <= cells.length)
 | .fr cells n => some (cells.take (n * s), n, n * s <= cells.length)
 | .rf k off n => match gc L k with
   | some blk => bif blk.bx then none else some ((blk.cells.drop off).take (n * s), n, off + n * s <= blk.cells.length)
   | none => none
 | _ => none
def Qve (P : Program) (L : List (Option Blk)) (t : TypeId) (d x : VV) : Option (VV × Eff × Prop) := match P.underlying t with
 | some (.slice e) => match szOf P e, d with
   | some s, .rf k off n => match ga L k, Qrb L s x with
     | some blk, some (xs, n', p) => bif !blk.bx && Nat.beq blk.sz s && Nat.blt 0 s then
      some (.c (goInt (Nat.min n' n)), .put k { blk with cells := putT off blk.cells (xs.take (Nat.min n' n * s)) }, p /\ 0 < n /\ 0 < n' /\ off + n * s <= blk.cells.length /\ xs.all VV.still = true)
       else none
     | _, _ => none
   | _, _ => none
 | _ => none
def minI (x y : Int) : Int := if y < x then y else x
def maxI (x y : Int) : Int := if y > x then y else x
def foldI (f : Int -> Int -> Int) (k : IntKind) : Int -> List VV -> Option VV
 | x, [] => some (.c (.int k x))
 | x, .c (.int _ y) :: l => foldI f k (f x y) l
 | _, _ => none
def Qp4 (f : Int -> Int -> Int) (l : List VV) : Option VV := match l with
 | .c (.int k x) :: l => foldI f k x l
 | _ => none
def capV : VV -> Option VV
 | .c v => some (.c v)
 | .tr cs n => some (.tr cs n)
 | .e0 => some (.tr [] 0)
 | .fr cs n => some (.tr cs n)
 | .tp cs n => some (.tp cs n)
 | .pt k off => some (.pt k off)
 | .mt cs => some (.mt cs)
 | _ => none
def Qtz : List VV -> Option (List VV)
 | [] => some []
 | v :: l => match capV v, Qtz l with
   | some v, some l => some (v :: l)
   | _, _ => none
def noP (v : Option VV) : Option (VV × Eff × Prop) := match v with
 | some v => some (v, .no, True)
 | none => none
def wiP (v : Option (VV × Prop)) : Option (VV × Eff × Prop) := match v with
 | some (v, p) => some (v, .no, p)
 | none => none
def Qqh (P : Program) (t : TypeId) : Bool := match Qfo P t with
 | some z => z.cells.all Zn
 | none => false
def Qvk (L : List (Option Blk)) (k : Nat) (a : Ans) : Option (VV × Eff × Prop) := match gx L k bigX, a with
 | some ⟨true, z, [.c (.string s), .c (.int .i64 p)]⟩, .b true => some (.tu [.c (.bool true), .c (.int .i64 p), .c (.int .i32 (Utf8.decode s p.toNat).1)], .put k ⟨true, z, [.c (.string s), .c (.int .i64 (p + ((Utf8.decode s p.toNat).2 : Nat)))]⟩, 0 <= p /\ p < s.size)
 | some ⟨true, z, [.c (.string s), .c (.int .i64 p)]⟩, .b false => some (.tu [.c (.bool false)], .no, (s.size : Int) <= p)
 | _, _ => none
def Qp9 (P : Program) (t : TypeId) : Bool := match P.underlying t with
 | some (.map _ _) => true
 | _ => false
def mapT (P : Program) (t : TypeId) : Option (TypeDesc × TypeId) := match P.underlying t with
 | some (.map kt et) => match P.underlying kt with
   | some kd => some (kd, et)
   | none => none
 | _ => none
def lkM (key : Value) : List VV -> Option VV
 | .c k :: v :: l => bif eqS key k then some v else lkM key l
 | _ => none
def Qbo (kk : Option KK) : List VV -> Bool
 | .c k :: _ :: l => (match kdV k, kk with | some x, some y => decide (x = y) | _, _ => false) && Qbo kk l
 | [] => true
 | _ => false
def upM (key : Value) (x : VV) : List VV -> List VV
 | .c k :: v :: l => bif eqS key k then .c k :: x :: l else .c k :: v :: upM key x l
 | _ => [.c key, x]
def mapC (L : List (Option Blk)) : VV -> Option (List VV)
 | .mp k => match gb L k with
   | some blk => bif Nat.beq blk.sz (bigX + 1) || Nat.beq blk.sz (bigX + 2) then some blk.cells else none
   | none => none
 | .mt cs => some cs
 | .c (.map none) => some []
 | _ => none
def zVV : Value -> VV
 | .agg zs => .ag (zs.toList.map .c)
 | z => .c z
def Qlq (P : Program) (L : List (Option Blk)) (a : Ans) (t : TypeId) (x k : VV) (ok : Bool) : Option (VV × Eff × Prop) := match mapT P t, mapC L x, k with
 | some (kd, et), some cs, .c key => bif Qav kd key then (match a with
   | .v v => some (bif ok then .tu [v, .c (.bool true)] else v, .no, Qbo (kdV key) cs = true /\ lkM key cs = some v)
   | .b false => match Qfo P et with
     | some z => bif z.cells.all Zn then some (bif ok then .tu [zVV z, .c (.bool false)] else zVV z, .no, Qbo (kdV key) cs = true /\ lkM key cs = none) else none
     | none => none
   | _ => none) else none
 | _, _, _ => none
def Qfd (P : Program) (L : List (Option Blk)) (t : TypeId) (x k v : VV) : Option (VV × Eff × Prop) := match mapT P t, x, k with
 | some (kd, _), .mp kk, .c key => match gb L kk with
   | some blk => bif (Nat.beq blk.sz (bigX + 1) || Nat.beq blk.sz (bigX + 2)) && Qav kd key && v.mval && blk.bx then
    some (.any, .put kk { blk with cells := upM key v blk.cells }, Qbo (kdV key) blk.cells = true) else none
   | none => none
 | _, _, _ => none
def Qoh (P : Program) (L : List (Option Blk)) (a : Ans) (t : TypeId) (x : VV) : Option (VV × Eff × Prop) := match a with
 | .v (.c (.int .i64 n)) => bif Qp9 P t then (match mapC L x with
   | some cs => some (.c (.int .i64 n), .no, (cs.length : Int) = 2 * n)
   | none => none) else none
 | _ => none
def vOp (P : Program) (o : Oper) (A : Tr VV) (L : List (Option Blk)) (N : Nat) (a : Ans) : Option (VV × Eff × Prop) := match o.op with
 | .move x | .assign x => some (ev A x, .no, True)
 | .nilCheck x => match ev A x with
   | .pt k off => some (.pt k off, .no, True)
   | _ => none
 | .pick c x y => match ev A c, a with
   | .c (.bool t), .b d => some (bif d then ev A x else ev A y, .no, t = d)
   | _, _ => none
 | .alloc t => match Qfo P t with
   | some z => bif z.cells.all Zn then some (.pt N 0, .new ⟨true, 1, z.cells.toList.map .c⟩, True) else none
   | none => none
 | .box t x => bif (P.info? t).isSome && (ev A x).known && (ev A x).cells.all VV.flat then some (.pt N 0, .new ⟨true, 1, (ev A x).cells⟩, True) else none
 | .build t ps => bif Qqh P t then noP (Qt9 P t (ps.toList.map fun p => (p.1, ev A p.2))) else none
 | .buildSlice t n ps => match Qbv P N t n (ps.toList.map fun p => (p.1, ev A p.2)) with
   | some (v, blk) => (match a, n with
     | .b _, 0 => some (.e0, .new blk, True)
     | .b _, _ => bif blk.cells.all VV.isC then some (.fw 0 blk.cells n, .no, True) else none
     | .v _, _ => bif blk.cells.all VV.isC then some (.fr blk.cells n, .no, True) else none
     | _, _ => some (v, .new blk, True))
   | none => none
 | .load t p => wiP (Qh5 P L a t (ev A p))
 | .store t p x => match Qpz P L t (ev A p) (ev A x) with
   | some (e, p) => some (.any, e, p)
   | none => none
 | .binOp op t x y _ => wiP (vBin P op t (ev A x) (ev A y))
 | .unOp op _ x => noP (vUn op (ev A x))
 | .convert s d x => noP (Qlx P s d (ev A x))
 | .makeSlice t l c => match Qfe P N t (ev A l) (ev A c) with
   | some (v, blk, p) => some (v, .new blk, p)
   | none => none
 | .slice t x lo hi none => wiP (Qoo P L a t (ev A x) (lo.map (ev A)) (hi.map (ev A)))
 | .fieldAddr s x f => noP (Qha P s (ev A x) f)
 | .field t x f => noP (Qtu P t (ev A x) f)
 | .indexAddr t x i => wiP (Qfv P a t (ev A x) (ev A i))
 | .index t x i => match ev A x with
   | .c (.string s) => wiP (Qoe P t s (ev A i))
   | v => wiP (Qtw P a t v (ev A i))
 | .range t x => match P.underlying t, ev A x with
   | some .string, .c (.string s) => some (.it N, .new ⟨true, bigX, [.c (.string s), .c (.int .i64 0)]⟩, True)
   | _, _ => none
 | .next x true => match ev A x with
   | .it k => Qvk L k a
   | _ => none
 | .makeMap t none => bif Qp9 P t then some (.mp N, .new ⟨true, bigX + 1, []⟩, True) else none
 | .lookup t x k ok => Qlq P L a t (ev A x) (ev A k) ok
 | .mapUpdate t x k v => Qfd P L t (ev A x) (ev A k) (ev A v)
 | .extract t i => noP (Qlm (ev A t) i)
 | .makeFunc (.func g) first caps => match first.toList, Qtz (caps.toList.map (ev A)) with
   | [], some l => some (.fn g l, .no, True)
   | _, _ => none
 | .call { callee := .builtin .len, args, argTypes } => match argTypes.toList, args.toList with
   | [t], [x] => match Qoh P L a t (ev A x) with
     | some r => some r
     | none => noP (vLen P t (ev A x))
   | _, _ => none
 | .call { callee := .builtin .append, args, argTypes } => match argTypes.toList, args.toList with
   | [t, u], [s, x] => bif Nat.beq t u then Qlo P L N a t (ev A s) (ev A x) else none
   | _, _ => none
 | .call { callee := .builtin .copy, args, argTypes } => match argTypes.toList, args.toList with
   | [t, u], [d, x] => bif Nat.beq t u then Qve P L t (ev A d) (ev A x) else none
   | _, _ => none
 | .call { callee := .builtin .min, args, .. } => noP (Qp4 minI (args.toList.map (ev A)))
 | .call { callee := .builtin .max, args, .. } => noP (Qp4 maxI (args.toList.map (ev A)))
 | _ => none
end Go.Proofs.Ytfeedchjdnedjaa.Vv
