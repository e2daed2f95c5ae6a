/- A calculus of calls over values that are trees. Part 2: the single operations. -/
import Derived.Test.YtlhkkbdfdkjlcaaVv1
set_option linter.unusedVariables false
set_option linter.unusedSimpArgs false
namespace Go.Proofs.Ytlhkkbdfdkjlcaa.Vv
open Go Go.Proofs.Ytlhkkbdfdkjlcaa.Ev
open Go.RowKit (Below)

/-- What is told of an operation beforehand. -/
inductive Ans where
  | n
  | v (v : VV)
  | b (d : Bool)
  | skip
  | call (r : VV)
  | own (cells : List VV) (n : Nat) (i : Option Nat) (r : VV)
inductive Eff where
  | no
  | put (k : Nat) (blk : Blk)
  | new (blk : Blk)
  | grow (k : Nat) (blk : Blk)

def ofV (v : Value) : VV := bif gcell v then .c v else match v with
  | .agg cs => bif cs.all gcell then .ag (cs.toList.map .c) else .any
  | _ => .any
def ev (A : Tr VV) : Operand → VV
  | .tmp t => match A.get t with
    | some v => v
    | none => .any
  | .const v => ofV v
  | .func f => .fn f []
  | _ => .any

def loadL (P : Program) (t : TypeId) (off : Nat) (cells : List VV) : Option VV := match isAggT P t with
  | some true => match szOf P t with
    | some n => match takeL n (dropL off cells) with
      | some l => some (.ag l)
      | none => none
    | none => none
  | some false => getL off cells
  | none => none
def vLoad (P : Program) (L : List (Option Blk)) (a : Ans) (t : TypeId) (p : VV) : Option (VV × Prop) := match p with
  | .pt k off => match gb L k with
    | some blk => match a with
      | .v v => some (v, loadL P t off blk.cells = some v)
      | _ => bif blk.bx then (match loadL P t off blk.cells with
        | some v => some (v, True)
        | none => none)
        else none
    | none => none
  | .tp cells off => match a with
    | .v v => some (v, loadL P t off cells = some v)
    | _ => none
  | _ => none
/-- It can lie in one cell. -/
def VV.flat : VV → Bool
  | .any | .tu _ | .ag _ => false
  | _ => true
/-- It can lie in a cell of a slice. -/
def VV.still : VV → Bool
  | .c _ | .tr _ _ | .fr _ _ => true
  | _ => false
/-- xs in place of the cells from off on. -/
def putT (off : Nat) (cells xs : List VV) : List VV := cells.take off ++ xs ++ cells.drop (off + xs.length)
def vStore (P : Program) (L : List (Option Blk)) (t : TypeId) (p v : VV) : Option (Eff × Prop) := match p with
  | .pt k off => match gb L k, szOf P t with
    | some blk, some n => bif Nat.beq v.cells.length n && v.cells.all VV.flat then
        bif blk.bx then (match setL off blk.cells v.cells with
          | some l => some (.put k { blk with cells := l }, True)
          | none => none)
        else bif v.cells.all VV.still then some (.put k { blk with cells := putT off blk.cells v.cells }, off + v.cells.length ≤ blk.cells.length) else none
      else none
    | _, _ => none
  | _ => none
def vFill (place : Nat → Option (Nat × Nat)) (cells : List VV) : List (Nat × VV) → Option (List VV)
  | [] => some cells
  | (i, v) :: rest => match place i with
    | none => none
    | some (off, size) => bif Nat.beq v.cells.length size && v.cells.all VV.flat then
        match setL off cells v.cells with
        | some cells' => vFill place cells' rest
        | none => none
      else none
def vBuild (P : Program) (t : TypeId) (ps : List (Nat × VV)) : Option VV := match zeroG P t, placeOf P t with
  | some z, some (.inl pl) => (match vFill (fun i => getL i pl) (z.cells.toList.map .c) ps with
    | some l => some (.ag l)
    | none => none)
  | some z, some (.inr s) => (match vFill (fun i => some (i * s, s)) (z.cells.toList.map .c) ps with
    | some l => some (.ag l)
    | none => none)
  | _, _ => none
def vBuildSlice (P : Program) (N : Nat) (t : TypeId) (n : Nat) (ps : List (Nat × VV)) : Option (VV × Blk) := match P.underlying t with
  | some (.slice e) => match szOf P e with
    | some s => bif Nat.ble (n * s) 16777216 && Nat.blt n big then
        match zerosOf P e (n * s) with
        | some zl => match vFill (fun i => some (i * s, s)) (zl.map .c) ps with
          | some l => bif l.all VV.still then some (.rf N 0 n, ⟨false, s, l⟩) else none
          | none => none
        | none => none
      else none
    | none => none
  | _ => none
def vInt (op : BinOp) (k : IntKind) (a b : Int) : Option (VV × Prop) := match op with
  | .add => some (.c (.int k (k.wrap (a + b))), True)
  | .sub => some (.c (.int k (k.wrap (a - b))), True)
  | .mul => some (.c (.int k (k.wrap (a * b))), True)
  | .quo => some (.c (.int k (k.wrap (a.tdiv b))), b ≠ 0)
  | .rem => some (.c (.int k (a.tmod b)), b ≠ 0)
  | .eql => some (.c (.bool (decide (a = b))), True)
  | .neq => some (.c (.bool (!decide (a = b))), True)
  | .lss => some (.c (.bool (decide (a < b))), True)
  | .leq => some (.c (.bool (decide (a ≤ b))), True)
  | .gtr => some (.c (.bool (decide (b < a))), True)
  | .geq => some (.c (.bool (decide (b ≤ a))), True)
  | _ => none
def isSliceT (P : Program) (t : TypeId) : Bool := match P.underlying t with
  | some (.slice _) => true
  | _ => false
def vNil (P : Program) (op : BinOp) (t : TypeId) (x : VV) : Option (VV × Prop) :=
  bif isSliceT P t then
  match op, x with
  | .eql, .c (.slice none _ _) => some (.c (.bool true), True)
  | .neq, .c (.slice none _ _) => some (.c (.bool false), True)
  | .eql, .tr _ n | .eql, .fr _ n | .eql, .rf _ _ n => some (.c (.bool false), 0 < n)
  | .neq, .tr _ n | .neq, .fr _ n | .neq, .rf _ _ n => some (.c (.bool true), 0 < n)
  | _, _ => none
  else none
/-- Integers of cells; whether two lists are the same; a struct of such cells. -/
def intsV : List VV → Option (List Int)
  | [] => some []
  | .c (.int .i64 a) :: l => match intsV l with
    | some r => some (a :: r)
    | none => none
  | _ :: _ => none
def eqL : List Int → List Int → Bool
  | [], [] => true
  | a :: l, b :: m => (a == b) && eqL l m
  | _, _ => false
def agI (l : List Int) : Value := .agg (l.map fun n => Value.int .i64 n).toArray
/-- Structs of this type, of n integers, are the same if all of them are. -/
def EqOK (P : Program) (t : TypeId) (n : Nat) : Prop := P.eqGuardType P.depth t = false ∧ ∀ (l r : List Int), l.length = n → r.length = n → ∀ w : World, (Op.equal t (agI l) (agI r)).run P w = .ok (eqL l r) w
def vEqAg (P : Program) (op : BinOp) (t : TypeId) (x y : List VV) : Option (VV × Prop) := match op, intsV x, intsV y with
  | .eql, some l, some r => some (.c (.bool (eqL l r)), l.length = r.length ∧ EqOK P t r.length)
  | .neq, some l, some r => some (.c (.bool (!eqL l r)), l.length = r.length ∧ EqOK P t r.length)
  | _, _, _ => none
def vBin (P : Program) (op : BinOp) (t : TypeId) (x y : VV) : Option (VV × Prop) := match x, y with
  | .c (.int k a), .c (.int k' b) => bif k == k' then vInt op k a b else none
  | .c (.bool a), .c (.bool b) => match P.underlying t, op with
    | some .bool, .eql => some (.c (.bool (a == b)), True)
    | some .bool, .neq => some (.c (.bool (!(a == b))), True)
    | _, _ => none
  | .ag x, .ag y => vEqAg P op t x y
  | x, .c (.slice none _ _) => vNil P op t x
  | _, _ => none
def vUn (op : UnOp) (x : VV) : Option VV := match op, x with
  | .not, .c (.bool b) => some (.c (.bool !b))
  | .neg, .c (.int k n) => some (.c (.int k (k.wrap (0 - n))))
  | _, _ => none
def vConvert (P : Program) (s d : TypeId) (x : VV) : Option VV := match P.underlying s, P.underlying d, x with
  | some _, some (.int k), .c (.int _ n) => some (.c (.int k (k.wrap n)))
  | _, _, _ => none
def zeroCells (z : Value) (n : Nat) : List VV := (List.range n).map fun j => .c (z.cells[j % z.cells.size]!)
def vMakeSlice (P : Program) (N : Nat) (t : TypeId) (l c : VV) : Option (VV × Blk × Prop) := match P.underlying t, l, c with
  | some (.slice e), .c (.int k l), .c (.int _ c) => match P.info? e with
    | some i => match i.zero with
      | some z => bif z.cells.all gcell && Nat.beq z.cells.size i.size then
          bif Nat.beq i.size 1 then some (.rf N 0 l.toNat, ⟨false, 1, List.replicate l.toNat (.c (z.cells[0]!))⟩, 0 ≤ l ∧ c = l ∧ (i.bytes * l.toNat) ≤ 281474976710656 ∧ l < 1099511627776)
          else some (.rf N 0 l.toNat, ⟨false, i.size, zeroCells z (l.toNat * i.size)⟩, 0 ≤ l ∧ c = l ∧ (i.bytes * l.toNat) ≤ 281474976710656 ∧ l < 1099511627776)
        else none
      | none => none
    | none => none
  | _, _, _ => none
def vBnd (x : Option VV) (d : Nat) : Option (Nat × Prop) := match x with
  | none => some (d, True)
  | some (.c (.int _ i)) => some (i.toNat, 0 ≤ i)
  | _ => none
def vSlice (P : Program) (L : List (Option Blk)) (t : TypeId) (x : VV) (lo hi : Option VV) : Option (VV × Prop) := match P.underlying t with
  | some (.slice e) => match szOf P e, x with
    | some s, .tr cells n => match vBnd lo 0, vBnd hi n with
      | some (l, p), some (h, q) => some (.tr ((cells.drop (l * s)).take ((h - l) * s)) (h - l), p ∧ q ∧ l ≤ h ∧ h ≤ n ∧ h * s ≤ cells.length)
      | _, _ => none
    | some s, .fr cells n => match vBnd lo 0, vBnd hi n with
      | some (l, p), some (h, q) => some (.fr ((cells.drop (l * s)).take ((h - l) * s)) (h - l), p ∧ q ∧ l ≤ h ∧ h ≤ n ∧ h * s ≤ cells.length)
      | _, _ => none
    | some s, .rf k off n => match vBnd lo 0, vBnd hi n, gb L k with
      | some (l, p), some (h, q), some blk => bif Nat.beq blk.sz s then some (.rf k (off + l * s) (h - l), p ∧ q ∧ l ≤ h ∧ h ≤ n) else none
      | _, _, _ => none
    | _, _ => none
  | _ => none
def vFieldAddr (P : Program) (s : TypeId) (x : VV) (f : Nat) : Option VV := match fieldOff P s f, x with
  | some fo, .pt k off => some (.pt k (off + fo))
  | some fo, .tp cells off => some (.tp cells (off + fo))
  | _, _ => none
def partV (off : Nat) (n : Option Nat) (cs : List VV) : Option VV := match n with
  | some n => match takeL n (dropL off cs) with
    | some l => some (.ag l)
    | none => none
  | none => getL off cs
def vField (P : Program) (t : TypeId) (x : VV) (f : Nat) : Option VV := match fieldInfo P t f, x with
  | some (off, n), .ag cs => partV off n cs
  | _, _ => none
def vIndexAddr (P : Program) (t : TypeId) (x i : VV) : Option (VV × Prop) := match elemInfo P t, x, i with
  | some (s, none), .tr cells n, .c (.int _ i) => some (.tp cells (i.toNat * s), 0 ≤ i ∧ i < n)
  | some (s, none), .fr cells n, .c (.int _ i) => some (.tp cells (i.toNat * s), 0 ≤ i ∧ i < n)
  | some (s, none), .rf k off n, .c (.int _ i) => some (.pt k (off + i.toNat * s), 0 ≤ i ∧ i < n)
  | some (s, some N), .pt k off, .c (.int _ i) => some (.pt k (off + i.toNat * s), 0 ≤ i ∧ i < N)
  | _, _, _ => none
def vIndex (P : Program) (a : Ans) (t : TypeId) (x i : VV) : Option (VV × Prop) := match arrInfo P t, x, i, a with
  | some (N, s, n), .ag cs, .c (.int _ i), .v v => some (v, 0 ≤ i ∧ i < N ∧ partV (i.toNat * s) n cs = some v)
  | _, _, _, _ => none
def vExtract (x : VV) (i : Nat) : Option VV := match x with
  | .tu vs => getL i vs
  | _ => none
def vLen (P : Program) (t : TypeId) (x : VV) : Option VV := match P.underlying t, x with
  | some (.slice _), .tr _ n => some (.c (goInt n))
  | some (.slice _), .fr _ n => some (.c (goInt n))
  | some (.slice _), .rf _ _ n => some (.c (goInt n))
  | some (.slice _), .c (.slice none n _) => some (.c (goInt n))
  | some (.string), .c (.string s) => some (.c (goInt s.size))
  | some (.array n _), _ => some (.c (goInt n))
  | _, _ => none
/-- the cells of the slice that is put behind, and how many elements. -/
def srcOf (L : List (Option Blk)) (x : VV) : Option (List VV × Nat) := match x with
  | .c (.slice none 0 _) => some ([], 0)
  | .tr cells n => some (cells, n)
  | .fr cells n => some (cells, n)
  | .rf k off n => match gb L k, off with
    | some blk, 0 => bif blk.bx then none else some (blk.cells, n)
    | _, _ => none
  | _ => none
def vAppend (P : Program) (L : List (Option Blk)) (N : Nat) (t : TypeId) (s x : VV) : Option (VV × Eff × Prop) := match P.underlying t with
  | some (.slice e) => match P.info? e with
    | some i => match i.zero, srcOf L x with
      | some z, some (xs, n) => bif Nat.beq z.cells.size i.size && Nat.blt 0 i.size then
          match s with
          | .c (.slice none 0 0) => some (.rf N 0 n, .new ⟨false, i.size, xs⟩, xs.length = n * i.size ∧ n * i.bytes ≤ 140737488355328 ∧ n < 1099511627776 ∧ xs.all VV.still = true)
          | .rf k 0 n0 => match gb L k with
            | some blk => bif !blk.bx && Nat.beq blk.sz i.size then
                some (.rf k 0 (n0 + n), .grow k { blk with cells := blk.cells ++ xs },
                  blk.cells.length = n0 * i.size ∧ xs.length = n * i.size ∧ (n0 + n) * i.bytes ≤ 140737488355328 ∧ n0 + n < 1099511627776 ∧ xs.all VV.still = true)
              else none
            | none => none
          | _ => none
        else none
      | _, _ => none
    | none => none
  | _ => none
def minI (x y : Int) : Int := if y < x then y else x
def maxI (x y : Int) : Int := if y > x then y else x
def foldI (f : Int → Int → Int) (k : IntKind) : Int → List VV → Option VV
  | x, [] => some (.c (.int k x))
  | x, .c (.int _ y) :: l => foldI f k (f x y) l
  | _, _ => none
def vFoldI (f : Int → Int → Int) (l : List VV) : Option VV := match l with
  | .c (.int k x) :: l => foldI f k x l
  | _ => none
/-- what a function may catch. -/
def capV : VV → Option VV
  | .c v => some (.c v)
  | .tr cs n => some (.tr cs n)
  | .fr cs n => some (.tr cs n)
  | .tp cs n => some (.tp cs n)
  | .pt k off => some (.pt k off)
  | _ => none
def capVs : List VV → Option (List VV)
  | [] => some []
  | v :: l => match capV v, capVs l with
    | some v, some l => some (v :: l)
    | _, _ => none
def noP (v : Option VV) : Option (VV × Eff × Prop) := match v with
  | some v => some (v, .no, True)
  | none => none
def wiP (v : Option (VV × Prop)) : Option (VV × Eff × Prop) := match v with
  | some (v, p) => some (v, .no, p)
  | none => none
/-- the zero's cells are without blocks (checked). -/
def zeroGC (P : Program) (t : TypeId) : Bool := match zeroG P t with
  | some z => z.cells.all gcell
  | none => false
/-- an operation that calls nothing of the program's. -/
def vOp (P : Program) (o : Oper) (A : Tr VV) (L : List (Option Blk)) (N : Nat) (a : Ans) : Option (VV × Eff × Prop) := match o.op with
  | .move x | .assign x => some (ev A x, .no, True)
  | .pick c x y => match ev A c, a with
    | .c (.bool t), .b d => some (bif d then ev A x else ev A y, .no, t = d)
    | _, _ => none
  | .alloc t => match zeroG P t with
    | some z => bif z.cells.all gcell then some (.pt N 0, .new ⟨true, 1, z.cells.toList.map .c⟩, True) else none
    | none => none
  | .box t x => bif (P.info? t).isSome && (ev A x).known && (ev A x).cells.all VV.flat then some (.pt N 0, .new ⟨true, 1, (ev A x).cells⟩, True) else none
  | .build t ps => bif zeroGC P t then noP (vBuild P t (ps.toList.map fun p => (p.1, ev A p.2))) else none
  | .buildSlice t n ps => match vBuildSlice P N t n (ps.toList.map fun p => (p.1, ev A p.2)) with
    | some (v, blk) => some (v, .new blk, True)
    | none => none
  | .load t p => wiP (vLoad P L a t (ev A p))
  | .store t p x => match vStore P L t (ev A p) (ev A x) with
    | some (e, p) => some (.any, e, p)
    | none => none
  | .binOp op t x y _ => wiP (vBin P op t (ev A x) (ev A y))
  | .unOp op _ x => noP (vUn op (ev A x))
  | .convert s d x => noP (vConvert P s d (ev A x))
  | .makeSlice t l c => match vMakeSlice P N t (ev A l) (ev A c) with
    | some (v, blk, p) => some (v, .new blk, p)
    | none => none
  | .slice t x lo hi none => wiP (vSlice P L t (ev A x) (lo.map (ev A)) (hi.map (ev A)))
  | .fieldAddr s x f => noP (vFieldAddr P s (ev A x) f)
  | .field t x f => noP (vField P t (ev A x) f)
  | .indexAddr t x i => wiP (vIndexAddr P t (ev A x) (ev A i))
  | .index t x i => wiP (vIndex P a t (ev A x) (ev A i))
  | .extract t i => noP (vExtract (ev A t) i)
  | .makeFunc (.func g) first caps => match first.toList, capVs (caps.toList.map (ev A)) with
    | [], some l => some (.fn g l, .no, True)
    | _, _ => none
  | .call { callee := .builtin .len, args, argTypes } => match argTypes.toList, args.toList with
    | [t], [x] => noP (vLen P t (ev A x))
    | _, _ => none
  | .call { callee := .builtin .append, args, argTypes } => match argTypes.toList, args.toList with
    | [t, u], [s, x] => bif Nat.beq t u then vAppend P L N t (ev A s) (ev A x) else none
    | _, _ => none
  | .call { callee := .builtin .min, args, .. } => noP (vFoldI minI (args.toList.map (ev A)))
  | .call { callee := .builtin .max, args, .. } => noP (vFoldI maxI (args.toList.map (ev A)))
  | _ => none

end Go.Proofs.Ytlhkkbdfdkjlcaa.Vv
