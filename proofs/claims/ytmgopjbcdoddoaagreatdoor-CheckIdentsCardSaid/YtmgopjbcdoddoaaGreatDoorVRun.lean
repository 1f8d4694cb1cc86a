/- The evaluation: an operation, a region, code, a call. No Go program is imported. -/
import Derived.Test.YtmgopjbcdoddoaaGreatDoorVEval
import Derived.Orders
set_option linter.unusedSimpArgs false
set_option linter.unusedVariables false
namespace Go.VE
noncomputable section

/-- The evaluation knows no further. -/
def lost {α : Type} (why : String) (pos : String) : Option α := none

def eqBytes : List UInt8 → List UInt8 → Bool
  | [], [] => true
  | a :: r, b :: s => Nat.beq a.toNat b.toNat && eqBytes r s
  | _, _ => false

def Own.eqb : Own → Own → Bool
  | .full, .full => true
  | .unk, .unk => true
  | .tok a, .tok b => Nat.beq a b
  | _, _ => false
mutual
/-- The same value, in every part. -/
def AV.eqb : AV → AV → Bool
  | .bool a, .bool b => a == b
  | .int j a, .int k b => decide (j = k) && decide (a = b)
  | .sym j a, .sym k b => decide (j = k) && Nat.beq a b
  | .str a, .str b => eqBytes a b
  | .nilp, .nilp => true
  | .ptr a b, .ptr c d => Nat.beq a c && Nat.beq b d
  | .eptr a b, .eptr c d => Nat.beq b d && eqbL a c
  | .nils, .nils => true
  | .lst s o r, .lst t p q => Nat.beq s t && (o.eqb p && eqbR r q)
  | .view a b c d, .view e f g h => Nat.beq a e && (Nat.beq b f && (Nat.beq c g && Nat.beq d h))
  | .nilm, .nilm => true
  | .map a, .map b => Nat.beq a b
  | .fn f a b, .fn g c d => Nat.beq f g && (eqbL a c && eqbL b d)
  | .nilf, .nilf => true
  | .agg a, .agg b => eqbL a b
  | .tup a, .tup b => eqbL a b
  | .iface s a, .iface t b => Nat.beq s t && a.eqb b
  | .nili, .nili => true
  | .vec a b c d, .vec e f g h => Nat.beq a e && (Nat.beq b f && (Nat.beq c g && Nat.beq d h))
  | .sub a b c, .sub d e f => Nat.beq a d && (Nat.beq b e && Nat.beq c f)
  | _, _ => false
def eqbL : List AV → List AV → Bool
  | [], [] => true
  | a :: r, b :: s => a.eqb b && eqbL r s
  | _, _ => false
def eqbR : List (List AV) → List (List AV) → Bool
  | [], [] => true
  | a :: r, b :: s => eqbL a b && eqbR r s
  | _, _ => false
end
/-- Less is told of the first one's rooms. -/
def Own.leb : Own → Own → Bool
  | .unk, _ => true
  | a, b => a.eqb b
mutual
def AV.leb : AV → AV → Bool
  | .eptr a b, .eptr c d => Nat.beq b d && lebL a c
  | .lst s o r, .lst t p q => Nat.beq s t && (o.leb p && lebR r q)
  | .fn f a b, .fn g c d => Nat.beq f g && (lebL a c && lebL b d)
  | .agg a, .agg b => lebL a b
  | .tup a, .tup b => lebL a b
  | a, b => a.eqb b
def lebL : List AV → List AV → Bool
  | [], [] => true
  | a :: r, b :: s => a.leb b && lebL r s
  | _, _ => false
def lebR : List (List AV) → List (List AV) → Bool
  | [], [] => true
  | a :: r, b :: s => lebL a b && lebR r s
  | _, _ => false
end
section
variable (E : Env)

/-- An operation upon values without memory alone. -/
def pureOp (s : Slots) (o : Oper) : Option AV :=
  match o.op with
  | .select _ _ => none
  | _ => match mapO (fun x => (look E s x).bind toV) o.op.operands.toList with
  | some _ => match pureOf E.P (execOp (fun x => ((look E s x).bind toV).getD undef) o) with
    | some (.value v) => ofV v
    | _ => none
  | none => none

def evEq (t : TypeId) (x y : AV) : Option Bool :=
  match E.P.underlying t, x, y with
  | _, .str a, .str b => some (eqBytes a b)
  | some (.pointer _), .ptr _ _, .nilp => some false
  | some (.pointer _), .nilp, .ptr _ _ => some false
  | some (.pointer _), .eptr _ _, .nilp => some false
  | some (.pointer _), .nilp, .eptr _ _ => some false
  | some (.slice _), .lst _ _ _, .nils => some false
  | some (.slice _), .nils, .lst _ _ _ => some false
  | some (.slice _), .view _ _ _ _, .nils => some false
  | some (.slice _), .nils, .view _ _ _ _ => some false
  | some (.slice _), .vec _ _ _ _, .nils => some false
  | some (.slice _), .nils, .vec _ _ _ _ => some false
  | some (.slice _), .sub _ _ _, .nils => some false
  | some (.slice _), .nils, .sub _ _ _ => some false
  | some (.interface _), .iface _ _, .nili => some false
  | some (.interface _), .nili, .iface _ _ => some false
  | some (.map _ _), .map _, .nilm => some false
  | some (.map _ _), .nilm, .map _ => some false
  | some (.func _ _ _), .fn _ _ _, .nilf => some false
  | some (.func _ _ _), .nilf, .fn _ _ _ => some false
  | some (.pointer e), .ptr l o, .ptr m p => match size E e with
    | some (_ + 1) => if Nat.beq l m then some (Nat.beq o p) else none
    | _ => none
  | _, _, _ => none

def evBin (s : Slots) (o : Oper) (op : BinOp) (t : TypeId) (x y : AV) : Option AV :=
  match op, x, y with
  | .add, .str a, .str b => if Nat.ble (a.length + b.length) 1152921504606846976 then some (.str (a ++ b)) else none
  | _, .sym j i, y => E.facts op t (.sym j i) y
  | _, .int j a, .int k b => match pureOf E.P (binOp op t (.int j a) (.int k b)) with
    | some v => atomV v
    | none => none
  | .eql, x, y => match evEq E t x y with
    | some b => some (.bool b)
    | none => pureOp E s o
  | .neq, x, y => match evEq E t x y with
    | some b => some (.bool (!b))
    | none => pureOp E s o
  | _, _, _ => pureOp E s o

def evLen (d : Option TypeDesc) (x : AV) : Option Nat :=
  match d, x with
  | some .string, .str s => some s.length
  | some (.slice _), .nils => some 0
  | some (.slice _), .lst _ _ rows => some rows.length
  | some (.slice _), .view _ _ n _ => some n
  | some (.slice _), .vec _ _ n _ => some n
  | some (.slice _), .sub _ _ n => some n
  | _, _ => none

def bytesIn : List (List AV) → Option (List UInt8)
  | [] => some []
  | [.int .u8 (.ofNat n)] :: r => match bytesIn r with
    | some l => some (UInt8.ofNat n :: l)
    | none => none
  | _ => none

def keyEq (x y : AV) : Option Bool :=
  match x, y with
  | .str a, .str b => some (eqBytes a b)
  | .int j a, .int k b => if decide (j = k) then some (decide (a = b)) else none
  | _, _ => none
/-- Is it a key of such a type. -/
def isKeyA : TypeDesc → AV → Bool
  | .string, .str _ => true
  | .int k, .int j _ => decide (j = k)
  | _, _ => false
def findA (k : AV) : List (AV × AV) → Option (Option AV)
  | [] => some none
  | (a, v) :: r => match keyEq k a with
    | some true => some (some v)
    | some false => findA k r
    | none => none
def putA (k v : AV) : List (AV × AV) → Option (List (AV × AV))
  | [] => some [(k, v)]
  | (a, u) :: r => match keyEq k a with
    | some true => some ((k, v) :: r)
    | some false => match putA k v r with
      | some l => some ((a, u) :: l)
      | none => none
    | none => none

/-- Cells written. -/
def evStore {β : Type} (st : St) (n : Nat) (p x : AV) (k : St → Option β) : Option β :=
  match p with
  | .ptr l o => match st.heap.get l with
    | some (.cells m t ve) =>
      if Nat.beq x.cells.length n && (Nat.ble (o + n) m && allOne x.cells) then
        lay t o (fun t => st.heap.setK l (.cells m t (ve + 1)) fun h => k ⟨h, st.next, st.spent⟩) x.cells
      else none
    | _ => none
  | _ => none

/-- What keys a map's type has. -/
def keyDesc (t : TypeId) : Option TypeDesc :=
  match E.P.underlying t with
  | some (.map kt _) => E.P.underlying kt
  | _ => none

def evUpdate {β : Type} (st : St) (t : TypeId) (m i x : AV) (k : St → Option β) : Option β :=
  match m, keyDesc E t with
  | .map l, some d => if isKeyA d i then match st.heap.get l with
    | some (.map es ve) => match putA i x es with
      | some es' => st.heap.setK l (.map es' (ve + 1)) fun h => k ⟨h, st.next, st.spent⟩
      | none => none
    | _ => none
    else none
  | _, _ => none

/-- The entries of a map. -/
def entriesOf (st : St) : AV → Option (List (AV × AV))
  | .nilm => some []
  | .map l => match st.heap.get l with
    | some (.map es _) => some es
    | _ => none
  | _ => none

def evLookup (st : St) (t : TypeId) (m i : AV) (ok : Bool) : Option AV :=
  match E.P.underlying t, keyDesc E t with
  | some (.map _ e), some d => if isKeyA d i then match entriesOf st m with
    | some es => match findA i es with
      | some (some v) => some (if ok then .tup [v, .bool true] else v)
      | some none => match ((E.P.info? e).bind (·.zero)).bind ofV with
        | some z => some (if ok then .tup [z, .bool false] else z)
        | none => none
      | none => none
    | none => none
    else none
  | _, _ => none

def isIface : TypeDesc → Bool
  | .interface _ => true
  | _ => false

/-- How calls are evaluated. -/
abbrev CallK (R : Type) := FuncId → List AV → St → (AV → St → Option R) → Option R

/-- The elements of a slice cleared. -/
def clearAt : AV → Option (Nat × Nat × Nat)
  | .view l o n _ => some (l, o, n)
  | .vec l _ n _ => some (l, 0, n)
  | .sub l o n => some (l, o, n)
  | _ => none
def evClear {R : Type} (st : St) (t : TypeId) (x : AV) (k : AV → St → Option R) : Option R :=
  match E.P.underlying t, clearAt x with
  | some (.slice e), some (l, o, n + 1) => match size E e, zero E e with
    | some (s + 1), some z => if Nat.beq z.length (s + 1) then evStore st ((n + 1) * (s + 1)) (.ptr l o) (.agg (times z (n + 1))) (fun st => k (.tup []) st) else none
    | _, _ => none
  | some (.slice _), some (_, _, 0) => k (.tup []) st
  | _, _ => none

/-- Which append it is: what it yields, what it is handed. -/
def vecKey (d : Option Tmp) (c : Call) : Nat := d.getD 0 * 1000 + (match (c.args[0]? : Option Operand) with
  | some (.tmp t) => t
  | _ => 0)
def isVec : AV → Bool
  | .vec _ _ _ _ => true
  | _ => false
def isNils : AV → Bool
  | .nils => true
  | _ => false
/-- Rows copied. -/
def evCopy {R : Type} (st : St) (t tx : TypeId) (x y : AV) (k : AV → St → Option R) : Option R :=
  match E.P.underlying t, E.P.underlying tx, clearAt x with
  | some (.slice e), some (.slice e'), some (l, o, n) => match size E e, srcOk (some (.slice e')) y with
    | some (s + 1), true => match rowsM st (s + 1) y with
      | some rs => evStore st ((rs.take n).length * (s + 1)) (.ptr l o) (.agg (rs.take n).flatten) (fun st => k (.int .i64 ((rs.take n).length : Int)) st)
      | none => none
    | _, _ => none
  | _, _, _ => none

def evBuiltin {R : Type} (st : St) (d : Option Tmp) (c : Call) (b : Builtin) (args : List AV) (other : Unit → Option R) (k : AV → St → Option R) : Option R :=
  match b, args with
  | .append, [x, y] => match c.argTypes[0]?, c.argTypes[1]? with
    | some t, some tx => if isVec x || (isNils x && E.vec t (vecKey d c)) then evMore E st t tx x y k else evAppend E st t tx x y k
    | _, _ => none
  | .copy, [x, y] => match c.argTypes[0]?, c.argTypes[1]? with
    | some t, some tx => evCopy E st t tx x y k
    | _, _ => none
  | .clear, [x] => match c.argTypes[0]? with
    | some t => evClear E st t x k
    | none => none
  | .len, [x] => match evLen ((c.argTypes[0]?).bind E.P.underlying) x with
    | some n => k (.int .i64 (n : Int)) st
    | none => match (c.argTypes[0]?).bind E.P.underlying, entriesOf st x with
      | some (.map _ _), some es => k (.int .i64 (es.length : Int)) st
      | _, _ => other ()
  | _, _ => other ()

def opOther {R : Type} (s : Slots) (st : St) (o : Oper) (k : AV → St → Option R) : Option R :=
  match pureOp E s o with
  | some v => k v st
  | none => lost "pure" o.pos
def opMove {R : Type} (call : CallK R) (s : Slots) (st : St) (o : Oper) (k : AV → St → Option R) (x : Operand) : Option R :=
  match look E s x with
    | some a => k a st
    | none => lost "move" o.pos

def opAssign {R : Type} (call : CallK R) (s : Slots) (st : St) (o : Oper) (k : AV → St → Option R) (x : Operand) : Option R :=
  match look E s x with
    | some a => k a st
    | none => lost "assign" o.pos

def opPick {R : Type} (call : CallK R) (s : Slots) (st : St) (o : Oper) (k : AV → St → Option R) (c : Operand) (a : Operand) (b : Operand) : Option R :=
  match look E s c with
    | some (.bool true) => match look E s a with
      | some a => k a st
      | none => lost "pick" o.pos
    | some (.bool false) => match look E s b with
      | some a => k a st
      | none => lost "pick" o.pos
    | _ => lost "pick" o.pos

def opAlloc {R : Type} (call : CallK R) (s : Slots) (st : St) (o : Oper) (k : AV → St → Option R) (t : TypeId) : Option R :=
  match zero E t with
    | some cs => evNew st cs k
    | none => lost "alloc" o.pos

def opBox {R : Type} (call : CallK R) (s : Slots) (st : St) (o : Oper) (k : AV → St → Option R) (t : TypeId) (x : Operand) : Option R :=
  match look E s x with
    | some a => evNew st a.cells k
    | none => lost "box" o.pos

def opBuild {R : Type} (call : CallK R) (s : Slots) (st : St) (o : Oper) (k : AV → St → Option R) (t : TypeId) (ps : Array (Nat × Operand)) : Option R :=
  match partsA E s ps.toList with
    | some l => match evBuild E t l with
      | some a => k a st
      | none => lost "build" o.pos
    | none => lost "build: parts" o.pos

def opBuildSlice {R : Type} (call : CallK R) (s : Slots) (st : St) (o : Oper) (k : AV → St → Option R) (t : TypeId) (n : Nat) (ps : Array (Nat × Operand)) : Option R :=
  match partsA E s ps.toList with
    | some l => evBuildSlice E st t n l k
    | none => lost "buildSlice: parts" o.pos

def opLoad {R : Type} (call : CallK R) (s : Slots) (st : St) (o : Oper) (k : AV → St → Option R) (t : TypeId) (p : Operand) : Option R :=
  match look E s p with
    | some p => match evLoad E st t p with
      | some a => k a st
      | none => lost "load" o.pos
    | none => lost "load: address" o.pos

def opStore {R : Type} (call : CallK R) (s : Slots) (st : St) (o : Oper) (k : AV → St → Option R) (t : TypeId) (p : Operand) (x : Operand) : Option R :=
  match look E s p, look E s x, size E t with
    | some p, some x, some n => evStore st n p x (fun st => k (.tup []) st)
    | _, _, _ => lost "store" o.pos

def opNil {R : Type} (call : CallK R) (s : Slots) (st : St) (o : Oper) (k : AV → St → Option R) (x : Operand) : Option R :=
  match look E s x with
    | some (.ptr l o) => k (.ptr l o) st
    | some (.eptr l o) => k (.eptr l o) st
    | some (.fn f a b) => k (.fn f a b) st
    | _ => lost "nilCheck" o.pos

def opBin {R : Type} (call : CallK R) (s : Slots) (st : St) (o : Oper) (k : AV → St → Option R) (op : BinOp) (t : TypeId) (x : Operand) (y : Operand) : Option R :=
  match look E s x, look E s y with
    | some a, some b => match evBin E s o op t a b with
      | some v => k v st
      | none => lost "binOp" o.pos
    | _, _ => lost "binOp: operands" o.pos

def opConvert {R : Type} (call : CallK R) (s : Slots) (st : St) (o : Oper) (k : AV → St → Option R) (src : TypeId) (dst : TypeId) (x : Operand) : Option R :=
  match look E s x with
    | some (.str b) => match E.P.underlying src, E.P.underlying dst with
      | some .string, some .string => k (.str b) st
      | some .string, some (.slice e) => match E.P.underlying e, E.wr e with
        | some (.int .u8), false => k (.lst 1 (.tok st.next) (b.map fun c => [.int .u8 (c.toNat : Int)])) ⟨st.heap, st.next + 1, st.spent⟩
        | _, _ => lost "convert" o.pos
      | _, _ => lost "convert" o.pos
    | some (.lst n _ rows) => match E.P.underlying src, E.P.underlying dst, bytesIn rows, Nat.beq n 1 with
      | some (.slice e), some .string, some b, true => match E.P.underlying e with
        | some (.int .u8) => k (.str b) st
        | _ => lost "convert" o.pos
      | _, _, _, _ => lost "convert" o.pos
    | some .nils => match E.P.underlying src, E.P.underlying dst with
      | some (.slice e), some .string => match E.P.underlying e with
        | some (.int .u8) => k (.str []) st
        | _ => lost "convert" o.pos
      | _, _ => lost "convert" o.pos
    | _ => opOther E s st o k

def opMakeFunc {R : Type} (call : CallK R) (s : Slots) (st : St) (o : Oper) (k : AV → St → Option R) (f : FuncId) (a : Array Operand) (b : Array Operand) : Option R :=
  match mapO (look E s) a.toList, mapO (look E s) b.toList with
    | some a, some b => k (.fn f a b) st
    | _, _ => lost "makeFunc" o.pos

def opMakeSlice {R : Type} (call : CallK R) (s : Slots) (st : St) (o : Oper) (k : AV → St → Option R) (t : TypeId) (n : Operand) (c : Operand) : Option R :=
  match look E s n, look E s c with
    | some n, some c => evMakeSlice E st t n c k
    | _, _ => lost "makeSlice" o.pos

def opSlice {R : Type} (call : CallK R) (s : Slots) (st : St) (o : Oper) (k : AV → St → Option R) (t : TypeId) (x : Operand) (lo : Option Operand) (hi : Option Operand) (mx : Option Operand) : Option R :=
  match look E s x, mapO (look E s) lo.toList, mapO (look E s) hi.toList, mapO (look E s) mx.toList with
    | some x, some lo, some hi, some mx => match evSlice E t x lo.head? hi.head? mx.head? with
      | some v => k v st
      | none => lost "slice" o.pos
    | _, _, _, _ => lost "slice: operands" o.pos

def opFieldAddr {R : Type} (call : CallK R) (s : Slots) (st : St) (o : Oper) (k : AV → St → Option R) (t : TypeId) (x : Operand) (i : Nat) : Option R :=
  match look E s x with
    | some p => match evField E t i p with
      | some v => k v st
      | none => lost "fieldAddr" o.pos
    | none => lost "fieldAddr: operand" o.pos

def opField {R : Type} (call : CallK R) (s : Slots) (st : St) (o : Oper) (k : AV → St → Option R) (t : TypeId) (x : Operand) (i : Nat) : Option R :=
  match look E s x, E.P.underlying t with
    | some (.agg cs), some (.struct fs) => match fs[i]? with
      | some f => match evPart E f.type cs f.offset with
        | some v => k v st
        | none => lost "field" o.pos
      | none => lost "field" o.pos
    | _, _ => lost "field: operand" o.pos

def opIndexAddr {R : Type} (call : CallK R) (s : Slots) (st : St) (o : Oper) (k : AV → St → Option R) (t : TypeId) (x : Operand) (i : Operand) : Option R :=
  match look E s x, look E s i with
    | some x, some i => match evIndexAddr E t x i with
      | some v => k v st
      | none => lost "indexAddr" o.pos
    | _, _ => lost "indexAddr: operands" o.pos

def opIndex {R : Type} (call : CallK R) (s : Slots) (st : St) (o : Oper) (k : AV → St → Option R) (t : TypeId) (x : Operand) (i : Operand) : Option R :=
  match look E s x, look E s i with
    | some (.str b), some i => match E.P.underlying t, index b.length i with
      | some .string, some j => match b[j]? with
        | some c => k (.int .u8 (c.toNat : Int)) st
        | none => lost "index" o.pos
      | _, _ => lost "index: string" o.pos
    | some (.agg cs), some i => match E.P.underlying t with
      | some (.array n e) => match index n i, size E e with
        | some j, some w => match evPart E e cs (j * w) with
          | some v => k v st
          | none => lost "index: part" o.pos
        | _, _ => lost "index: array" o.pos
      | _ => lost "index: array" o.pos
    | _, _ => lost "index: operands" o.pos

def opExtract {R : Type} (call : CallK R) (s : Slots) (st : St) (o : Oper) (k : AV → St → Option R) (x : Operand) (i : Nat) : Option R :=
  match look E s x with
    | some (.tup vs) => match vs[i]? with
      | some v => k v st
      | none => lost "extract" o.pos
    | _ => lost "extract: operand" o.pos

def opCall {R : Type} (call : CallK R) (s : Slots) (st : St) (o : Oper) (k : AV → St → Option R) (c : Call) : Option R :=
  match mapO (look E s) c.args.toList with
    | some args => match c.callee with
      | .builtin b => evBuiltin E st o.dst c b args (fun _ => opOther E s st o k) k
      | .value f => match look E s f with
        | some (.fn f a b) => call f (a ++ args ++ b) st k
        | _ => lost "call: function" o.pos
      | _ => lost "call: method" o.pos
    | none => lost "call: arguments" o.pos

def opMakeMap {R : Type} (call : CallK R) (s : Slots) (st : St) (o : Oper) (k : AV → St → Option R) (t : TypeId) : Option R :=
  st.heap.setK st.next (.map [] 0) fun h => k (.map st.next) ⟨h, st.next + 1, st.spent⟩

def opLookup {R : Type} (call : CallK R) (s : Slots) (st : St) (o : Oper) (k : AV → St → Option R) (t : TypeId) (m : Operand) (i : Operand) (ok : Bool) : Option R :=
  match look E s m, look E s i with
  | some m, some i => match evLookup E st t m i ok with
    | some v => k v st
    | none => lost "lookup" o.pos
  | _, _ => lost "lookup: operands" o.pos

def opUpdate {R : Type} (call : CallK R) (s : Slots) (st : St) (o : Oper) (k : AV → St → Option R) (t : TypeId) (m : Operand) (i : Operand) (x : Operand) : Option R :=
  match look E s m, look E s i, look E s x with
  | some m, some i, some x => evUpdate E st t m i x (fun st => k (.tup []) st)
  | _, _, _ => lost "mapUpdate" o.pos

def opIface {R : Type} (s : Slots) (st : St) (o : Oper) (k : AV → St → Option R) (t : TypeId) (x : Operand) : Option R :=
  match look E s x, E.P.underlying t with
  | some x, some d => if isIface d then lost "makeInterface" o.pos else k (.iface t x) st
  | _, _ => lost "makeInterface" o.pos
def evAssert (x : AV) (u : TypeId) (ok : Bool) : Option AV :=
  match E.P.underlying u with
  | some d => if isIface d then none else match x with
    | .iface t v => if Nat.beq t u then some (if ok then .tup [v, .bool true] else v)
      else if ok then (((E.P.info? u).bind (·.zero)).bind ofV).map fun z => .tup [z, .bool false] else none
    | .nili => if ok then (((E.P.info? u).bind (·.zero)).bind ofV).map fun z => .tup [z, .bool false] else none
    | _ => none
  | none => none
def opAssert {R : Type} (s : Slots) (st : St) (o : Oper) (k : AV → St → Option R) (x : Operand) (t u : TypeId) (ok : Bool) : Option R :=
  match look E s x with
  | some x => match evAssert E x u ok with
    | some v => k v st
    | none => lost "typeAssert" o.pos
  | none => lost "typeAssert" o.pos

def evOp {R : Type} (call : CallK R) (s : Slots) (st : St) (o : Oper) (k : AV → St → Option R) : Option R :=
  match o.op with
  | .move x => opMove E call s st o k x
  | .assign x => opAssign E call s st o k x
  | .pick c a b => opPick E call s st o k c a b
  | .alloc t => opAlloc E call s st o k t
  | .box t x => opBox E call s st o k t x
  | .build t ps => opBuild E call s st o k t ps
  | .buildSlice t n ps => opBuildSlice E call s st o k t n ps
  | .load t p => opLoad E call s st o k t p
  | .store t p x => opStore E call s st o k t p x
  | .nilCheck x => opNil E call s st o k x
  | .binOp op t x y _ => opBin E call s st o k op t x y
  | .convert src dst x => opConvert E call s st o k src dst x
  | .makeFunc (.func f) a b => opMakeFunc E call s st o k f a b
  | .makeSlice t n c => opMakeSlice E call s st o k t n c
  | .slice t x lo hi mx => opSlice E call s st o k t x lo hi mx
  | .fieldAddr t x i => opFieldAddr E call s st o k t x i
  | .field t x i => opField E call s st o k t x i
  | .indexAddr t x i => opIndexAddr E call s st o k t x i
  | .index t x i => opIndex E call s st o k t x i
  | .extract x i => opExtract E call s st o k x i
  | .call c => opCall E call s st o k c
  | .makeMap t none => opMakeMap call s st o k t
  | .lookup t m i ok => opLookup E call s st o k t m i ok
  | .mapUpdate t m i x => opUpdate E call s st o k t m i x
  | .insert t m i x => opUpdate E call s st o k t m i x
  | .makeInterface t x => opIface E s st o k t x
  | .typeAssert x t u ok => opAssert E s st o k x t u ok
  | _ => opOther E s st o k

/-- May it be done at all: its guard. -/
def wanted (ops : Array Oper) (s : Slots) (o : Oper) : Option Bool :=
  match o.guard with
  | none => some true
  | some (j, want) => match (ops[j]?).bind (·.dst) with
    | some d => match s.get d with
      | some (.bool b) => some (b == want)
      | some (.tup []) => some false
      | _ => none
    | none => none

def putSlot {β : Type} (nt : Nat) (s : Slots) (dst : Option Tmp) (v : AV) (k : Slots → Option β) : Option β :=
  match dst with
  | none => k s
  | some d => if Nat.blt d nt then s.setK d v k else none

/-- Calls, and what they come to, or give up with. -/
abbrev CallP (R : Type) := FuncId → List AV → St → (AV → St → Option R) → (AV → St → Option R) → Option R

/-- An operation in a region whose order is fixed: a call may give up, a deferred call is kept, rows may be appended in place. -/
def evStep {R : Type} (call : CallP R) (ds : List AV) (s : Slots) (st : St) (o : Oper) (k : AV → List AV → St → Option R) (kp : AV → St → Option R) : Option R :=
  match o.op with
  | .call c => match c.callee with
    | .value f => match mapO (look E s) c.args.toList, look E s f with
      | some args, some (.fn f a b) => call f (a ++ args ++ b) st (fun v st => k v ds st) kp
      | _, _ => lost "call: function" o.pos
    | _ => evOp E (fun _ _ _ _ => none) s st o fun v st => k v ds st
  | .defer c => match c.callee, c.args.toList with
    | .value f, [] => match look E s f with
      | some (.fn f a b) => k (.tup []) (.fn f a b :: ds) st
      | _ => lost "defer" o.pos
    | _, _ => lost "defer" o.pos
  | .panic x => match look E s x with
    | some (.iface t v) => kp (.iface t v) st
    | _ => lost "panic" o.pos
  | _ => evOp E (fun _ _ _ _ => none) s st o fun v st => k v ds st

def evOps {R : Type} (call : CallP R) (nt : Nat) (ops : Array Oper) : List Oper → List AV → Slots → St → (List AV → Slots → St → Option R) → (AV → List AV → Slots → St → Option R) → Option R
  | [], ds, s, st, k, kp => k ds s st
  | o :: os, ds, s, st, k, kp => match wanted ops s o with
    | some true => evStep E call ds s st o (fun v ds st => putSlot nt s o.dst v fun s => evOps call nt ops os ds s st k kp) (fun v st => kp v ds s st)
    | some false => putSlot nt s o.dst (.tup []) fun s => evOps call nt ops os ds s st k kp
    | none => lost "guard" o.pos

end

/-- Operations that write, or call. -/
def isW (o : Oper) : Bool :=
  match o.op with
  | .store _ _ _ => true
  | .mapUpdate _ _ _ _ => true
  | .insert _ _ _ _ => true
  | .call c => match c.callee with
    | .builtin .append => true
    | .builtin .clear => true
    | .builtin .copy => true
    | .builtin _ => false
    | _ => true
  | _ => false

def needRow (E : Env) (st : St) (t : TypeId) : Option Nat :=
  match E.P.underlying t with
  | some (.slice e) => if E.wr e then some st.next else none
  | _ => none
def isLoad (o : Oper) : Bool :=
  match o.op with
  | .load _ _ => true
  | _ => false
/-- Which name's memory an operation reads or makes. -/
def needOf (E : Env) (s : Slots) (st : St) (o : Oper) : Option Nat :=
  match o.op with
  | .load _ p => match look E s p with
    | some (.ptr l _) => some l
    | _ => none
  | .alloc _ => some st.next
  | .box _ _ => some st.next
  | .makeMap _ none => some st.next
  | .call c => match c.callee, mapO (look E s) c.args.toList with
    | .builtin .len, some [.map l] => some l
    | _, _ => none
  | .lookup _ m _ _ => match look E s m with
    | some (.map l) => some l
    | _ => none
  | .buildSlice t _ _ => needRow E st t
  | .makeSlice t _ _ => needRow E st t
  | _ => none

/-- Of each operation those that come ahead of it in any order. -/
def masksGo (acc : List Nat) : List Oper → List Nat
  | [] => acc
  | o :: os => masksGo (acc ++ [o.after.toList.foldl (fun m e => if Region.binds .any e then Nat.lor (Nat.lor m (Nat.shiftLeft 1 e.on)) (acc.getD e.on 0) else m) 0]) os
def masksOf (ops : Array Oper) : List Nat := masksGo [] ops.toList
def bit (m i : Nat) : Bool := Nat.beq (Nat.land (Nat.shiftRight m i) 1) 1

/-- The first one that may come next: of those that write nothing, if there is one. -/
def nextOf (masks : List Nat) (done : Nat) (any : Bool) : List (Nat × Oper) → Option ((Nat × Oper) × List (Nat × Oper))
  | [] => none
  | x :: r => if (any || !isW x.2) && Nat.beq (Nat.land (masks.getD x.1 0) done) (masks.getD x.1 0) then some (x, r) else match nextOf masks done any r with
    | some (y, l) => some (y, x :: l)
    | none => none
def orderGo (masks : List Nat) : Nat → Nat → List (Nat × Oper) → List (Nat × Oper)
  | 0, _, _ => []
  | n + 1, done, l => match nextOf masks done false l with
    | some (x, r) => x :: orderGo masks n (Nat.lor done (Nat.shiftLeft 1 x.1)) r
    | none => match nextOf masks done true l with
      | some (x, r) => x :: orderGo masks n (Nat.lor done (Nat.shiftLeft 1 x.1)) r
      | none => []
def orderOf (ops : Array Oper) : List (Nat × Oper) := orderGo (masksOf ops) ops.size 0 (ops.toList.zipIdx.map fun p => (p.2, p.1))

def has (t : Option Tmp) (l : List Tmp) : Bool := match t with
  | some t => l.any (Nat.beq t)
  | none => false
def sameDst (a b : Option Tmp) : Bool := match a, b with
  | some a, some b => Nat.beq a b
  | _, _ => false
/-- May these two be taken in this order, and how they hang together. -/
def pairOk (ops : Array Oper) (masks : List Nat) (x y : Nat × Oper) : Bool :=
  let b := bit (masks.getD y.1 0) x.1
  !Nat.beq x.1 y.1 && !bit (masks.getD x.1 0) y.1 && !sameDst x.2.dst y.2.dst && (b || (!isW x.2 && !has x.2.dst (y.2.looksAt ops) && !has y.2.dst (x.2.looksAt ops)))
def oneOk (ops : Array Oper) (masks : List Nat) (x : Nat × Oper) : Bool :=
  (ops.toList.zipIdx.any fun p => Nat.beq p.2 x.1) &&
  !bit (masks.getD x.1 0) x.1 &&
  (x.2.after.toList.all fun e => !Region.binds .any e || (Nat.blt e.on x.1 && bit (masks.getD x.1 0) e.on)) &&
  ((List.range ops.size).all fun b => !bit (masks.getD x.1 0) b || x.2.after.toList.any fun e => Region.binds .any e && (Nat.beq e.on b || bit (masks.getD e.on 0) b)) &&
  !has x.2.dst (x.2.looksAt ops)
def pairsOk (ops : Array Oper) (masks : List Nat) : List (Nat × Oper) → Bool
  | [] => true
  | x :: r => oneOk ops masks x && (r.all (pairOk ops masks x)) && pairsOk ops masks r
def drawOk (ops : Array Oper) (masks : List Nat) (l : List (Nat × Oper)) : Bool :=
  Nat.beq l.length ops.size && (pairsOk ops masks l && ((List.range ops.size).all fun i => l.any fun x => Nat.beq x.1 i))

def verOf (st : St) (l : Nat) : Option Nat := (st.heap.get l).map AB.ver
def sameVer (a b : Option Nat) : Bool := match a, b with
  | some a, some b => Nat.beq a b
  | none, none => true
  | _, _ => false
/-- What an operation that is done ahead has seen: a name's memory as it was, or just what it read. -/
inductive Pend where
  | ver (l : Nat) (v : Nat)
  | val (t : TypeId) (p v : AV)
def pendOk (E : Env) (masks : List Nat) (i : Nat) (st : St) : List (Nat × Pend) → Bool
  | [] => true
  | (j, .ver l v) :: r => (bit (masks.getD i 0) j || sameVer (verOf st l) (some v)) && pendOk E masks i st r
  | (j, .val t p v) :: r => (bit (masks.getD i 0) j || (match evLoad E st t p with
    | some u => u.eqb v
    | none => false)) && pendOk E masks i st r

def evDraw {R : Type} (E : Env) (call : CallK R) (nt : Nat) (ops : Array Oper) (masks : List Nat) : List (Nat × Oper) → List (Nat × Pend) → Slots → St → (Slots → St → Option R) → Option R
  | [], _, s, st, k => k s st
  | (i, o) :: os, pend, s, st, k => match wanted ops s o with
    | some true => if isW o then
        evOp E call s st o fun v st' => if pendOk E masks i st' pend then putSlot nt s o.dst v fun s' => evDraw E call nt ops masks os pend s' st' k else lost "drawn: written beside" o.pos
      else match o.op with
        | .load t p => match look E s p with
          | some (.ptr l off) => match evLoad E st t (.ptr l off) with
            | some v => putSlot nt s o.dst v fun s' => evDraw E call nt ops masks os ((i, .val t (.ptr l off) v) :: pend) s' st k
            | none => lost "load" o.pos
          | some p => match evLoad E st t p with
            | some v => putSlot nt s o.dst v fun s' => evDraw E call nt ops masks os pend s' st k
            | none => lost "load" o.pos
          | none => lost "load: address" o.pos
        | _ => evOp E call s st o fun v st' => putSlot nt s o.dst v fun s' => match needOf E s st o with
          | some l => match verOf st' l with
            | some v => evDraw E call nt ops masks os ((i, .ver l v) :: pend) s' st' k
            | none => lost "drawn: no memory" o.pos
          | none => evDraw E call nt ops masks os pend s' st' k
    | some false => putSlot nt s o.dst (.tup []) fun s' => evDraw E call nt ops masks os pend s' st k
    | none => lost "guard" o.pos

section
variable (E : Env)

inductive Ex where
  | normal
  | exit (id : Nat)
  | ret
  | panic (v : AV)

abbrev CodeK (R : Type) := List AV → Slots → St → (Ex → List AV → Slots → St → Option R) → Option R

def evLoop {R : Type} (body : CodeK R) : Nat → CodeK R
  | 0, ds, s, st, k => lost "loop: fuel" ""
  | n + 1, ds, s, st, k => body ds s st fun e ds s st => match e with
    | .normal => evLoop body n ds s st k
    | e => k e ds s st

def evCode {R : Type} (call : CallP R) (nt fuel : Nat) : Code → CodeK R
  | .skip, ds, s, st, k => k .normal ds s st
  | .label _, ds, s, st, k => k .normal ds s st
  | .region id ops draw, ds, s, st, k => if draw then
      (if drawOk ops (masksOf ops) (orderOf ops) then evDraw E (fun f args st k' => call f args st k' fun _ _ => lost "drawn: gives up" (ops.getD 0 default).pos) nt ops (masksOf ops) (orderOf ops) [] s st fun s st => k .normal ds s st else lost "drawn: the order" (ops.getD 0 default).pos)
    else evOps E call nt ops ops.toList ds s st (fun ds s st => k .normal ds s st) (fun v ds s st => k (.panic v) ds s st)
  | .seq a b, ds, s, st, k => evCode call nt fuel a ds s st fun e ds s st => match e with
    | .normal => evCode call nt fuel b ds s st k
    | e => k e ds s st
  | .cond c a b, ds, s, st, k => match look E s c with
    | some (.bool true) => evCode call nt fuel a ds s st k
    | some (.bool false) => evCode call nt fuel b ds s st k
    | _ => lost "cond" ""
  | .block id body, ds, s, st, k => evCode call nt fuel body ds s st fun e ds s st => match e with
    | .exit j => if Nat.beq j id then k .normal ds s st else k (.exit j) ds s st
    | e => k e ds s st
  | .loop body, ds, s, st, k => evLoop (fun ds s st k => evCode call nt fuel body ds s st k) fuel ds s st k
  | .exit id, ds, s, st, k => k (.exit id) ds s st
  | .ret, ds, s, st, k => k .ret ds s st
  | .scope body, ds, s, st, k => lost "scope" ""
  | .goto _, ds, s, st, k => lost "goto" ""
  | .rangeFunc .., ds, s, st, k => lost "rangeFunc" ""
  | .refuse _, ds, s, st, k => lost "refuse" ""

def resOf (s : Slots) (st : St) : List ResultVar → Option (List AV)
  | [] => some []
  | .tmp t :: r => match s.get t, resOf s st r with
    | some a, some l => some (a :: l)
    | _, _ => none
  | .cell a t :: r => match s.get a with
    | some p => match evLoad E st t p, resOf s st r with
      | some v, some l => some (v :: l)
      | _, _ => none
    | none => none
def oneOf : List AV → AV
  | [v] => v
  | l => .tup l

/-- Code whose first operation is to recover: what it gives, and whether it did. -/
def evRec {R : Type} (call : CallP R) (nt fuel : Nat) (v : AV) : Code → Slots → St → (Ex → List AV → Slots → St → Option R) → Option R
  | .seq a b, s, st, k => evRec call nt fuel v a s st fun e ds s st => match e with
    | .normal => evCode E call nt fuel b ds s st k
    | e => k e ds s st
  | .region id ops false, s, st, k => match ops.toList with
    | o :: os => match o.op, o.guard with
      | .call c, none => match c.callee, c.args.toList with
        | .builtin .recover, [] => putSlot nt s o.dst v fun s => evOps E call nt ops os [] s st (fun ds s st => k .normal ds s st) (fun v ds s st => k (.panic v) ds s st)
        | _, _ => lost "deferred" o.pos
      | _, _ => lost "deferred" o.pos
    | _ => lost "deferred" ""
  | _, s, st, k => lost "deferred" ""

/-- The deferred calls, one by one: each recovers. -/
def evDefers {R : Type} (call : CallP R) (fuel : Nat) (v : AV) (st : St) (k : St → Option R) : List AV → Option R
  | [] => match v with
    | .nili => k st
    | _ => lost "not recovered" ""
  | .fn f a b :: r => match E.tab f with
    | some (nt, [], c) => if Nat.ble (a ++ b).length nt then
        lay .e 0 (fun s => evRec E call nt fuel v c s st fun e ds s st => match e, ds with
          | .normal, [] => evDefers call fuel .nili st k r
          | .ret, [] => evDefers call fuel .nili st k r
          | _, _ => lost "deferred" "") (a ++ b)
      else lost "deferred: arguments" ""
    | _ => lost "deferred: function" ""
  | _ :: _ => lost "deferred: function" ""

def evEnd {R : Type} (res : List ResultVar) (s : Slots) (st : St) (k : AV → St → Option R) : Option R :=
  match resOf E s st res with
  | some l => k (oneOf l) st
  | none => lost "results" ""

def evBody {R : Type} (call : CallP R) (fuel nt : Nat) (res : List ResultVar) (c : Code) (args : List AV) (st : St) (k kp : AV → St → Option R) : Option R :=
  if Nat.ble args.length nt then
    lay .e 0 (fun s => evCode E call nt fuel c [] s st fun e ds s st => match e with
      | .exit _ => lost "an exit out of a function" ""
      | .panic v => match ds with
        | [] => kp v st
        | d :: r => match v with
          | .iface t x => evDefers E call fuel (.iface t x) st (fun st => evEnd E res s st k) (d :: r)
          | _ => lost "gives up" ""
      | _ => match ds with
        | [] => evEnd E res s st k
        | d :: r => evDefers E call fuel .nili st (fun st => evEnd E res s st k) (d :: r)) args
  else lost "arguments" ""

def evCallP {R : Type} (fuel : Nat) : Nat → CallP R
  | 0, f, args, st, k, kp => lost "calls: depth" ""
  | n + 1, f, args, st, k, kp => match E.orc f args with
    | some v => k v st
    | none => match E.eff f args st with
      | some (v, st') => k v st'
      | none => match E.tab f with
        | some (nt, res, c) => evBody E (evCallP fuel n) fuel nt res c args st k kp
        | none => lost ("function " ++ toString f) ""

/-- A call that returns. -/
def evCall {R : Type} (fuel n : Nat) : CallK R := fun f args st k => evCallP E fuel n f args st k fun _ _ => lost "gives up" ""
end
end
end Go.VE
