/- The evaluation: what operations do to values and to memory with names. No Go program is imported. -/
import Derived.Test.YtmgopjbcdoddoaaGreatDoorVWorld
set_option linter.unusedSimpArgs false
set_option linter.unusedVariables false
namespace Go.VE
noncomputable section

abbrev Slots := Tr AV

/-- What an evaluation is told: the program; of a function its temporaries' number, its results, its code; what package-level variables hold; of which elements slices may be written. -/
structure Env where
  P : Program
  tab : FuncId → Option (Nat × List ResultVar × Code)
  glob : Nat → Option AV
  wr : TypeId → Bool
  val : Nat → Int
  facts : BinOp → TypeId → AV → AV → Option AV
  orc : FuncId → List AV → Option AV
  vec : TypeId → Nat → Bool := fun _ _ => false
  eff : FuncId → List AV → St → Option (AV × St) := fun _ _ _ => none

def mapO {α β : Type} (f : α → Option β) : List α → Option (List β)
  | [] => some []
  | a :: r => match f a with
    | some b => match mapO f r with
      | some bs => some (b :: bs)
      | none => none
    | none => none

/-- A value without memory behind it. -/
def atomV : Value → Option AV
  | .bool b => some (.bool b)
  | .int k n => some (.int k n)
  | .string s => some (.str s.data.toList)
  | .pointer none => some .nilp
  | .slice none 0 0 => some .nils
  | .map none => some .nilm
  | .nilFunc => some .nilf
  | .nilIface => some .nili
  | _ => none
def ofV : Value → Option AV
  | .agg vs => (mapO atomV vs.toList).map .agg
  | .tuple vs => (mapO atomV vs.toList).map .tup
  | v => atomV v
def atomA : AV → Option Value
  | .bool b => some (.bool b)
  | .int k n => some (.int k n)
  | .str s => some (.string ⟨⟨s⟩⟩)
  | .nilp => some (.pointer none)
  | .nils => some (.slice none 0 0)
  | .nilm => some (.map none)
  | .nilf => some .nilFunc
  | .nili => some .nilIface
  | _ => none
def toV : AV → Option Value
  | .agg vs => (mapO atomA vs).map fun l => .agg ⟨l⟩
  | .tup vs => (mapO atomA vs).map fun l => .tuple ⟨l⟩
  | v => atomA v

/-- What a computation yields that looks at no memory. -/
def pureOf {α : Type} (P : Program) : Sem α → Option α
  | .pure a => some a
  | .program k => pureOf P (k P)
  | .mark _ k => pureOf P k
  | _ => none

/-- One cell holds it. -/
def AV.one : AV → Bool
  | .agg _ => false
  | .tup _ => false
  | _ => true
def AV.cells : AV → List AV
  | .agg cs => cs
  | v => [v]
def allOne : List AV → Bool
  | [] => true
  | a :: r => a.one && allOne r

section
variable (E : Env)

def look (s : Slots) : Operand → Option AV
  | .tmp t => s.get t
  | .const v => ofV v
  | .global g => E.glob g
  | .func f => some (.fn f [] [])

def size (t : TypeId) : Option Nat := (E.P.info? t).map (·.size)
def agg (t : TypeId) : Option Bool := (E.P.underlying t).map fun | .struct _ => true | .array _ _ => true | _ => false
def zero (t : TypeId) : Option (List AV) := ((E.P.info? t).bind (·.zero)).bind fun v => (ofV v).map (·.cells)

/-- So many cells from a place on. -/
def row (t : Tr AV) : Nat → Nat → Option (List AV)
  | 0, _ => some []
  | n + 1, o => match t.get o with
    | some a => match row t n (o + 1) with
      | some r => some (a :: r)
      | none => none
    | none => none
/-- Cells laid one behind another. -/
def lay {β : Type} (t : Tr AV) (o : Nat) (k : Tr AV → β) : List AV → β
  | [] => k t
  | a :: r => t.setK o a fun t => lay t (o + 1) k r

def cellsAt (st : St) (n : Nat) : AV → Option (List AV)
  | .ptr l o => match st.heap.get l with
    | some (.cells m t _) => if Nat.ble (o + n) m then row t n o else none
    | _ => none
  | .eptr cs o => if Nat.ble (o + n) cs.length then some ((cs.drop o).take n) else none
  | _ => none

def evLoad (st : St) (t : TypeId) (p : AV) : Option AV :=
  match agg E t, size E t with
  | some true, some n => (cellsAt st n p).map .agg
  | some false, _ => match cellsAt st 1 p with
    | some [a] => some a
    | _ => none
  | _, _ => none

/-- New memory of cells. -/
def evNew {β : Type} (st : St) (cs : List AV) (k : AV → St → Option β) : Option β :=
  if allOne cs then
    lay .e 0 (fun t => st.heap.setK st.next (.cells cs.length t 0) fun h => k (.ptr st.next 0) ⟨h, st.next + 1, st.spent⟩) cs
  else none

def evField (t : TypeId) (i : Nat) (p : AV) : Option AV :=
  match E.P.underlying t with
  | some (.struct fs) => match fs[i]? with
    | some f => match size E f.type with
      | some (_ + 1) => match p with
        | .ptr l o => some (.ptr l (o + f.offset))
        | .eptr cs o => some (.eptr cs (o + f.offset))
        | _ => none
      | _ => none
    | none => none
  | _ => none

def evPart (t : TypeId) (cs : List AV) (o : Nat) : Option AV :=
  match agg E t, size E t with
  | some true, some n => if Nat.ble (o + n) cs.length then some (.agg ((cs.drop o).take n)) else none
  | some false, _ => cs[o]?
  | _, _ => none

def index (n : Nat) : AV → Option Nat
  | .int _ (.ofNat i) => if Nat.blt i n then some i else none
  | _ => none

def evIndexAddr (t : TypeId) (x i : AV) : Option AV :=
  match E.P.underlying t, x with
  | some (.slice e), .lst s _ rows => match size E e, index rows.length i with
    | some n, some j => if Nat.beq n s then (rows[j]?).map fun r => .eptr r 0 else none
    | _, _ => none
  | some (.slice e), .view l o n _ => match size E e, index n i with
    | some s, some j => some (.ptr l (o + j * s))
    | _, _ => none
  | some (.slice e), .vec l s n _ => match size E e, index n i with
    | some z, some j => if Nat.beq z s then some (.ptr l (j * s)) else none
    | _, _ => none
  | some (.slice e), .sub l o n => match size E e, index n i with
    | some s, some j => some (.ptr l (o + j * s))
    | _, _ => none
  | some (.array n e), .ptr l o => match size E e, index n i with
    | some s, some j => some (.ptr l (o + j * s))
    | _, _ => none
  | some (.array n e), .eptr cs o => match size E e, index n i with
    | some s, some j => some (.eptr cs (o + j * s))
    | _, _ => none
  | _, _ => none

def bound (lo hi : Nat) : Option AV → Option Nat
  | none => some hi
  | some (.int _ (.ofNat i)) => if Nat.ble lo i && Nat.ble i hi then some i else none
  | _ => none

def evSlice (t : TypeId) (x : AV) (lo hi mx : Option AV) : Option AV :=
  match E.P.underlying t, x with
  | some .string, .str s => match bound 0 s.length hi with
    | some h => match bound 0 h (some (lo.getD (.int .i64 0))) with
      | some l => match mx with
        | none => some (.str ((s.take h).drop l))
        | _ => none
      | none => none
    | none => none
  | some (.slice e), .lst s own rows => match size E e with
    | some n => if Nat.beq n s then match bound 0 rows.length hi with
      | some h => match bound 0 h (some (lo.getD (.int .i64 0))) with
        | some l => match mx with
          | none => some (.lst s (if Nat.beq h rows.length && (Nat.blt l h || Nat.beq l 0) then own else .unk) ((rows.take h).drop l))
          | some m => match bound h h (some m), hi with
            | some _, some _ => some (.lst s .full ((rows.take h).drop l))
            | _, _ => none
        | none => none
      | none => none
      else none
    | none => none
  | some (.slice e), .nils => match size E e, bound 0 0 hi with
    | some _, some h => match bound 0 h (some (lo.getD (.int .i64 0))) with
      | some _ => match mx with
        | none => some .nils
        | some m => match bound h h (some m), hi with
          | some _, some _ => some .nils
          | _, _ => none
      | none => none
    | _, _ => none
  | some (.slice e), .view l o n c => match size E e with
    | some s => match bound 0 n hi with
      | some h => match bound 0 h (some (lo.getD (.int .i64 0))) with
        | some a => match mx with
          | none => if Nat.blt a c && Nat.ble n c then some (.view l (o + a * s) (h - a) (c - a)) else none
          | some _ => none
        | none => none
      | none => none
    | none => none
  | some (.slice e), .vec l s n top => match size E e with
    | some z => match bound 0 n hi with
      | some h => match bound 0 h (some (lo.getD (.int .i64 0))) with
        | some a => match mx with
          | none => if Nat.beq z s then (if Nat.beq a 0 then some (.vec l s h top) else if Nat.blt a n then some (.sub l (a * s) (h - a)) else none) else none
          | some _ => none
        | none => none
      | none => none
    | none => none
  | some (.slice e), .sub l o n => match size E e with
    | some s => match bound 0 n hi with
      | some h => match bound 0 h (some (lo.getD (.int .i64 0))) with
        | some a => match mx with
          | none => if Nat.blt a n then some (.sub l (o + a * s) (h - a)) else none
          | some _ => none
        | none => none
      | none => none
    | none => none
  | some (.array n e), .ptr l o => match size E e with
    | some s => match bound 0 n hi with
      | some h => match bound 0 h (some (lo.getD (.int .i64 0))) with
        | some a => match mx with
          | none => if Nat.blt a n then some (.view l (o + a * s) (h - a) (n - a)) else none
          | some _ => none
        | none => none
      | none => none
    | none => none
  | _, _ => none

/-- Parts put into their places. -/
def fillA (place : Nat → Option (Nat × Nat)) (cells : List AV) : List (Nat × AV) → Option (List AV)
  | [] => some cells
  | (i, v) :: rest => match place i with
    | some (off, size) =>
      if Nat.beq v.cells.length size && Nat.ble (off + v.cells.length) cells.length then fillA place (cells.take off ++ v.cells ++ cells.drop (off + v.cells.length)) rest else none
    | none => none

def partsA (s : Slots) : List (Nat × Operand) → Option (List (Nat × AV))
  | [] => some []
  | (i, x) :: r => match look E s x with
    | some a => match partsA s r with
      | some l => some ((i, a) :: l)
      | none => none
    | none => none

def evBuild (t : TypeId) (parts : List (Nat × AV)) : Option AV :=
  match zero E t, E.P.underlying t with
  | some z, some (.struct fs) => match mapO (fun (f : Field) => (size E f.type).map fun n => (f.offset, n)) fs.toList with
    | some places => (fillA (places[·]?) z parts).map .agg
    | none => none
  | some z, some (.array _ e) => match size E e with
    | some n => (fillA (fun i => some (i * n, n)) z parts).map .agg
    | none => none
  | _, _ => none

/-- A list parted into rows. -/
def rowsOf (s : Nat) : Nat → List AV → List (List AV)
  | 0, _ => []
  | n + 1, l => l.take s :: rowsOf s n (l.drop s)
def times {α : Type} (z : List α) : Nat → List α
  | 0 => []
  | n + 1 => z ++ times z n

/-- A new row of elements, len of them in use, cap of them there. -/
def evRow {β : Type} (st : St) (e : TypeId) (s len cap : Nat) (cs : List AV) (k : AV → St → Option β) : Option β :=
  if E.wr e then evNew st cs fun p st => match p with
    | .ptr l _ => k (.view l 0 len cap) st
    | _ => none
  else if allOne cs then
    k (.lst s (if Nat.beq len cap then .full else .tok st.next) (rowsOf s len cs)) ⟨st.heap, st.next + 1, st.spent⟩
  else none

def evBuildSlice {β : Type} (st : St) (t : TypeId) (len : Nat) (parts : List (Nat × AV)) (k : AV → St → Option β) : Option β :=
  match E.P.underlying t with
  | some (.slice e) => match size E e, zero E e with
    | some (n + 1), some z =>
      if Nat.beq z.length (n + 1) && Nat.ble (len * (n + 1)) 16777216 then match fillA (fun i => some (i * (n + 1), n + 1)) (times z len) parts with
        | some cs => evRow E st e (n + 1) len len cs k
        | none => none
      else none
    | _, _ => none
  | _ => none

def natOf : AV → Option Nat
  | .int _ (.ofNat n) => some n
  | _ => none

def bytesOf (t : TypeId) : Nat := match E.P.info? t with
  | some i => i.bytes
  | none => 0

def evMakeSlice {β : Type} (st : St) (t : TypeId) (len cap : AV) (k : AV → St → Option β) : Option β :=
  match E.P.underlying t, natOf len, natOf cap with
  | some (.slice e), some n, some c => match size E e, zero E e with
    | some (s + 1), some z =>
      if Nat.beq z.length (s + 1) && (Nat.ble n c && (Nat.ble c 16777216 && Nat.ble (bytesOf E e * c) 140737488355328)) then evRow E st e (s + 1) n c (times z (if E.wr e then c else n)) k else none
    | _, _ => none
  | _, _, _ => none

/-- What is appended: rows of so many cells. -/
def rowsIn (s : Nat) : AV → Option (List (List AV))
  | .nils => some []
  | .lst n _ rows => if Nat.beq n s then some rows else none
  | .str b => if Nat.beq s 1 then some (b.map fun c => [.int .u8 (c.toNat : Int)]) else none
  | _ => none

def srcOk : Option TypeDesc → AV → Bool
  | some (.slice _), .str _ => false
  | some (.slice _), _ => true
  | some .string, .str _ => true
  | _, _ => false

/-- New memory of rows, that may be appended to. -/
def evVec {β : Type} (st : St) (s n : Nat) (cs : List AV) (k : AV → St → Option β) : Option β :=
  if allOne cs then
    lay .e 0 (fun t => st.heap.setK st.next (.cells cs.length t 0) fun h => k (.vec st.next s n n) ⟨h, st.next + 1, st.spent⟩) cs
  else none
/-- Rows appended to such memory: its old name is nobody's any more. -/
def evGrow {β : Type} (st : St) (l s n : Nat) (rs : List (List AV)) (k : AV → St → Option β) : Option β :=
  match st.heap.get l with
  | some (.cells m t ve) =>
    if Nat.beq m (n * s) && (allOne rs.flatten && Nat.blt l st.next) then
      lay t m (fun t => st.heap.setK l (.gone (ve + 1)) fun h => h.setK st.next (.cells (m + rs.flatten.length) t 0) fun h => k (.vec st.next s (n + rs.length) (n + rs.length)) ⟨h, st.next + 1, st.spent⟩) rs.flatten
    else none
  | _ => none

/-- Rows appended where there is room for sure: into cells that have been in use. -/
def evPut {β : Type} (st : St) (l s n top : Nat) (rs : List (List AV)) (k : AV → St → Option β) : Option β :=
  match st.heap.get l with
  | some (.cells m t ve) =>
    if Nat.ble (n * s + rs.flatten.length) m && allOne rs.flatten then
      lay t (n * s) (fun t => st.heap.setK l (.cells m t (ve + 1)) fun h => k (.vec l s (n + rs.length) top) ⟨h, st.next, st.spent⟩) rs.flatten
    else none
  | _ => none

/-- What is appended, where it may lie in memory that is written. -/
def rowsM (st : St) (s : Nat) : AV → Option (List (List AV))
  | .view l o n _ => match st.heap.get l with
    | some (.cells m t _) => if Nat.ble (o + n * s) m then (row t (n * s) o).bind fun cs => if allOne cs then some (rowsOf s n cs) else none else none
    | _ => none
  | .sub l o n => match st.heap.get l with
    | some (.cells m t _) => if Nat.ble (o + n * s) m then (row t (n * s) o).bind fun cs => if allOne cs then some (rowsOf s n cs) else none else none
    | _ => none
  | .vec l z n _ => match st.heap.get l with
    | some (.cells m t _) => if Nat.beq z s && Nat.ble (n * s) m then (row t (n * s) 0).bind fun cs => if allOne cs then some (rowsOf s n cs) else none else none
    | _ => none
  | y => rowsIn s y
/-- Rows appended to memory that may be appended to. -/
def evMore {β : Type} (st : St) (t tx : TypeId) (x y : AV) (k : AV → St → Option β) : Option β :=
  match E.P.underlying t, srcOk (E.P.underlying tx) y with
  | some (.slice e), true => match size E e, zero E e with
    | some (s + 1), some z => match Nat.beq z.length (s + 1), rowsM st (s + 1) y with
      | true, some (r :: rs) => match x with
        | .nils => if Nat.ble (r :: rs).length 1073741824 && Nat.ble ((r :: rs).length * bytesOf E e) 140737488355328 then evVec st (s + 1) (r :: rs).length (r :: rs).flatten k else none
        | .vec l n m top => if Nat.beq n (s + 1) && (Nat.ble (m + (r :: rs).length) 1073741824 && Nat.ble ((m + (r :: rs).length) * bytesOf E e) 140737488355328) then
            (if Nat.ble (m + (r :: rs).length) top then evPut st l n m top (r :: rs) k else if Nat.beq m top then evGrow st l n m (r :: rs) k else none) else none
        | _ => none
      | true, some [] => match x with
        | .nils => k .nils st
        | .vec l n m top => k (.vec l n m top) st
        | _ => none
      | _, _ => none
    | _, _ => none
  | _, _ => none
def evAppend {β : Type} (st : St) (t tx : TypeId) (x y : AV) (k : AV → St → Option β) : Option β :=
  match E.P.underlying t, srcOk (E.P.underlying tx) y with
  | some (.slice e), true => match size E e, zero E e with
    | some (s + 1), some z => match Nat.beq z.length (s + 1), rowsM st (s + 1) y with
      | true, some rs => match x with
        | .nils => match rs with
          | [] => k .nils st
          | _ :: _ => if Nat.ble (rs.length * bytesOf E e) 140737488355328 && Nat.ble rs.length 1073741824 then k (.lst (s + 1) (.tok st.next) rs) ⟨st.heap, st.next + 1, st.spent⟩ else none
        | .lst n own rows =>
          if Nat.beq n (s + 1) && (Nat.ble (rows.length + rs.length) 1073741824 && Nat.ble ((rows.length + rs.length) * bytesOf E e) 140737488355328) then match rs with
            | [] => k (.lst n own rows) st
            | _ :: _ => match own with
              | .full => k (.lst (s + 1) (.tok st.next) (rows ++ rs)) ⟨st.heap, st.next + 1, st.spent⟩
              | .tok u => match st.spent.get u, Nat.blt u st.next with
                | none, true => st.spent.setK u () fun sp => k (.lst (s + 1) (.tok st.next) (rows ++ rs)) ⟨st.heap, st.next + 1, sp⟩
                | _, _ => none
              | .unk => none
          else none
        | _ => none
      | _, _ => none
    | _, _ => none
  | _, _ => none
end
end
end Go.VE
