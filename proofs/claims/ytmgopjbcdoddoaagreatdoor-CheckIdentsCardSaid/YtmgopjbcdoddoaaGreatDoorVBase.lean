/- Bytes as values; bytes as a string; a new row. -/
import Derived.Test.YtmgopjbcdoddoaaGreatDoorProg
import Derived.Test.YtmgopjbcdoddoaaGreatDoorVNum
import Derived.Test.YtmgopjbcdoddoaaGreatDoorSrc
import Derived.Laws.BytesArg
import Derived.Lib.Hide
import Derived.Deep.LoopGhost
import Derived.Deep.DeepCutAuto
set_option linter.unusedSimpArgs false
set_option linter.unusedVariables false
namespace Go.Proofs.YtmgopjbcdoddoaaGreatDoor
open Go.RowKit M

def U8s (l : List Nat) : List Value := l.map (fun (x : Nat) => Value.int .u8 x)
theorem U8s_one (B : List Nat) : ∀ u ∈ U8s B, u.oneCell' = true := by
  intro u hu
  simp only [U8s, List.mem_map] at hu
  obtain ⟨x, _, rfl⟩ := hu
  rfl
theorem U8s_len (B : List Nat) : (U8s B).length = B.length := by simp [U8s]
theorem U8s_append (B C : List Nat) : U8s (B ++ C) = U8s B ++ U8s C := by simp [U8s]

theorem Tryz.info5 : (Tryz.prog.info? 5).map (fun i => (i.zero, i.size, i.bytes)) = some (some (.int .u8 0), 1, 1) := by kernel_rfl

/-- A new slice whose cells are xs. -/
def NewRow (e : TypeId) (w : World) (xs : List Value) (en : Ending) (w' : World) : Prop :=
  ∃ sv, en = .returned sv ∧ w'.ownsRow w.heap.size e 1 sv xs.length xs ∧ Only Nil w w'

def strOf (B : List Nat) : ByteArray := strOfNums (B.map fun (x : Nat) => (x : Int))

theorem conv_src (w : World) (b : Nat) (s : Value) (B : List Nat) (h : Src w b s (U8s B)) :
    (convert 23 9 s).run Tryz.prog w = .ok (.string (strOf B)) w := by
  obtain ⟨ao, cap, off, rfl, h2, h3, h4⟩ := h.opened (n := B.length) (by simp [U8s])
  by_cases h0 : 0 < B.length
  · have e := h2 h0
    subst e
    refine run_convert_bytes_arg w 23 5 Tryz.underlying23 Tryz.underlying5 b off B.length cap (B.map fun (x : Nat) => (x : Int)) (by simp) ?_ 9 Tryz.underlying9
    intro i hi
    have hb : (B.map fun (x : Nat) => (x : Int)).getD i 0 = (B[i] : Int) := by simp [List.getD, List.getElem?_eq_getElem hi]
    rw [hb]
    exact h4 i _ (by simp [U8s, List.getElem?_eq_getElem hi])
  · have hB : B = [] := List.eq_nil_of_length_eq_zero (by omega)
    subst hB
    cases ao with
    | none => exact run_convert_bytes_nil w 23 5 Tryz.underlying23 Tryz.underlying5 0 cap 9 Tryz.underlying9
    | some a =>
      have hl := run_loadCells_list (P := Tryz.prog) w a [] (fun j v hj => by simp at hj)
      show (convert 23 9 (.slice (some a) 0 cap)).run Tryz.prog w = _
      rw [run_convert_bytes_string w 23 9 5 _ 0 cap Tryz.underlying23 Tryz.underlying5 Tryz.underlying9, run_bytesToString w a 0 cap [] (by simpa using hl)]
      rfl

theorem ret_of {k : IntKind} {a b : Int} (h : a = b) : Ending.returned (.int k a) = .returned (.int k b) := by rw [h]
end Go.Proofs.YtmgopjbcdoddoaaGreatDoor
