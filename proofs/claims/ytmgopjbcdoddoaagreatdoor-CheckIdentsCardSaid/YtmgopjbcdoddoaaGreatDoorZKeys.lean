/- Symbols: keywords, both sides. -/
import Derived.Test.YtmgopjbcdoddoaaGreatDoorZTxt
import Derived.Lib.SlicesS
import Derived.Lib.FieldsLaws
set_option linter.unusedSimpArgs false
set_option linter.unusedVariables false
namespace Go.Proofs.YtmgopjbcdoddoaaGreatDoor
open Go.RowKit M

def kwTab : List (List UInt8) := [[65, 82, 82, 65, 89], [66, 69, 71, 73, 78], [66, 89], [67, 65, 83, 69], [67, 79, 78, 83, 84], [68, 73, 86], [68, 79], [69, 76, 83, 69], [69, 76, 83, 73, 70], [69, 78, 68], [70, 65, 76, 83, 69], [70, 79, 82], [73, 70], [73, 77, 80, 79, 82, 84], [73, 78], [73, 83], [77, 79, 68], [77, 79, 68, 85, 76, 69], [78, 73, 76], [79, 70], [79, 82], [80, 79, 73, 78, 84, 69, 82], [80, 82, 79, 67, 69, 68, 85, 82, 69], [82, 69, 67, 79, 82, 68], [82, 69, 80, 69, 65, 84], [82, 69, 84, 85, 82, 78], [84, 72, 69, 78], [84, 79], [84, 82, 85, 69], [84, 89, 80, 69], [85, 78, 84, 73, 76], [86, 65, 82], [87, 72, 73, 76, 69]]
def kwSrc : List UInt8 := [65, 82, 82, 65, 89, 32, 66, 69, 71, 73, 78, 32, 66, 89, 32, 67, 65, 83, 69, 32, 67, 79, 78, 83, 84, 32, 68, 73, 86, 32, 68, 79, 32, 69, 76, 83, 69, 32, 69, 76, 83, 73, 70, 32, 69, 78, 68, 32, 70, 65, 76, 83, 69, 32, 70, 79, 82, 32, 73, 70, 32, 73, 77, 80, 79, 82, 84, 32, 73, 78, 32, 73, 83, 32, 77, 79, 68, 32, 77, 79, 68, 85, 76, 69, 32, 78, 73, 76, 32, 79, 70, 32, 79, 82, 32, 80, 79, 73, 78, 84, 69, 82, 32, 80, 82, 79, 67, 69, 68, 85, 82, 69, 32, 82, 69, 67, 79, 82, 68, 32, 82, 69, 80, 69, 65, 84, 32, 82, 69, 84, 85, 82, 78, 32, 84, 72, 69, 78, 32, 84, 79, 32, 84, 82, 85, 69, 32, 84, 89, 80, 69, 32, 85, 78, 84, 73, 76, 32, 86, 65, 82, 32, 87, 72, 73, 76, 69]
/-- The keywords. -/
def kwZ : List ByteArray := kwTab.map fun l => ⟨l.toArray⟩
def kwC : Array Value := (kwTab.map fun l => Value.string ⟨l.toArray⟩).toArray
/-- Is it one of them? -/
def kwB (x : ByteArray) : Bool := Lib.containsS kwZ x
set_option maxRecDepth 100000 in
theorem kw_fields : Lib.fields kwSrc = kwTab := by decide +kernel
theorem kwZ_len : kwZ.length = 33 := rfl
theorem kw_get (j : Nat) (h : j < 33) : kwC[j]? = some (.string (kwZ.getD j ByteArray.empty)) := by
  unfold kwC kwZ
  rw [List.getElem?_toArray, List.getElem?_map, List.getD_eq_getElem?_getD, List.getElem?_map, List.getElem?_eq_getElem (show j < kwTab.length from h)]
  rfl

set_option maxRecDepth 100000 in
theorem kw_ascii : ∀ (j : Nat) b, kwSrc[j]? = some b → b.toNat < 128 := fun j b h => by
  have : ∀ b ∈ kwSrc, b.toNat < 128 := by decide +kernel
  exact this b (List.mem_of_getElem? h)
set_option maxRecDepth 100000 in
set_option maxHeartbeats 800000 in
theorem keywordsR_any (w : World) : Calls Tryz.prog 22 #[] w fun e w' => e = .returned (.slice (some ⟨w.heap.size, 0, none⟩) 33 33) ∧ w' = w.alloc (.cells kwC 9) := by
  go_enter Tryz.func22, Tryz.ntmps22
  go_wp2
  go_ret
  exact ⟨rfl, rfl⟩
end Go.Proofs.YtmgopjbcdoddoaaGreatDoor
