/- Identifiers: the standard names, the document's. -/
import Derived.Test.YtmgopjbcdoddoaaGreatDoorILeaf
set_option linter.unusedSimpArgs false
set_option linter.unusedVariables false
namespace Go.Proofs.YtmgopjbcdoddoaaGreatDoor
open Go.RowKit M

def tkL : List ByteArray := [⟨#[73, 78, 84, 69, 71, 69, 82]⟩, ⟨#[67, 72, 65, 82]⟩, ⟨#[66, 79, 79, 76, 69, 65, 78]⟩, ⟨#[83, 69, 84]⟩, ⟨#[65, 66, 83]⟩, ⟨#[79, 68, 68]⟩, ⟨#[76, 83, 76]⟩, ⟨#[65, 83, 82]⟩, ⟨#[82, 79, 82]⟩, ⟨#[79, 82, 68]⟩, ⟨#[67, 72, 82]⟩, ⟨#[76, 69, 78]⟩, ⟨#[73, 78, 67]⟩, ⟨#[68, 69, 67]⟩, ⟨#[73, 78, 67, 76]⟩, ⟨#[69, 88, 67, 76]⟩, ⟨#[78, 69, 87]⟩, ⟨#[65, 83, 83, 69, 82, 84]⟩]
/-- Is it a standard name? -/
def tkB (y : ByteArray) : Bool := tkL.any fun l => y.toList == l.toList
set_option maxRecDepth 20000 in
set_option maxHeartbeats 3200000 in
theorem taken_any (y : ByteArray) (w : World) : Calls Tryz.prog 12 #[.string y] w fun e w' => e = .returned (.bool (tkB y)) ∧ w = w' := by
  go_enter Tryz.func12, Tryz.ntmps12
  go_wp2
  all_goals go_ret
  all_goals refine ⟨retB ?_, rfl⟩
  all_goals (simp only [tkB, tkL, List.any_cons, List.any_nil]; simp_all)
end Go.Proofs.YtmgopjbcdoddoaaGreatDoor
