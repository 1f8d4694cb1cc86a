/- What a laid row's condition gives the walks: the library's table of blanks; a world that meets it. -/
import Derived.Test.YtbpdhpfcknaaiaaDoorRows
import Derived.Test.YtbpdhpfcknaaiaaDoorZKeys
import Derived.LaidMore
import Derived.LaidLaws
import Derived.ProofKit
import Derived.OpenShut
import Derived.Stop.Joined
import Derived.MakeChecks
import Derived.Lib.LaidTab
import Derived.Deep.SlicePairs
import Derived.Lib.SmallJoins
set_option linter.unusedSimpArgs false
set_option linter.unusedVariables false
namespace Go.Proofs.YtbpdhpfcknaaiaaDoor
open Go.Joins Go.ChangeShapes Go.WideShapes Go.RowKit M Go.Deep

theorem own : ownKnob Tryd.prog.godebug = none := by kernel_rfl
theorem laidOut : laidOutB Tryd.prog = true := by kernel_rfl
theorem tAsc : (Tryd.prog.globals[0]?).map (·.type) = some 64 := by kernel_rfl
theorem c256 : Tryd.prog.cellsOf 64 = 256 := by kernel_rfl
theorem cU8 : Tryd.prog.cellsOf 5 = 1 := by kernel_rfl

def laid2 : List (String × DataW Unit) := [("unicode.White_Space", Rows.laid_unicode_White_Space), ("strings.asciiSpace", Rows.laid_strings_asciiSpace)]

theorem asc_of_laid {W : World} (h : laidMetH Tryd.prog laid2 W) : Asc W := by
  rw [MakeChecks.laidMetH_plain _ _ _ (by kernel_rfl)] at h
  obtain ⟨ps, ⟨g0, t0, cs0, f0, p0, q0, _, _, _, _, ⟨g1, t1, cs1, f1, p1, q1, hg1, ht1, hv1, hd1, _, _⟩, _⟩, _, _⟩ := h
  obtain rfl := Option.some.inj (ascG.symm.trans hg1)
  obtain rfl := Option.some.inj (tAsc.symm.trans ht1)
  have e1 : (Rows.laid_strings_asciiSpace : DataW Unit) = Lib.tabData .u8 Lib.asciiSpaceTab := by kernel_rfl
  rw [e1] at hd1
  have k1 := Lib.cells_of_tab Tryd.underlying64 Tryd.underlying5 cU8 c256 hd1
  refine ⟨?_, ?_⟩
  · unfold Lib.TabIs
    rw [hv1, ← k1]
  · unfold World.var? at hv1
    rw [ascG, Option.bind_some] at hv1
    by_cases hlt : 0 < W.heap.size
    · exact hlt
    · rw [Array.getElem?_eq_none (by omega)] at hv1
      cases hv1

theorem door_met (os : Os) (args : Array Value) : laidMetH Tryd.prog laid2 ((World.doorLaid Tryd.prog 400 os).forCall (fun _ _ => 0) ⟨#[], args, []⟩).memory :=
  laidMetH_of_parts3 (fuel := 8) (laidMet_of_run' 8 (by kernel_rfl) (by kernel_rfl)) (by kernel_rfl) (by kernel_rfl)
end Go.Proofs.YtbpdhpfcknaaiaaDoor
