/- What a laid row's condition gives the walks: the tables; a world that meets it. -/
import Derived.Test.YthimhbfglgnohaaDoorRows
import Derived.Test.YthimhbfglgnohaaDoorRTextI
import Derived.LaidMore
import Derived.LaidLaws
import Derived.ProofKit
import Derived.OpenShut
import Derived.Stop.Joined
import Derived.MakeChecks
import Derived.Lib.LaidTab
namespace Go.Proofs.YthimhbfglgnohaaDoor
open Go.RowKit M

/-- A table of texts as a row lists it. -/
def strData {H : Type} (l : List (List UInt8)) : DataW H := .agg (l.map fun s => .lit (.string s))

/-- An array of texts that reads as the table holds the table's texts. -/
theorem cells_of_strs {H : Type} {enc : TypeId × Value → H} {P : Program} {w : World} {base : Nat} {sp : Nat → Bool} {held : Bool} {fuel : Nat} {t e : TypeId} {n : Nat} {cs : List Value} {l : List (List UInt8)} {p : List MemPlace}
    (ht : P.underlying t = some (.array n e)) (he : P.underlying e = some .string) (hce : P.cellsOf e = 1) (hct : P.cellsOf t = n)
    (h : DataW.trod enc P w base sp held fuel t cs = some (strData l, p)) : cs = l.map fun s => Value.string (txt s) := by
  obtain ⟨xs, m, rfl, hx, hlen, hn, hel⟩ := DataW.trod_array ht h
  rw [hct] at hlen
  have hxs : xs.map (·.1) = l.map fun s => (DataW.lit (.string s) : DataW H) := by
    have := congrArg Prod.fst hx
    simpa [strData] using this.symm
  have hll : l.length = n := by
    have := congrArg List.length hxs
    simp at this; omega
  apply List.ext_getElem?
  intro i
  by_cases hi : i < n
  · have hf := hel i hi
    rw [hce, Nat.mul_one, List.getElem?_eq_getElem (show i < xs.length by omega)] at hf
    obtain ⟨s, hc, hs, _⟩ := DataW.trod_string he hf
    have h1 : cs[i]? = some (.string s) := by
      have := congrArg (·[0]?) hc
      simpa [List.getElem?_take, List.getElem?_drop] using this
    have h2 : (xs.map (·.1))[i]? = some (DataW.lit (.string s.data.toList) : DataW H) := by
      rw [List.getElem?_map, List.getElem?_eq_getElem (show i < xs.length by omega), hs]; rfl
    rw [hxs] at h2
    simp only [List.getElem?_map, Option.map_eq_some_iff, DataW.lit.injEq, Lit.string.injEq] at h2
    obtain ⟨z, hz, rfl⟩ := h2
    rw [h1, List.getElem?_map, hz]
    rfl
  · rw [List.getElem?_eq_none (by omega), List.getElem?_eq_none (by simp; omega)]

theorem own : ownKnob Tryd.prog.godebug = none := by kernel_rfl
theorem gOps : Tryd.prog.globalNamed "wafer/risc.operations" = some 0 := by kernel_rfl
theorem gCnd : Tryd.prog.globalNamed "wafer/risc.conditions" = some 1 := by kernel_rfl
theorem tPow : (Tryd.prog.globals[2]?).map (·.type) = some 71 := by kernel_rfl
theorem tOps : (Tryd.prog.globals[0]?).map (·.type) = some 50 := by kernel_rfl
theorem tCnd : (Tryd.prog.globals[1]?).map (·.type) = some 50 := by kernel_rfl
theorem c16 : Tryd.prog.cellsOf 50 = 16 := by kernel_rfl
theorem c20 : Tryd.prog.cellsOf 71 = 20 := by kernel_rfl
theorem cStr : Tryd.prog.cellsOf 9 = 1 := by kernel_rfl
theorem cU64 : Tryd.prog.cellsOf 63 = 1 := by kernel_rfl

def laid5 : List (String × DataW Unit) := [("math/bits.deBruijn32tab", Rows.laid_math_bits_deBruijn32tab), ("math/bits.deBruijn64tab", Rows.laid_math_bits_deBruijn64tab), ("internal/strconv.uint64pow10", Rows.laid_internal_strconv_uint64pow10), ("wafer/risc.operations", Rows.laid_wafer_risc_operations), ("wafer/risc.conditions", Rows.laid_wafer_risc_conditions)]

theorem tabs_of_laid {W : World} (h : laidMetH Tryd.prog laid5 W) : Tabs W := by
  rw [MakeChecks.laidMetH_plain _ _ _ (by kernel_rfl)] at h
  obtain ⟨ps, ⟨g0, t0, cs0, f0, p0, q0, _, _, _, _, ⟨g1, t1, cs1, f1, p1, q1, _, _, _, _, ⟨g2, t2, cs2, f2, p2, q2, hg2, ht2, hv2, hd2, ⟨g3, t3, cs3, f3, p3, q3, hg3, ht3, hv3, hd3, ⟨g4, t4, cs4, f4, p4, q4, hg4, ht4, hv4, hd4, _, _⟩, _⟩, _⟩, _⟩, _⟩, _, _⟩ := h
  obtain rfl := Option.some.inj (powG.symm.trans hg2)
  obtain rfl := Option.some.inj (gOps.symm.trans hg3)
  obtain rfl := Option.some.inj (gCnd.symm.trans hg4)
  obtain rfl := Option.some.inj (tPow.symm.trans ht2)
  obtain rfl := Option.some.inj (tOps.symm.trans ht3)
  obtain rfl := Option.some.inj (tCnd.symm.trans ht4)
  have e2 : (Rows.laid_internal_strconv_uint64pow10 : DataW Unit) = Lib.tabData .u64 Lib.pow10Tab := rfl
  have e3 : (Rows.laid_wafer_risc_operations : DataW Unit) = strData opTab := rfl
  have e4 : (Rows.laid_wafer_risc_conditions : DataW Unit) = strData cndTab := rfl
  rw [e2] at hd2
  rw [e3] at hd3
  rw [e4] at hd4
  have k2 := Lib.cells_of_tab Tryd.underlying71 Tryd.underlying63 cU64 c20 hd2
  have k3 := cells_of_strs Tryd.underlying50 Tryd.underlying9 cStr c16 hd3
  have k4 := cells_of_strs Tryd.underlying50 Tryd.underlying9 cStr c16 hd4
  refine ⟨?_, ?_, fun o ho => ?_, fun o ho => ?_⟩
  · unfold Lib.TabIs
    rw [hv2, ← k2]
  · unfold World.var? at hv2
    rw [powG, Option.bind_some] at hv2
    by_cases hlt : 2 < W.heap.size
    · exact hlt
    · rw [Array.getElem?_eq_none (by omega)] at hv2
      cases hv2
  · have := World.var?_cell hg3 hv3 o
    rw [this, ← Array.getElem?_toList, k3]
    have hl : opTab.length = 16 := rfl
    simp [hl, ho, List.getD]
  · have := World.var?_cell hg4 hv4 o
    rw [this, ← Array.getElem?_toList, k4]
    have hl : cndTab.length = 16 := rfl
    simp [hl, ho, List.getD]

theorem door_met (os : Os) (args : Array Value) : laidMetH Tryd.prog laid5 ((World.doorLaid Tryd.prog 400 os).forCall (fun _ _ => 0) ⟨#[], args, []⟩).memory :=
  laidMetH_of_parts3 (fuel := 8) (laidMet_of_run' 8 (by kernel_rfl) (by kernel_rfl)) (by kernel_rfl) (by kernel_rfl)
end Go.Proofs.YthimhbfglgnohaaDoor
