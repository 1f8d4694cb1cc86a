/- What a laid row's condition gives the walks: the tables; a world that meets it; instructions as arguments. -/
import Derived.Test.YtipdfgkemghmoaaDoorRows
import Derived.Test.YtipdfgkemghmoaaDoorCText
import Derived.LaidMore
import Derived.LaidLaws
import Derived.ProofKit
import Derived.OpenShut
import Derived.Stop.Joined
import Derived.MakeChecks
import Derived.Lib.LaidTab
import Derived.Deep.SlicePairs
import Derived.Lib.SmallJoins
set_option linter.unusedSimpArgs false
set_option linter.unusedVariables false
namespace Go.Proofs.YtipdfgkemghmoaaDoor
open Go.Joins Go.ChangeShapes Go.WideShapes Go.RowKit M Go.Deep

/-- A table of texts as a row lists it. -/
def strData {H : Type} (l : List (List UInt8)) : DataW H := .agg (l.map fun s => .lit (.string s))

/-- An array of texts that reads as the table holds the table's texts. -/
theorem cells_of_strs {H : Type} {enc : TypeId × Value → H} {P : Program} {w : World} {base : Nat} {sp : Nat → Bool} {held : Bool} {fuel : Nat} {t e : TypeId} {n : Nat} {cs : List Value} {l : List (List UInt8)} {p : List MemPlace}
    (ht : P.underlying t = some (.array n e)) (he : P.underlying e = some .string) (hce : P.cellsOf e = 1) (hct : P.cellsOf t = n)
    (h : DataW.trod enc P w base sp held fuel t cs = some (strData l, p)) : cs = l.map fun s => Value.string (txt s) := by
  obtain ⟨xs, m, rfl, hx, hlen, hn, hel⟩ := DataW.trod_array ht h
  rw [hct] at hlen
  have hxs : xs.map (·.1) = l.map fun s => (DataW.lit (.string s) : DataW H) := by
    have := congrArg Prod.fst hx
    simpa [strData] using this.symm
  have hll : l.length = n := by
    have := congrArg List.length hxs
    simp at this; omega
  apply List.ext_getElem?
  intro i
  by_cases hi : i < n
  · have hf := hel i hi
    rw [hce, Nat.mul_one, List.getElem?_eq_getElem (show i < xs.length by omega)] at hf
    obtain ⟨s, hc, hs, _⟩ := DataW.trod_string he hf
    have h1 : cs[i]? = some (.string s) := by
      have := congrArg (·[0]?) hc
      simpa [List.getElem?_take, List.getElem?_drop] using this
    have h2 : (xs.map (·.1))[i]? = some (DataW.lit (.string s.data.toList) : DataW H) := by
      rw [List.getElem?_map, List.getElem?_eq_getElem (show i < xs.length by omega), hs]; rfl
    rw [hxs] at h2
    simp only [List.getElem?_map, Option.map_eq_some_iff, DataW.lit.injEq, Lit.string.injEq] at h2
    obtain ⟨z, hz, rfl⟩ := h2
    rw [h1, List.getElem?_map, hz]
    rfl
  · rw [List.getElem?_eq_none (by omega), List.getElem?_eq_none (by simp; omega)]

theorem own : ownKnob Tryd.prog.godebug = none := by kernel_rfl
theorem laidOut : laidOutB Tryd.prog = true := by kernel_rfl
theorem gNam : Tryd.prog.globalNamed "wafer/code.names" = some 0 := by kernel_rfl
theorem tPow : (Tryd.prog.globals[1]?).map (·.type) = some 73 := by kernel_rfl
theorem tNam : (Tryd.prog.globals[0]?).map (·.type) = some 56 := by kernel_rfl
theorem c34 : Tryd.prog.cellsOf 56 = 34 := by kernel_rfl
theorem c20 : Tryd.prog.cellsOf 73 = 20 := by kernel_rfl
theorem cStr : Tryd.prog.cellsOf 9 = 1 := by kernel_rfl
theorem cU64 : Tryd.prog.cellsOf 47 = 1 := by kernel_rfl

def laid4 : List (String × DataW Unit) := [("math/bits.deBruijn32tab", Rows.laid_math_bits_deBruijn32tab), ("math/bits.deBruijn64tab", Rows.laid_math_bits_deBruijn64tab), ("internal/strconv.uint64pow10", Rows.laid_internal_strconv_uint64pow10), ("wafer/code.names", Rows.laid_wafer_code_names)]

theorem tabs_of_laid {W : World} (h : laidMetH Tryd.prog laid4 W) : Tabs W := by
  rw [MakeChecks.laidMetH_plain _ _ _ (by kernel_rfl)] at h
  obtain ⟨ps, ⟨g0, t0, cs0, f0, p0, q0, _, _, _, _, ⟨g1, t1, cs1, f1, p1, q1, _, _, _, _, ⟨g2, t2, cs2, f2, p2, q2, hg2, ht2, hv2, hd2, ⟨g3, t3, cs3, f3, p3, q3, hg3, ht3, hv3, hd3, _, _⟩, _⟩, _⟩, _⟩, _, _⟩ := h
  obtain rfl := Option.some.inj (powG.symm.trans hg2)
  obtain rfl := Option.some.inj (gNam.symm.trans hg3)
  obtain rfl := Option.some.inj (tPow.symm.trans ht2)
  obtain rfl := Option.some.inj (tNam.symm.trans ht3)
  have e2 : (Rows.laid_internal_strconv_uint64pow10 : DataW Unit) = Lib.tabData .u64 Lib.pow10Tab := rfl
  have e3 : (Rows.laid_wafer_code_names : DataW Unit) = strData namTab := rfl
  rw [e2] at hd2
  rw [e3] at hd3
  have k2 := Lib.cells_of_tab Tryd.underlying73 Tryd.underlying47 cU64 c20 hd2
  have k3 := cells_of_strs Tryd.underlying56 Tryd.underlying9 cStr c34 hd3
  refine ⟨?_, ?_, fun o ho => ?_⟩
  · unfold Lib.TabIs
    rw [hv2, ← k2]
  · unfold World.var? at hv2
    rw [powG, Option.bind_some] at hv2
    by_cases hlt : 1 < W.heap.size
    · exact hlt
    · rw [Array.getElem?_eq_none (by omega)] at hv2
      cases hv2
  · have := World.var?_cell hg3 hv3 o
    rw [this, ← Array.getElem?_toList, k3]
    have hl : namTab.length = 34 := rfl
    unfold namT
    simp [hl, ho, List.getD]

theorem door_met (os : Os) (args : Array Value) : laidMetH Tryd.prog laid4 ((World.doorLaid Tryd.prog 400 os).forCall (fun _ _ => 0) ⟨#[], args, []⟩).memory :=
  laidMetH_of_parts3 (fuel := 8) (laidMet_of_run' 8 (by kernel_rfl) (by kernel_rfl)) (by kernel_rfl) (by kernel_rfl)

/-- An instruction as an argument, opened and shut. -/
theorem open_cod {H : Type} {enc : TypeId × Value → H} {W : World} {r : Reach} {b0 base : Nat} {sp : Nat → Bool} {held : Bool} {v : Value} {d : DataW H} {p : List MemPlace}
    (hv : Value.okWide Tryd.prog W r b0 26 v) (h : DataW.Trod enc Tryd.prog W base sp held 26 v d p) :
    ∃ (op k : Int), v = .agg #[.int .i64 op, .int .i32 k] ∧ d = .agg [.lit (.int .i64 op), .lit (.int .i32 k)] ∧ p = [] ∧ (Lit.int .i64 op).wf = true ∧ (Lit.int .i32 k).wf = true := by
  obtain ⟨v0, v1, y0, y1, n, rfl, rfl, rfl, t0, t1⟩ := open_agg2 Tryd.underlying26 (by kernel_rfl) (by kernel_rfl) hv h
  obtain ⟨op, e0, rfl, w0⟩ := DataW.trod_int Tryd.underlying3 t0
  obtain ⟨k, e1, rfl, w1⟩ := DataW.trod_int Tryd.underlying21 t1
  simp only [List.cons.injEq, and_true] at e0 e1
  subst e0 e1
  exact ⟨op, k, rfl, rfl, rfl, w0, w1⟩
theorem shut_cod {H : Type} {enc : TypeId × Value → H} {W : World} {base : Nat} {sp : Nat → Bool} {held : Bool} {op k : Int} (h0 : (Lit.int .i64 op).wf = true) (h1 : (Lit.int .i32 k).wf = true) :
    DataW.Trod enc Tryd.prog W base sp held 26 (.agg #[.int .i64 op, .int .i32 k]) (.agg [.lit (.int .i64 op), .lit (.int .i32 k)]) [] :=
  shut_agg2 (y0 := (.lit (.int .i64 op), [])) (y1 := (.lit (.int .i32 k), [])) Tryd.underlying26 (by kernel_rfl) (by kernel_rfl) ⟨1, by simp [DataW.trod, Tryd.underlying3, h0]⟩ ⟨1, by simp [DataW.trod, Tryd.underlying21, h1]⟩

/-- Instructions as an argument, as the walks want them. -/
theorem cods_of {H : Type} {enc : TypeId × Value → H} {W : World} {a0 : Option Addr} {n cap : Nat} {d0 : DataW H} {p0 : List MemPlace}
    (h : ∃ fuel, DataW.trod enc Tryd.prog W 0 (fun _ => true) true fuel 22 (Value.slice a0 n cap).cells.toList = some (d0, p0)) :
    ∃ (b : Nat) (L : List Cod), L.length = n ∧ CSrc W b (.slice a0 n cap) L ∧ ∀ c ∈ L, c.Fits := by
  obtain ⟨fuel, hf⟩ := h
  have hce : Tryd.prog.cellsOf 26 = 2 := by kernel_rfl
  rcases open_slice_pairs Tryd.underlying22 Tryd.underlying26 hce rfl rfl (by kernel_rfl) (by kernel_rfl) hf with ⟨hcs, _⟩ | ⟨a, len, c, m, k, V0, V1, D0, D1, P0, P1, hcs, _, hl, hm, hmm, hx, hc⟩
  · simp [Value.cells] at hcs
    obtain ⟨rfl, rfl, rfl⟩ := hcs
    exact ⟨0, [], rfl, ⟨none, 0, 0, rfl, Nat.le_refl _, Nat.zero_le _, fun h => by simp at h, fun k c hk => by simp at hk⟩, nofun⟩
  · simp [Value.cells] at hcs
    obtain ⟨rfl, rfl, rfl⟩ := hcs
    have hm2 : m = cap := by simpa using hmm
    subst hm2
    have each : ∀ i, i < n → ∃ y : Cod, y.Fits ∧ W.cell? (a.add (i * 2)) = some (.int .i64 y.op) ∧ W.cell? (a.add (i * 2 + 1)) = some (.int .i32 y.k) := by
      intro i hi
      obtain ⟨c0, c1, t0, t1⟩ := hc i (by omega)
      obtain ⟨op, e0, _, w0⟩ := DataW.trod_int Tryd.underlying3 t0
      obtain ⟨kk, e1, _, w1⟩ := DataW.trod_int Tryd.underlying21 t1
      simp only [List.cons.injEq, and_true] at e0 e1
      rw [e0] at c0
      rw [e1] at c1
      have b0 := bounds_i64 w0
      have b1 := bounds_i32 w1
      exact ⟨⟨op, kk⟩, ⟨⟨b0.1, b0.2⟩, b1.1, b1.2⟩, c0, c1⟩
    have hspot : 0 < n → a = ⟨a.block, a.off, none⟩ := by
      intro h0
      obtain ⟨y, _, h1, _⟩ := each 0 h0
      have := spot_of_cell h1
      rw [show a.add (0 * 2) = a by simp [Addr.add]] at this
      rw [← this]
    obtain ⟨g, hg⟩ := choose_lt (fun i (hi : i < n) => each i hi)
    refine ⟨a.block, (List.range n).map g, by simp, ⟨some a, m, a.off, by simp, by simpa using hl, hm, fun h0 => by rw [← hspot (by simpa using h0)], ?_⟩, ?_⟩
    · intro i x hi
      have hin : i < n := by
        have := (List.getElem?_eq_some_iff.1 hi).1
        simpa using this
      simp only [List.getElem?_map, List.getElem?_range hin, Option.map_some, Option.some.injEq] at hi
      subst hi
      obtain ⟨_, h1, h2⟩ := hg i hin
      rw [hspot (by omega), M.addr_add] at h1 h2
      exact ⟨h1, by rw [Nat.add_assoc]; exact h2⟩
    · intro c hc
      simp only [List.mem_map, List.mem_range] at hc
      obtain ⟨i, hi, rfl⟩ := hc
      exact (hg i hi).1
end Go.Proofs.YtipdfgkemghmoaaDoor
