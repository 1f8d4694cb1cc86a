/- The walk of the law ScanSigns. -/
import Derived.Test.YtbpdhpfcknaaiaaDoorZKnow
set_option linter.unusedSimpArgs false
set_option linter.unusedVariables false
namespace Go.Proofs.YtbpdhpfcknaaiaaDoor
open Go.RowKit M

theorem toldB (s : ByteArray) (h : s.size ≤ 900000) (w : World) (hA : Asc w) :
    Calls Tryd.prog 7 #[.string s] w fun e w' => e = .returned (.bool true) ∧ Only Nil w w' := told_any s s.size rfl h w hA
/-- A byte of a row. -/
theorem Row.at {w : World} {ao : Option Addr} {n cap : Nat} {B : List Nat} (h : Row w (.slice ao n cap) B) (hn : B.length = n) (h0 : 0 < n) : ∃ b off, ao = some ⟨b, off, none⟩ ∧ cap ≤ maxLen ∧ n ≤ cap ∧ ∀ k, k < n → w.cell? ⟨b, off + k, none⟩ = some (.int .u8 (B.getD k 0 : Nat)) ∧ B.getD k 0 < 256 := by
  obtain ⟨b, ao', cap', off, e, h1, h2, h3, h4, h5, h6⟩ := h
  simp only [Value.slice.injEq] at e
  obtain ⟨rfl, _, rfl⟩ := e
  refine ⟨b, off, h3 (by omega), h2, by omega, fun k hk => ?_⟩
  have hk2 : k < B.length := by omega
  have e : B.getD k 0 = B[k] := by simp [List.getD, hk2]
  rw [e]
  exact ⟨h5 k _ (by unfold U8s; rw [List.getElem?_map, List.getElem?_eq_getElem hk2]; rfl), h6 _ (List.getElem_mem hk2)⟩

theorem sig_ext (k : Nat) (h : k < 22) : (sigStr.extract k (k + 1)).size = 1 := by
  rw [← size_list, ext_list, List.length_take, List.length_drop, size_list, show sigStr.size = 22 from rfl]; omega

end Go.Proofs.YtbpdhpfcknaaiaaDoor
