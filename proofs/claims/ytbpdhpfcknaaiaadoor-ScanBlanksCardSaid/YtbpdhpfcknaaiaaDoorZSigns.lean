/- Symbols: the example that each law begins with. -/
import Derived.Test.YtbpdhpfcknaaiaaDoorZTold2
set_option linter.unusedSimpArgs false
set_option linter.unusedVariables false
namespace Go.Proofs.YtbpdhpfcknaaiaaDoor
open Go.RowKit M

def exS : ByteArray := ⟨#[77, 79, 68, 85, 76, 69, 32, 120, 32, 40, 42, 32, 121, 32, 42, 41, 32, 48, 70, 70, 72]⟩
def exL : List Tk := [⟨6, 0, 6, 0, 6, 0⟩, ⟨1, 7, 8, 7, 8, 0⟩, ⟨2, 17, 21, 17, 17, 255⟩, ⟨0, 21, 21, 21, 21, 0⟩]
set_option maxRecDepth 100000 in
theorem ex_ok : allS exS = .ok exL := by kernel_rfl
set_option maxRecDepth 100000 in
theorem ex_no : allS ⟨#[63]⟩ = .error (0, 30) := by kernel_rfl
theorem ex_x : exS.extract 7 8 = ⟨#[120]⟩ := by kernel_rfl

set_option maxRecDepth 100000 in
set_option maxHeartbeats 1600000 in
theorem known11 (w : World) (hA : Asc w) : Calls Tryd.prog 5 #[] w fun e w' => e = .returned (.bool true) ∧ Only Nil w w' := by
  have c1 := all_any exS 21 rfl (by decide) w hA
  have c2 := fun w h => all_any ⟨#[63]⟩ 1 rfl (by decide) w h
  have c3 := fun w h => keywords_any w h
  rw [ex_ok] at c1
  simp only [ex_no] at c2
  have C1 := Lib.hid c1
  clear c1
  go_enter Tryd.func5, Tryd.ntmps5
  go_wp2_with fail
  refine C1.out.mono ?_
  rintro e w1 ⟨⟨v1, rfl, hown1⟩, ho1⟩
  go_wp2_with fail
  refine (c2 _ (hA.kept ho1)).mono ?_
  rintro e w2 ⟨⟨b, rfl, d0, d1⟩, ho2⟩
  have hA2 := (hA.kept ho1).kept ho2
  go_wp2_with fail
  refine (c3 _ hA2).mono ?_
  rintro e w3 ⟨rfl, hw3⟩
  have ho3 : Only Nil w2 w3 := by rw [hw3]; exact (Only.refl _ _).alloc _
  have HO := Lib.hid ((ho1.trans ho2 (fun _ _ h => h)).trans ho3 (fun _ _ h => h))
  obtain ⟨tb, hT⟩ : ∃ tb, TSrc w3 tb v1 exS exL := ⟨_, ((TSrc.of_own hown1).kept ho2).kept ho3⟩
  clear hown1
  obtain ⟨ao, cap, off, rfl, h2, h3, h4, h5⟩ := hT
  rw [show exL.length = 4 from rfl] at *
  have q0 := ho3.cell d0 (fun h => h)
  have q1 := ho3.cell d1 (fun h => h)
  obtain rfl := h4 (by decide)
  obtain ⟨a0, a1, a2, a3, a4⟩ := h5 0 _ rfl
  obtain ⟨b0, b1, b2, b3, b4⟩ := h5 1 _ rfl
  obtain ⟨c0, c1, c2', c3', c4⟩ := h5 2 _ rfl
  obtain ⟨e0, e1, e2, e3, e4⟩ := h5 3 _ rfl
  rw [ex_x] at b3
  simp only [Nat.zero_mul, Nat.one_mul, Nat.add_zero] at a0 b3 c4 e0
  clear C1 c2 c3 hA hA2 ho1 ho2 ho3 hw3 d0 d1 h5 a1 a2 a3 a4 b0 b1 b2 b4 c0 c1 c2' c3' e1 e2 e3 e4 h4
  go_wp2_with fail
  go_ret
  exact ⟨rfl, HO.out⟩
end Go.Proofs.YtbpdhpfcknaaiaaDoor

/- The walk of the law ScanSigns. -/
set_option linter.unusedSimpArgs false
set_option linter.unusedVariables false
namespace Go.Proofs.YtbpdhpfcknaaiaaDoor
open Go.RowKit M

theorem toldB (s : ByteArray) (h : s.size ≤ 900000) (w : World) (hA : Asc w) :
    Calls Tryd.prog 7 #[.string s] w fun e w' => e = .returned (.bool true) ∧ Only Nil w w' := told_any s s.size rfl h w hA
/-- A byte of a row. -/
theorem Row.at {w : World} {ao : Option Addr} {n cap : Nat} {B : List Nat} (h : Row w (.slice ao n cap) B) (hn : B.length = n) (h0 : 0 < n) : ∃ b off, ao = some ⟨b, off, none⟩ ∧ cap ≤ maxLen ∧ n ≤ cap ∧ ∀ k, k < n → w.cell? ⟨b, off + k, none⟩ = some (.int .u8 (B.getD k 0 : Nat)) ∧ B.getD k 0 < 256 := by
  obtain ⟨b, ao', cap', off, e, h1, h2, h3, h4, h5, h6⟩ := h
  simp only [Value.slice.injEq] at e
  obtain ⟨rfl, _, rfl⟩ := e
  refine ⟨b, off, h3 (by omega), h2, by omega, fun k hk => ?_⟩
  have hk2 : k < B.length := by omega
  have e : B.getD k 0 = B[k] := by simp [List.getD, hk2]
  rw [e]
  exact ⟨h5 k _ (by unfold U8s; rw [List.getElem?_map, List.getElem?_eq_getElem hk2]; rfl), h6 _ (List.getElem_mem hk2)⟩

theorem sig_ext (k : Nat) (h : k < 22) : (sigStr.extract k (k + 1)).size = 1 := by
  rw [← size_list, ext_list, List.length_take, List.length_drop, size_list, show sigStr.size = 22 from rfl]; omega

end Go.Proofs.YtbpdhpfcknaaiaaDoor

