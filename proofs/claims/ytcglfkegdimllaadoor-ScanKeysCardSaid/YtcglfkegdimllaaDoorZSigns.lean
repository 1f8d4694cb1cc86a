/- The walk of the law ScanSigns. -/
import Derived.Test.YtcglfkegdimllaaDoorZKnow
set_option linter.unusedSimpArgs false
set_option linter.unusedVariables false
namespace Go.Proofs.YtcglfkegdimllaaDoor
open Go.RowKit M

theorem toldB (s : ByteArray) (h : s.size ≤ 900000) (w : World) (hA : Asc w) :
    Calls Tryd.prog 14 #[.string s] w fun e w' => e = .returned (.bool true) ∧ Only Nil w w' := told_any s s.size rfl h w hA
/-- A byte of a row. -/
theorem Row.at {w : World} {ao : Option Addr} {n cap : Nat} {B : List Nat} (h : Row w (.slice ao n cap) B) (hn : B.length = n) (h0 : 0 < n) : ∃ b off, ao = some ⟨b, off, none⟩ ∧ cap ≤ maxLen ∧ n ≤ cap ∧ ∀ k, k < n → w.cell? ⟨b, off + k, none⟩ = some (.int .u8 (B.getD k 0 : Nat)) ∧ B.getD k 0 < 256 := by
  obtain ⟨b, ao', cap', off, e, h1, h2, h3, h4, h5, h6⟩ := h
  simp only [Value.slice.injEq] at e
  obtain ⟨rfl, _, rfl⟩ := e
  refine ⟨b, off, h3 (by omega), h2, by omega, fun k hk => ?_⟩
  have hk2 : k < B.length := by omega
  have e : B.getD k 0 = B[k] := by simp [List.getD, hk2]
  rw [e]
  exact ⟨h5 k _ (by unfold U8s; rw [List.getElem?_map, List.getElem?_eq_getElem hk2]; rfl), h6 _ (List.getElem_mem hk2)⟩

theorem sig_ext (k : Nat) (h : k < 22) : (sigStr.extract k (k + 1)).size = 1 := by
  rw [← size_list, ext_list, List.length_take, List.length_drop, size_list, show sigStr.size = 22 from rfl]; omega

set_option maxRecDepth 10000 in
set_option maxHeartbeats 1600000 in
theorem signs_any (ao : Option Addr) (n cap : Nat) (B : List Nat) (w : World) (hr : Row w (.slice ao n cap) B) (hn : B.length = n) (hA : Asc w) :
    Calls Tryd.prog 10 #[.slice ao n cap] w fun e w' => e = .returned (.bool true) ∧ Only Nil w w' := by
  have cK := known11 w hA
  by_cases h40 : 40 < n
  · have t1 : (40 : Int) < (n : Int) := by omega
    clear hr hn
    go_enter Tryd.func10, Tryd.ntmps10
    go_wp2_with fail
    refine cK.mono ?_
    rintro e w1 ⟨rfl, ho1⟩
    clear cK
    go_wp2_with fail
    go_ret
    exact ⟨rfl, ho1⟩
  · have t1 : decide ((40 : Int) < (n : Int)) = false := by simp; omega
    go_enter Tryd.func10, Tryd.ntmps10
    go_wp2_with fail
    refine cK.mono ?_
    rintro e w1 ⟨rfl, ho1⟩
    clear cK
    have hA1 := hA.kept ho1
    have HR := Lib.hid (hr.kept ho1)
    have HA := Lib.hid hA1
    have HO := Lib.hid ho1
    have HN := Lib.hid hn
    clear hr hA hA1 hn ho1
    go_wp2_with fail
    go_loopg [3, 4] n (fun g s i wr => wr = w1 ∧ ∃ (j : Nat) (z : ByteArray), i = .int .i64 (j : Int) ∧ s = .string z ∧ z.size = j ∧ j ≤ n ∧ g = n - j)
    case atStart => exact ⟨rfl, 0, ⟨#[]⟩, rfl, rfl, rfl, Nat.zero_le _, rfl⟩
    case round =>
      obtain ⟨rfl, j, z, rfl, rfl, hz, hj, hg⟩ := hrel
      have HG := Lib.hid hg
      clear hg
      have j0 : (0 : Int) ≤ (j : Int) := Int.natCast_nonneg _
      by_cases hjn : j < n
      · have j1 : (j : Int) < (n : Int) := by omega
        obtain ⟨b, off, rfl, h2, h3, h4⟩ := HR.out.at HN.out (by omega)
        obtain ⟨c0, c1⟩ := h4 j hjn
        obtain ⟨x, hx⟩ : ∃ x, B.getD j 0 = x := ⟨_, rfl⟩
        rw [hx] at c0 c1
        clear hx h4 h2
        have hlt := World.block_lt_of_cell? wr _ c0
        simp only at hlt
        go_wp2_with fail
        go_roundg (n - (j + 1))
        case measure => have := HG.out; omega
        case rel =>
          refine ⟨rfl, j + 1, _, by go_num, rfl, ?_, by omega, rfl⟩
          have h1 := sig_ext (x % 22) (Nat.mod_lt _ (by decide))
          rw [ByteArray.size_append, hz]
          unfold sigStr at h1
          rw [h1]
      · have hjn' : j = n := by omega
        subst hjn'
        clear HR HN HG
        go_wp2_with fail
        refine (toldB _ (by omega) _ HA.out).mono ?_
        rintro e w2 ⟨rfl, ho2⟩
        have hA2 := HA.out.kept ho2
        go_wp2_with fail
        refine (toldB _ (by rw [ByteArray.size_append]; show z.size + 2 ≤ _; omega) _ hA2).mono ?_
        rintro e w3 ⟨rfl, ho3⟩
        have hA3 := hA2.kept ho3
        go_wp2_with fail
        refine (toldB _ (by rw [ByteArray.size_append, ByteArray.size_append]; show 1 + z.size + 1 ≤ _; omega) _ hA3).mono ?_
        rintro e w4 ⟨rfl, ho4⟩
        have HO4 := Lib.hid (((HO.out.trans ho2 (fun _ _ h => h)).trans ho3 (fun _ _ h => h)).trans ho4 (fun _ _ h => h))
        go_wp2_with fail
        go_ret
        exact ⟨rfl, HO4.out⟩
end Go.Proofs.YtcglfkegdimllaaDoor
