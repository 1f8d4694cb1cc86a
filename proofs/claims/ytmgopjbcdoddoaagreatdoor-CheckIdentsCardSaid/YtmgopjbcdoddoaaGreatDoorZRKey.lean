/- Symbols: is a text a keyword? The document's. -/
import Derived.Test.YtmgopjbcdoddoaaGreatDoorZKeys
set_option linter.unusedSimpArgs false
set_option linter.unusedVariables false
namespace Go.Proofs.YtmgopjbcdoddoaaGreatDoor
open Go.RowKit M

theorem kwB_iff (y : ByteArray) : kwB y = true ↔ ∃ j, j < 33 ∧ kwZ.getD j ByteArray.empty = y := by
  unfold kwB
  rw [Lib.containsS_iff]
  constructor
  · intro h
    obtain ⟨i, hi, hh⟩ := List.getElem_of_mem h
    exact ⟨i, hi, by rw [List.getD_eq_getElem?_getD, List.getElem?_eq_getElem hi, Option.getD_some]; exact hh⟩
  · rintro ⟨j, hj, rfl⟩
    rw [List.getD_eq_getElem?_getD, List.getElem?_eq_getElem (by rw [kwZ_len]; exact hj), Option.getD_some]
    exact List.getElem_mem _
theorem eq_list {a b : ByteArray} : (a.toList == b.toList) = decide (a = b) := by
  rw [Bool.eq_iff_iff, beq_iff_eq, decide_eq_true_eq, Lib.toList_data, Lib.toList_data]
  constructor
  · intro h; exact ByteArray.ext (Array.toList_inj.1 h)
  · rintro rfl; rfl

set_option maxRecDepth 10000 in
set_option maxHeartbeats 1600000 in
theorem keywordR_any (y : ByteArray) (w : World) : Calls Tryz.prog 11 #[.string y] w fun e w' => e = .returned (.bool (kwB y)) ∧ Only Nil w w' := by
  have HH := Lib.hid (kwB_iff y)
  go_enter Tryz.func11, Tryz.ntmps11
  go_wp2_with fail
  refine (keywordsR_any w).mono ?_
  rintro e w1 ⟨rfl, hw1⟩
  have hK : Blk w1 w.heap.size kwC 9 := by rw [hw1]; exact Blk.new w _ _
  have ho1 : Only Nil w w1 := by rw [hw1]; exact (Only.refl _ _).alloc _
  obtain ⟨kb, hkb⟩ : ∃ kb, w.heap.size = kb := ⟨_, rfl⟩
  rw [hkb] at hK ⊢
  clear hw1
  go_wp2_with fail
  go_loopg [4] 33 (fun g i wr => wr = w1 ∧ ∃ (j : Nat), i = .int .i64 (j : Int) ∧ j ≤ 33 ∧ g = 33 - j ∧ ∀ k, k < j → ¬ kwZ.getD k ByteArray.empty = y)
  case atStart => exact ⟨rfl, 0, rfl, by omega, rfl, fun k hk => by omega⟩
  case round =>
    obtain ⟨rfl, j, rfl, hj, hg, hc⟩ := hrel
    have HG := Lib.hid hg
    have HC := Lib.hid hc
    have HO := Lib.hid ho1
    clear hg hc ho1
    have j0 : (0 : Int) ≤ (j : Int) := Int.natCast_nonneg _
    by_cases hj2 : j < 33
    · have j1 : (j : Int) < 33 := by omega
      have c0 : wr.cell? ⟨kb, j, none⟩ = some (.string (kwZ.getD j ByteArray.empty)) := by rw [hK.cell, kw_get j hj2]
      have hlt := hK.lt
      obtain ⟨z, hz⟩ : ∃ z, kwZ.getD j ByteArray.empty = z := ⟨_, rfl⟩
      rw [hz] at c0
      have HZ := Lib.hid hz
      clear hz hK
      by_cases g : z = y
      · have e : kwB y = true := HH.out.2 ⟨j, hj2, by rw [HZ.out, g]⟩
        have HE := Lib.hid e
        subst g
        clear e
        go_wp2_with fail
        go_ret
        exact ⟨retB HE.out.symm, HO.out⟩
      · have g1 : (z.toList == y.toList) = false := by rw [eq_list]; simpa using g
        have HGG := Lib.hid g
        clear g
        go_wp2_with fail
        go_roundg (33 - (j + 1))
        case measure => have := HG.out; omega
        case rel =>
          refine ⟨rfl, j + 1, by go_num, by omega, rfl, fun k hk => ?_⟩
          by_cases e : k = j
          · rw [e, HZ.out]; exact HGG.out
          · exact HC.out k (by omega)
    · have e : kwB y = false := by
        rw [Bool.eq_false_iff]
        intro h
        obtain ⟨i, hi, h2⟩ := HH.out.1 h
        exact HC.out i (by omega) h2
      have HE := Lib.hid e
      have hj3 : j = 33 := by omega
      subst hj3
      clear e
      go_wp2_with fail
      go_ret
      exact ⟨retB HE.out.symm, HO.out⟩
end Go.Proofs.YtmgopjbcdoddoaaGreatDoor
