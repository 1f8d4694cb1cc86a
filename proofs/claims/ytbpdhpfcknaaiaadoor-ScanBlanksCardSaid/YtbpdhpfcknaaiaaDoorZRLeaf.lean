/- Symbols: the document's small functions. -/
import Derived.Test.YtbpdhpfcknaaiaaDoorZNumb
set_option linter.unusedSimpArgs false
set_option linter.unusedVariables false
namespace Go.Proofs.YtbpdhpfcknaaiaaDoor
open Go.RowKit M

def hexI (c : Nat) : Int := if hexB c then (hexV c : Int) else -1
theorem retI {a b : Int} (h : a = b) : Ending.returned (.int .i64 a) = .returned (.int .i64 b) := by rw [h]
set_option maxHeartbeats 1600000 in
theorem hexR_any (c : Nat) (w : World) : Calls Tryd.prog 45 #[.int .u8 c] w fun e w' => e = .returned (.int .i64 (hexI c)) ∧ w = w' := by
  have cD := fun w => digit_any c w
  obtain ⟨q, hq⟩ : ∃ q, digB c = q := ⟨_, rfl⟩
  rw [hq] at cD
  cases q
  · by_cases k1 : 65 ≤ c
    · by_cases k2 : c ≤ 70
      · obtain ⟨d, hd⟩ : ∃ d, hexV c = d := ⟨_, rfl⟩
        have hx : hexB c = true := by unfold hexB; simp [k1, k2]
        obtain ⟨h1, h2⟩ := let_c c d hd hx hq
        have hd16 := hexV_lt c hx
        rw [hd] at hd16
        obtain ⟨e, w3, w4, w5⟩ := let_w c d h1 hd16 h2
        have hI : hexI c = (d : Int) := by unfold hexI; rw [if_pos hx, hd]
        have HI := Lib.hid hI
        clear hI hx hd h1 h2 hd16 hq
        go_enter Tryd.func45, Tryd.ntmps45
        go_wp2_with (go_at_call 24; refine (cD _).mono ?_; rintro e' w1 ⟨rfl, rfl⟩)
        go_ret
        rw [HI.out]
        exact ⟨retI (by first | rfl | assumption), rfl⟩
      · have hI : hexI c = -1 := by unfold hexI hexB; rw [hq]; simp [k2]
        have k2' : decide (c ≤ 70) = false := by simpa using k2
        rw [hI]
        clear hI hq
        go_enter Tryd.func45, Tryd.ntmps45
        go_wp2_with (go_at_call 24; refine (cD _).mono ?_; rintro e' w1 ⟨rfl, rfl⟩)
        go_ret
        exact ⟨rfl, rfl⟩
    · have hI : hexI c = -1 := by unfold hexI hexB; rw [hq]; simp [k1]
      have k1' : decide (65 ≤ c) = false := by simpa using k1
      rw [hI]
      clear hI hq
      go_enter Tryd.func45, Tryd.ntmps45
      go_wp2_with (go_at_call 24; refine (cD _).mono ?_; rintro e' w1 ⟨rfl, rfl⟩)
      go_ret
      exact ⟨rfl, rfl⟩
  · obtain ⟨d, hd⟩ : ∃ d, hexV c = d := ⟨_, rfl⟩
    obtain ⟨h1, h2⟩ := dig_c c d hd hq
    have w3 : IntKind.u8.wrap ((c : Int) - 48) = (d : Int) := by rw [h1, show (48 + (d : Int) - 48) = (d : Int) by omega]; exact w8 _ (by omega)
    have w6 := w64d d (by omega)
    have hI : hexI c = (d : Int) := by unfold hexI; rw [if_pos (by unfold hexB; rw [hq]; rfl), hd]
    rw [hI]
    clear hI hd h1 h2 hq
    go_enter Tryd.func45, Tryd.ntmps45
    go_wp2_with (go_at_call 24; refine (cD _).mono ?_; rintro e' w1 ⟨rfl, rfl⟩)
    go_ret
    exact ⟨retI w6, rfl⟩

def sigStr : ByteArray := ⟨#[43, 45, 42, 47, 38, 126, 61, 35, 60, 62, 46, 44, 59, 58, 40, 41, 91, 93, 123, 125, 94, 124]⟩
theorem sig_has (c : Nat) : sigB c = true ↔ ∃ i, i < 22 ∧ bt sigStr i = c := by
  have h : ∀ i : Fin 22, bt sigStr i.val = [43, 45, 42, 47, 38, 126, 61, 35, 60, 62, 46, 44, 59, 58, 40, 41, 91, 93, 123, 125, 94, 124].getD i.val 0 := by decide
  constructor
  · intro hs
    unfold sigB at hs
    rw [List.contains_iff_mem] at hs
    obtain ⟨i, hi, hh⟩ := List.getElem_of_mem hs
    refine ⟨i, hi, ?_⟩
    rw [h ⟨i, hi⟩, ← hh]
    simp only [List.getD_eq_getElem?_getD, List.getElem?_eq_getElem hi, Option.getD_some]
  · rintro ⟨i, hi, rfl⟩
    rw [h ⟨i, hi⟩]
    unfold sigB
    rw [List.contains_iff_mem, List.getD_eq_getElem?_getD, List.getElem?_eq_getElem (by exact hi), Option.getD_some]
    exact List.getElem_mem _
set_option maxHeartbeats 1600000 in
theorem has_sig (c : Nat) (w : World) : Calls Tryd.prog 28 #[.string sigStr, .int .u8 c] w fun e w' => e = .returned (.bool (sigB c)) ∧ w = w' := by
  have hn : sigStr.size = 22 := rfl
  obtain ⟨z, hz⟩ : ∃ z, sigStr = z := ⟨_, rfl⟩
  have HH := Lib.hid (sig_has c)
  rw [hz] at HH hn ⊢
  clear hz
  go_enter Tryd.func28, Tryd.ntmps28
  go_wp2_with fail
  go_loopg [5] 22 (fun g i wr => wr = w ∧ ∃ (j : Nat), i = .int .i64 (j : Int) ∧ j ≤ 22 ∧ g = 22 - j ∧ ∀ k, k < j → ¬ bt z k = c)
  case atStart => exact ⟨rfl, 0, rfl, by omega, rfl, fun k hk => by omega⟩
  case round =>
    obtain ⟨rfl, j, rfl, hj, hg, hc⟩ := hrel
    have HG := Lib.hid hg
    have HC := Lib.hid hc
    clear hg hc
    have j0 : (0 : Int) ≤ (j : Int) := Int.natCast_nonneg _
    by_cases hj2 : j < 22
    · have j1 : (j : Int) < 22 := by omega
      have ix := fun w => ix_at z 22 j hn hj2 w
      by_cases g : bt z j = c
      · rw [g] at ix
        have e : sigB c = true := HH.out.2 ⟨j, hj2, g⟩
        have HE := Lib.hid e
        clear g e
        go_wp2_with fail
        go_ret
        exact ⟨retB HE.out.symm, rfl⟩
      · have g' : ((bt z j : Int) == (c : Int)) = false := not_beq (by omega)
        have g2 : (bt z j == c) = false := by simpa using g
        have HGG := Lib.hid g
        obtain ⟨x, hx⟩ : ∃ x, bt z j = x := ⟨_, rfl⟩
        rw [hx] at ix g' g2
        clear g hx
        go_wp2_with fail
        go_roundg (22 - (j + 1))
        case measure => have := HG.out; omega
        case rel =>
          refine ⟨rfl, j + 1, by go_num, by omega, rfl, fun k hk => ?_⟩
          by_cases e : k = j
          · rw [e]; exact HGG.out
          · exact HC.out k (by omega)
    · have e : sigB c = false := by
        rw [Bool.eq_false_iff]
        intro h
        obtain ⟨i, hi, h2⟩ := HH.out.1 h
        exact HC.out i (by omega) h2
      have HE := Lib.hid e
      have hj3 : j = 22 := by omega
      subst hj3
      clear e
      go_wp2_with fail
      go_ret
      exact ⟨retB HE.out.symm, rfl⟩
end Go.Proofs.YtbpdhpfcknaaiaaDoor
