/- Symbols: texts between quotes, the program's. -/
import Derived.Test.YtbpdhpfcknaaiaaDoorZTok
set_option linter.unusedSimpArgs false
set_option linter.unusedVariables false
namespace Go.Proofs.YtbpdhpfcknaaiaaDoor
open Go.RowKit M

set_option maxRecDepth 10000 in
set_option maxHeartbeats 1600000 in
theorem text_any (s : ByteArray) (n : Nat) (hn : s.size = n) (h0 : 0 < n) (hb : n ≤ 1000000) (w : World) :
    Calls Tryd.prog 36 #[.string s] w fun e w' => e = .returned (symV s (quoS (tx s) 0)) ∧ Only Nil w w' := by
  have e1 : (tx s).n = n := hn
  have hE : strEnd (tx s) 1 = upto (fun j => strB (bt s j)) (n - 1) 1 := by unfold strEnd; rw [e1]; rfl
  obtain ⟨E, hEE⟩ : ∃ E, strEnd (tx s) 1 = E := ⟨_, rfl⟩
  have hR : quoS (tx s) 0 = if n ≤ E ∨ bt s E ≠ 34 then .error 30 else if 120 < E - 0 - 1 then .error 34 else .ok ⟨4, 0, E + 1, 1, E, 0⟩ := by unfold quoS; simp only [Nat.zero_add, hEE, e1]; rfl
  rw [hEE] at hE
  obtain ⟨R, hRR⟩ : ∃ R, quoS (tx s) 0 = R := ⟨_, rfl⟩
  rw [hRR] at hR ⊢
  have HR := Lib.hid hR
  have HE := Lib.hid hE
  clear hE hEE hR hRR e1
  go_enter Tryd.func36, Tryd.ntmps36
  go_wp2_with fail
  have hB0 := Blk.new w #[Value.int .i64 0, .int .i64 0, .int .i64 0, .string ⟨#[]⟩, .int .i32 0] 35
  have ho0 : Only Nil w (w.alloc (.cells #[Value.int .i64 0, .int .i64 0, .int .i64 0, .string ⟨#[]⟩, .int .i32 0] 35)) := (Only.refl _ _).alloc _
  obtain ⟨w1, hw1⟩ : ∃ w1, w.alloc (.cells #[Value.int .i64 0, .int .i64 0, .int .i64 0, .string ⟨#[]⟩, .int .i32 0] 35) = w1 := ⟨_, rfl⟩
  rw [hw1] at hB0 ho0 ⊢
  obtain ⟨rb, hrb⟩ : ∃ rb, w.heap.size = rb := ⟨_, rfl⟩
  rw [hrb] at hB0 ⊢
  clear hw1
  go_loopg [4] (n - 1) (fun g i wr => wr = w1 ∧ ∃ (j : Nat), i = .int .i64 (j : Int) ∧ 1 ≤ j ∧ j ≤ n ∧ g = n - j ∧ upto (fun j => strB (bt s j)) g j = E)
  case atStart => exact ⟨rfl, 1, rfl, by omega, by omega, rfl, HE.out.symm⟩
  case round =>
    obtain ⟨rfl, j, rfl, hj1, hj, hg, hc⟩ := hrel
    have HG := Lib.hid hg
    have HO := Lib.hid ho0
    obtain ⟨⟨z0, z1, z2, z3, z4⟩, y0, y1, y2, y3, y4⟩ := hB0.five
    clear hg HE ho0
    have j0 : (0 : Int) ≤ (j : Int) := Int.natCast_nonneg _
    by_cases hjn : j < n
    · have j1 : (j : Int) < (n : Int) := by omega
      have j2 : (j : Int) ≤ (n : Int) := by omega
      have j3 : (1 : Int) ≤ (j : Int) := by omega
      have jn : ((j : Int) == (n : Int)) = false := not_beq (by omega)
      have ix := fun w => ix_at s n j hn hjn w
      obtain ⟨g, rfl⟩ : ∃ g', gk = g' + 1 := ⟨gk - 1, by have := HG.out; omega⟩
      rw [upto] at hc
      obtain ⟨c, hcc⟩ : ∃ c, bt s j = c := ⟨_, rfl⟩
      have HCC := Lib.hid hcc
      rw [hcc] at ix hc
      clear hcc
      by_cases k1 : 32 ≤ c
      · have k1' : (32 : Int) ≤ (c : Int) := by omega
        by_cases k2 : c = 34
        · have k2' : ((c : Int) == 34) = true := by rw [k2]; rfl
          have hc' : j = E := by rw [if_neg (by unfold strB; simp [k2])] at hc; exact hc
          subst hc'
          clear hc
          have e := HR.out
          rw [if_neg (by rw [HCC.out]; omega)] at e
          by_cases hE : 120 < j - 0 - 1
          · rw [if_pos hE] at e
            have hE' : (120 : Int) < (j : Int) - 1 := by omega
            have HEE := Lib.hid e
            clear e k2 HR
            go_wp2_with fail
            refine bodyPost_ret (results_row_tmp rfl _ _ rb 35 _ (0, 0) _ _ rfl rfl (hB0.put5 _ _ _ _ _) Tryd.underlying35 rfl (by kernel_rfl)) rfl ?_
            exact ⟨retNo (s := s) (e := 34) HEE.out, HO.out.put5 (Nat.le_of_eq hrb) _ _ _ _ _⟩
          · rw [if_neg hE] at e
            have hE' : ¬ (120 : Int) < (j : Int) - 1 := by omega
            have HEE := Lib.hid e
            clear e k2 HR
            go_wp2_with fail
            refine bodyPost_ret (results_row_tmp rfl _ _ rb 35 _ (0, 0) _ _ rfl rfl (hB0.put5 _ _ _ _ _) Tryd.underlying35 rfl (by kernel_rfl)) rfl ?_
            exact ⟨retTok (s := s) (x := ⟨4, 0, j + 1, 1, j, 0⟩) HEE.out, HO.out.put5 (Nat.le_of_eq hrb) _ _ _ _ _⟩
        · have k2' : ((c : Int) == 34) = false := not_beq (by omega)
          rw [if_pos (by unfold strB; simp [k1, k2])] at hc
          have HC := Lib.hid hc
          clear hc
          go_wp2_with fail
          go_roundg g
          case measure => exact Nat.lt_succ_self _
          case rel => exact ⟨rfl, j + 1, by go_num, by omega, by omega, by have := HG.out; omega, HC.out⟩
      · have k1' : ¬ (32 : Int) ≤ (c : Int) := by omega
        have k2' : ((c : Int) == 34) = false := not_beq (by omega)
        have hc' : j = E := by rw [if_neg (by unfold strB; simp; omega)] at hc; exact hc
        subst hc'
        clear hc
        have e := HR.out
        rw [if_pos (by rw [HCC.out]; omega)] at e
        have HEE := Lib.hid e
        clear e HR
        go_wp2_with fail
        refine bodyPost_ret (results_row_tmp rfl _ _ rb 35 _ (0, 0) _ _ rfl rfl (hB0.put5 _ _ _ _ _) Tryd.underlying35 rfl (by kernel_rfl)) rfl ?_
        exact ⟨retNo (s := s) (e := 30) HEE.out, HO.out.put5 (Nat.le_of_eq hrb) _ _ _ _ _⟩
    · have hjn' : j = n := by omega
      subst hjn'
      have hg0 : gk = 0 := by have := HG.out; omega
      subst hg0
      have hc' : j = E := hc
      subst hc'
      clear hc
      have e := HR.out
      rw [if_pos (.inl (Nat.le_refl _))] at e
      have HEE := Lib.hid e
      clear e HR
      go_wp2_with fail
      refine bodyPost_ret (results_row_tmp rfl _ _ rb 35 _ (0, 0) _ _ rfl rfl (hB0.put5 _ _ _ _ _) Tryd.underlying35 rfl (by kernel_rfl)) rfl ?_
      exact ⟨retNo (s := s) (e := 30) HEE.out, HO.out.put5 (Nat.le_of_eq hrb) _ _ _ _ _⟩
end Go.Proofs.YtbpdhpfcknaaiaaDoor
