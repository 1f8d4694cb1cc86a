/- The walk of the law RiscBranches. -/
import Derived.Test.YthimhbfglgnohaaKFlags
set_option linter.unusedSimpArgs false
set_option linter.unusedVariables false
namespace Go.Proofs.Ythimhbfglgnohaa
open Go.RowKit M

def lB (a b : Int) (q r k : Nat) : List Ins := [⟨1, false, decide (a < 0), 1, 0, 0, 0, q⟩, ⟨1, false, decide (b < 0), 2, 0, 0, 0, r⟩, ⟨0, false, false, 3, 1, 2, 9, 0⟩, ⟨3, true, false, k, 0, 0, 0, 1⟩, ⟨3, false, true, 7, 0, 12, 0, 1⟩, ⟨3, false, true, 7, 0, 12, 0, 2⟩]
theorem lB_good (a b : Int) (q r k : Nat) (hq : q ≤ 65535) (hr : r ≤ 65535) (hk : k ≤ 15) : ∀ i ∈ lB a b q r k, i.Good := by
  intro i hi
  unfold lB at hi
  simp only [List.mem_cons, List.not_mem_nil, or_false] at hi
  rcases hi with rfl | rfl | rfl | rfl | rfl | rfl
  · exact good1 false _ 1 0 0 _ (by decide) (by decide) (by decide) hq
  · exact good1 false _ 2 0 0 _ (by decide) (by decide) (by decide) hr
  · exact good0 false false 3 1 2 9 (by decide) (by decide) (by decide) (by decide)
  · exact goodB false k hk 1 (by decide) (by decide)
  · unfold Ins.Good; simp
  · unfold Ins.Good; simp
def tblB (a b : Int) (j : Nat) : Bool :=
  match j with
  | 0 => decide (a - b < 0)
  | 1 => decide (a = b)
  | 2 => decide (U a < U b)
  | 3 => false
  | 4 => decide (U a ≤ U b)
  | 5 => decide (a < b)
  | 6 => decide (a ≤ b)
  | _ => true
theorem wanted_tbl (a b : Int) (k : Nat) : wanted a b k = (tblB a b (k % 8) == decide (k < 8)) := rfl

set_option maxRecDepth 20000 in
set_option maxHeartbeats 1600000 in
theorem branchesLaw_any (a b : Int) (c : Nat) (w : World) (a1 : -32768 ≤ a) (a2 : a ≤ 32767) (b1 : -32768 ≤ b) (b2 : b ≤ 32767) (hc : c ≤ 255) :
    Calls Try.prog 9 #[.int .i16 a, .int .i16 b, .int .u8 c] w fun e w' => e = .returned (.bool true) ∧ Only Nil w w' := by
  have cK := known_any w
  obtain ⟨k, hk⟩ : ∃ k, c % 16 = k := ⟨_, rfl⟩
  have hk16 : k < 16 := by omega
  obtain ⟨s1, run1, f1, t1⟩ := branch_run a b k hk16 a1 a2 b1 b2
  have hG := lB_good a b (U a % 65536) (U b % 65536) k (by omega) (by omega) (by omega)
  have hmc : (lB a b (U a % 65536) (U b % 65536) k).map enc = cBranch a b k := rfl
  have ea1 : IntKind.u16.wrap a = ((U a % 65536 : Nat) : Int) := by rw [IntKind.wrap_u16]; unfold U; omega
  have eb1 : IntKind.u16.wrap b = ((U b % 65536 : Nat) : Int) := by rw [IntKind.wrap_u16]; unfold U; omega
  have ea2 : a % 65536 = ((U a % 65536 : Nat) : Int) := by unfold U; omega
  have eb2 : b % 65536 = ((U b % 65536 : Nat) : Int) := by unfold U; omega
  have ek : (c : Int) % 16 = (k : Int) := by omega
  obtain ⟨q, hq⟩ : ∃ q, U a % 65536 = q := ⟨_, rfl⟩
  obtain ⟨r, hr⟩ : ∃ r, U b % 65536 = r := ⟨_, rfl⟩
  rw [hq] at ea1 ea2 hG hmc
  rw [hr] at eb1 eb2 hG hmc
  have lq : q ≤ 65535 := by omega
  have lr : r ≤ 65535 := by omega
  have HMC := Lib.hid hmc
  have HG := Lib.hid hG
  have HR := Lib.hid run1
  have HF := Lib.hid f1
  have HT := Lib.hid t1
  have HK := Lib.hid hk
  clear hG run1 f1 t1 hq hr hmc hk
  go_enter Try.func9, Try.ntmps9
  go_wp2_with fail
  refine cK.mono ?_
  rintro e w1 ⟨rfl, ho1⟩
  clear cK
  go_wp2_with fail
  have hr := insRow_new w1 (lB a b q r k) 49 (Only.refl Nil _) (fun h => h)
  have cP := put_any w1.heap.size (lB a b q r k) 6 _ hr HG.out (Nat.le_of_ble_eq_true rfl) (Nat.le_of_ble_eq_true rfl) (by decide)
  clear hr ea1 ea2 eb1 eb2
  refine cP.mono ?_
  rintro e w2 ⟨sv, rfl, hown2, ho2⟩
  clear cP
  have ho2' : Only Nil w w2 := (ho1.alloc _).trans ho2 (fun _ _ h => h)
  go_wp2_with fail
  have cN := new_any (Q := Nil) (cBranch a b k) [] 0 0 (by decide) (sv.ownBlock.getD 0) 0 sv (.slice none 0 0) w2 (by rw [← HMC.out]; exact Src.of_own hown2) (src_none _ 0) (Nat.le_of_ble_eq_true rfl) (by decide) (by decide) (fun _ h => h.elim)
  refine cN.mono ?_
  rintro e w4 ⟨mb, wb, cv', iv', rfl, hmb, hwb, ho4, hM4⟩
  clear cN hown2
  have ho4' : Only Nil w w4 := ho2'.trans ho4 (fun _ _ h => h)
  have hm4 : w.heap.size ≤ mb := Nat.le_trans ho2'.size hmb
  have hw4 : w.heap.size ≤ wb := Nat.le_trans ho2'.size hwb
  have hs4 : (s0 0 []).Ok := s0_ok 0 [] (by decide) (fun _ h => absurd h List.not_mem_nil)
  have hlt : ∀ x ∈ cBranch a b k, x < 4294967296 := by rw [← HMC.out]; exact map_lt HG.out
  have cR := run_any mb wb none (cBranch a b k) cv' iv' (.slice none 0 0) (s0 0 []) w4 hs4 hlt (Nat.le_of_ble_eq_true rfl) hM4 9 (by decide) (by decide) (by decide) (t := s1) HR.out
  rw [HF.out, HT.out, show ((2 : Nat) : Int) = 2 from rfl] at cR
  clear hM4 ho1 ho2 hlt
  go_wp2_with fail
  refine cR.mono ?_
  rintro e w5 ⟨ob5, iv5, ov5, rv, rfl, hw5, hown5, hM5⟩
  clear cR
  have ho5 := went_fresh ho4' hw5 hm4 hw4
  obtain ⟨ao9, n9, cap9, rfl⟩ := ownsRow_slice hown5
  clear hM5 hown5 hw5 ho4'
  obtain ⟨W, hW⟩ : ∃ W, wanted a b k = W := ⟨_, rfl⟩
  rw [hW]
  have HW := Lib.hid hW
  clear hW
  obtain ⟨j, hj⟩ : ∃ j, k % 8 = j := ⟨_, rfl⟩
  have hj8 : j < 8 := by omega
  have HJ := Lib.hid hj
  have ej : (c : Int) % 8 = (j : Int) := by have := HK.out; omega
  have ua : a % 4294967296 = ((U a : Nat) : Int) := by unfold U; omega
  have ub : b % 4294967296 = ((U b : Nat) : Int) := by unfold U; omega
  clear hj
  go_upto_region 7 with fail
  rw [ua, ub]
  clear ua ub
  obtain ⟨w6, hw6⟩ : ∃ w6, w5.alloc (.cells #[Value.slice ao9 n9 cap9, .int .i64 2, .int .i64 ((if W = true then 2 else 1 : Nat) : Int)] 39) = w6 := ⟨_, rfl⟩
  rw [hw6]
  go_cut [13] (fun s13 wx => s13 = .bool (tblB a b j) ∧ Only Nil w6 wx)
  case first =>
    rcases (show j = 0 ∨ j = 1 ∨ j = 2 ∨ j = 3 ∨ j = 4 ∨ j = 5 ∨ j = 6 ∨ j = 7 by omega) with rfl | rfl | rfl | rfl | rfl | rfl | rfl | rfl
    all_goals go_wp2_with fail
    all_goals go_meet
    all_goals refine ⟨congrArg Value.bool ?_, (by (repeat with_reducible first | exact Only.refl _ _ | refine Only.alloc ?_ _ | refine Only.drewN ?_ _ | refine Only.drew ?_))⟩
    all_goals first | rfl | (show (a == b) = decide (a = b); rw [Bool.eq_iff_iff]; simp; done)
  case rest =>
    obtain ⟨rfl, ho6⟩ := hcut
    have hB6 : Blk w6 w5.heap.size #[Value.slice ao9 n9 cap9, .int .i64 2, .int .i64 ((if W = true then 2 else 1 : Nat) : Int)] 39 := by rw [← hw6]; exact Blk.new _ _ _
    have hBx := hB6.kept ho6 (fun h => h)
    have ho6' : Only Nil w w6 := by rw [← hw6]; exact ho5.alloc _
    have HO := Lib.hid (ho6'.trans ho6 (fun _ _ h => h))
    obtain ⟨rb, hrb⟩ : ∃ rb, w5.heap.size = rb := ⟨_, rfl⟩
    rw [hrb] at hBx ⊢
    have x1 := hBx.cell 1
    have x2 := hBx.cell 2
    simp only [List.getElem?_toArray, List.getElem?_cons_zero, List.getElem?_cons_succ] at x1 x2
    have hWt := HW.out
    rw [wanted_tbl, HJ.out] at hWt
    obtain ⟨tb, htb⟩ : ∃ tb, tblB a b j = tb := ⟨_, rfl⟩
    rw [htb] at hWt ⊢
    clear ej hB6 hBx ho6 ho6' htb hrb hw6 HW HF HT HR HG HMC
    by_cases h8 : 8 ≤ k
    · have h8' : (8 : Int) ≤ (k : Int) := by omega
      rw [show decide (k < 8) = false by rw [decide_eq_false_iff_not]; omega] at hWt
      cases tb
      · have hW1 : W = true := by rw [← hWt]; rfl
        subst hW1
        clear hWt
        go_wp2_with fail
        go_ret
        exact ⟨rfl, HO.out⟩
      · have hW1 : W = false := by rw [← hWt]; rfl
        subst hW1
        clear hWt
        go_wp2_with fail
        go_ret
        exact ⟨rfl, HO.out⟩
    · have h8' : (k : Int) < 8 := by omega
      rw [show decide (k < 8) = true by rw [decide_eq_true_iff]; omega] at hWt
      cases tb
      · have hW1 : W = false := by rw [← hWt]; rfl
        subst hW1
        clear hWt
        go_wp2_with fail
        go_ret
        exact ⟨rfl, HO.out⟩
      · have hW1 : W = true := by rw [← hWt]; rfl
        subst hW1
        clear hWt
        go_wp2_with fail
        go_ret
        exact ⟨rfl, HO.out⟩
end Go.Proofs.Ythimhbfglgnohaa
