/- The walk of the law CodeTexts. -/
import Derived.Test.YtipdfgkemghmoaaDoorCKnown
import Derived.Test.YtipdfgkemghmoaaDoorCTextR
import Derived.Deep.QuietTactic
import Derived.BigQuiet
set_option linter.unusedSimpArgs false
set_option linter.unusedVariables false
namespace Go.Proofs.YtipdfgkemghmoaaDoor
open Go.RowKit M

theorem flip_q {P : Program} {f : Nat} {args : Array Value} {v : Value} {w : World} (h : Calls P f args w fun e w' => e = .returned v ∧ w = w') : Calls P f args w fun e w' => e = .returned v ∧ w' = w :=
  h.mono fun e w' ⟨h1, h2⟩ => ⟨h1, h2.symm⟩

set_option maxRecDepth 20000 in
set_option maxHeartbeats 3200000 in
theorem texts_any (op k : Int) (q : Nat) (w : World) (hT : Tabs w) (hq : q < 256) (hk1 : -2147483648 ≤ k) (hk2 : k ≤ 2147483647) :
    Calls Tryd.prog 5 #[.agg #[.int .i64 op, .int .i32 k], .int .u8 q] w fun e w' => e = .returned (.bool true) ∧ Only Nil w w' := by
  have cK := fun w h => known_any w h
  have hoA : Only Nil w (w.alloc (.cells #[.int .i64 op, .int .i32 k] 26)) := (Only.refl Nil w).alloc _
  have cK1 := known_any _ (hT.kept hoA)
  have hB0 := Blk.new w #[Value.int .i64 op, .int .i32 k] 26
  obtain ⟨p, hp⟩ : ∃ p, q % 37 = p := ⟨_, rfl⟩
  have ep : (q : Int) % 37 = (p : Int) := by omega
  clear hp
  go_enter Tryd.func5, Tryd.ntmps5
  go_wp2_with fail
  refine cK1.mono ?_
  rintro e w1 ⟨rfl, ho1⟩
  have hoW := hoA.trans ho1 (fun _ _ h => h)
  have hB1 := hB0.kept ho1 (fun h => h)
  obtain ⟨bc, hbc⟩ : ∃ b, w.heap.size = b := ⟨_, rfl⟩
  rw [hbc] at hB1 ⊢
  have b0 := hB1.cell 0
  have b1 := hB1.cell 1
  simp only [List.getElem?_toArray, List.getElem?_cons_zero, List.getElem?_cons_succ] at b0 b1
  have hlt := hB1.lt
  clear cK1 hoA hB0 hbc ho1 cK
  go_wp2_with fail
  have hcs := cAt_new w1 [⟨op, k⟩, ⟨p, 0⟩, ⟨p, k⟩] 26 #[.int .i64 op, .int .i32 k, .int .i64 p, .int .i32 0, .int .i64 p, .int .i32 k] rfl (Only.refl Nil _) (fun h => h)
  have ho2 : Only Nil w1 (w1.alloc (.cells #[.int .i64 op, .int .i32 k, .int .i64 p, .int .i32 0, .int .i64 p, .int .i32 k] 26)) := (Only.refl Nil w1).alloc _
  obtain ⟨w2, hw2⟩ : ∃ w2, w1.alloc (.cells #[.int .i64 op, .int .i32 k, .int .i64 p, .int .i32 0, .int .i64 p, .int .i32 k] 26) = w2 := ⟨_, rfl⟩
  rw [hw2] at hcs ho2 ⊢
  obtain ⟨bl, hbl⟩ : ∃ b, w1.heap.size = b := ⟨_, rfl⟩
  rw [hbl] at hcs ⊢
  have d0 := ho2.cell b0 (fun h => h)
  have d1 := ho2.cell b1 (fun h => h)
  have hoW2 := hoW.trans ho2 (fun _ _ h => h)
  have HT2 := Lib.hid (hT.kept hoW2)
  have HC := Lib.hid hcs
  have HW := Lib.hid hoW2
  clear hw2 hbl b0 b1 hB1 hlt hcs hoW hoW2 ho2 hT
  have D0 := Lib.hid d0
  have D1 := Lib.hid d1
  clear d0 d1
  clear ep
  go_loopg [22] 3 (fun m i wr => m ≤ 3 ∧ i = .int .i64 ((3 - m : Nat) : Int) ∧ Only Nil w2 wr)
  case atStart => exact ⟨Nat.le_refl _, by simp, Only.refl _ _⟩
  case round =>
    obtain ⟨hm, rfl, ho⟩ := hrel
    obtain ⟨m, rfl⟩ : ∃ m, m = gk := ⟨gk, rfl⟩
    obtain ⟨j, hj⟩ : ∃ j, 3 - m = j := ⟨_, rfl⟩
    rw [hj]
    have HJ := Lib.hid hj
    have hj3 : j ≤ 3 := by omega
    clear hj
    by_cases hjl : j < 3
    · have hx : ∃ y : Cod, [Cod.mk op k, ⟨p, 0⟩, ⟨p, k⟩][j]? = some y ∧ -2147483648 ≤ y.k ∧ y.k ≤ 2147483647 := by
        match j, hjl with
        | 0, _ => exact ⟨_, rfl, hk1, hk2⟩
        | 1, _ => exact ⟨_, rfl, (show (-2147483648 : Int) ≤ 0 by decide), (show (0 : Int) ≤ 2147483647 by decide)⟩
        | 2, _ => exact ⟨_, rfl, hk1, hk2⟩
      obtain ⟨⟨yo, yk⟩, hat, hy1, hy2⟩ := hx
      obtain ⟨r0, r1⟩ := (HC.out.kept ho (fun h => h)) j _ hat
      simp only [Nat.zero_add] at r0 r1 hy1 hy2
      have cI := fun w h => textI yo yk w h hy1 hy2
      have cR := fun w => textR yo yk w hy1 hy2
      obtain ⟨X, hX⟩ : ∃ X, txt (codT ⟨yo, yk⟩) = X := ⟨_, rfl⟩
      rw [hX] at cI cR
      clear hX hat
      have j0 : (0 : Int) ≤ (j : Int) := Int.natCast_nonneg _
      have j1 : (j : Int) < 3 := by omega
      go_wp2_with fail
      have hB := Blk.new wr #[Value.int .i64 yo, .int .i32 yk] 26
      have hoA : Only Nil wr (wr.alloc (.cells #[Value.int .i64 yo, .int .i32 yk] 26)) := (Only.refl Nil wr).alloc _
      obtain ⟨w3, hw3⟩ : ∃ w3, wr.alloc (.cells #[Value.int .i64 yo, .int .i32 yk] 26) = w3 := ⟨_, rfl⟩
      obtain ⟨bx, hbx⟩ : ∃ b, wr.heap.size = b := ⟨_, rfl⟩
      rw [hw3] at hB hoA ⊢
      rw [hbx] at hB ⊢
      have x0 := hB.cell 0
      have x1 := hB.cell 1
      simp only [List.getElem?_toArray, List.getElem?_cons_zero, List.getElem?_cons_succ] at x0 x1
      have HO3 := Lib.hid (ho.trans hoA (fun _ _ h => h))
      have keep : ∀ w', Only Nil w3 w' → w'.cell? ⟨bx, 0, none⟩ = some (.int .i64 yo) ∧ w'.cell? ⟨bx, 1, none⟩ = some (.int .i32 yk) ∧ Only Nil w3 w' := fun w' h => ⟨h.cell x0 (fun h => h), h.cell x1 (fun h => h), h⟩
      have KEEP := Lib.hid keep
      have HT3 := Lib.hid ((HT2.out.kept ho).kept hoA)
      clear r0 r1 hw3 hbx hB hoA keep ho
      go_wp2_with fail
      go_region_held (fun w' => w'.cell? ⟨bx, 0, none⟩ = some (.int .i64 yo) ∧ w'.cell? ⟨bx, 1, none⟩ = some (.int .i32 yk) ∧ Only Nil w3 w')
        (first | (assumption) | (exact KEEP.out _ (Only.refl _ _).drew) | (go_split_ands; exact KEEP.out _ (Only.trans (by assumption) ho2 (fun _ _ h => h))))
        (first | (go_at_call 14; refine (cI _ ?_).mono ?_; (go_split_ands; exact HT3.out.kept (by assumption)); rintro e w' ⟨rfl, ho2⟩) | (go_at_call 15; refine (cR _).mono ?_; rintro e w' ⟨rfl, ho2⟩))
      all_goals
        go_wp2_with fail
        go_roundg (m - 1)
        case measure => have := HJ.out; omega
        case rel =>
          refine ⟨by omega, by have := HJ.out; go_num, ?_⟩
          go_split_ands
          exact HO3.out.trans (by assumption) (fun _ _ h => h)
    · have hj3' : j = 3 := by omega
      clear hjl hj3
      have e0 := ho.cell D0.out (fun h => h)
      have e1 := ho.cell D1.out (fun h => h)
      have hx : (3 : Int) ≤ (j : Int) := by omega
      have hoF := HW.out.trans ho (fun _ _ h => h)
      clear ho HC HT2 hj3'
      go_wp2_with fail
      go_quiet (first | (go_at_call 16; exact Calls.quiet_of_same (flip_q (has_any _ _))) | (go_at_call 8; exact Calls.quiet_of_same (flip_q (hasK_any _ _))))
      go_wp2_with fail
      go_ret
      exact ⟨rfl, M.Only.drewN hoF _⟩
end Go.Proofs.YtipdfgkemghmoaaDoor
