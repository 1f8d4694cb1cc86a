/- The walk of the law ArithSets. -/
import Derived.Test.YteiiejbfbmmofaaAParts
import Derived.Deep.Quiet
import Derived.Deep.QuietTactic
namespace Go.Proofs.Yteiiejbfbmmofaa
open Go.RowKit M

theorem bit_both (v : Int) : ∃ x ok, (∀ w, Calls Try.prog 23 #[.int .i32 v] w fun e w' => e = .returned (.tuple #[.int .i32 x, .bool ok]) ∧ w = w') ∧
    ∀ w, Calls Try.prog 24 #[.int .i32 v] w fun e w' => e = .returned (.tuple #[.int .i32 x, .bool ok]) ∧ w = w' := by
  by_cases h : 0 ≤ v ∧ v < 32
  · obtain ⟨n, rfl⟩ : ∃ n : Nat, v = n := ⟨v.toNat, by omega⟩
    exact ⟨_, _, fun w => bit_any n w (by omega), fun w => bit_any1 n w (by omega)⟩
  · exact ⟨_, _, fun w => bit_no v w h, fun w => bit_no1 v w h⟩
theorem has_both (v s : Int) (hs : I32 s) : ∃ h, (∀ w, Calls Try.prog 25 #[.int .i32 v, .int .i32 s] w fun e w' => e = .returned (.bool h) ∧ w = w') ∧
    ∀ w, Calls Try.prog 26 #[.int .i32 v, .int .i32 s] w fun e w' => e = .returned (.bool h) ∧ w = w' := by
  by_cases h : 0 ≤ v ∧ v < 32
  · obtain ⟨n, rfl⟩ : ∃ n : Nat, v = n := ⟨v.toNat, by omega⟩
    exact ⟨_, fun w => has_any n s w (by omega), fun w => has_any1 n s w (by omega) hs⟩
  · exact ⟨_, fun w => has_no v s w h, fun w => has_no1 v s w h⟩
theorem span_both (a b : Int) : ∃ x ok, (∀ w, Calls Try.prog 27 #[.int .i32 a, .int .i32 b] w fun e w' => e = .returned (.tuple #[.int .i32 x, .bool ok]) ∧ w = w') ∧
    (∀ w, Calls Try.prog 28 #[.int .i32 a, .int .i32 b] w fun e w' => e = .returned (.tuple #[.int .i32 x, .bool ok]) ∧ w = w') ∧
    (ok = true → ∀ i : Nat, i < 32 → ∀ w, Calls Try.prog 25 #[.int .i32 i, .int .i32 x] w fun e w' => e = .returned (.bool (decide (a ≤ i) && decide ((i : Int) ≤ b))) ∧ w = w') := by
  by_cases h : 0 ≤ a ∧ a < 32 ∧ 0 ≤ b ∧ b < 32
  · obtain ⟨m, rfl⟩ : ∃ n : Nat, a = n := ⟨a.toNat, by omega⟩
    obtain ⟨n, rfl⟩ : ∃ n : Nat, b = n := ⟨b.toNat, by omega⟩
    refine ⟨_, _, fun w => span_any m n w (by omega) (by omega), fun w => span_any1 m n w (by omega) (by omega), fun _ i hi w => ?_⟩
    have := has_any i (S (spanV m n)) w hi
    rw [U_S _ (spanV_lt m n (by omega)), spanV_bit m n i (by omega) (by omega) hi] at this
    simpa using this
  · exact ⟨_, _, fun w => span_no a b w h, fun w => span_no1 a b w h, fun h => by cases h⟩

theorem flip_same {f : Nat} {args : Array Value} {v : Value} (h : ∀ w, Calls Try.prog f args w fun e w' => e = .returned v ∧ w = w') : ∀ w, Calls Try.prog f args w fun e w' => e = .returned v ∧ w' = w :=
  fun w => (h w).mono fun _ _ ⟨h1, h2⟩ => ⟨h1, h2.symm⟩
theorem only_drewN {S : Nat → Prop} {a w : World} (h : Only S a w) (n : Nat) : Only S a (w.drewN n) := by
  unfold World.drewN
  exact ⟨h.os, h.tape, h.output, h.size, h.block⟩

set_option maxRecDepth 10000 in
set_option maxHeartbeats 1600000 in
theorem sets_any (a b n s : Int) (w : World) (ha : I32 a) (hb : I32 b) (hn : I32 n) (hs : I32 s) :
    Calls Try.prog 5 #[.int .i32 a, .int .i32 b, .int .i32 n, .int .i32 s] w fun e w' => e = .returned (.bool true) ∧ Only Nil w w' := by
  obtain ⟨v1, hv1⟩ : ∃ v, bits BinOp.and IntKind.i32 n 31 = v := ⟨_, rfl⟩
  obtain ⟨v2, hv2⟩ : ∃ v, bits BinOp.and IntKind.i32 n 63 = v := ⟨_, rfl⟩
  obtain ⟨a1, ha1⟩ : ∃ v, bits BinOp.and IntKind.i32 a 31 = v := ⟨_, rfl⟩
  obtain ⟨b1, hb1⟩ : ∃ v, bits BinOp.and IntKind.i32 b 31 = v := ⟨_, rfl⟩
  have hbit := bit_both
  have hhas := fun v => has_both v s hs
  have hspan := span_both
  have HBIT := Lib.hid hbit
  have HHAS := Lib.hid hhas
  have HSPAN := Lib.hid hspan
  clear hbit hhas hspan ha hb hn hs
  go_enter Try.func5, Try.ntmps5
  go_wp2_with (go_at_call 9; refine (known_any w).mono ?_; rintro e w1 ⟨rfl, rfl⟩)
  obtain ⟨W, hW⟩ : ∃ W, w.heap.size = W := ⟨_, rfl⟩
  have hblk := Blk.new w #[.int .i32 n, .int .i32 v1, .int .i32 v2] 21
  have ho2 : Only Nil w (w.alloc (.cells #[.int .i32 n, .int .i32 v1, .int .i32 v2] 21)) := (Only.refl _ _).alloc _
  obtain ⟨w2, hw2⟩ : ∃ w2, w.alloc (.cells #[.int .i32 n, .int .i32 v1, .int .i32 v2] 21) = w2 := ⟨_, rfl⟩
  rw [hw2] at hblk ho2 ⊢
  rw [hW] at hblk ⊢
  have hcells : ∀ j, j < 3 → ∃ v, w2.cell? ⟨W, j, none⟩ = some (.int .i32 v) := by
    intro j hj
    rw [hblk.cell j]
    match j, hj with
    | 0, _ => exact ⟨_, rfl⟩
    | 1, _ => exact ⟨_, rfl⟩
    | 2, _ => exact ⟨_, rfl⟩
  have HCELLS := Lib.hid hcells
  clear hcells hblk hw2 hv1 hv2
  go_loopg [31] 3 (fun g i wx => g ≤ 3 ∧ i = .int .i64 ((3 - g : Nat) : Int) ∧ w2 = wx)
  case atStart => exact ⟨Nat.le_refl _, by simp, rfl⟩
  case round =>
    obtain ⟨hg, rfl, rfl⟩ := hrel
    obtain ⟨g, rfl⟩ : ∃ g, g = gk := ⟨gk, rfl⟩
    obtain ⟨j, hj⟩ : ∃ j, 3 - g = j := ⟨_, rfl⟩
    rw [hj]
    have HJ := Lib.hid hj
    clear hj
    by_cases hjl : j < 3
    · obtain ⟨v, hcell⟩ := HCELLS.out j hjl
      obtain ⟨x, ok, c1, c2⟩ := HBIT.out v
      obtain ⟨h, c3, c4⟩ := HHAS.out v
      go_wp2_with (first
        | (go_at_call 23; refine (c1 w2).mono ?_; rintro e w7 ⟨rfl, rfl⟩)
        | (go_at_call 24; refine (c2 w2).mono ?_; rintro e w7 ⟨rfl, rfl⟩)
        | (go_at_call 25; refine (c3 w2).mono ?_; rintro e w7 ⟨rfl, rfl⟩)
        | (go_at_call 26; refine (c4 w2).mono ?_; rintro e w7 ⟨rfl, rfl⟩))
      go_roundg (g - 1)
      case measure => have := HJ.out; omega
      case rel => exact ⟨by omega, by have := HJ.out; go_num, rfl⟩
    · clear hW
      go_wp2_with fail
      obtain ⟨V, hV⟩ : ∃ V, w2.heap.size = V := ⟨_, rfl⟩
      have hblk := Blk.new w2 #[.int .i32 a, .int .i32 b, .int .i32 a1, .int .i32 b1] 29
      have ho3 : Only Nil w (w2.alloc (.cells #[.int .i32 a, .int .i32 b, .int .i32 a1, .int .i32 b1] 29)) := ho2.alloc _
      obtain ⟨w3, hw3⟩ : ∃ w3, w2.alloc (.cells #[.int .i32 a, .int .i32 b, .int .i32 a1, .int .i32 b1] 29) = w3 := ⟨_, rfl⟩
      rw [hw3] at hblk ho3 ⊢
      rw [hV] at hblk ⊢
      clear hw3 ha1 hb1
      go_loopg [73] 2 (fun g i wx => g ≤ 2 ∧ i = .int .i64 ((2 - g : Nat) : Int) ∧ Only Nil w3 wx)
      case atStart => exact ⟨Nat.le_refl _, by simp, Only.refl _ _⟩
      case round =>
        obtain ⟨hg, rfl, ho4⟩ := hrel
        obtain ⟨g, rfl⟩ : ∃ g, g = gk := ⟨gk, rfl⟩
        obtain ⟨i, hi⟩ : ∃ i, 2 - g = i := ⟨_, rfl⟩
        rw [hi]
        have HI := Lib.hid hi
        clear hi
        by_cases hil : i < 2
        · have hcells : ∃ va vb, wr.cell? ⟨V, i * 2, none⟩ = some (.int .i32 va) ∧ wr.cell? ⟨V, i * 2 + 1, none⟩ = some (.int .i32 vb) := by
            have hb4 := hblk.kept ho4 (fun h => h)
            rw [hb4.cell, hb4.cell]
            match i, hil with
            | 0, _ => exact ⟨_, _, rfl, rfl⟩
            | 1, _ => exact ⟨_, _, rfl, rfl⟩
          obtain ⟨va, vb, hca, hcb⟩ := hcells
          go_upto_region 14 with fail
          have hblk5 := Blk.new wr #[.int .i32 va, .int .i32 vb] 29
          have ho5 : Only Nil w3 (wr.alloc (.cells #[.int .i32 va, .int .i32 vb] 29)) := ho4.alloc _
          obtain ⟨w5, hw5⟩ : ∃ w5, wr.alloc (.cells #[.int .i32 va, .int .i32 vb] 29) = w5 := ⟨_, rfl⟩
          obtain ⟨Y, hY⟩ : ∃ Y, wr.heap.size = Y := ⟨_, rfl⟩
          rw [hw5] at hblk5 ho5 ⊢
          rw [hY] at hblk5 ⊢
          have c0 : w5.cell? ⟨Y, 0, none⟩ = some (.int .i32 va) := hblk5.cell 0
          have c1 : w5.cell? ⟨Y, 1, none⟩ = some (.int .i32 vb) := hblk5.cell 1
          obtain ⟨x, ok, d1, d2, d3⟩ := HSPAN.out va vb
          have D3 := Lib.hid d3
          clear hw5 hY hblk5 hca hcb ho4 d3
          go_upto_region 18 with (first
            | (go_at_call 27; refine (d1 w5).mono ?_; rintro e w7 ⟨rfl, rfl⟩)
            | (go_at_call 28; refine (d2 w5).mono ?_; rintro e w7 ⟨rfl, rfl⟩))
          clear d1 d2
          cases ok
          · go_wp2_with fail
            go_loopg [21] 0 (fun g i wx => i = .int .i32 0 ∧ w5 = wx)
            case atStart => exact ⟨rfl, rfl⟩
            case round =>
              obtain ⟨rfl, rfl⟩ := hrel
              go_wp2_with fail
              go_roundg (g - 1)
              case measure => have := HI.out; omega
              case rel => exact ⟨by omega, by have := HI.out; go_num, ho5⟩
          · have d3 := D3.out rfl
            go_wp2_with fail
            go_loopg [21] 32 (fun g k wx => g ≤ 32 ∧ k = .int .i32 ((32 - g : Nat) : Int) ∧ Only Nil w5 wx)
            case atStart => exact ⟨Nat.le_refl _, by simp, Only.refl _ _⟩
            case round =>
              obtain ⟨hg', rfl, ho6⟩ := hrel
              obtain ⟨g', rfl⟩ : ∃ g, g = gk := ⟨gk, rfl⟩
              obtain ⟨k, hk⟩ : ∃ k, 32 - g' = k := ⟨_, rfl⟩
              rw [hk]
              have HK := Lib.hid hk
              clear hk
              by_cases hk32 : k < 32
              · have d4 := fun w => d3 k hk32 w
                have c06 := ho6.cell c0 (fun h => h)
                have c16 := ho6.cell c1 (fun h => h)
                clear d3 c0 c1
                by_cases hA : va ≤ (k : Int)
                · rw [decide_eq_true hA] at d4
                  simp only [Bool.true_and] at d4
                  by_cases hB : (k : Int) ≤ vb
                  · rw [decide_eq_true hB] at d4
                    have HC := Lib.hid (flip_same d4)
                    clear d4
                    go_upto_region 21 with fail
                    go_quiet ((go_at_call 25; exact Calls.quiet_of_same (HC.out _)))
                    go_wp2_with fail
                    go_roundg (g' - 1)
                    case measure => have := HK.out; omega
                    case rel => exact ⟨by omega, by have := HK.out; go_num, only_drewN ho6 _⟩
                  · rw [decide_eq_false hB] at d4
                    have HC := Lib.hid (flip_same d4)
                    clear d4
                    have dB : decide ((k : Int) ≤ vb) = false := decide_eq_false hB
                    go_upto_region 21 with fail
                    go_quiet ((go_at_call 25; exact Calls.quiet_of_same (HC.out _)))
                    go_wp2_with fail
                    go_roundg (g' - 1)
                    case measure => have := HK.out; omega
                    case rel => exact ⟨by omega, by have := HK.out; go_num, only_drewN ho6 _⟩
                · rw [decide_eq_false hA] at d4
                  simp only [Bool.false_and] at d4
                  have HC := Lib.hid (flip_same d4)
                  clear d4
                  have dA : decide (va ≤ (k : Int)) = false := decide_eq_false hA
                  go_upto_region 21 with fail
                  go_quiet ((go_at_call 25; exact Calls.quiet_of_same (HC.out _)))
                  go_wp2_with fail
                  go_roundg (g' - 1)
                  case measure => have := HK.out; omega
                  case rel => exact ⟨by omega, by have := HK.out; go_num, only_drewN ho6 _⟩
              · go_wp2_with fail
                go_roundg (g - 1)
                case measure => have := HI.out; omega
                case rel => exact ⟨by omega, by have := HI.out; go_num, ho5.trans ho6 (fun _ _ h => h)⟩
        · go_wp2_with fail
          go_ret
          exact ⟨rfl, ho3.trans ho4 (fun _ _ h => h)⟩
end Go.Proofs.Yteiiejbfbmmofaa
