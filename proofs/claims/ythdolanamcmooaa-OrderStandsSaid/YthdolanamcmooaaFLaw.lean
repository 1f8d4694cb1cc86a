/- Layer 19: its laws. -/
import Derived.Test.YthdolanamcmooaaFRef
set_option linter.unusedSimpArgs false
set_option linter.unusedVariables false
namespace Go.Proofs.Ythdolanamcmooaa
open Go.RowKit M

theorem only_two {w0 w w' : World} {lb : Nat} (h : Only Nil w0 w) (k : Only (M.One lb) w w') (hl : w0.heap.size ≤ lb) : Only Nil w0 w' :=
  h.trans k (fun i hi ht => by have : i = lb := ht; omega)
theorem not_true {a b : Nat} (h : a ≠ b) : ¬ M.One b a := h

set_option maxRecDepth 10000 in
set_option maxHeartbeats 1600000 in
theorem known19 (w : World) : Calls Try.prog 35 #[] w fun e w' => e = .returned (.bool true) ∧ Only Nil w w' := by
  have c1 := newL_any 3 3 rfl w
  go_enter Try.func35, Try.ntmps35
  go_wp2_with fail
  refine c1.mono ?_
  rintro e w1 ⟨b, lb, rfl, ho1, hL1, hb1, hb2⟩
  have c2 : Calls Try.prog 40 #[.pointer (some ⟨b, 0, none⟩), .int .i64 2] w1 fun e w' => e = .returned (.tuple #[.int .i64 2, .bool true]) ∧ Only (M.One lb) w1 w' ∧ LAt w' b lb [2, 0, 1] := rank_any b lb (upto 3) 2 w1 hL1 (by decide)
  have HO1 := Lib.hid ho1
  have HL := Lib.hid hb2
  clear ho1 hL1 hb1 hb2 c1
  go_wp2_with fail
  refine c2.mono ?_
  rintro e w2 ⟨rfl, ho2, hL2⟩
  have c3 : Calls Try.prog 40 #[.pointer (some ⟨b, 0, none⟩), .int .i64 2] w2 fun e w' => e = .returned (.tuple #[.int .i64 0, .bool true]) ∧ Only (M.One lb) w2 w' ∧ LAt w' b lb [2, 0, 1] := rank_any b lb [2, 0, 1] 2 w2 hL2 (by decide)
  have HO2 := Lib.hid (only_two HO1.out ho2 HL.out)
  clear ho2 hL2 c2
  go_wp2_with fail
  refine c3.mono ?_
  rintro e w3 ⟨rfl, ho3, hL3⟩
  have c4 : Calls Try.prog 38 #[.pointer (some ⟨b, 0, none⟩), .int .i64 1] w3 fun e w' => e = .returned (.tuple #[.int .i64 0, .bool true]) ∧ Only (M.One lb) w3 w' ∧ LAt w' b lb [0, 2, 1] := at_in b lb 1 [2, 0, 1] w3 hL3 (by decide) (by decide)
  have HO3 := Lib.hid (only_two HO2.out ho3 HL.out)
  clear ho3 hL3 c3
  go_wp2_with fail
  refine c4.mono ?_
  rintro e w4 ⟨rfl, ho4, hL4⟩
  have c5 : Calls Try.prog 40 #[.pointer (some ⟨b, 0, none⟩), .int .i64 9] w4 fun e w' => e = .returned (.tuple #[.int .i64 0, .bool false]) ∧ Only (M.One lb) w4 w' ∧ LAt w' b lb [0, 2, 1] := rank_any b lb [0, 2, 1] 9 w4 hL4 (by decide)
  have HO4 := Lib.hid (only_two HO3.out ho4 HL.out)
  clear ho4 hL4 c4
  go_wp2_with fail
  refine c5.mono ?_
  rintro e w5 ⟨rfl, ho5, hL5⟩
  have c6 := all_any b lb [0, 2, 1] w5 hL5 (by decide)
  have HO5 := Lib.hid (only_two HO4.out ho5 HL.out)
  clear ho5 hL5 c5
  go_wp2_with fail
  refine c6.mono ?_
  rintro e w6 ⟨v, rfl, hown, ho6⟩
  have HO6 := Lib.hid (HO5.out.trans ho6 (fun _ _ h => h))
  have cI := fun (w' : World) (ho : Only Nil w6 w') (h2 : Src w' w6.heap.size (.slice (some ⟨w6.heap.size, 0, none⟩) 3 3) (Ints [0, 2, 1])) => intsCmp_any _ _ _ _ [0, 2, 1] [0, 2, 1] w' ((Src.of_own hown).kept ho (fun _ h => h)) h2 (by decide) (by decide)
  clear hown ho6 c6
  go_wp2_with fail
  have hB6 := Blk.new w6 (Ints [0, 2, 1]).toArray 3
  refine (cI _ ((Only.refl _ _).alloc _) (src_of_blk hB6)).mono ?_
  rintro e w7 ⟨rfl, ho7⟩
  have HO7 := Lib.hid ((HO6.out.alloc _).trans ho7 (fun _ _ h => h))
  clear ho7 cI hB6
  go_wp2_with fail
  go_ret
  exact ⟨rfl, HO7.out⟩

theorem i64_tmod (n m : Int) (h : 0 < m) (hm : m ≤ 4611686018427387904) : IntKind.i64.wrap (n.tmod m) = n.tmod m := by
  have h1 := Int.lt_tmod_of_pos n h
  have h2 := Int.tmod_lt_of_pos n h
  rw [IntKind.wrap_i64]; omega
theorem placeF_any (k n : Int) (hn : 1 ≤ n) (hn2 : n ≤ 1000000) : ∃ p : Nat, (p : Int) < n ∧ ∀ w,
    Calls Try.prog 32 #[.int .i64 k, .int .i64 n] w fun e w' => e = .returned (.int .i64 p) ∧ w = w' := by
  have h1 := Int.lt_tmod_of_pos k (show (0 : Int) < n by omega)
  have h2 := Int.tmod_lt_of_pos k (show (0 : Int) < n by omega)
  obtain ⟨t, ht⟩ : ∃ t, k.tmod n = t := ⟨_, rfl⟩
  rw [ht] at h1 h2
  have hw : IntKind.i64.wrap t = t := by rw [IntKind.wrap_i64]; omega
  have hne : (n == 0) = false := not_beq (by omega)
  by_cases h0 : t < 0
  · obtain ⟨p, hp⟩ : ∃ p : Nat, t + n = p := ⟨(t + n).toNat, by omega⟩
    refine ⟨p, by omega, fun w => ?_⟩
    go_enter Try.func32, Try.ntmps32
    go_wp2
    go_ret
    exact ⟨by first | rfl | (rw [← hp]; rfl) | (rw [← hp, hw]; rfl), rfl⟩
  · obtain ⟨p, hp⟩ : ∃ p : Nat, t = p := ⟨t.toNat, by omega⟩
    refine ⟨p, by omega, fun w => ?_⟩
    go_enter Try.func32, Try.ntmps32
    go_wp2
    go_ret
    exact ⟨by first | rfl | (rw [← hp]; rfl) | (rw [← hp, hw]; rfl), rfl⟩
end Go.Proofs.Ythdolanamcmooaa
