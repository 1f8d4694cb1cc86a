/- The stack machine: an instruction that takes two operands. -/
import Derived.Test.YtbgmdckfkfkglaaSMove
set_option linter.unusedSimpArgs false
set_option linter.unusedVariables false
namespace Go.Proofs.Ytbgmdckfkfkglaa
open Go.RowKit M
variable {Q : Nat → Prop}

set_option maxRecDepth 10000 in
set_option maxHeartbeats 3200000 in
theorem ofTwo_any (mb wb : Nat) (c : Cod) (hk : I32 c.k) (code : List Cod) (s : SS) (cv sv kv iv ov : Value) (w : World) (hM : SAt Q w mb wb code s cv sv kv iv ov) (hs : s.Ok) :
    Calls Try.prog 78 #[.pointer (some ⟨mb, 0, none⟩), c.val] w (SDoes Q w mb wb code s cv sv kv iv ov (sTwo s c)) := by
  obtain ⟨op, k⟩ := c
  simp only at hk
  show Calls Try.prog 78 #[.pointer (some ⟨mb, 0, none⟩), .agg #[.int .i64 op, .int .i32 k]] w _
  have kw : IntKind.i64.wrap k = k := by unfold I32 at hk; rw [IntKind.wrap_i64]; omega
  have ho0 : Only Nil w (w.alloc (.cells #[Value.int .i64 op, .int .i32 k] 49)) := (Only.refl _ _).alloc _
  have hM0 := hM.quiet ho0
  have hlt0 := hM.blk.lt
  by_cases h2 : s.ops.length < 2
  · have e1 : sTwo s ⟨op, k⟩ = none := by unfold sTwo; rw [if_pos h2]
    rw [e1]
    have c1 := opd_out (Q := Q) mb wb 1 code s cv sv kv iv ov _ hM0 hs.nops (by omega) (by decide)
    rw [show ((1 : Nat) : Int) = 1 from rfl] at c1
    have c0 : ∃ (x : Int) (b : Bool), Calls Try.prog 80 #[.pointer (some ⟨mb, 0, none⟩), .int .i64 0] (w.alloc (.cells #[Value.int .i64 op, .int .i32 k] 49)) fun e w' => e = .returned (.tuple #[.int .i32 x, .bool b]) ∧ (w.alloc (.cells #[Value.int .i64 op, .int .i32 k] 49)) = w' := by
      by_cases h0 : s.ops.length = 0
      · exact ⟨0, false, opd_out (Q := Q) mb wb 0 code s cv sv kv iv ov _ hM0 hs.nops (by omega) (by decide)⟩
      · exact ⟨_, true, opd_in (Q := Q) mb wb 0 code s cv sv kv iv ov _ hM0 hs.nops (by omega)⟩
    obtain ⟨x, b, c0⟩ := c0
    have HM0 := Lib.hid hM0
    have HO := Lib.hid ho0
    clear hM hM0 hs e1 ho0 hk h2
    go_enter Try.func78, Try.ntmps78
    go_wp2_with fail
    refine c1.mono ?_
    rintro e w1 ⟨rfl, rfl⟩
    clear c1
    go_wp2_with fail
    refine c0.mono ?_
    rintro e w1 ⟨rfl, rfl⟩
    clear c0
    go_wp2_with fail
    go_ret
    exact ⟨sv, kv, iv, ov, rfl, Gone.of_nil HO.out, HM0.out⟩
  have c1 : Calls Try.prog 80 #[.pointer (some ⟨mb, 0, none⟩), .int .i64 1] (w.alloc (.cells #[Value.int .i64 op, .int .i32 k] 49)) fun e w1 => e = .returned (.tuple #[.int .i32 (opd s 1), .bool true]) ∧ (w1.cell? ⟨w.heap.size, 0, none⟩ = some (.int .i64 op) ∧ w1.cell? ⟨w.heap.size, 1, none⟩ = some (.int .i32 k) ∧ w.heap.size < w1.heap.size ∧ mb < w1.heap.size) ∧ SAt Q w1 mb wb code s cv sv kv iv ov ∧ Only Nil w w1 := by
    refine (opd_in (Q := Q) mb wb 1 code s cv sv kv iv ov _ hM0 hs.nops (by omega)).mono ?_
    rintro e w1 ⟨rfl, rfl⟩
    have hB := Blk.new w #[Value.int .i64 op, .int .i32 k] 49
    exact ⟨rfl, ⟨hB.cell 0, hB.cell 1, hB.lt, hM0.blk.lt⟩, hM0, ho0⟩
  have c0 := fun w (hM : SAt Q w mb wb code s cv sv kv iv ov) => opd_in (Q := Q) mb wb 0 code s cv sv kv iv ov w hM hs.nops (by omega)
  rw [show ((0 : Nat) : Int) = 0 from rfl] at c0
  have ha0 := opd_i32 hs 1
  have hb0 := opd_i32 hs 0
  have hn2 : 2 ≤ s.ops.length := by omega
  obtain ⟨a, ha⟩ : ∃ a, opd s 1 = a := ⟨_, rfl⟩
  obtain ⟨b, hb⟩ : ∃ b, opd s 0 = b := ⟨_, rfl⟩
  rw [ha] at c1 ha0
  rw [hb] at c0 hb0
  have aw : IntKind.i64.wrap a = a := by unfold I32 at ha0; rw [IntKind.wrap_i64]; omega
  have bw : IntKind.i64.wrap b = b := by unfold I32 at hb0; rw [IntKind.wrap_i64]; omega
  have hso : sTwo s ⟨op, k⟩ = if op = 4 then puts s 2 [b, a] else if op = 7 then (if 0 ≤ a ∧ a < s.mem.length then puts { s with mem := s.mem.set a.toNat b } 2 [] else none) else if op = 8 then (if 0 ≤ k ∧ 0 ≤ a ∧ 0 ≤ b ∧ a + k ≤ s.mem.length ∧ b + k ≤ s.mem.length then puts { s with mem := moved s.mem a.toNat b.toNat k.toNat } 2 [] else none) else (reck op a b).bind fun v => puts s 2 [v] := by
    unfold sTwo; rw [if_neg h2, ha, hb]
  have hl := hs.nops
  have HS := Lib.hid hs
  clear ho0 hM0 hM
  by_cases h4 : op = 4
  · subst h4
    rw [if_pos rfl] at hso
    have cL := fun w (hM : SAt Q w mb wb code s cv sv kv iv ov) => leave2 (Q := Q) mb wb 2 b a code s cv sv kv iv ov w hM hl hn2
    rw [show ((2 : Nat) : Int) = 2 from rfl, ← hso] at cL
    obtain ⟨X, hX⟩ : ∃ X, sTwo s ⟨4, k⟩ = X := ⟨_, rfl⟩
    rw [hX] at cL ⊢
    clear hso hX hl hs ha hb h2 hn2 hk kw aw bw ha0 hb0
    go_enter Try.func78, Try.ntmps78
    go_wp2_with fail
    refine c1.mono ?_
    rintro e w1 ⟨rfl, ⟨d0, d1, dlt, mlt⟩, hM1, ho1⟩
    clear c1
    have HO := Lib.hid ho1
    have HM1 := Lib.hid hM1
    clear ho1 hM1
    go_wp2_with fail
    refine (c0 _ HM1.out).mono ?_
    rintro e w1 ⟨rfl, rfl⟩
    clear c0
    go_wp2_with fail
    refine (cL _ HM1.out).mono ?_
    rintro e w1 ⟨sv', rfl, hg, hM'⟩
    go_wp2_with fail
    go_ret
    exact ⟨sv', kv, iv, ov, rfl, (Gone.of_nil HO.out).trans hg, hM'⟩
  by_cases h7 : op = 7
  · subst h7
    rw [if_neg (by decide), if_pos rfl] at hso
    have cL := fun w (hM : SAt Q w mb wb code s cv sv kv iv ov) => storeS_any (Q := Q) mb wb a b code s cv sv kv iv ov w hM HS.out hn2 hso.symm
    obtain ⟨X, hX⟩ : ∃ X, sTwo s ⟨7, k⟩ = X := ⟨_, rfl⟩
    rw [hX] at cL ⊢
    clear hso hX hl hs ha hb h2 h4 hn2 hk kw bw ha0 hb0
    go_enter Try.func78, Try.ntmps78
    go_wp2_with fail
    refine c1.mono ?_
    rintro e w1 ⟨rfl, ⟨d0, d1, dlt, mlt⟩, hM1, ho1⟩
    clear c1
    have HO := Lib.hid ho1
    have HM1 := Lib.hid hM1
    clear ho1 hM1
    go_wp2_with fail
    refine (c0 _ HM1.out).mono ?_
    rintro e w1 ⟨rfl, rfl⟩
    clear c0
    go_wp2_with fail
    refine (cL _ HM1.out).mono ?_
    rintro e w1 ⟨sv', kv', iv', ov', rfl, hg, hM'⟩
    go_wp2_with fail
    go_ret
    exact ⟨sv', kv', iv', ov', rfl, (Gone.of_nil HO.out).trans hg, hM'⟩
  by_cases h8 : op = 8
  · subst h8
    rw [if_neg (by decide), if_neg (by decide), if_pos rfl] at hso
    have cL := fun w (hM : SAt Q w mb wb code s cv sv kv iv ov) => move_any (Q := Q) mb wb a b k code s cv sv kv iv ov w hM HS.out hn2 ha0 hb0 hk hso.symm
    obtain ⟨X, hX⟩ : ∃ X, sTwo s ⟨8, k⟩ = X := ⟨_, rfl⟩
    rw [hX] at cL ⊢
    clear hso hX hl hs ha hb h2 h4 h7 hn2 hk ha0 hb0
    go_enter Try.func78, Try.ntmps78
    go_wp2_with fail
    refine c1.mono ?_
    rintro e w1 ⟨rfl, ⟨d0, d1, dlt, mlt⟩, hM1, ho1⟩
    clear c1
    have HO := Lib.hid ho1
    have HM1 := Lib.hid hM1
    clear ho1 hM1
    go_wp2_with fail
    refine (c0 _ HM1.out).mono ?_
    rintro e w1 ⟨rfl, rfl⟩
    clear c0
    go_wp2_with fail
    refine (cL _ HM1.out).mono ?_
    rintro e w1 ⟨sv', kv', iv', ov', rfl, hg, hM'⟩
    go_wp2_with fail
    go_ret
    exact ⟨sv', kv', iv', ov', rfl, (Gone.of_nil HO.out).trans hg, hM'⟩
  rw [if_neg h4, if_neg h7, if_neg h8] at hso
  have g4 : (op == 4) = false := ne_beq h4
  have g7 : (op == 7) = false := ne_beq h7
  have g8 : (op == 8) = false := ne_beq h8
  have cR := fun w => reckon_any op a b ha0 hb0 w
  cases hR : reck op a b with
  | none =>
    rw [hR] at hso cR
    have hso' : sTwo s ⟨op, k⟩ = none := hso
    rw [hso']
    clear hso hso' hl hs ha hb h2 h4 h7 h8 hn2 hk kw aw bw ha0 hb0 hR
    go_enter Try.func78, Try.ntmps78
    go_wp2_with fail
    refine c1.mono ?_
    rintro e w1 ⟨rfl, ⟨d0, d1, dlt, mlt⟩, hM1, ho1⟩
    clear c1
    have HO := Lib.hid ho1
    have HM1 := Lib.hid hM1
    clear ho1 hM1
    go_wp2_with fail
    refine (c0 _ HM1.out).mono ?_
    rintro e w1 ⟨rfl, rfl⟩
    clear c0
    go_wp2_with fail
    refine (cR _).mono ?_
    rintro e w1 ⟨he, rfl⟩
    unfold RTells at he
    subst he
    clear cR
    go_wp2_with fail
    go_ret
    exact ⟨sv, kv, iv, ov, rfl, Gone.of_nil HO.out, HM1.out⟩
  | some v =>
    rw [hR] at hso cR
    have hso' : sTwo s ⟨op, k⟩ = puts s 2 [v] := hso
    have cL := fun w (hM : SAt Q w mb wb code s cv sv kv iv ov) => leave1 (Q := Q) mb wb 2 v code s cv sv kv iv ov w hM hl hn2
    rw [show ((2 : Nat) : Int) = 2 from rfl, ← hso'] at cL
    obtain ⟨X, hX⟩ : ∃ X, sTwo s ⟨op, k⟩ = X := ⟨_, rfl⟩
    rw [hX] at cL ⊢
    clear hso hso' hX hl hs ha hb h2 h4 h7 h8 hn2 hk kw aw bw ha0 hb0 hR
    go_enter Try.func78, Try.ntmps78
    go_wp2_with fail
    refine c1.mono ?_
    rintro e w1 ⟨rfl, ⟨d0, d1, dlt, mlt⟩, hM1, ho1⟩
    clear c1
    have HO := Lib.hid ho1
    have HM1 := Lib.hid hM1
    clear ho1 hM1
    go_wp2_with fail
    refine (c0 _ HM1.out).mono ?_
    rintro e w1 ⟨rfl, rfl⟩
    clear c0
    go_wp2_with fail
    refine (cR _).mono ?_
    rintro e w1 ⟨he, rfl⟩
    unfold RTells at he
    subst he
    clear cR
    go_wp2_with fail
    refine (cL _ HM1.out).mono ?_
    rintro e w1 ⟨sv', rfl, hg, hM'⟩
    obtain ⟨t, ht⟩ : ∃ t, X.isSome = t := ⟨_, rfl⟩
    rw [ht]
    have HB := Lib.hid ht
    clear ht
    go_wp2_with fail
    go_ret
    exact ⟨sv', kv, iv, ov, ret_bool (by rw [HB.out]), (Gone.of_nil HO.out).trans hg, hM'⟩
end Go.Proofs.Ytbgmdckfkfkglaa
