/- The document's stack machine: too few operands, or too many. -/
import Derived.Test.YtpnhjjihdcopnaaTDoA
import Derived.Test.YtpnhjjihdcopnaaTDo1
import Derived.Test.YtpnhjjihdcopnaaTDo2
import Derived.Test.YtpnhjjihdcopnaaTDo3
import Derived.Test.YtpnhjjihdcopnaaTDo4
import Derived.Test.YtpnhjjihdcopnaaTDo5
import Derived.Test.YtpnhjjihdcopnaaTDo6
import Derived.Test.YtpnhjjihdcopnaaTDo7
import Derived.Test.YtpnhjjihdcopnaaTDo8
import Derived.Test.YtpnhjjihdcopnaaTDo9
import Derived.Test.YtpnhjjihdcopnaaTDo10
import Derived.Test.YtpnhjjihdcopnaaTDoC
import Derived.Test.YtpnhjjihdcopnaaTDoD
import Derived.Test.YtpnhjjihdcopnaaTDoE
import Derived.Test.YtpnhjjihdcopnaaTDoF
import Derived.Test.YtpnhjjihdcopnaaTDoG
import Derived.Test.YtpnhjjihdcopnaaTDoH
import Derived.Test.YtpnhjjihdcopnaaTDoI
import Derived.Test.YtpnhjjihdcopnaaTDoJ
import Derived.Test.YtpnhjjihdcopnaaTDoK
set_option linter.unusedSimpArgs false
set_option linter.unusedVariables false
namespace Go.Proofs.Ytpnhjjihdcopnaa
open Go.RowKit M
variable {Q : Nat → Prop}

set_option maxRecDepth 10000 in
set_option maxHeartbeats 3200000 in
theorem tdo_out (db vb : Nat) (op k : Int) (h0 : 0 ≤ op) (h1 : op < 34) (code : List Cod) (s : SS) (lv pv kv iv ov : Value) (w : World) (hM : TAt Q w db vb code s lv pv kv iv ov) (hs : s.Ok) (h : ¬ (takesV op ≤ s.ops.length ∧ s.ops.length - takesV op + leavesV op ≤ 1000)) :
    Calls Try.prog 35 #[.pointer (some ⟨db, 0, none⟩), .agg #[.int .i64 op, .int .i32 k]] w (TDoes Q w db vb code s lv ov (sExec s ⟨op, k⟩)) := by
  have cE := fun w => effectR_any op h0 h1 w
  have hT := takesV_le op
  have hL := leavesV_le op
  rw [exec_out (c := ⟨op, k⟩) hs.nops h]
  obtain ⟨T, hTT⟩ : ∃ T, takesV op = T := ⟨_, rfl⟩
  obtain ⟨L, hLL⟩ : ∃ L, leavesV op = L := ⟨_, rfl⟩
  rw [hTT] at cE hT h
  rw [hLL] at cE hL h
  have hrow := hM.ops
  have hnops := hs.nops
  obtain ⟨n, hn⟩ : ∃ n, s.ops.length = n := ⟨_, rfl⟩
  rw [hn] at hrow h hnops
  obtain ⟨ao, cap, rfl⟩ := rd_shape hrow
  clear hrow
  have HM := Lib.hid hM
  clear hM hs hTT hLL hn h0 h1
  have tail : ∀ w', Only Nil w w' → TDoes Q w db vb code s lv ov none (.returned (.bool false)) w' := fun w' ho => ⟨_, _, _, _, rfl, TGone.of_nil ho, HM.out.quiet ho⟩
  have HT := Lib.hid tail
  clear tail
  go_enter Try.func35, Try.ntmps35
  go_wp2_with fail
  have hB1 := Blk.new w #[Value.int .i64 op, .int .i32 k] 55
  have ho1 : Only Nil w (w.alloc (.cells #[Value.int .i64 op, .int .i32 k] 55)) := (Only.refl _ _).alloc _
  obtain ⟨w1, hw1⟩ : ∃ w1, w.alloc (.cells #[Value.int .i64 op, .int .i32 k] 55) = w1 := ⟨_, rfl⟩
  rw [hw1] at ho1 ⊢
  have c2 : w1.cell? ⟨db, 2, none⟩ = some (.slice ao n cap) := (HM.out.quiet ho1).blk.cell 2
  have hlt := (HM.out.quiet ho1).blk.lt
  have HO1 := Lib.hid ho1
  clear hw1 ho1 hB1
  refine (cE _).mono ?_
  rintro e we ⟨rfl, rfl⟩
  clear cE
  by_cases hlt1 : n < T
  · have l1 : (n : Int) < (T : Int) := by omega
    have l2 : decide ((n : Int) < (T : Int)) = true := by simp; omega
    go_wp2_with fail
    go_ret
    exact HT.out _ HO1.out
  · have l1 : decide ((n : Int) < (T : Int)) = false := by simp; omega
    have l2 : decide (n < T) = false := by simp; omega
    obtain ⟨r, hr⟩ : ∃ r, n - T = r := ⟨_, rfl⟩
    obtain ⟨q, hq⟩ : ∃ q, r + L = q := ⟨_, rfl⟩
    have w1' : (n : Int) - (T : Int) = (r : Int) := by omega
    have w2' : IntKind.i64.wrap (r : Int) = (r : Int) := by rw [IntKind.wrap_i64]; omega
    have w3' : (r : Int) + (L : Int) = (q : Int) := by omega
    have w4' : IntKind.i64.wrap (q : Int) = (q : Int) := by rw [IntKind.wrap_i64]; omega
    have w5' : (1000 : Int) < (q : Int) := by omega
    clear h hlt1 hr hq hT hL
    go_wp2_with fail
    go_ret
    exact HT.out _ HO1.out
end Go.Proofs.Ytpnhjjihdcopnaa

/- The document's stack machine does whatever instruction. -/
set_option linter.unusedSimpArgs false
set_option linter.unusedVariables false
namespace Go.Proofs.Ytpnhjjihdcopnaa
open Go.RowKit M
variable {Q : Nat → Prop}

theorem tdo_any (db vb : Nat) (op k : Int) (h0 : 0 ≤ op) (h1 : op < 34) (hk : I32 k) (code : List Cod) (s : SS) (lv pv kv iv ov : Value) (w : World) (hQ : ∀ j, Q j → j < w.heap.size) (hM : TAt Q w db vb code s lv pv kv iv ov) (hs : s.Ok) (hol : s.out.length ≤ 1099511627776) (htr : s.trap = 0) (hp0 : 0 ≤ s.pc) :
    Calls Try.prog 35 #[.pointer (some ⟨db, 0, none⟩), .agg #[.int .i64 op, .int .i32 k]] w (TDoes Q w db vb code s lv ov (sExec s ⟨op, k⟩)) := by
  by_cases h : takesV op ≤ s.ops.length ∧ s.ops.length - takesV op + leavesV op ≤ 1000
  · obtain ⟨hA, hB⟩ := h
    rcases op_cases h0 h1 with rfl | rfl | rfl | rfl | rfl | rfl | rfl | rfl | rfl | rfl | rfl | rfl | rfl | rfl | rfl | rfl | rfl | rfl | rfl | rfl | rfl | rfl | rfl | rfl | rfl | rfl | rfl | rfl | rfl | rfl | rfl | rfl | rfl | rfl
    · exact tdo_0 db vb k hk code s lv pv kv iv ov w hQ hM hs hol hA hB htr
    · exact tdo_1 db vb k hk code s lv pv kv iv ov w hQ hM hs hol hA hB
    · exact tdo_2 db vb k hk code s lv pv kv iv ov w hQ hM hs hol hA hB
    · exact tdo_3 db vb k hk code s lv pv kv iv ov w hQ hM hs hol hA hB
    · exact tdo_4 db vb k hk code s lv pv kv iv ov w hQ hM hs hol hA hB
    · exact tdo_5 db vb k hk code s lv pv kv iv ov w hQ hM hs hol hA hB
    · exact tdo_6 db vb k hk code s lv pv kv iv ov w hQ hM hs hol hA hB
    · exact tdo_7 db vb k hk code s lv pv kv iv ov w hQ hM hs hol hA hB
    · exact tdo_8 db vb k hk code s lv pv kv iv ov w hQ hM hs hol hA hB
    · exact tdo_9 db vb k hk code s lv pv kv iv ov w hQ hM hs hol hA hB
    · exact tdo_10 db vb k hk code s lv pv kv iv ov w hQ hM hs hol hA hB
    · exact tdo_11 db vb k hk code s lv pv kv iv ov w hQ hM hs hol hA hB
    · exact tdo_12 db vb k hk code s lv pv kv iv ov w hQ hM hs hol hA hB
    · exact tdo_13 db vb k hk code s lv pv kv iv ov w hQ hM hs hol hA hB
    · exact tdo_14 db vb k hk code s lv pv kv iv ov w hQ hM hs hol hA hB
    · exact tdo_15 db vb k hk code s lv pv kv iv ov w hQ hM hs hol hA hB
    · exact tdo_16 db vb k hk code s lv pv kv iv ov w hQ hM hs hol hA hB
    · exact tdo_17 db vb k hk code s lv pv kv iv ov w hQ hM hs hol hA hB
    · exact tdo_18 db vb k hk code s lv pv kv iv ov w hQ hM hs hol hA hB
    · exact tdo_19 db vb k hk code s lv pv kv iv ov w hQ hM hs hol hA hB
    · exact tdo_20 db vb k hk code s lv pv kv iv ov w hQ hM hs hol hA hB
    · exact tdo_21 db vb k hk code s lv pv kv iv ov w hQ hM hs hol hA hB
    · exact tdo_22 db vb k hk code s lv pv kv iv ov w hQ hM hs hol hA hB
    · exact tdo_23 db vb k hk code s lv pv kv iv ov w hQ hM hs hol hA hB
    · exact tdo_24 db vb k hk code s lv pv kv iv ov w hQ hM hs hol hA hB
    · exact tdo_25 db vb k hk code s lv pv kv iv ov w hQ hM hs hol hA hB
    · exact tdo_26 db vb k hk code s lv pv kv iv ov w hQ hM hs hol hA hB
    · exact tdo_27 db vb k hk code s lv pv kv iv ov w hQ hM hs hol hA hB hp0
    · exact tdo_28 db vb k hk code s lv pv kv iv ov w hQ hM hs hol hA hB
    · exact tdo_29 db vb k hk code s lv pv kv iv ov w hQ hM hs hol hA hB
    · exact tdo_30 db vb k hk code s lv pv kv iv ov w hQ hM hs hol hA hB
    · exact tdo_31 db vb k hk code s lv pv kv iv ov w hQ hM hs hol hA hB
    · exact tdo_32 db vb k hk code s lv pv kv iv ov w hQ hM hs hol hA hB
    · exact tdo_33 db vb k hk code s lv pv kv iv ov w hQ hM hs hol hA hB
  · exact tdo_out db vb op k h0 h1 code s lv pv kv iv ov w hM hs h
end Go.Proofs.Ytpnhjjihdcopnaa

