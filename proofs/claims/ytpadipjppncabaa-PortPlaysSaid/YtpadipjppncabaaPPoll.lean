/- Poll: the first byte, if there is one. -/
import Derived.Test.YtpadipjppncabaaPBase
set_option linter.unusedSimpArgs false
set_option linter.unusedVariables false
namespace Go.Proofs.Ytpadipjppncabaa
open Go.RowKit Go.Conc M

set_option maxRecDepth 100000 in
theorem poll_some (p c cap s r : Nat) (cl : Bool) (x : Value) (buf : List Value) (w : World) (h0 : w.cell? ⟨p, 0, none⟩ = some (.chan (some c))) (hc : w.heap[c]? = some (.chan cap (x :: buf).toArray false s r false)) :
    Calls Try.prog 9 #[.pointer (some ⟨p, 0, none⟩)] w fun e w' => e = .returned (.tuple #[x, .bool true]) ∧ w' = w.setChan c cap buf.toArray false s (r + 1) false := by
  have hlt := World.block_lt_of_cell? w _ h0
  refine calls_of_loneTo fun cs => ?_
  have e : Frame.enter Try.prog 9 #[.pointer (some ⟨p, 0, none⟩)] .normal = (base 9).at ⟨#[.pointer (some ⟨p, 0, none⟩), undef, undef, undef, undef, undef, undef, undef, undef, undef, undef, undef, undef, undef], []⟩ [.code (Try.f9.body.getD .skip)] := by
    simp [Frame.enter, Frame.at, Try.func9, base, Try.f9]
  rw [e]
  refine LoneTo.goes (n := 60) ?_
  simp only [Try.f9, Option.getD_some]
  repeat (first | s_cond true | s_cond false | s_c stepG_seq | s_c stepG_skip | s_c stepG_block | s_c stepG_region_end | s_c stepG_ret' | s_reg | s_op)
  s_stop
  refine LoneTo.step (step_lone_select_recv_buf (c := c) (z := .int .u8 0) (cap := cap) (buf := (x :: buf).toArray) (closed := false) (s := s) (r := r) (tm := false) (stepG_comm (cases := #[rcase c (.int .u8 0)]) (blocking := false) (shape := .select) (w' := w) rfl rfl (by decide) (by simp [go_sem, execOp, rcase, Act.eval])) hc (by simp)) ?_
  rw [Frame.finish_at]
  walk_nrm
  have hx : (x :: buf).toArray.extract 1 (buf.length + 1) = buf.toArray := by simp
  rw [hx]
  refine LoneTo.goes (n := 60) ?_
  repeat (first | s_cond true | s_cond false | s_c stepG_seq | s_c stepG_skip | s_c stepG_block | s_c stepG_region_end | s_c stepG_ret' | s_reg | s_op)
  s_stop
  refine LoneTo.done ⟨.returned (.tuple #[x, .bool true]), _, rfl, ⟨rfl, rfl⟩, rfl, rfl, rfl, rfl, _, Try.func9, by simp [results, Try.f9, Frame.at]⟩

set_option maxRecDepth 100000 in
theorem poll_none (p c cap s r : Nat) (w : World) (h0 : w.cell? ⟨p, 0, none⟩ = some (.chan (some c))) (hc : w.heap[c]? = some (.chan cap #[] false s r false)) :
    Calls Try.prog 9 #[.pointer (some ⟨p, 0, none⟩)] w fun e w' => e = .returned (.tuple #[.int .u8 0, .bool false]) ∧ w' = w := by
  have hlt := World.block_lt_of_cell? w _ h0
  refine calls_of_loneTo fun cs => ?_
  have e : Frame.enter Try.prog 9 #[.pointer (some ⟨p, 0, none⟩)] .normal = (base 9).at ⟨#[.pointer (some ⟨p, 0, none⟩), undef, undef, undef, undef, undef, undef, undef, undef, undef, undef, undef, undef, undef], []⟩ [.code (Try.f9.body.getD .skip)] := by
    simp [Frame.enter, Frame.at, Try.func9, base, Try.f9]
  rw [e]
  refine LoneTo.goes (n := 60) ?_
  simp only [Try.f9, Option.getD_some]
  repeat (first | s_cond true | s_cond false | s_c stepG_seq | s_c stepG_skip | s_c stepG_block | s_c stepG_region_end | s_c stepG_ret' | s_reg | s_op)
  s_stop
  refine LoneTo.step (step_lone_select_default (c := c) (z := .int .u8 0) (cap := cap) (s := s) (r := r) (tm := false) (stepG_comm (cases := #[rcase c (.int .u8 0)]) (blocking := false) (shape := .select) (w' := w) rfl rfl (by decide) (by simp [go_sem, execOp, rcase, Act.eval])) hc) ?_
  rw [Frame.finish_at]
  walk_nrm
  refine LoneTo.goes (n := 60) ?_
  repeat (first | s_cond true | s_cond false | s_c stepG_seq | s_c stepG_skip | s_c stepG_block | s_c stepG_region_end | s_c stepG_ret' | s_reg | s_op)
  s_stop
  refine LoneTo.done ⟨.returned (.tuple #[.int .u8 0, .bool false]), _, rfl, ⟨rfl, rfl⟩, rfl, rfl, rfl, rfl, _, Try.func9, by simp [results, Try.f9, Frame.at]⟩
end Go.Proofs.Ytpadipjppncabaa
