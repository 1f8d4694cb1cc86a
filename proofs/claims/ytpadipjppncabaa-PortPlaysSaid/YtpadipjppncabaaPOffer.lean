/- Offer: a byte behind the others, if it may. -/
import Derived.Test.YtpadipjppncabaaPBase
set_option linter.unusedSimpArgs false
set_option linter.unusedVariables false
namespace Go.Proofs.Ytpadipjppncabaa
open Go.RowKit Go.Conc M

set_option maxRecDepth 100000 in
theorem offer_shut (p c : Nat) (x : Value) (w : World) (h0 : w.cell? ⟨p, 0, none⟩ = some (.chan (some c))) (h1 : w.cell? ⟨p, 1, none⟩ = some (flagV true)) :
    Calls Try.prog 11 #[.pointer (some ⟨p, 0, none⟩), x] w fun e w' => e = .returned (.bool false) ∧ w' = w := by
  have hlt := World.block_lt_of_cell? w _ h0
  have cL := load_any p true w h1
  refine calls_of_loneTo fun cs => ?_
  have e : Frame.enter Try.prog 11 #[.pointer (some ⟨p, 0, none⟩), x] .normal = (base 11).at ⟨#[.pointer (some ⟨p, 0, none⟩), x, undef, undef, undef, undef, undef, undef, undef, undef, undef, undef, undef, undef, undef, undef, undef], []⟩ [.code (Try.f11.body.getD .skip)] := by
    simp [Frame.enter, Frame.at, Try.func11, base, Try.f11]
  rw [e]
  refine LoneTo.goes (n := 60) ?_
  simp only [Try.f11, Option.getD_some]
  repeat (first | s_cond true | s_cond false | s_c stepG_seq | s_c stepG_skip | s_c stepG_block | s_c stepG_region_end | s_c stepG_ret' | s_reg | s_op)
  s_in
  refine goes_call rfl rfl (by decide) rfl Try.func30 (by kernel_rfl) rfl ⟨trivial, ?_⟩
  s_stop
  refine LoneTo.call Try.func30 rfl (by simp [Act.eval]) cL ?_
  rintro e w1 ⟨rfl, rfl⟩
  refine ⟨_, rfl, ?_⟩
  rw [Frame.finish_at]
  walk_nrm
  refine LoneTo.goes (n := 60) ?_
  repeat (first | s_cond true | s_cond false | s_c stepG_seq | s_c stepG_skip | s_c stepG_block | s_c stepG_region_end | s_c stepG_ret' | s_reg | s_op)
  s_stop
  refine LoneTo.done ⟨.returned (.bool false), _, rfl, ⟨rfl, rfl⟩, rfl, rfl, rfl, rfl, _, Try.func11, by simp [results, Try.f11, Frame.at]⟩

set_option maxRecDepth 100000 in
theorem offer_full (p c cap s r : Nat) (buf : Array Value) (x : Value) (w : World) (h0 : w.cell? ⟨p, 0, none⟩ = some (.chan (some c))) (h1 : w.cell? ⟨p, 1, none⟩ = some (flagV false)) (hc : w.heap[c]? = some (.chan cap buf false s r false)) (hfull : cap ≤ buf.size) :
    Calls Try.prog 11 #[.pointer (some ⟨p, 0, none⟩), x] w fun e w' => e = .returned (.bool false) ∧ w' = w := by
  have hlt := World.block_lt_of_cell? w _ h0
  have cL := load_any p false w h1
  refine calls_of_loneTo fun cs => ?_
  have e : Frame.enter Try.prog 11 #[.pointer (some ⟨p, 0, none⟩), x] .normal = (base 11).at ⟨#[.pointer (some ⟨p, 0, none⟩), x, undef, undef, undef, undef, undef, undef, undef, undef, undef, undef, undef, undef, undef, undef, undef], []⟩ [.code (Try.f11.body.getD .skip)] := by
    simp [Frame.enter, Frame.at, Try.func11, base, Try.f11]
  rw [e]
  refine LoneTo.goes (n := 60) ?_
  simp only [Try.f11, Option.getD_some]
  repeat (first | s_cond true | s_cond false | s_c stepG_seq | s_c stepG_skip | s_c stepG_block | s_c stepG_region_end | s_c stepG_ret' | s_reg | s_op)
  s_in
  refine goes_call rfl rfl (by decide) rfl Try.func30 (by kernel_rfl) rfl ⟨trivial, ?_⟩
  s_stop
  refine LoneTo.call Try.func30 rfl (by simp [Act.eval]) cL ?_
  rintro e w1 ⟨rfl, rfl⟩
  refine ⟨_, rfl, ?_⟩
  rw [Frame.finish_at]
  walk_nrm
  refine LoneTo.goes (n := 60) ?_
  repeat (first | s_cond true | s_cond false | s_c stepG_seq | s_c stepG_skip | s_c stepG_block | s_c stepG_region_end | s_c stepG_ret' | s_reg | s_op)
  s_stop
  refine LoneTo.step (step_lone_select_send_full (c := c) (z' := .int .u8 0) (cap := cap) (buf := buf) (s := s) (r := r) (tm := false) (stepG_comm (cases := #[scase c x (.int .u8 0)]) (blocking := false) (shape := .select) (w' := w1) rfl rfl (by decide) (by simp [go_sem, execOp, scase, Act.eval])) hc hfull) ?_
  rw [Frame.finish_at]
  walk_nrm
  refine LoneTo.goes (n := 60) ?_
  repeat (first | s_cond true | s_cond false | s_c stepG_seq | s_c stepG_skip | s_c stepG_block | s_c stepG_region_end | s_c stepG_ret' | s_reg | s_op)
  s_stop
  refine LoneTo.done ⟨.returned (.bool false), _, rfl, ⟨rfl, rfl⟩, rfl, rfl, rfl, rfl, _, Try.func11, by simp [results, Try.f11, Frame.at]⟩

set_option maxRecDepth 100000 in
theorem offer_room (p c cap s r : Nat) (buf : Array Value) (x : Value) (w : World) (h0 : w.cell? ⟨p, 0, none⟩ = some (.chan (some c))) (h1 : w.cell? ⟨p, 1, none⟩ = some (flagV false)) (hc : w.heap[c]? = some (.chan cap buf false s r false)) (hroom : buf.size < cap) :
    Calls Try.prog 11 #[.pointer (some ⟨p, 0, none⟩), x] w fun e w' => e = .returned (.bool true) ∧ w' = w.setChan c cap (buf.push x) false (s + 1) r false := by
  have hlt := World.block_lt_of_cell? w _ h0
  have cL := load_any p false w h1
  refine calls_of_loneTo fun cs => ?_
  have e : Frame.enter Try.prog 11 #[.pointer (some ⟨p, 0, none⟩), x] .normal = (base 11).at ⟨#[.pointer (some ⟨p, 0, none⟩), x, undef, undef, undef, undef, undef, undef, undef, undef, undef, undef, undef, undef, undef, undef, undef], []⟩ [.code (Try.f11.body.getD .skip)] := by
    simp [Frame.enter, Frame.at, Try.func11, base, Try.f11]
  rw [e]
  refine LoneTo.goes (n := 60) ?_
  simp only [Try.f11, Option.getD_some]
  repeat (first | s_cond true | s_cond false | s_c stepG_seq | s_c stepG_skip | s_c stepG_block | s_c stepG_region_end | s_c stepG_ret' | s_reg | s_op)
  s_in
  refine goes_call rfl rfl (by decide) rfl Try.func30 (by kernel_rfl) rfl ⟨trivial, ?_⟩
  s_stop
  refine LoneTo.call Try.func30 rfl (by simp [Act.eval]) cL ?_
  rintro e w1 ⟨rfl, rfl⟩
  refine ⟨_, rfl, ?_⟩
  rw [Frame.finish_at]
  walk_nrm
  refine LoneTo.goes (n := 60) ?_
  repeat (first | s_cond true | s_cond false | s_c stepG_seq | s_c stepG_skip | s_c stepG_block | s_c stepG_region_end | s_c stepG_ret' | s_reg | s_op)
  s_stop
  refine LoneTo.step (step_lone_select_send_room (c := c) (z' := .int .u8 0) (cap := cap) (buf := buf) (s := s) (r := r) (tm := false) (stepG_comm (cases := #[scase c x (.int .u8 0)]) (blocking := false) (shape := .select) (w' := w1) rfl rfl (by decide) (by simp [go_sem, execOp, scase, Act.eval])) hc hroom) ?_
  rw [Frame.finish_at]
  walk_nrm
  refine LoneTo.goes (n := 60) ?_
  repeat (first | s_cond true | s_cond false | s_c stepG_seq | s_c stepG_skip | s_c stepG_block | s_c stepG_region_end | s_c stepG_ret' | s_reg | s_op)
  s_stop
  refine LoneTo.done ⟨.returned (.bool true), _, rfl, ⟨rfl, rfl⟩, rfl, rfl, rfl, rfl, _, Try.func11, by simp [results, Try.f11, Frame.at]⟩
end Go.Proofs.Ytpadipjppncabaa
