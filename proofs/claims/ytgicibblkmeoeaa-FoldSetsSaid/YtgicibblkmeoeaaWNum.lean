/- A constant of a form, both sides. -/
import Derived.Test.YtgicibblkmeoeaaProg
import Derived.Test.YtgicibblkmeoeaaQSame
import Derived.Test.YtgicibblkmeoeaaQPut
import Derived.Test.YtgicibblkmeoeaaWBase
set_option linter.unusedSimpArgs false
set_option linter.unusedVariables false
namespace Go.Proofs.Ytgicibblkmeoeaa
open Go.RowKit M


set_option maxRecDepth 10000 in
theorem basicP_any (f : Int) (w : World) : Calls Try.prog 27 #[.int .i64 f] w fun e w' => e = .returned (.agg #[.int .i64 f, .int .i64 0, .string ⟨#[]⟩, .slice none 0 0]) ∧ Only Nil w w' := by
  go_enter Try.func27, Try.ntmps27
  go_wp2_with fail
  refine bodyPost_ret (results_cell_row rfl _ _ w.heap.size 24 _ (0, 0) _ rfl (Blk.new w #[.int .i64 f, .int .i64 0, .string ⟨#[]⟩, .slice none 0 0] 24) Try.underlying24 rfl (by kernel_rfl)) rfl ?_
  exact ⟨rfl, alloc_nil _ _⟩
set_option maxRecDepth 10000 in
theorem numP_any (f i : Int) (w : World) : Calls Try.prog 11 #[.int .i64 f, .int .i32 i] w fun e w' => e = .returned (.agg #[.int .i64 0, .int .i64 f, .int .i64 0, .string ⟨#[]⟩, .slice none 0 0, .int .i32 i, .string ⟨#[]⟩, .slice none 0 0]) ∧ Only Nil w w' := by
  have C := fun w => basicP_any f w
  go_enter Try.func11, Try.ntmps11
  go_wp2_with fail
  refine (C _).mono ?_
  rintro e w3 ⟨rfl, ho3⟩
  have hB := (Blk.new w #[.int .i64 0, .int .i64 0, .int .i64 0, .string ⟨#[]⟩, .slice none 0 0, .int .i32 0, .string ⟨#[]⟩, .slice none 0 0] 27).kept ho3 (fun h => h)
  have HO3 : Hid (Only Nil w w3) := Lib.hid (Nil.trans (alloc_nil _ _) ho3)
  have HB := Lib.hid hB
  obtain ⟨⟨c0, c1, c2, c3, c4, c5, c6, c7⟩, g0, g1, g2, g3, g4, g5, g6, g7⟩ := hB.Eights
  clear C ho3 hB
  go_wp2_with fail
  refine bodyPost_ret (results_cell_row rfl _ _ w.heap.size 27 _ (0, 0) _ rfl (HB.out.putEight _ _ _ _ _ _ _ _) Try.underlying27 rfl (by kernel_rfl)) rfl ?_
  exact ⟨rfl, HO3.out.putEight (fun h => absurd h (Nat.lt_irrefl _)) _ _ _ _ _ _ _ _⟩

set_option maxRecDepth 10000 in
theorem basicR_any (f : Int) (w : World) : Calls Try.prog 12 #[.int .i64 f] w fun e w' => e = .returned (.agg #[.int .i64 f, .int .i64 0, .string ⟨#[]⟩, .slice none 0 0]) ∧ Only Nil w w' := by
  go_enter Try.func12, Try.ntmps12
  go_wp2_with fail
  refine bodyPost_ret (results_cell_row rfl _ _ w.heap.size 24 _ (0, 0) _ rfl (Blk.new w #[.int .i64 f, .int .i64 0, .string ⟨#[]⟩, .slice none 0 0] 24) Try.underlying24 rfl (by kernel_rfl)) rfl ?_
  exact ⟨rfl, alloc_nil _ _⟩
set_option maxRecDepth 10000 in
theorem numR_any (f i : Int) (w : World) : Calls Try.prog 14 #[.int .i64 f, .int .i32 i] w fun e w' => e = .returned (.agg #[.int .i64 0, .int .i64 f, .int .i64 0, .string ⟨#[]⟩, .slice none 0 0, .int .i32 i, .string ⟨#[]⟩, .slice none 0 0]) ∧ Only Nil w w' := by
  have C := fun w => basicR_any f w
  go_enter Try.func14, Try.ntmps14
  go_wp2_with fail
  refine (C _).mono ?_
  rintro e w3 ⟨rfl, ho3⟩
  have hB := (Blk.new w #[.int .i64 0, .int .i64 0, .int .i64 0, .string ⟨#[]⟩, .slice none 0 0, .int .i32 0, .string ⟨#[]⟩, .slice none 0 0] 27).kept ho3 (fun h => h)
  have HO3 : Hid (Only Nil w w3) := Lib.hid (Nil.trans (alloc_nil _ _) ho3)
  have HB := Lib.hid hB
  obtain ⟨⟨c0, c1, c2, c3, c4, c5, c6, c7⟩, g0, g1, g2, g3, g4, g5, g6, g7⟩ := hB.Eights
  clear C ho3 hB
  go_wp2_with fail
  refine bodyPost_ret (results_cell_row rfl _ _ w.heap.size 27 _ (0, 0) _ rfl (HB.out.putEight _ _ _ _ _ _ _ _) Try.underlying27 rfl (by kernel_rfl)) rfl ?_
  exact ⟨rfl, HO3.out.putEight (fun h => absurd h (Nat.lt_irrefl _)) _ _ _ _ _ _ _ _⟩
end Go.Proofs.Ytgicibblkmeoeaa
