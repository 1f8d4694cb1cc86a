/- The document's machine's conditions. -/
import Derived.Test.YthimhbfglgnohaaDRep
set_option linter.unusedSimpArgs false
set_option linter.unusedVariables false
namespace Go.Proofs.Ythimhbfglgnohaa
open Go.RowKit M

set_option maxHeartbeats 1600000 in
theorem dholds_any (mb k : Nat) (hk : k < 16) (cv wv iv ov : Value) (s : St) (w : World) (hB : Blk w mb (dcells cv wv iv ov s) 68) :
    Calls Try.prog 53 #[.pointer (some ⟨mb, 0, none⟩), .int .i64 k] w fun e w' => e = .returned (.bool (holds s k)) ∧ Only Nil w w' := by
  have c21 : w.cell? ⟨mb, 19, none⟩ = some (.bool s.n) := hB.cell 19
  have c22 : w.cell? ⟨mb, 20, none⟩ = some (.bool s.z) := hB.cell 20
  have c23 : w.cell? ⟨mb, 21, none⟩ = some (.bool s.c) := hB.cell 21
  have c24 : w.cell? ⟨mb, 22, none⟩ = some (.bool s.v) := hB.cell 22
  have hlt := hB.lt
  clear hB
  unfold M.holds M.cond
  obtain ⟨n, hn⟩ : ∃ c, s.n = c := ⟨_, rfl⟩
  obtain ⟨z, hz⟩ : ∃ c, s.z = c := ⟨_, rfl⟩
  obtain ⟨c, hc⟩ : ∃ c, s.c = c := ⟨_, rfl⟩
  obtain ⟨v, hv⟩ : ∃ c, s.v = c := ⟨_, rfl⟩
  rw [hn] at c21 ⊢
  rw [hz] at c22 ⊢
  rw [hc] at c23 ⊢
  rw [hv] at c24 ⊢
  clear hn hz hc hv
  rcases lt16 hk with rfl | rfl | rfl | rfl | rfl | rfl | rfl | rfl | rfl | rfl | rfl | rfl | rfl | rfl | rfl | rfl
  · skip
    all_goals
      go_enter Try.func53, Try.ntmps53
      go_wp2_with fail
      first | go_ret | (go_quiet (fail); go_wp2_with fail; go_ret)
      first | exact ⟨rfl, (by (repeat with_reducible first | exact Only.refl _ _ | refine Only.alloc ?_ _ | refine Only.drewN ?_ _ | refine Only.drew ?_ | refine Only.setOne ?_ _ _))⟩ | exact ⟨congrArg (fun x => Ending.returned (.bool x)) (by simp), (by (repeat with_reducible first | exact Only.refl _ _ | refine Only.alloc ?_ _ | refine Only.drewN ?_ _ | refine Only.drew ?_ | refine Only.setOne ?_ _ _))⟩
  · skip
    all_goals
      go_enter Try.func53, Try.ntmps53
      go_wp2_with fail
      first | go_ret | (go_quiet (fail); go_wp2_with fail; go_ret)
      first | exact ⟨rfl, (by (repeat with_reducible first | exact Only.refl _ _ | refine Only.alloc ?_ _ | refine Only.drewN ?_ _ | refine Only.drew ?_ | refine Only.setOne ?_ _ _))⟩ | exact ⟨congrArg (fun x => Ending.returned (.bool x)) (by simp), (by (repeat with_reducible first | exact Only.refl _ _ | refine Only.alloc ?_ _ | refine Only.drewN ?_ _ | refine Only.drew ?_ | refine Only.setOne ?_ _ _))⟩
  · skip
    all_goals
      go_enter Try.func53, Try.ntmps53
      go_wp2_with fail
      first | go_ret | (go_quiet (fail); go_wp2_with fail; go_ret)
      first | exact ⟨rfl, (by (repeat with_reducible first | exact Only.refl _ _ | refine Only.alloc ?_ _ | refine Only.drewN ?_ _ | refine Only.drew ?_ | refine Only.setOne ?_ _ _))⟩ | exact ⟨congrArg (fun x => Ending.returned (.bool x)) (by simp), (by (repeat with_reducible first | exact Only.refl _ _ | refine Only.alloc ?_ _ | refine Only.drewN ?_ _ | refine Only.drew ?_ | refine Only.setOne ?_ _ _))⟩
  · skip
    all_goals
      go_enter Try.func53, Try.ntmps53
      go_wp2_with fail
      first | go_ret | (go_quiet (fail); go_wp2_with fail; go_ret)
      first | exact ⟨rfl, (by (repeat with_reducible first | exact Only.refl _ _ | refine Only.alloc ?_ _ | refine Only.drewN ?_ _ | refine Only.drew ?_ | refine Only.setOne ?_ _ _))⟩ | exact ⟨congrArg (fun x => Ending.returned (.bool x)) (by simp), (by (repeat with_reducible first | exact Only.refl _ _ | refine Only.alloc ?_ _ | refine Only.drewN ?_ _ | refine Only.drew ?_ | refine Only.setOne ?_ _ _))⟩
  · cases c <;> cases z
    all_goals
      go_enter Try.func53, Try.ntmps53
      go_wp2_with fail
      first | go_ret | (go_quiet (fail); go_wp2_with fail; go_ret)
      first | exact ⟨rfl, (by (repeat with_reducible first | exact Only.refl _ _ | refine Only.alloc ?_ _ | refine Only.drewN ?_ _ | refine Only.drew ?_ | refine Only.setOne ?_ _ _))⟩ | exact ⟨congrArg (fun x => Ending.returned (.bool x)) (by simp), (by (repeat with_reducible first | exact Only.refl _ _ | refine Only.alloc ?_ _ | refine Only.drewN ?_ _ | refine Only.drew ?_ | refine Only.setOne ?_ _ _))⟩
  · cases n <;> cases v
    all_goals
      go_enter Try.func53, Try.ntmps53
      go_wp2_with fail
      first | go_ret | (go_quiet (fail); go_wp2_with fail; go_ret)
      first | exact ⟨rfl, (by (repeat with_reducible first | exact Only.refl _ _ | refine Only.alloc ?_ _ | refine Only.drewN ?_ _ | refine Only.drew ?_ | refine Only.setOne ?_ _ _))⟩ | exact ⟨congrArg (fun x => Ending.returned (.bool x)) (by simp), (by (repeat with_reducible first | exact Only.refl _ _ | refine Only.alloc ?_ _ | refine Only.drewN ?_ _ | refine Only.drew ?_ | refine Only.setOne ?_ _ _))⟩
  · cases n <;> cases v <;> cases z
    all_goals
      go_enter Try.func53, Try.ntmps53
      go_wp2_with fail
      first | go_ret | (go_quiet (fail); go_wp2_with fail; go_ret)
      first | exact ⟨rfl, (by (repeat with_reducible first | exact Only.refl _ _ | refine Only.alloc ?_ _ | refine Only.drewN ?_ _ | refine Only.drew ?_ | refine Only.setOne ?_ _ _))⟩ | exact ⟨congrArg (fun x => Ending.returned (.bool x)) (by simp), (by (repeat with_reducible first | exact Only.refl _ _ | refine Only.alloc ?_ _ | refine Only.drewN ?_ _ | refine Only.drew ?_ | refine Only.setOne ?_ _ _))⟩
  · skip
    all_goals
      go_enter Try.func53, Try.ntmps53
      go_wp2_with fail
      first | go_ret | (go_quiet (fail); go_wp2_with fail; go_ret)
      first | exact ⟨rfl, (by (repeat with_reducible first | exact Only.refl _ _ | refine Only.alloc ?_ _ | refine Only.drewN ?_ _ | refine Only.drew ?_ | refine Only.setOne ?_ _ _))⟩ | exact ⟨congrArg (fun x => Ending.returned (.bool x)) (by simp), (by (repeat with_reducible first | exact Only.refl _ _ | refine Only.alloc ?_ _ | refine Only.drewN ?_ _ | refine Only.drew ?_ | refine Only.setOne ?_ _ _))⟩
  · skip
    all_goals
      go_enter Try.func53, Try.ntmps53
      go_wp2_with fail
      first | go_ret | (go_quiet (fail); go_wp2_with fail; go_ret)
      first | exact ⟨rfl, (by (repeat with_reducible first | exact Only.refl _ _ | refine Only.alloc ?_ _ | refine Only.drewN ?_ _ | refine Only.drew ?_ | refine Only.setOne ?_ _ _))⟩ | exact ⟨congrArg (fun x => Ending.returned (.bool x)) (by simp), (by (repeat with_reducible first | exact Only.refl _ _ | refine Only.alloc ?_ _ | refine Only.drewN ?_ _ | refine Only.drew ?_ | refine Only.setOne ?_ _ _))⟩
  · skip
    all_goals
      go_enter Try.func53, Try.ntmps53
      go_wp2_with fail
      first | go_ret | (go_quiet (fail); go_wp2_with fail; go_ret)
      first | exact ⟨rfl, (by (repeat with_reducible first | exact Only.refl _ _ | refine Only.alloc ?_ _ | refine Only.drewN ?_ _ | refine Only.drew ?_ | refine Only.setOne ?_ _ _))⟩ | exact ⟨congrArg (fun x => Ending.returned (.bool x)) (by simp), (by (repeat with_reducible first | exact Only.refl _ _ | refine Only.alloc ?_ _ | refine Only.drewN ?_ _ | refine Only.drew ?_ | refine Only.setOne ?_ _ _))⟩
  · skip
    all_goals
      go_enter Try.func53, Try.ntmps53
      go_wp2_with fail
      first | go_ret | (go_quiet (fail); go_wp2_with fail; go_ret)
      first | exact ⟨rfl, (by (repeat with_reducible first | exact Only.refl _ _ | refine Only.alloc ?_ _ | refine Only.drewN ?_ _ | refine Only.drew ?_ | refine Only.setOne ?_ _ _))⟩ | exact ⟨congrArg (fun x => Ending.returned (.bool x)) (by simp), (by (repeat with_reducible first | exact Only.refl _ _ | refine Only.alloc ?_ _ | refine Only.drewN ?_ _ | refine Only.drew ?_ | refine Only.setOne ?_ _ _))⟩
  · skip
    all_goals
      go_enter Try.func53, Try.ntmps53
      go_wp2_with fail
      first | go_ret | (go_quiet (fail); go_wp2_with fail; go_ret)
      first | exact ⟨rfl, (by (repeat with_reducible first | exact Only.refl _ _ | refine Only.alloc ?_ _ | refine Only.drewN ?_ _ | refine Only.drew ?_ | refine Only.setOne ?_ _ _))⟩ | exact ⟨congrArg (fun x => Ending.returned (.bool x)) (by simp), (by (repeat with_reducible first | exact Only.refl _ _ | refine Only.alloc ?_ _ | refine Only.drewN ?_ _ | refine Only.drew ?_ | refine Only.setOne ?_ _ _))⟩
  · cases c <;> cases z
    all_goals
      go_enter Try.func53, Try.ntmps53
      go_wp2_with fail
      first | go_ret | (go_quiet (fail); go_wp2_with fail; go_ret)
      first | exact ⟨rfl, (by (repeat with_reducible first | exact Only.refl _ _ | refine Only.alloc ?_ _ | refine Only.drewN ?_ _ | refine Only.drew ?_ | refine Only.setOne ?_ _ _))⟩ | exact ⟨congrArg (fun x => Ending.returned (.bool x)) (by simp), (by (repeat with_reducible first | exact Only.refl _ _ | refine Only.alloc ?_ _ | refine Only.drewN ?_ _ | refine Only.drew ?_ | refine Only.setOne ?_ _ _))⟩
  · cases n <;> cases v
    all_goals
      go_enter Try.func53, Try.ntmps53
      go_wp2_with fail
      first | go_ret | (go_quiet (fail); go_wp2_with fail; go_ret)
      first | exact ⟨rfl, (by (repeat with_reducible first | exact Only.refl _ _ | refine Only.alloc ?_ _ | refine Only.drewN ?_ _ | refine Only.drew ?_ | refine Only.setOne ?_ _ _))⟩ | exact ⟨congrArg (fun x => Ending.returned (.bool x)) (by simp), (by (repeat with_reducible first | exact Only.refl _ _ | refine Only.alloc ?_ _ | refine Only.drewN ?_ _ | refine Only.drew ?_ | refine Only.setOne ?_ _ _))⟩
  · cases n <;> cases v <;> cases z
    all_goals
      go_enter Try.func53, Try.ntmps53
      go_wp2_with fail
      first | go_ret | (go_quiet (fail); go_wp2_with fail; go_ret)
      first | exact ⟨rfl, (by (repeat with_reducible first | exact Only.refl _ _ | refine Only.alloc ?_ _ | refine Only.drewN ?_ _ | refine Only.drew ?_ | refine Only.setOne ?_ _ _))⟩ | exact ⟨congrArg (fun x => Ending.returned (.bool x)) (by simp), (by (repeat with_reducible first | exact Only.refl _ _ | refine Only.alloc ?_ _ | refine Only.drewN ?_ _ | refine Only.drew ?_ | refine Only.setOne ?_ _ _))⟩
  · skip
    all_goals
      go_enter Try.func53, Try.ntmps53
      go_wp2_with fail
      first | go_ret | (go_quiet (fail); go_wp2_with fail; go_ret)
      first | exact ⟨rfl, (by (repeat with_reducible first | exact Only.refl _ _ | refine Only.alloc ?_ _ | refine Only.drewN ?_ _ | refine Only.drew ?_ | refine Only.setOne ?_ _ _))⟩ | exact ⟨congrArg (fun x => Ending.returned (.bool x)) (by simp), (by (repeat with_reducible first | exact Only.refl _ _ | refine Only.alloc ?_ _ | refine Only.drewN ?_ _ | refine Only.drew ?_ | refine Only.setOne ?_ _ _))⟩
end Go.Proofs.Ythimhbfglgnohaa
