/- Packages varint and waferref1: the signs. -/
import Derived.Test.YtbgmdckfkfkglaaVBase
set_option linter.unusedSimpArgs false
set_option linter.unusedVariables false
namespace Go.Proofs.Ytbgmdckfkfkglaa
open Go.RowKit M

set_option maxHeartbeats 400000 in
theorem withoutSign_any (v : Int) (w : World) (h1 : -9223372036854775808 ≤ v) (h2 : v ≤ 9223372036854775807) :
    Calls Try.prog 79 #[.int .i64 v] w fun e w' => e = .returned (.int .u64 (zig v : Nat)) ∧ w = w' := by
  by_cases h0 : v < 0
  · have hn := not_neg v h1 h0
    obtain ⟨x, hx⟩ : ∃ x : Nat, -(v + 1) = x := ⟨(-(v + 1)).toNat, by omega⟩
    have ho := or_one x (by omega)
    have hz : 2 * x + 1 = zig v := by rw [zig_neg h0, hx]; omega
    rw [hx] at hn
    have hx3 : x < 9223372036854775808 := by omega
    have HZ := Lib.hid hz
    have HO := Lib.hid ho
    clear hz ho hx
    go_enter Try.func79, Try.ntmps79
    go_wp2
    go_ret
    exact ⟨ret_of (by rw [show IntKind.u64.wrap (IntKind.u64.wrap (x : Int) * 2) = (x : Int) * 2 by rw [IntKind.wrap_u64, IntKind.wrap_u64]; omega, HO.out, HZ.out]), rfl⟩
  · have hz : v * 2 = (zig v : Nat) := by rw [zig_pos (by omega)]; omega
    have HZ := Lib.hid hz
    clear hz
    go_enter Try.func79, Try.ntmps79
    go_wp2
    go_ret
    exact ⟨ret_of HZ.out, rfl⟩

end Go.Proofs.Ytbgmdckfkfkglaa
