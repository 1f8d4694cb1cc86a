/- Packages varint and waferref1: the signs. -/
import Derived.Test.YtipdfgkemghmoaaDoorVBase
set_option linter.unusedSimpArgs false
set_option linter.unusedVariables false
namespace Go.Proofs.YtipdfgkemghmoaaDoor
open Go.RowKit M

set_option maxHeartbeats 400000 in
theorem withoutSign_any (v : Int) (w : World) (h1 : -9223372036854775808 ≤ v) (h2 : v ≤ 9223372036854775807) :
    Calls Tryd.prog 30 #[.int .i64 v] w fun e w' => e = .returned (.int .u64 (zig v : Nat)) ∧ w = w' := by
  by_cases h0 : v < 0
  · have hn := not_neg v h1 h0
    obtain ⟨x, hx⟩ : ∃ x : Nat, -(v + 1) = x := ⟨(-(v + 1)).toNat, by omega⟩
    have ho := or_one x (by omega)
    have hz : 2 * x + 1 = zig v := by rw [zig_neg h0, hx]; omega
    rw [hx] at hn
    have hx3 : x < 9223372036854775808 := by omega
    have HZ := Lib.hid hz
    have HO := Lib.hid ho
    clear hz ho hx
    go_enter Tryd.func30, Tryd.ntmps30
    go_wp2
    go_ret
    exact ⟨ret_of (by rw [show IntKind.u64.wrap (IntKind.u64.wrap (x : Int) * 2) = (x : Int) * 2 by rw [IntKind.wrap_u64, IntKind.wrap_u64]; omega, HO.out, HZ.out]), rfl⟩
  · have hz : v * 2 = (zig v : Nat) := by rw [zig_pos (by omega)]; omega
    have HZ := Lib.hid hz
    clear hz
    go_enter Tryd.func30, Tryd.ntmps30
    go_wp2
    go_ret
    exact ⟨ret_of HZ.out, rfl⟩

set_option maxHeartbeats 400000 in
theorem zig_any (v : Int) (w : World) (h1 : -9223372036854775808 ≤ v) (h2 : v ≤ 9223372036854775807) :
    Calls Tryd.prog 22 #[.int .i64 v] w fun e w' => e = .returned (.int .u64 (zig v : Nat)) ∧ w = w' := by
  by_cases h0 : v < 0
  · obtain ⟨x, hx⟩ : ∃ x : Nat, -(v + 1) = x := ⟨(-(v + 1)).toNat, by omega⟩
    have ho := or_one x (by omega)
    have hz : 2 * x + 1 = zig v := by rw [zig_neg h0, hx]; omega
    rw [hz, ← hx] at ho
    have HO := Lib.hid ho
    clear hz ho hx
    have h0' : decide (0 ≤ v) = false := by simpa using h0
    go_enter Tryd.func22, Tryd.ntmps22
    go_wp2
    go_ret
    exact ⟨ret_of HO.out, rfl⟩
  · have hz : v * 2 = (zig v : Nat) := by rw [zig_pos (by omega)]; omega
    have HZ := Lib.hid hz
    clear hz
    have h0' : decide (0 ≤ v) = true := by simpa using h0
    go_enter Tryd.func22, Tryd.ntmps22
    go_wp2
    go_ret
    exact ⟨ret_of HZ.out, rfl⟩

set_option maxHeartbeats 400000 in
theorem withSign_any (u : Nat) (w : World) (h1 : u < 18446744073709551616) :
    Calls Tryd.prog 34 #[.int .u64 u] w fun e w' => e = .returned (.int .i64 (zag u)) ∧ w = w' := by
  have ha := and_one u h1
  rcases Nat.mod_two_eq_zero_or_one u with h0 | h0
  · rw [h0] at ha
    have ha' : (bits BinOp.and IntKind.u64 (↑u) 1 == 1) = false := by rw [ha]; rfl
    have hz : ((u / 2 : Nat) : Int) = zag u := (zag_even h0).symm
    have HZ := Lib.hid hz
    clear h0 ha hz
    go_enter Tryd.func34, Tryd.ntmps34
    go_wp2
    go_ret
    exact ⟨ret_of HZ.out, rfl⟩
  · rw [h0] at ha
    have ha' : (bits BinOp.and IntKind.u64 (↑u) 1 == 1) = true := by rw [ha]; rfl
    have hz : bits .xor .i64 (-1) ((u : Int) / 2) = zag u := by
      rw [show (u : Int) / 2 = ((u / 2 : Nat) : Int) by omega, i64_not _ (by omega), zag_odd h0]; omega
    have HZ := Lib.hid hz
    clear h0 ha hz
    go_enter Tryd.func34, Tryd.ntmps34
    go_wp2
    go_ret
    exact ⟨ret_of HZ.out, rfl⟩

set_option maxHeartbeats 400000 in
theorem zag_any (u : Nat) (w : World) (h1 : u < 18446744073709551616) :
    Calls Tryd.prog 26 #[.int .u64 u] w fun e w' => e = .returned (.int .i64 (zag u)) ∧ w = w' := by
  have ha := and_one u h1
  rcases Nat.mod_two_eq_zero_or_one u with h0 | h0
  · rw [h0] at ha
    have ha' : (bits BinOp.and IntKind.u64 (↑u) 1 == 0) = true := by rw [ha]; rfl
    have hz : ((u / 2 : Nat) : Int) = zag u := (zag_even h0).symm
    have HZ := Lib.hid hz
    clear h0 ha hz
    go_enter Tryd.func26, Tryd.ntmps26
    go_wp2
    go_ret
    exact ⟨ret_of HZ.out, rfl⟩
  · rw [h0] at ha
    have ha' : (bits BinOp.and IntKind.u64 (↑u) 1 == 0) = false := by rw [ha]; rfl
    have hz : -((u : Int) / 2) - 1 = zag u := by
      rw [zag_odd h0]; omega
    have HZ := Lib.hid hz
    clear h0 ha hz
    go_enter Tryd.func26, Tryd.ntmps26
    go_wp2
    go_ret
    exact ⟨ret_of HZ.out, rfl⟩
end Go.Proofs.YtipdfgkemghmoaaDoor
