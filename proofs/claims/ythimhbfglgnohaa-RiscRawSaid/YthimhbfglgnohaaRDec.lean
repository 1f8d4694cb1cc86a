/- Decode, the program's and the document's, by contracts. -/
import Derived.Test.YthimhbfglgnohaaProg
import Derived.Test.YthimhbfglgnohaaRMath
import Derived.Test.YthimhbfglgnohaaAMath
import Derived.Test.YthimhbfglgnohaaMem
import Derived.Lib.Hide
import Derived.Deep.QuietTactic
import Derived.BigQuiet
set_option linter.unusedSimpArgs false
set_option linter.unusedVariables false
namespace Go.Proofs.Ythimhbfglgnohaa
open Go.RowKit M

theorem M.Only.drewN {S : Nat → Prop} {a w : World} (h : Only S a w) (q : Nat) : Only S a (w.drewN q) := ⟨h.os, h.tape, h.output, h.size, h.block⟩
theorem M.Only.setNew {S : Nat → Prop} {a w : World} (h : Only S a w) {p : Addr} (hp : a.heap.size ≤ p.block) (u : Value) : Only S a (w.setCell p u) :=
  h.setCell (fun h => absurd h (by omega)) u

theorem mask_u32 (v k : Nat) (hv : v < 4294967296) (hk : k < 32) :
    bits BinOp.and IntKind.u32 v (IntKind.u32.wrap (IntKind.u32.wrap (2 ^ k) - 1)) = ((v % 2 ^ k : Nat) : Int) := by
  have h1 : 2 ^ k < 4294967296 := by
    have := Nat.pow_lt_pow_right (a := 2) (by omega) hk; simpa using this
  have h0 : 0 < 2 ^ k := Nat.two_pow_pos k
  rw [pow_cast, wrap_u32, Nat.mod_eq_of_lt h1]
  have h2 : (((2 ^ k : Nat) : Int) - 1) = ((2 ^ k - 1 : Nat) : Int) := by omega
  rw [h2, wrap_u32, Nat.mod_eq_of_lt (by omega), u32_and_nat _ _ hv (by omega), Nat.and_two_pow_sub_one_eq_mod]

/-- Some lowest bits, as the walk has them. -/
theorem num_eq (v a k : Nat) (hv : v < 4294967296) (hk : k < 32) :
    wrap64 (bits BinOp.and IntKind.u32 ((v : Int) / 2 ^ a) ((2 ^ k - 1) % 4294967296)) = ((v / 2 ^ a % 2 ^ k : Nat) : Int) := by
  have h1 : 2 ^ k < 4294967296 := by
    have := Nat.pow_lt_pow_right (a := 2) (by omega) hk; simpa using this
  have h0 : 0 < 2 ^ k := Nat.two_pow_pos k
  have h2 : ((2 : Int) ^ k - 1) % 4294967296 = ((2 ^ k - 1 : Nat) : Int) := by rw [pow_cast]; omega
  have h3 : v / 2 ^ a ≤ v := Nat.div_le_self _ _
  have e1 : ((v : Int) / 2 ^ a) = ((v / 2 ^ a : Nat) : Int) := by rw [pow_cast]; rfl
  have h4 : v / 2 ^ a % 2 ^ k < 2 ^ k := Nat.mod_lt _ h0
  rw [h2, e1, u32_and_nat _ _ (by omega) (by omega), Nat.and_two_pow_sub_one_eq_mod]
  unfold wrap64; omega
theorem number_any (v a k : Nat) (w : World) (hv : v < 4294967296) (ha : a < 32) (hk : k < 32) :
    Calls Try.prog 54 #[.int .u32 v, .int .i64 a, .int .i64 k] w fun e w' => e = .returned (.int .i64 ((v / 2 ^ a % 2 ^ k : Nat) : Int)) ∧ ∃ q, w' = w.drewN q := by
  have he := Lib.hid (num_eq v a k hv hk)
  go_enter Try.func54, Try.ntmps54
  go_wp2_with fail
  go_quiet (fail)
  go_wp2_with fail
  go_ret
  exact ⟨congrArg (fun x => Ending.returned (.int .i64 x)) he.out, nq, rfl⟩

theorem sx20_eq (v : Nat) : wrap32 ((v : Int) * 4096 % 4294967296) / 4096 = sx20 v := by unfold wrap32 sx20; split <;> omega
theorem sx24_eq (v : Nat) : wrap32 ((v : Int) * 256 % 4294967296) / 256 = sx24 v := by unfold wrap32 sx24; split <;> omega
theorem sx20_mod (v : Nat) : sx20 (v % 1048576) = sx20 v := by unfold sx20; rw [Nat.mod_mod]
theorem sx24_mod (v : Nat) : sx24 (v % 16777216) = sx24 v := by unfold sx24; rw [Nat.mod_mod]
theorem signed20 (v : Nat) (w : World) (hv : v < 4294967296) :
    Calls Try.prog 55 #[.int .u32 v, .int .i64 20] w fun e w' => e = .returned (.int .i32 (sx20 v)) ∧ w = w' := by
  have he := Lib.hid (sx20_eq v)
  go_enter Try.func55, Try.ntmps55
  go_wp2_with fail
  go_ret
  exact ⟨congrArg (fun x => Ending.returned (.int .i32 x)) he.out, rfl⟩
theorem signed24 (v : Nat) (w : World) (hv : v < 4294967296) :
    Calls Try.prog 55 #[.int .u32 v, .int .i64 24] w fun e w' => e = .returned (.int .i32 (sx24 v)) ∧ w = w' := by
  have he := Lib.hid (sx24_eq v)
  go_enter Try.func55, Try.ntmps55
  go_wp2_with fail
  go_ret
  exact ⟨congrArg (fun x => Ending.returned (.int .i32 x)) he.out, rfl⟩
theorem signed20r (v : Nat) (w : World) (hv : v < 4294967296) :
    Calls Try.prog 46 #[.int .u32 v, .int .i64 20] w fun e w' => e = .returned (.int .i32 (sx20 v)) ∧ w = w' := by
  have he := Lib.hid (sx20_eq v)
  go_enter Try.func46, Try.ntmps46
  go_wp2_with fail
  go_ret
  exact ⟨congrArg (fun x => Ending.returned (.int .i32 x)) he.out, rfl⟩
theorem signed24r (v : Nat) (w : World) (hv : v < 4294967296) :
    Calls Try.prog 46 #[.int .u32 v, .int .i64 24] w fun e w' => e = .returned (.int .i32 (sx24 v)) ∧ w = w' := by
  have he := Lib.hid (sx24_eq v)
  go_enter Try.func46, Try.ntmps46
  go_wp2_with fail
  go_ret
  exact ⟨congrArg (fun x => Ending.returned (.int .i32 x)) he.out, rfl⟩

end Go.Proofs.Ythimhbfglgnohaa
