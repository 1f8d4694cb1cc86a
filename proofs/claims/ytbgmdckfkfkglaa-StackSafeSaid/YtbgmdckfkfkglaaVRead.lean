/- Read and ReadVar: the number that bytes begin with. -/
import Derived.Test.YtbgmdckfkfkglaaVRow
set_option linter.unusedSimpArgs false
set_option linter.unusedVariables false
namespace Go.Proofs.Ytbgmdckfkfkglaa
open Go.RowKit M

theorem andNot_eq (x p : Nat) (h : x < 256) (hp : x % 128 = p) : bits BinOp.andNot IntKind.u8 (x : Int) 128 = (p : Int) := by rw [andNot_128 x h, hp]

def triple (r : Nat × Nat × Bool) : Value := .tuple #[.int .u64 (r.1 : Nat), .int .i64 (r.2.1 : Nat), .bool r.2.2]

theorem shl_eq (p t q : Nat) (hq : p * 2 ^ t % 18446744073709551616 = q) : IntKind.u64.wrap ((p : Int) * 2 ^ t) = (q : Int) := by
  rw [pow_cast, ← Int.natCast_mul, wrap_u64, hq]
theorem shr_eq (q t : Nat) : ((q : Int) / 2 ^ t) = ((q / 2 ^ t : Nat) : Int) := by rw [pow_cast]; rfl
theorem part_fits (p k : Nat) (hp : p < 128) (h : ¬ (k = 9 ∧ 1 < p)) (hk : k < 10) : p * 2 ^ (7 * k) < 18446744073709551616 := by
  by_cases e : k = 9
  · subst e
    have : (2 : Nat) ^ (7 * 9) = 9223372036854775808 := by decide
    rw [this]; omega
  · have h1 := Nat.pow_le_pow_right (n := 2) (by omega) (show 7 * k ≤ 56 by omega)
    have e : (2 : Nat) ^ 56 = 72057594037927936 := by decide
    have h2 := Nat.mul_le_mul (show p ≤ 127 by omega) h1
    omega
theorem part_good (p t q : Nat) (hq : p * 2 ^ t = q) : ((q : Int) / 2 ^ t != (p : Int)) = false := by
  rw [shr_eq, ← hq, Nat.mul_div_cancel _ (Nat.two_pow_pos t)]; simp
theorem part_bad (p q : Nat) (hp : p < 128) (h1 : 1 < p) (hq : p * 2 ^ 63 % 18446744073709551616 = q) : ((q : Int) / 2 ^ 63 != (p : Int)) = true := by
  rw [shr_eq, bne_iff_ne]
  have e : (2 : Nat) ^ 63 = 9223372036854775808 := by decide
  rw [e] at hq ⊢
  omega

theorem and127_eq (x p : Nat) (h : x < 256) (hp : x % 128 = p) : bits BinOp.and IntKind.u8 (x : Int) 127 = (p : Int) := by rw [and_127 x h, hp]

theorem put_nil (v : Nat) (w : World) (hv : v < 18446744073709551616) :
    Calls Try.prog 66 #[.slice none 0 0, .int .u64 v] w (NewRow 5 w (U8s (putVar v))) :=
  put_any 0 _ [] v w (src_nil w) hv (by simp)
end Go.Proofs.Ytbgmdckfkfkglaa
