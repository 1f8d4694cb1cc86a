/- The document's Encode, of instructions that may be. -/
import Derived.Test.YthimhbfglgnohaaRDecR
set_option linter.unusedSimpArgs false
set_option linter.unusedVariables false
namespace Go.Proofs.Ythimhbfglgnohaa
open Go.RowKit M

def inB (n a b : Int) : Bool := decide (a ≤ n ∧ n ≤ b)
theorem inB_yes {n a b : Int} (h : a ≤ n ∧ n ≤ b) : inB n a b = true := by unfold inB; exact decide_eq_true h
theorem inB_no {n a b : Int} (h : ¬ (a ≤ n ∧ n ≤ b)) : inB n a b = false := by unfold inB; exact decide_eq_false h

theorem in_any (n a b : Int) (w : World) :
    Calls Try.prog 38 #[.int .i64 n, .int .i64 a, .int .i64 b] w fun e w' => e = .returned (.bool (inB n a b)) ∧ w = w' := by
  by_cases h1 : a ≤ n
  · have e : inB n a b = decide (n ≤ b) := by unfold inB; simp [h1]
    have E := Lib.hid e
    clear e
    by_cases h2 : n ≤ b
    · go_enter Try.func38, Try.ntmps38
      go_wp2
      go_ret
      exact ⟨by rw [E.out]; simp [h2], rfl⟩
    · have h3 : b < n := by omega
      go_enter Try.func38, Try.ntmps38
      go_wp2
      go_ret
      exact ⟨by rw [E.out]; simp; omega, rfl⟩
  · have e : inB n a b = false := inB_no (by omega)
    have E := Lib.hid e
    have h3 : n < a := by omega
    clear e h1
    go_enter Try.func38, Try.ntmps38
    go_wp2
    go_ret
    exact ⟨by rw [E.out]; rfl, rfl⟩

theorem bit_any (u : Bool) (w : World) :
    Calls Try.prog 39 #[.bool u] w fun e w' => e = .returned (.int .u32 (b2 u : Int)) ∧ w = w' := by
  cases u
  · go_enter Try.func39, Try.ntmps39
    go_wp2
    go_ret
    exact ⟨rfl, rfl⟩
  · go_enter Try.func39, Try.ntmps39
    go_wp2
    go_ret
    exact ⟨rfl, rfl⟩

theorem quiet_add_same {P : Program} {f : FuncId} {args : Array Value} {w : World} {a n : Nat} {v : Value}
    (h : Calls P f args (w.drewN (a + n)) fun e w' => e = .returned v ∧ w' = w.drewN (a + n)) :
    Calls P f args (w.drewN (a + n)) fun e w'' => e = .returned v ∧ ∃ m, w'' = w.drewN (a + m) :=
  h.mono fun _ _ ⟨he, hm⟩ => ⟨he, n, hm⟩
theorem in_q (n a b : Int) (w : World) :
    Calls Try.prog 38 #[.int .i64 n, .int .i64 a, .int .i64 b] w fun e w' => e = .returned (.bool (inB n a b)) ∧ w' = w := (in_any n a b w).mono fun _ _ ⟨h1, h2⟩ => ⟨h1, h2.symm⟩
theorem bit_q (u : Bool) (w : World) :
    Calls Try.prog 39 #[.bool u] w fun e w' => e = .returned (.int .u32 (b2 u : Int)) ∧ w' = w := (bit_any u w).mono fun _ _ ⟨h1, h2⟩ => ⟨h1, h2.symm⟩

theorem bit_t (w : World) : Calls Try.prog 39 #[.bool true] w fun e w' => e = .returned (.int .u32 1) ∧ w' = w := bit_q true w
theorem bit_f (w : World) : Calls Try.prog 39 #[.bool false] w fun e w' => e = .returned (.int .u32 0) ∧ w' = w := bit_q false w

theorem put_lit (f : Nat) (u v : Bool) (a X F n : Nat) (h : f * 1073741824 + b2 u * 536870912 = F) (hn : n = put f u v a X) : n = F + b2 v * 268435456 + a * 16777216 + X := by
    rw [hn]; unfold put; rw [h]
theorem put_var (f : Nat) (u v : Bool) (a X F n : Nat) (h : f * 1073741824 = F) (hn : n = put f u v a X) : n = F + b2 u * 536870912 + b2 v * 268435456 + a * 16777216 + X := by
    rw [hn]; unfold put; rw [h]

/-- A field put beside what stands above it. -/
theorem or_sum {x y z : Nat} {Y : Int} (k : Nat) (hx : x % 2 ^ k = 0) (hy : y < 2 ^ k) (hY : Y = (y : Int)) (hz : x + y = z) (hb : z < 4294967296) :
    bits BinOp.or IntKind.u32 (x : Int) Y = (z : Int) := by
  rw [hY, u32_or_nat _ _ (by omega) (by omega), ← hz]
  have h := Nat.two_pow_add_eq_or_of_lt (i := k) (b := y) hy (x / 2 ^ k)
  have e : 2 ^ k * (x / 2 ^ k) = x := by have := Nat.div_add_mod x (2 ^ k); omega
  rw [e] at h
  rw [h]

end Go.Proofs.Ythimhbfglgnohaa
