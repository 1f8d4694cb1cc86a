/- The machine's product, quotient, operand; conditions; places. -/
import Derived.Test.YthimhbfglgnohaaMSmall
import Derived.Test.YthimhbfglgnohaaMArith
namespace Go.Proofs.Ythimhbfglgnohaa
open Go.RowKit M

theorem mul_u (b n : Nat) (hb : b < 4294967296) (hn : n < 4294967296) : b * n < 18446744073709551616 := by
  have := Nat.mul_le_mul (show b ≤ 4294967295 by omega) (show n ≤ 4294967295 by omega)
  omega
theorem mul_s (B N : Int) (hb : I32 B) (hn : I32 N) : -4611686018427387904 ≤ B * N ∧ B * N ≤ 4611686018427387904 := by
  unfold I32 at hb hn
  have h : ∀ x y : Int, 0 ≤ x → x ≤ 2147483648 → 0 ≤ y → y ≤ 2147483648 → 0 ≤ x * y ∧ x * y ≤ 4611686018427387904 := fun x y hx1 hx2 hy1 hy2 => by
    have h1 := Int.mul_nonneg hx1 hy1
    have h2 := Int.mul_le_mul hx2 hy2 hy1 (by decide)
    omega
  rcases Int.le_total 0 B with h1 | h1 <;> rcases Int.le_total 0 N with h2 | h2
  · have := h B N h1 (by omega) h2 (by omega); omega
  · have := h B (-N) h1 (by omega) (by omega) (by omega); rw [Int.mul_neg] at this; omega
  · have := h (-B) N (by omega) (by omega) h2 (by omega); rw [Int.neg_mul] at this; omega
  · have := h (-B) (-N) (by omega) (by omega) (by omega) (by omega); rw [Int.neg_mul_neg] at this; omega

set_option maxHeartbeats 800000 in
theorem product_u (mb b n : Nat) (cv wv iv ov : Value) (s : St) (w : World) (hB : Blk w mb (icells cv wv iv ov s) 65) (hb : b < 4294967296) (hn : n < 4294967296) :
    Calls Try.prog 68 #[.pointer (some ⟨mb, 0, none⟩), .int .u32 b, .int .u32 n, .bool true] w fun e w' => e = .returned (.int .u32 (b * n % 4294967296 : Nat)) ∧
      Blk w' mb (icells cv wv iv ov { s with H := b * n / 4294967296 }) 65 ∧ Only (One mb) w w' := by
  have c20 : w.cell? ⟨mb, 20, none⟩ = some (.int .u32 s.H) := hB.cell 20
  have f20 := hB.free 20
  obtain ⟨p, hp⟩ : ∃ p, b * n = p := ⟨_, rfl⟩
  have hp1 : p < 18446744073709551616 := by rw [← hp]; exact mul_u b n hb hn
  have hp2 : (b : Int) * (n : Int) = (p : Int) := by rw [← hp]; rfl
  have h1 := hB.setCell 20 (.int .u32 (p / 4294967296 : Nat))
  rw [icells_H] at h1
  rw [hp]
  have H1 := Lib.hid h1
  clear h1 hp
  go_enter Try.func68, Try.ntmps68
  go_wp2_with fail
  go_ret
  have e1 : (p : Int) / 4294967296 % 4294967296 = ((p / 4294967296 : Nat) : Int) := by omega
  have e2 : (p : Int) / 4294967296 = ((p / 4294967296 : Nat) : Int) := by omega
  refine ⟨rfl, ?_, by (repeat with_reducible first | exact Only.refl _ _ | refine Only.alloc ?_ _ | refine Only.drewN ?_ _ | refine Only.drew ?_ | refine Only.setOne ?_ _ _)⟩
  first | exact H1.out | (rw [e1]; exact H1.out) | (rw [e2]; exact H1.out)

set_option maxHeartbeats 800000 in
theorem product_s (mb b n : Nat) (cv wv iv ov : Value) (s : St) (w : World) (hB : Blk w mb (icells cv wv iv ov s) 65) (hb : b < 4294967296) (hn : n < 4294967296) :
    Calls Try.prog 68 #[.pointer (some ⟨mb, 0, none⟩), .int .u32 b, .int .u32 n, .bool false] w fun e w' => e = .returned (.int .u32 (U (S b * S n) : Nat)) ∧
      Blk w' mb (icells cv wv iv ov { s with H := U (S b * S n / 4294967296) }) 65 ∧ Only (One mb) w w' := by
  have c20 : w.cell? ⟨mb, 20, none⟩ = some (.int .u32 s.H) := hB.cell 20
  have f20 := hB.free 20
  have hb1 := S_i32 b hb
  have hn1 := S_i32 n hn
  have hq1 := mul_s _ _ hb1 hn1
  unfold I32 at hb1 hn1
  have eb := w32_nat b hb
  have en := w32_nat n hn
  obtain ⟨B, hB'⟩ : ∃ B, S b = B := ⟨_, rfl⟩
  obtain ⟨N, hN'⟩ : ∃ N, S n = N := ⟨_, rfl⟩
  rw [hB'] at hb1 eb hq1 ⊢
  rw [hN'] at hn1 en hq1 ⊢
  obtain ⟨q, hq⟩ : ∃ q, B * N = q := ⟨_, rfl⟩
  rw [hq] at hq1 ⊢
  have h1 := hB.setCell 20 (.int .u32 (U (q / 4294967296)))
  rw [icells_H] at h1
  have H1 := Lib.hid h1
  clear h1 hB' hN'
  go_enter Try.func68, Try.ntmps68
  go_wp2_with fail
  go_ret
  have e1 : IntKind.u64.wrap q / 4294967296 % 4294967296 = ((U (q / 4294967296) : Nat) : Int) := by rw [IntKind.wrap_u64]; unfold U; omega
  have e2 : IntKind.u64.wrap q % 4294967296 = ((U q : Nat) : Int) := by rw [IntKind.wrap_u64]; unfold U; omega
  refine ⟨?_, ?_, by (repeat with_reducible first | exact Only.refl _ _ | refine Only.alloc ?_ _ | refine Only.drewN ?_ _ | refine Only.drew ?_ | refine Only.setOne ?_ _ _)⟩
  · exact congrArg (fun x => Ending.returned (.int .u32 x)) e2
  · rw [e1]; exact H1.out
end Go.Proofs.Ythimhbfglgnohaa
