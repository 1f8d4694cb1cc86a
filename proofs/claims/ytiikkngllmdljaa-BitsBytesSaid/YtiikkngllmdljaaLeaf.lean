/- The small functions of package bits, by their contracts. -/
import Derived.Test.YtiikkngllmdljaaProg
import Derived.Test.YtiikkngllmdljaaMath
import Derived.Test.YtiikkngllmdljaaNum
namespace Go.Proofs.Ytiikkngllmdljaa
open Go.RowKit M

def U8s (l : List Nat) : List Value := l.map (fun (x : Nat) => Value.int .u8 x)

theorem Try.info5 : (Try.prog.info? 5).map (fun i => (i.zero, i.size, i.bytes)) = some (some (.int .u8 0), 1, 1) := by kernel_rfl

def fitsB (n : Int) : Bool := decide (0 ≤ n ∧ n ≤ 64)

set_option maxHeartbeats 400000 in
theorem sizeFits_any (n : Int) (w : World) :
    Calls Try.prog 20 #[.int .i64 n] w fun e w' => e = .returned (.bool (fitsB n)) ∧ w = w' := by
  go_enter Try.func20, Try.ntmps20
  go_wp2
  · go_ret
    exact ⟨by simp [fitsB, *], rfl⟩
  · go_ret
    exact ⟨by have : ¬ (0 ≤ n) := by omega
              simp [fitsB, this], rfl⟩

set_option maxHeartbeats 400000 in
theorem lowest_any (v k : Nat) (w : World) (hv : v < 18446744073709551616) (h1 : k < 64) :
    Calls Try.prog 21 #[.int .u64 v, .int .i64 k] w fun e w' => e = .returned (.int .u64 ((v % 2 ^ k : Nat) : Int)) ∧ w = w' := by
  go_enter Try.func21, Try.ntmps21
  go_wp2
  go_ret
  exact ⟨by rw [mask_u64 v k hv h1]; rfl, rfl⟩

theorem newWriter_any (w : World) :
    Calls Try.prog 8 #[] w fun e w' => e = .returned (.pointer (some ⟨w.heap.size, 0, none⟩)) ∧
      w' = w.alloc (.cells #[.slice none 0 0, .int .i64 0] 47) := by
  go_enter Try.func8, Try.ntmps8
  go_wp2
  go_ret
  exact ⟨rfl, rfl⟩

theorem len_any (a : Addr) (n : Int) (w : World) (h : w.cell? ⟨a.block, a.off + 1, none⟩ = some (.int .i64 n)) :
    Calls Try.prog 11 #[.pointer (some a)] w fun e w' => e = .returned (.int .i64 n) ∧ w = w' := by
  go_enter Try.func11, Try.ntmps11
  go_wp2
  go_ret
  exact ⟨rfl, rfl⟩
end Go.Proofs.Ytiikkngllmdljaa
