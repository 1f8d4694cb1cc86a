/- Packages varint and waferref1: the signs; bytes as a string; a new row. -/
import Derived.Test.YtpjjlpldalmjnaaProg
import Derived.Test.YtpjjlpldalmjnaaVNum
import Derived.Test.YtpjjlpldalmjnaaSrc
import Derived.Laws.BytesArg
import Derived.Lib.Hide
import Derived.Deep.LoopGhost
import Derived.Deep.DeepCutAuto
namespace Go.Proofs.Ytpjjlpldalmjnaa
open Go.RowKit M

def U8s (l : List Nat) : List Value := l.map (fun (x : Nat) => Value.int .u8 x)
theorem U8s_one (B : List Nat) : ∀ u ∈ U8s B, u.oneCell' = true := by
  intro u hu
  simp only [U8s, List.mem_map] at hu
  obtain ⟨x, _, rfl⟩ := hu
  rfl
theorem U8s_len (B : List Nat) : (U8s B).length = B.length := by simp [U8s]
theorem U8s_append (B C : List Nat) : U8s (B ++ C) = U8s B ++ U8s C := by simp [U8s]

theorem Try.info5 : (Try.prog.info? 5).map (fun i => (i.zero, i.size, i.bytes)) = some (some (.int .u8 0), 1, 1) := by kernel_rfl

/-- A new slice whose cells are xs. -/
def NewRow (e : TypeId) (w : World) (xs : List Value) (en : Ending) (w' : World) : Prop :=
  ∃ sv, en = .returned sv ∧ w'.ownsRow w.heap.size e 1 sv xs.length xs ∧ Only Nil w w'

def strOf (B : List Nat) : ByteArray := strOfNums (B.map fun (x : Nat) => (x : Int))

theorem conv_src (w : World) (b : Nat) (s : Value) (B : List Nat) (h : Src w b s (U8s B)) :
    (convert 22 9 s).run Try.prog w = .ok (.string (strOf B)) w := by
  obtain ⟨ao, cap, off, rfl, h2, h3, h4⟩ := h.opened (n := B.length) (by simp [U8s])
  by_cases h0 : 0 < B.length
  · have e := h2 h0
    subst e
    refine run_convert_bytes_arg w 22 5 Try.underlying22 Try.underlying5 b off B.length cap (B.map fun (x : Nat) => (x : Int)) (by simp) ?_ 9 Try.underlying9
    intro i hi
    have hb : (B.map fun (x : Nat) => (x : Int)).getD i 0 = (B[i] : Int) := by simp [List.getD, List.getElem?_eq_getElem hi]
    rw [hb]
    exact h4 i _ (by simp [U8s, List.getElem?_eq_getElem hi])
  · have hB : B = [] := List.eq_nil_of_length_eq_zero (by omega)
    subst hB
    cases ao with
    | none => exact run_convert_bytes_nil w 22 5 Try.underlying22 Try.underlying5 0 cap 9 Try.underlying9
    | some a =>
      have hl := run_loadCells_list (P := Try.prog) w a [] (fun j v hj => by simp at hj)
      show (convert 22 9 (.slice (some a) 0 cap)).run Try.prog w = _
      rw [run_convert_bytes_string w 22 9 5 _ 0 cap Try.underlying22 Try.underlying5 Try.underlying9, run_bytesToString w a 0 cap [] (by simpa using hl)]
      rfl

theorem ret_of {k : IntKind} {a b : Int} (h : a = b) : Ending.returned (.int k a) = .returned (.int k b) := by rw [h]

set_option maxHeartbeats 400000 in
theorem withoutSign_any (v : Int) (w : World) (h1 : -9223372036854775808 ≤ v) (h2 : v ≤ 9223372036854775807) :
    Calls Try.prog 16 #[.int .i64 v] w fun e w' => e = .returned (.int .u64 (zig v : Nat)) ∧ w = w' := by
  by_cases h0 : v < 0
  · have hn := not_neg v h1 h0
    obtain ⟨x, hx⟩ : ∃ x : Nat, -(v + 1) = x := ⟨(-(v + 1)).toNat, by omega⟩
    have ho := or_one x (by omega)
    have hz : 2 * x + 1 = zig v := by rw [zig_neg h0, hx]; omega
    rw [hx] at hn
    have hx3 : x < 9223372036854775808 := by omega
    have HZ := Lib.hid hz
    have HO := Lib.hid ho
    clear hz ho hx
    go_enter Try.func16, Try.ntmps16
    go_wp2
    go_ret
    exact ⟨ret_of (by rw [show IntKind.u64.wrap (IntKind.u64.wrap (x : Int) * 2) = (x : Int) * 2 by rw [IntKind.wrap_u64, IntKind.wrap_u64]; omega, HO.out, HZ.out]), rfl⟩
  · have hz : v * 2 = (zig v : Nat) := by rw [zig_pos (by omega)]; omega
    have HZ := Lib.hid hz
    clear hz
    go_enter Try.func16, Try.ntmps16
    go_wp2
    go_ret
    exact ⟨ret_of HZ.out, rfl⟩

set_option maxHeartbeats 400000 in
theorem zig_any (v : Int) (w : World) (h1 : -9223372036854775808 ≤ v) (h2 : v ≤ 9223372036854775807) :
    Calls Try.prog 13 #[.int .i64 v] w fun e w' => e = .returned (.int .u64 (zig v : Nat)) ∧ w = w' := by
  by_cases h0 : v < 0
  · obtain ⟨x, hx⟩ : ∃ x : Nat, -(v + 1) = x := ⟨(-(v + 1)).toNat, by omega⟩
    have ho := or_one x (by omega)
    have hz : 2 * x + 1 = zig v := by rw [zig_neg h0, hx]; omega
    rw [hz, ← hx] at ho
    have HO := Lib.hid ho
    clear hz ho hx
    have h0' : decide (0 ≤ v) = false := by simpa using h0
    go_enter Try.func13, Try.ntmps13
    go_wp2
    go_ret
    exact ⟨ret_of HO.out, rfl⟩
  · have hz : v * 2 = (zig v : Nat) := by rw [zig_pos (by omega)]; omega
    have HZ := Lib.hid hz
    clear hz
    have h0' : decide (0 ≤ v) = true := by simpa using h0
    go_enter Try.func13, Try.ntmps13
    go_wp2
    go_ret
    exact ⟨ret_of HZ.out, rfl⟩

set_option maxHeartbeats 400000 in
theorem withSign_any (u : Nat) (w : World) (h1 : u < 18446744073709551616) :
    Calls Try.prog 17 #[.int .u64 u] w fun e w' => e = .returned (.int .i64 (zag u)) ∧ w = w' := by
  have ha := and_one u h1
  rcases Nat.mod_two_eq_zero_or_one u with h0 | h0
  · rw [h0] at ha
    have ha' : (bits BinOp.and IntKind.u64 (↑u) 1 == 1) = false := by rw [ha]; rfl
    have hz : ((u / 2 : Nat) : Int) = zag u := (zag_even h0).symm
    have HZ := Lib.hid hz
    clear h0 ha hz
    go_enter Try.func17, Try.ntmps17
    go_wp2
    go_ret
    exact ⟨ret_of HZ.out, rfl⟩
  · rw [h0] at ha
    have ha' : (bits BinOp.and IntKind.u64 (↑u) 1 == 1) = true := by rw [ha]; rfl
    have hz : bits .xor .i64 (-1) ((u : Int) / 2) = zag u := by
      rw [show (u : Int) / 2 = ((u / 2 : Nat) : Int) by omega, i64_not _ (by omega), zag_odd h0]; omega
    have HZ := Lib.hid hz
    clear h0 ha hz
    go_enter Try.func17, Try.ntmps17
    go_wp2
    go_ret
    exact ⟨ret_of HZ.out, rfl⟩

set_option maxHeartbeats 400000 in
theorem zag_any (u : Nat) (w : World) (h1 : u < 18446744073709551616) :
    Calls Try.prog 15 #[.int .u64 u] w fun e w' => e = .returned (.int .i64 (zag u)) ∧ w = w' := by
  have ha := and_one u h1
  rcases Nat.mod_two_eq_zero_or_one u with h0 | h0
  · rw [h0] at ha
    have ha' : (bits BinOp.and IntKind.u64 (↑u) 1 == 0) = true := by rw [ha]; rfl
    have hz : ((u / 2 : Nat) : Int) = zag u := (zag_even h0).symm
    have HZ := Lib.hid hz
    clear h0 ha hz
    go_enter Try.func15, Try.ntmps15
    go_wp2
    go_ret
    exact ⟨ret_of HZ.out, rfl⟩
  · rw [h0] at ha
    have ha' : (bits BinOp.and IntKind.u64 (↑u) 1 == 0) = false := by rw [ha]; rfl
    have hz : -((u : Int) / 2) - 1 = zag u := by
      rw [zag_odd h0]; omega
    have HZ := Lib.hid hz
    clear h0 ha hz
    go_enter Try.func15, Try.ntmps15
    go_wp2
    go_ret
    exact ⟨ret_of HZ.out, rfl⟩
end Go.Proofs.Ytpjjlpldalmjnaa
