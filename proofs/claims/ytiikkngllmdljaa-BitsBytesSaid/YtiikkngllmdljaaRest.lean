/- Rest; bytes as a string. -/
import Derived.Test.YtiikkngllmdljaaReader
import Derived.Laws.BytesArg
namespace Go.Proofs.Ytiikkngllmdljaa
open Go.RowKit M

def restB (B : List Nat) (m : Nat) : Bool := decide (8 * B.length - m < 8 ∧ number ((unpack B).drop m) = 0)

theorem number_last (B : List Nat) (m : Nat) (h0 : 0 < 8 * B.length - m) (h8 : 8 * B.length - m < 8) :
    number ((unpack B).drop m) = B.getD (B.length - 1) 0 % 2 ^ (8 * B.length - m) := by
  have e := number_byte B m (8 * B.length - m) 0 (by omega) (by omega)
  rw [List.take_of_length_le (by simp)] at e
  rw [e, show m / 8 = B.length - 1 by omega]
  simp

set_option maxHeartbeats 400000 in
theorem rest_any (b m : Nat) (B : List Nat) (w : World) {r : Option Nat} (hR : RRep w b B m r) (hm : m ≤ 8 * B.length) (hl : B.length ≤ 1099511627776) (hB8 : ∀ x ∈ B, x < 256) :
    Calls Try.prog 19 #[.pointer (some ⟨b, 0, none⟩)] w fun e w' => e = .returned (.bool (restB B m)) ∧ ∃ q, w' = w.drewN q := by
  obtain ⟨l, hle⟩ : ∃ l, 8 * B.length - m = l := ⟨_, rfl⟩
  have hleft := left_any b m B w hR hm hl
  rw [hle] at hleft
  by_cases h8 : l < 8
  · by_cases h0 : l = 0
    · subst h0
      have hr : restB B m = true := by
        unfold restB
        have : (unpack B).drop m = [] := List.drop_eq_nil_of_le (by simp; omega)
        rw [this]
        simp [number, hle]
      rw [hr]
      have t0 : ((((0 : Nat) : Int)) == 0) = true := by rfl
      clear hle h8 hr
      go_enter Try.func19, Try.ntmps19
      go_wp2_with fail
      refine hleft.mono ?_
      rintro e w' ⟨rfl, q, rfl⟩
      go_wp2_with fail
      go_quiet (fail)
      go_wp2_with fail
      go_ret
      exact ⟨rfl, q + nq, by rw [World.drewN_drewN]⟩
    · obtain ⟨sv, hBk, hown, hsv, hne⟩ := hR
      have hBl : 0 < B.length := by omega
      obtain ⟨gb, cap, rfl, _, hc1, hc2, _⟩ := ownsRow_shape hown hBl
      obtain ⟨n, hn⟩ : ∃ n, B.length = n + 1 := ⟨B.length - 1, by omega⟩
      have hlast := number_last B m (by omega) (by omega)
      rw [hle, hn, Nat.add_sub_cancel] at hlast
      obtain ⟨x, hx⟩ : ∃ x, B.getD n 0 = x := ⟨_, rfl⟩
      rw [hx] at hlast
      have hx2 : x < 256 := by
        rw [← hx, List.getD, List.getElem?_eq_getElem (by omega)]; exact hB8 _ (List.getElem_mem _)
      have cx := hown.cellAt n (by omega)
      have hxv : (U8s B)[n]? = some (.int .u8 x) := by
        have : B[n]? = some x := by rw [← hx, List.getD, List.getElem?_eq_getElem (by omega)]; rfl
        simp [U8s, this]
      rw [hxv] at cx
      have c0 := hBk.cell 0
      simp at c0
      rw [hn] at c0
      have hr : restB B m = (((x % 2 ^ l : Nat) : Int) == 0) := by
        unfold restB
        rw [hlast, hle]
        by_cases hz : x % 2 ^ l = 0
        · rw [hz]; simp [h8]
        · have : ¬ (((x % 2 ^ l : Nat) : Int) = 0) := by omega
          rw [beq_eq_false_iff_ne.2 this]; simp [hz]
      rw [hr]
      have t0 : ((l : Int) == 0) = false := by rw [beq_eq_false_iff_ne]; omega
      have hn2 : n ≤ 1099511627776 := by omega
      have hcall : ∀ w, Calls Try.prog 21 #[.int .u64 x, .int .i64 l] w (fun e w'' => e = .returned (.int .u64 ((x % 2 ^ l : Nat) : Int)) ∧ w'' = w) := by
        intro w
        exact (lowest_any x l w (by omega) (by omega)).mono fun _ _ ⟨h1, h2⟩ => ⟨h1, h2.symm⟩
      obtain ⟨y, hy⟩ : ∃ y, x % 2 ^ l = y := ⟨_, rfl⟩
      rw [hy] at hcall ⊢
      have HCall := Lib.hid hcall
      clear hle hr hlast hn hx hxv hcall hy hBk hown hne hsv
      go_enter Try.func19, Try.ntmps19
      go_wp2_with fail
      refine hleft.mono ?_
      rintro e w' ⟨rfl, q, hw'⟩
      have c0' : w'.cell? ⟨b, 0, none⟩ = some (.slice (some ⟨gb, 0, none⟩) (n + 1) cap) := by rw [hw']; exact c0
      have cx' : w'.cell? ⟨gb, n, none⟩ = some (.int .u8 x) := by rw [hw']; exact cx
      have HW := Lib.hid hw'
      clear hw' c0 cx
      go_wp2_with fail
      go_quiet ((go_at_call 21; exact Calls.quiet_of_same (HCall.out _)))
      go_wp2_with fail
      go_ret
      exact ⟨rfl, q + nq, by rw [HW.out, World.drewN_drewN]⟩
  · have hr : restB B m = false := by unfold restB; rw [hle]; simp [h8]
    rw [hr]
    clear hle hr
    go_enter Try.func19, Try.ntmps19
    go_wp2_with fail
    refine hleft.mono ?_
    rintro e w' ⟨rfl, q, rfl⟩
    go_wp2_with fail
    go_ret
    exact ⟨rfl, q, rfl⟩

/-- The string of bytes. -/
def strOf (B : List Nat) : ByteArray := strOfNums (B.map fun (x : Nat) => (x : Int))

theorem conv_src (w : World) (b : Nat) (s : Value) (B : List Nat) (h : Src w b s (U8s B)) :
    (convert 33 9 s).run Try.prog w = .ok (.string (strOf B)) w := by
  obtain ⟨ao, cap, off, rfl, h2, h3, h4⟩ := h.opened (n := B.length) (by simp [U8s])
  by_cases h0 : 0 < B.length
  · have e := h2 h0
    subst e
    refine run_convert_bytes_arg w 33 5 Try.underlying33 Try.underlying5 b off B.length cap (B.map fun (x : Nat) => (x : Int)) (by simp) ?_ 9 Try.underlying9
    intro i hi
    have hb : (B.map fun (x : Nat) => (x : Int)).getD i 0 = (B[i] : Int) := by simp [List.getD, List.getElem?_eq_getElem hi]
    rw [hb]
    exact h4 i _ (by simp [U8s, List.getElem?_eq_getElem hi])
  · have hB : B = [] := List.eq_nil_of_length_eq_zero (by omega)
    subst hB
    cases ao with
    | none => exact run_convert_bytes_nil w 33 5 Try.underlying33 Try.underlying5 0 cap 9 Try.underlying9
    | some a =>
      have hl := run_loadCells_list (P := Try.prog) w a [] (fun j v hj => by simp at hj)
      show (convert 33 9 (.slice (some a) 0 cap)).run Try.prog w = _
      rw [run_convert_bytes_string w 33 9 5 _ 0 cap Try.underlying33 Try.underlying5 Try.underlying9, run_bytesToString w a 0 cap [] (by simpa using hl)]
      rfl
end Go.Proofs.Ytiikkngllmdljaa
