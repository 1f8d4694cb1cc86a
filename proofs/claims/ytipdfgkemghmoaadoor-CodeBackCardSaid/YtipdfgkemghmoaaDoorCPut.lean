/- PutVar onto a row of one's own; PutInt, ReadInt. -/
import Derived.Test.YtipdfgkemghmoaaDoorVRead
import Derived.Test.YtipdfgkemghmoaaDoorVSign
set_option linter.unusedSimpArgs false
set_option linter.unusedVariables false
namespace Go.Proofs.YtipdfgkemghmoaaDoor
open Go.RowKit M

def Ge (b : Nat) : Nat → Prop := fun k => b ≤ k
theorem M.Only.ge {w w' : World} (h : Only Nil w w') (b : Nat) : Only (Ge b) w w' := h.mono (fun _ h => h.elim)
theorem M.Only.ge_own {base : Nat} {w wr w' : World} {e : TypeId} {size n : Nat} {v : Value} {xs : List Value} (h : Only (Ge base) w wr) (hown : wr.ownsRow base e size v n xs) (h2 : Only (Own v.ownBlock) wr w') : Only (Ge base) w w' :=
  h.trans h2 (fun i _ ht => (hown.lt i (Eq.symm ht)).1)
theorem M.Only.ge_nil {w w1 w2 : World} (h : Only Nil w w1) (h2 : Only (Ge w.heap.size) w1 w2) : Only Nil w w2 :=
  h.trans h2 (fun i hi ht => by unfold Ge at ht; omega)

set_option maxHeartbeats 400000 in
theorem putVar_own (base : Nat) (s : Value) (B : List Nat) (v : Nat) (w : World) (hs : w.ownsRow base 5 1 s B.length (U8s B)) (hb : base ≤ w.heap.size) (hv : v < 18446744073709551616) (hl : B.length ≤ 549755813888) :
    Calls Tryd.prog 20 #[s, .int .u64 v] w fun e w' => ∃ sv, e = .returned sv ∧ w'.ownsRow base 5 1 sv (B ++ putVar v).length (U8s (B ++ putVar v)) ∧ Only (Ge base) w w' := by
  obtain ⟨n, hn⟩ : ∃ n, B.length = n := ⟨_, rfl⟩
  rw [hn] at hl
  have HN := Lib.hid hn
  clear hn
  obtain ⟨i0, hi, hz0, hz1, hz2⟩ := info_parts Tryd.info5
  have hvl := putVar_len v hv
  have hC0 : ∃ C : List Nat, C ++ putVar v = B ++ putVar v ∧ w.ownsRow base 5 1 s C.length (U8s C) ∧ Only (Ge base) w w := ⟨B, rfl, hs, Only.refl _ _⟩
  clear hs
  go_enter Tryd.func20, Tryd.ntmps20
  go_wp2_with fail
  go_loopg [0, 1] v (fun g s x wr => g < 18446744073709551616 ∧ x = .int .u64 (g : Int) ∧ ∃ C : List Nat, C ++ putVar g = B ++ putVar v ∧ wr.ownsRow base 5 1 s C.length (U8s C) ∧ Only (Ge base) w wr)
  case atStart => exact ⟨hv, rfl, hC0⟩
  case round =>
    clear hC0
    obtain ⟨hg, rfl, C, hC, hown, ho⟩ := hrel
    obtain ⟨g, rfl⟩ : ∃ g, g = gk := ⟨gk, rfl⟩
    have hCl : C.length ≤ n + 10 := by
      have := congrArg List.length hC
      simp only [List.length_append] at this
      rw [HN.out] at this
      omega
    have hsz := ho.size
    by_cases h128 : g < 128
    · have hd : decide ((128 : Int) ≤ (g : Int)) = false := by simp; omega
      rw [putVar_small h128] at hC
      have HC := Lib.hid hC
      have HP := Lib.hid (part_last g h128)
      clear hC
      go_wp2_with (with_reducible refine wpList_append_one rfl _ _ 29 rfl base 5 i0 (.int .u8 0) 1 Tryd.underlying29 hi hz0 hz1 hz2 rfl _ _ _ rfl hown _ rfl rfl ?c4 ?c5 ?c6 ?_)
      case c4 => simp [maxLen]; omega
      case c5 => omega
      case c6 => omega
      intro gb capb w1 hown1 hc1 hc2 hg1 ho1
      have ho2 := ho.ge_own hown ho1
      clear hc1 hc2 hg1 ho1 hown ho
      go_wp2_with fail
      go_ret
      refine ⟨_, rfl, ?_, ho2⟩
      rw [← HC.out]
      simpa [U8s] using hown1
    · have hd : decide ((128 : Int) ≤ (g : Int)) = true := by simp; omega
      rw [putVar_more h128] at hC
      have HC := Lib.hid hC
      have HP := Lib.hid (part_more g)
      clear hC
      go_wp2_with (with_reducible refine wpList_append_one rfl _ _ 29 rfl base 5 i0 (.int .u8 0) 1 Tryd.underlying29 hi hz0 hz1 hz2 rfl _ _ _ rfl hown _ rfl rfl ?c7 ?c8 ?c9 ?_)
      case c7 => simp [maxLen]; omega
      case c8 => omega
      case c9 => omega
      intro gb capb w1 hown1 hc1 hc2 hg1 ho1
      have ho2 := ho.ge_own hown ho1
      clear hc1 hc2 hg1 ho1 hown ho
      go_wp2_with fail
      go_roundg (g / 128)
      case measure => omega
      case rel =>
        refine ⟨by omega, by go_num, C ++ [g % 128 + 128], ?_, ?_, ho2⟩
        · have := HC.out
          simpa using this
        · rw [HP.out] at hown1
          simpa [U8s] using hown1

set_option maxHeartbeats 400000 in
theorem putInt_nil (v : Int) (w : World) (h1 : -9223372036854775808 ≤ v) (h2 : v ≤ 9223372036854775807) :
    Calls Tryd.prog 19 #[.slice none 0 0, .int .i64 v] w (NewRow 5 w (U8s (putVar (zig v)))) := by
  have hz := zig_lt v h1 h2
  go_enter Tryd.func19, Tryd.ntmps19
  go_wp2_with fail
  refine (withoutSign_any v w h1 h2).mono ?_
  rintro e w1 ⟨rfl, rfl⟩
  go_wp2_with fail
  refine (put_nil (zig v) w hz).mono ?_
  rintro e w2 ⟨sv, rfl, hown, ho⟩
  go_wp2_with fail
  go_ret
  exact ⟨sv, rfl, hown, ho⟩

set_option maxHeartbeats 400000 in
theorem readInt_val (s : Value) (B : List Nat) (w : World) (hs : Row w s B) (a n : Nat) (ok : Bool) (h : readV 0 0 B = (a, n, ok)) :
    Calls Tryd.prog 32 #[s] w fun e w' => e = .returned (.tuple #[.int .i64 (zag a), .int .i64 n, .bool ok]) ∧ w = w' := by
  have ha : a < 18446744073709551616 := by
    have := (readV_bound B 0 0 (by decide) (by decide) (by omega)).1
    rw [h] at this; exact this
  have hc := read_val s B w hs a n ok h
  have HS := Lib.hid hs
  have H := Lib.hid h
  clear hs h
  go_enter Tryd.func32, Tryd.ntmps32
  go_wp2_with fail
  refine hc.mono ?_
  rintro e w1 ⟨rfl, rfl⟩
  go_wp2_with fail
  refine (withSign_any a w ha).mono ?_
  rintro e w1 ⟨rfl, rfl⟩
  go_wp2_with fail
  go_ret3
  exact ⟨rfl, rfl⟩
end Go.Proofs.YtipdfgkemghmoaaDoor
