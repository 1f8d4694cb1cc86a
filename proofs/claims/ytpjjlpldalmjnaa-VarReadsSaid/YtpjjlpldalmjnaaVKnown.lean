/- PutInt, ReadInt; the chapter's example. -/
import Derived.Test.YtpjjlpldalmjnaaVRead
namespace Go.Proofs.Ytpjjlpldalmjnaa
open Go.RowKit M

theorem src_nil (w : World) : Src w 0 (.slice none 0 0) (U8s []) := ⟨none, 0, 0, rfl, fun h => by simp [U8s] at h, fun _ => rfl, fun i u h => by simp [U8s] at h⟩
theorem app_nil (w : World) : AppRow w w (.slice none 0 0) [] := Or.inl (World.ownsRow_nil _ _ _ _)

theorem put_nil (v : Nat) (w : World) (hv : v < 18446744073709551616) :
    Calls Try.prog 8 #[.slice none 0 0, .int .u64 v] w (NewRow 5 w (U8s (putVar v))) :=
  put_any 0 _ [] v w (src_nil w) hv (by simp)
theorem putVar_nil (v : Nat) (w : World) (hv : v < 18446744073709551616) :
    Calls Try.prog 9 #[.slice none 0 0, .int .u64 v] w (NewRow 5 w (U8s (putVar v))) :=
  putVar_any _ [] v w (app_nil w) hv (by simp)

set_option maxHeartbeats 400000 in
theorem putInt_nil (v : Int) (w : World) (h1 : -9223372036854775808 ≤ v) (h2 : v ≤ 9223372036854775807) :
    Calls Try.prog 11 #[.slice none 0 0, .int .i64 v] w (NewRow 5 w (U8s (putVar (zig v)))) := by
  have hz := zig_lt v h1 h2
  go_enter Try.func11, Try.ntmps11
  go_wp2_with fail
  refine (withoutSign_any v w h1 h2).mono ?_
  rintro e w1 ⟨rfl, rfl⟩
  go_wp2_with fail
  refine (put_nil (zig v) w hz).mono ?_
  rintro e w2 ⟨sv, rfl, hown, ho⟩
  go_wp2_with fail
  go_ret
  exact ⟨sv, rfl, hown, ho⟩

theorem read_val (s : Value) (B : List Nat) (w : World) (hs : Row w s B) (a n : Nat) (ok : Bool) (h : readV 0 0 B = (a, n, ok)) :
    Calls Try.prog 10 #[s] w fun e w' => e = .returned (.tuple #[.int .u64 a, .int .i64 n, .bool ok]) ∧ w = w' := by
  have := read_any s B w hs
  rw [h] at this
  exact this
theorem readVar_val (s : Value) (B : List Nat) (w : World) (hs : Row w s B) (a n : Nat) (ok : Bool) (h : readV 0 0 B = (a, n, ok)) :
    Calls Try.prog 14 #[s] w fun e w' => e = .returned (.tuple #[.int .u64 a, .int .i64 n, .bool ok]) ∧ w = w' := by
  have := readVar_any s B w hs
  rw [h] at this
  exact this

set_option maxHeartbeats 400000 in
theorem readInt_val (s : Value) (B : List Nat) (w : World) (hs : Row w s B) (a n : Nat) (ok : Bool) (h : readV 0 0 B = (a, n, ok)) :
    Calls Try.prog 12 #[s] w fun e w' => e = .returned (.tuple #[.int .i64 (zag a), .int .i64 n, .bool ok]) ∧ w = w' := by
  have ha : a < 18446744073709551616 := by
    have := (readV_bound B 0 0 (by decide) (by decide) (by omega)).1
    rw [h] at this; exact this
  have hc := read_val s B w hs a n ok h
  have HS := Lib.hid hs
  have H := Lib.hid h
  clear hs h
  go_enter Try.func12, Try.ntmps12
  go_wp2_with fail
  refine hc.mono ?_
  rintro e w1 ⟨rfl, rfl⟩
  go_wp2_with fail
  refine (withSign_any a w ha).mono ?_
  rintro e w1 ⟨rfl, rfl⟩
  go_wp2_with fail
  go_ret3
  exact ⟨rfl, rfl⟩

set_option maxHeartbeats 400000 in
theorem known_any (w : World) : Calls Try.prog 7 #[] w fun e w' => e = .returned (.bool true) ∧ Only Nil w w' := by
  have e300 : putVar 300 = [172, 2] := by rw [putVar_more (by decide), putVar_small (by decide)]
  have e3 : putVar (zig (-3)) = [5] := by rw [zig_neg (by decide), putVar_small (by decide)]; rfl
  have p3 := fun w => putInt_nil (-3) w (by decide) (by decide)
  rw [e3] at p3
  have p300 := put_nil 300 w (by decide)
  rw [e300] at p300
  have r300 : readV 0 0 [172, 2] = (300, 2, true) := by rfl
  have r5 : readV 0 0 [5] = (5, 1, true) := by rfl
  have z5 : zag 5 = -3 := by rfl
  have hst : strOf [172, 2] = ⟨#[172, 2]⟩ := by rfl
  have R300 := Lib.hid r300
  have R5 := Lib.hid r5
  have Z5 := Lib.hid z5
  have HST := Lib.hid hst
  clear e300 e3 r300 r5 z5 hst
  go_enter Try.func7, Try.ntmps7
  go_wp2_with fail
  refine p300.mono ?_
  rintro e w1 ⟨s1, rfl, hown1, ho1⟩
  have hr1 := Row.of_own hown1 (by intro x hx; simp at hx; omega)
  go_wp2_with fail
  refine (read_val s1 _ w1 hr1 300 2 true R300.out).mono ?_
  rintro e w2 ⟨rfl, rfl⟩
  go_wp2_with fail
  refine (p3 w1).mono ?_
  rintro e w3 ⟨s3, rfl, hown3, ho3⟩
  have hr3 := Row.of_own hown3 (by intro x hx; simp at hx; omega)
  have hri := readInt_val s3 _ w3 hr3 5 1 true R5.out
  rw [Z5.out] at hri
  go_wp2_with fail
  refine hri.mono ?_
  rintro e w4 ⟨rfl, rfl⟩
  obtain ⟨b1, hs1⟩ := (hr1.kept ho3).src
  have hcv := conv_src w3 b1 s1 _ hs1
  rw [HST.out] at hcv
  have ho := ho1.trans ho3 (fun _ _ h => h)
  clear hs1 hr1 hr3 hri hown1 hown3 ho1 ho3 p3 p300
  go_wp2_with fail
  go_ret
  exact ⟨rfl, ho⟩
end Go.Proofs.Ytpjjlpldalmjnaa
