/- The walk of the law VarSigned. -/
import Derived.Test.YtpjjlpldalmjnaaVKnown
namespace Go.Proofs.Ytpjjlpldalmjnaa
open Go.RowKit M

set_option maxHeartbeats 800000 in
theorem signed_any (v : Int) (w : World) (h1 : -9223372036854775808 ≤ v) (h2 : v ≤ 9223372036854775807) :
    Calls Try.prog 6 #[.int .i64 v] w fun e w' => e = .returned (.bool true) ∧ Only Nil w w' := by
  obtain ⟨x, hx, hx2⟩ : ∃ x : Nat, (if v < 0 then -(v + 1) else v) = x ∧ x < 9223372036854775808 := by
    by_cases h : v < 0
    · exact ⟨(-(v + 1)).toNat, by rw [if_pos h]; omega, by omega⟩
    · exact ⟨v.toNat, by rw [if_neg h]; omega, by omega⟩
  have z1 : zig (x : Int) = 2 * x := by rw [zig_pos (by omega)]; omega
  have z2 : zig (-(x : Int) - 1) = 2 * x + 1 := by rw [zig_neg (by omega)]; omega
  have p1 := fun w => putInt_nil (x : Int) w (by omega) (by omega)
  have p2 := fun w => putInt_nil (-(x : Int) - 1) w (by omega) (by omega)
  rw [z1] at p1
  rw [z2] at p2
  have r1 := readV_put (2 * x) [] (by omega)
  have r2 := readV_put (2 * x + 1) [] (by omega)
  rw [List.append_nil] at r1 r2
  rw [← zig_len] at r2
  have l1 := putVar_lt (2 * x)
  have l2 := putVar_lt (2 * x + 1)
  obtain ⟨B1, hB1⟩ : ∃ B, putVar (2 * x) = B := ⟨_, rfl⟩
  obtain ⟨B2, hB2⟩ : ∃ B, putVar (2 * x + 1) = B := ⟨_, rfl⟩
  rw [hB1] at p1 r1 l1 r2
  rw [hB2] at p2 r2 l2
  obtain ⟨L, hL⟩ : ∃ L, B1.length = L := ⟨_, rfl⟩
  rw [hL] at r1 r2
  obtain ⟨a, ha⟩ : ∃ a, 2 * x = a := ⟨_, rfl⟩
  rw [ha] at r1 r2
  obtain ⟨c, hc⟩ : ∃ c, a + 1 = c := ⟨_, rfl⟩
  rw [hc] at r2
  have t1 : ((a : Int) % 2 == 0) = true := by rw [beq_iff_eq]; omega
  have t2 : ((c : Int) == (a : Int) + 1) = true := by rw [beq_iff_eq]; omega
  have t3 : ((a : Int) / 2 == (x : Int)) = true := by rw [beq_iff_eq]; omega
  have ha2 : a < 18446744073709551615 := by omega
  have R1 := Lib.hid r1
  have R2 := Lib.hid r2
  have L1 := Lib.hid l1
  have L2 := Lib.hid l2
  clear z1 z2 r1 r2 l1 l2 hB1 hB2 hL ha hc
  by_cases h0 : v < 0
  · rw [if_pos h0] at hx
    go_enter Try.func6, Try.ntmps6
    go_wp2_with (go_at_call 7; refine (known_any w).mono ?_; rintro e w1 ⟨rfl, ho1⟩)
    refine (p1 w1).mono ?_
    rintro e w2 ⟨s2, rfl, hown2, ho2⟩
    have hr2 := Row.of_own hown2 L1.out
    go_wp2_with fail
    refine (read_val s2 _ w2 hr2 a L true R1.out).mono ?_
    rintro e w3 ⟨rfl, rfl⟩
    go_wp2_with fail
    refine (p2 w2).mono ?_
    rintro e w3 ⟨s3, rfl, hown3, ho3⟩
    have hr3 := Row.of_own hown3 L2.out
    go_wp2_with fail
    refine (read_val s3 _ w3 hr3 c L true R2.out).mono ?_
    rintro e w4 ⟨rfl, rfl⟩
    have ho := (ho1.trans ho2 (fun _ _ h => h)).trans ho3 (fun _ _ h => h)
    clear hr2 hr3 hown2 hown3 ho1 ho2 ho3 p1 p2
    go_wp2_with fail
    go_ret
    exact ⟨rfl, ho⟩
  · rw [if_neg h0] at hx
    subst hx
    go_enter Try.func6, Try.ntmps6
    go_wp2_with (go_at_call 7; refine (known_any w).mono ?_; rintro e w1 ⟨rfl, ho1⟩)
    refine (p1 w1).mono ?_
    rintro e w2 ⟨s2, rfl, hown2, ho2⟩
    have hr2 := Row.of_own hown2 L1.out
    go_wp2_with fail
    refine (read_val s2 _ w2 hr2 a L true R1.out).mono ?_
    rintro e w3 ⟨rfl, rfl⟩
    go_wp2_with fail
    refine (p2 w2).mono ?_
    rintro e w3 ⟨s3, rfl, hown3, ho3⟩
    have hr3 := Row.of_own hown3 L2.out
    go_wp2_with fail
    refine (read_val s3 _ w3 hr3 c L true R2.out).mono ?_
    rintro e w4 ⟨rfl, rfl⟩
    have ho := (ho1.trans ho2 (fun _ _ h => h)).trans ho3 (fun _ _ h => h)
    clear hr2 hr3 hown2 hown3 ho1 ho2 ho3 p1 p2
    go_wp2_with fail
    go_ret
    exact ⟨rfl, ho⟩
end Go.Proofs.Ytpjjlpldalmjnaa
