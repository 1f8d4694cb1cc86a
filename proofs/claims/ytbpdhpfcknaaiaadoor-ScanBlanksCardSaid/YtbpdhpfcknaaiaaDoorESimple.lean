/- What simple tells, case by case. -/
import Derived.Test.YtbpdhpfcknaaiaaDoorEGen
import Derived.Test.YtbpdhpfcknaaiaaDoorGOrd
set_option linter.unusedSimpArgs false
set_option linter.unusedVariables false
namespace Go.Proofs.YtbpdhpfcknaaiaaDoor
open Go.RowKit M

set_option maxRecDepth 10000 in
set_option maxHeartbeats 1600000 in
theorem simple_0 {L : List Nat} {d i i1 R N : Nat} (hd : d ≤ 100) (hp : pickM L i 28 = (0, i1)) (hnum : Gn 43 L d N) (hN : N ≤ 1000000) (hR : 5 + N ≤ R) : Sn 41 L d R i := by
  have y0 : (⟨#[105, 32, 58, 61, 32]⟩ : ByteArray).size = 5 := rfl
  obtain ⟨S1, j1, S1p, S1b, C1⟩ := hnum i1
  have z0 : ((⟨#[105, 32, 58, 61, 32]⟩ : ByteArray) ++ S1).size = 5 + S1.size := by rw [ByteArray.size_append, y0]
  have kz0 : ¬ 9223372036854775807 < 5 + S1.size := by omega
  refine ⟨((⟨#[105, 32, 58, 61, 32]⟩ : ByteArray) ++ S1), j1, ?pos, by rw [z0]; omega, fun w g lv hG => ?_⟩
  case pos => rw [z0]; omega
  have HG := Lib.hid hG
  clear hG hR S1p S1b hd hN
  go_enter Tryd.func41, Tryd.ntmps41
  go_wp2_with fail
  refine (pick_at HG.out hp 0 rfl (by decide) (by decide)).mono ?_
  rintro e w1 ⟨rfl, hG1, ho1⟩
  have G1 := Lib.hid hG1
  have H1 := Lib.hid ho1
  clear hG1 ho1 hp
  go_wp2_with fail
  refine (C1 _ g lv G1.out).mono ?_
  rintro e w2 ⟨rfl, hG2, ho2⟩
  have G2 := Lib.hid hG2
  have H2 := Lib.hid (og_trans H1.out ho2)
  clear hG2 ho2
  go_wp2_with fail
  go_ret
  exact ⟨rfl, G2.out, H2.out⟩
set_option maxRecDepth 10000 in
set_option maxHeartbeats 1600000 in
theorem simple_1 {L : List Nat} {d i i1 R N : Nat} (hd : d ≤ 100) (hp : pickM L i 28 = (1, i1)) (hnum : Gn 43 L d N) (hN : N ≤ 1000000) (hR : 5 + N ≤ R) : Sn 41 L d R i := by
  have y0 : (⟨#[105, 32, 58, 61, 32]⟩ : ByteArray).size = 5 := rfl
  obtain ⟨S1, j1, S1p, S1b, C1⟩ := hnum i1
  have z0 : ((⟨#[105, 32, 58, 61, 32]⟩ : ByteArray) ++ S1).size = 5 + S1.size := by rw [ByteArray.size_append, y0]
  have kz0 : ¬ 9223372036854775807 < 5 + S1.size := by omega
  refine ⟨((⟨#[105, 32, 58, 61, 32]⟩ : ByteArray) ++ S1), j1, ?pos, by rw [z0]; omega, fun w g lv hG => ?_⟩
  case pos => rw [z0]; omega
  have HG := Lib.hid hG
  clear hG hR S1p S1b hd hN
  go_enter Tryd.func41, Tryd.ntmps41
  go_wp2_with fail
  refine (pick_at HG.out hp 1 rfl (by decide) (by decide)).mono ?_
  rintro e w1 ⟨rfl, hG1, ho1⟩
  have G1 := Lib.hid hG1
  have H1 := Lib.hid ho1
  clear hG1 ho1 hp
  go_wp2_with fail
  refine (C1 _ g lv G1.out).mono ?_
  rintro e w2 ⟨rfl, hG2, ho2⟩
  have G2 := Lib.hid hG2
  have H2 := Lib.hid (og_trans H1.out ho2)
  clear hG2 ho2
  go_wp2_with fail
  go_ret
  exact ⟨rfl, G2.out, H2.out⟩
set_option maxRecDepth 10000 in
set_option maxHeartbeats 1600000 in
theorem simple_2 {L : List Nat} {d i i1 R N : Nat} (hd : d ≤ 100) (hp : pickM L i 28 = (2, i1)) (hnum : Gn 43 L d N) (hN : N ≤ 1000000) (hvariable : Gn 49 L d 10) (hR : 10 + 4 + N ≤ R) : Sn 41 L d R i := by
  have y0 : (⟨#[32, 58, 61, 32]⟩ : ByteArray).size = 4 := rfl
  obtain ⟨S1, j1, S1p, S1b, C1⟩ := hvariable i1
  obtain ⟨S2, j2, S2p, S2b, C2⟩ := hnum j1
  have z0 : (S1 ++ (⟨#[32, 58, 61, 32]⟩ : ByteArray)).size = S1.size + 4 := by rw [ByteArray.size_append, y0]
  have kz0 : ¬ 9223372036854775807 < S1.size + 4 := by omega
  have z1 : ((S1 ++ (⟨#[32, 58, 61, 32]⟩ : ByteArray)) ++ S2).size = S1.size + 4 + S2.size := by rw [ByteArray.size_append, z0]
  have kz1 : ¬ 9223372036854775807 < S1.size + 4 + S2.size := by omega
  refine ⟨((S1 ++ (⟨#[32, 58, 61, 32]⟩ : ByteArray)) ++ S2), j2, ?pos, by rw [z1]; omega, fun w g lv hG => ?_⟩
  case pos => rw [z1]; omega
  have HG := Lib.hid hG
  clear hG hR S1p S1b S2p S2b hd hN
  go_enter Tryd.func41, Tryd.ntmps41
  go_wp2_with fail
  refine (pick_at HG.out hp 2 rfl (by decide) (by decide)).mono ?_
  rintro e w1 ⟨rfl, hG1, ho1⟩
  have G1 := Lib.hid hG1
  have H1 := Lib.hid ho1
  clear hG1 ho1 hp
  go_wp2_with fail
  refine (C1 _ g lv G1.out).mono ?_
  rintro e w2 ⟨rfl, hG2, ho2⟩
  have G2 := Lib.hid hG2
  have H2 := Lib.hid (og_trans H1.out ho2)
  clear hG2 ho2
  go_wp2_with fail
  refine (C2 _ g lv G2.out).mono ?_
  rintro e w3 ⟨rfl, hG3, ho3⟩
  have G3 := Lib.hid hG3
  have H3 := Lib.hid (og_trans H2.out ho3)
  clear hG3 ho3
  go_wp2_with fail
  go_ret
  exact ⟨rfl, G3.out, H3.out⟩
set_option maxRecDepth 10000 in
set_option maxHeartbeats 1600000 in
theorem simple_3 {L : List Nat} {d i i1 R C : Nat} (hd : d ≤ 100) (hp : pickM L i 28 = (3, i1)) (hcond : Gn 42 L d C) (hC : C ≤ 1000000) (hR : 5 + C ≤ R) : Sn 41 L d R i := by
  have y0 : (⟨#[98, 32, 58, 61, 32]⟩ : ByteArray).size = 5 := rfl
  obtain ⟨S1, j1, S1p, S1b, C1⟩ := hcond i1
  have z0 : ((⟨#[98, 32, 58, 61, 32]⟩ : ByteArray) ++ S1).size = 5 + S1.size := by rw [ByteArray.size_append, y0]
  have kz0 : ¬ 9223372036854775807 < 5 + S1.size := by omega
  refine ⟨((⟨#[98, 32, 58, 61, 32]⟩ : ByteArray) ++ S1), j1, ?pos, by rw [z0]; omega, fun w g lv hG => ?_⟩
  case pos => rw [z0]; omega
  have HG := Lib.hid hG
  clear hG hR S1p S1b hd hC
  go_enter Tryd.func41, Tryd.ntmps41
  go_wp2_with fail
  refine (pick_at HG.out hp 3 rfl (by decide) (by decide)).mono ?_
  rintro e w1 ⟨rfl, hG1, ho1⟩
  have G1 := Lib.hid hG1
  have H1 := Lib.hid ho1
  clear hG1 ho1 hp
  go_wp2_with fail
  refine (C1 _ g lv G1.out).mono ?_
  rintro e w2 ⟨rfl, hG2, ho2⟩
  have G2 := Lib.hid hG2
  have H2 := Lib.hid (og_trans H1.out ho2)
  clear hG2 ho2
  go_wp2_with fail
  go_ret
  exact ⟨rfl, G2.out, H2.out⟩
set_option maxRecDepth 10000 in
set_option maxHeartbeats 1600000 in
theorem simple_4 {L : List Nat} {d i i1 R  : Nat} (hd : d ≤ 100) (hp : pickM L i 28 = (4, i1)) (hchar : Gn 50 L d 16) (hR : 5 + 16 ≤ R) : Sn 41 L d R i := by
  have y0 : (⟨#[99, 32, 58, 61, 32]⟩ : ByteArray).size = 5 := rfl
  obtain ⟨S1, j1, S1p, S1b, C1⟩ := hchar i1
  have z0 : ((⟨#[99, 32, 58, 61, 32]⟩ : ByteArray) ++ S1).size = 5 + S1.size := by rw [ByteArray.size_append, y0]
  have kz0 : ¬ 9223372036854775807 < 5 + S1.size := by omega
  refine ⟨((⟨#[99, 32, 58, 61, 32]⟩ : ByteArray) ++ S1), j1, ?pos, by rw [z0]; omega, fun w g lv hG => ?_⟩
  case pos => rw [z0]; omega
  have HG := Lib.hid hG
  clear hG hR S1p S1b hd
  go_enter Tryd.func41, Tryd.ntmps41
  go_wp2_with fail
  refine (pick_at HG.out hp 4 rfl (by decide) (by decide)).mono ?_
  rintro e w1 ⟨rfl, hG1, ho1⟩
  have G1 := Lib.hid hG1
  have H1 := Lib.hid ho1
  clear hG1 ho1 hp
  go_wp2_with fail
  refine (C1 _ g lv G1.out).mono ?_
  rintro e w2 ⟨rfl, hG2, ho2⟩
  have G2 := Lib.hid hG2
  have H2 := Lib.hid (og_trans H1.out ho2)
  clear hG2 ho2
  go_wp2_with fail
  go_ret
  exact ⟨rfl, G2.out, H2.out⟩
set_option maxRecDepth 10000 in
set_option maxHeartbeats 1600000 in
theorem simple_5 {L : List Nat} {d i i1 R  : Nat} (hd : d ≤ 100) (hp : pickM L i 28 = (5, i1)) (hset : Gn 51 L d 21) (hR : 5 + 21 ≤ R) : Sn 41 L d R i := by
  have y0 : (⟨#[115, 32, 58, 61, 32]⟩ : ByteArray).size = 5 := rfl
  obtain ⟨S1, j1, S1p, S1b, C1⟩ := hset i1
  have z0 : ((⟨#[115, 32, 58, 61, 32]⟩ : ByteArray) ++ S1).size = 5 + S1.size := by rw [ByteArray.size_append, y0]
  have kz0 : ¬ 9223372036854775807 < 5 + S1.size := by omega
  refine ⟨((⟨#[115, 32, 58, 61, 32]⟩ : ByteArray) ++ S1), j1, ?pos, by rw [z0]; omega, fun w g lv hG => ?_⟩
  case pos => rw [z0]; omega
  have HG := Lib.hid hG
  clear hG hR S1p S1b hd
  go_enter Tryd.func41, Tryd.ntmps41
  go_wp2_with fail
  refine (pick_at HG.out hp 5 rfl (by decide) (by decide)).mono ?_
  rintro e w1 ⟨rfl, hG1, ho1⟩
  have G1 := Lib.hid hG1
  have H1 := Lib.hid ho1
  clear hG1 ho1 hp
  go_wp2_with fail
  refine (C1 _ g lv G1.out).mono ?_
  rintro e w2 ⟨rfl, hG2, ho2⟩
  have G2 := Lib.hid hG2
  have H2 := Lib.hid (og_trans H1.out ho2)
  clear hG2 ho2
  go_wp2_with fail
  go_ret
  exact ⟨rfl, G2.out, H2.out⟩
set_option maxRecDepth 10000 in
set_option maxHeartbeats 1600000 in
theorem simple_6 {L : List Nat} {d i i1 R N : Nat} (hd : d ≤ 100) (hp : pickM L i 28 = (6, i1)) (hnum : Gn 43 L d N) (hN : N ≤ 1000000) (hR : 8 + N + 9 ≤ R) : Sn 41 L d R i := by
  have y0 : (⟨#[79, 117, 116, 46, 73, 110, 116, 40]⟩ : ByteArray).size = 8 := rfl
  have y1 : (⟨#[41, 59, 32, 79, 117, 116, 46, 76, 110]⟩ : ByteArray).size = 9 := rfl
  obtain ⟨S1, j1, S1p, S1b, C1⟩ := hnum i1
  have z0 : ((⟨#[79, 117, 116, 46, 73, 110, 116, 40]⟩ : ByteArray) ++ S1).size = 8 + S1.size := by rw [ByteArray.size_append, y0]
  have kz0 : ¬ 9223372036854775807 < 8 + S1.size := by omega
  have z1 : (((⟨#[79, 117, 116, 46, 73, 110, 116, 40]⟩ : ByteArray) ++ S1) ++ (⟨#[41, 59, 32, 79, 117, 116, 46, 76, 110]⟩ : ByteArray)).size = 8 + S1.size + 9 := by rw [ByteArray.size_append, z0, y1]
  have kz1 : ¬ 9223372036854775807 < 8 + S1.size + 9 := by omega
  refine ⟨(((⟨#[79, 117, 116, 46, 73, 110, 116, 40]⟩ : ByteArray) ++ S1) ++ (⟨#[41, 59, 32, 79, 117, 116, 46, 76, 110]⟩ : ByteArray)), j1, ?pos, by rw [z1]; omega, fun w g lv hG => ?_⟩
  case pos => rw [z1]; omega
  have HG := Lib.hid hG
  clear hG hR S1p S1b hd hN
  go_enter Tryd.func41, Tryd.ntmps41
  go_wp2_with fail
  refine (pick_at HG.out hp 6 rfl (by decide) (by decide)).mono ?_
  rintro e w1 ⟨rfl, hG1, ho1⟩
  have G1 := Lib.hid hG1
  have H1 := Lib.hid ho1
  clear hG1 ho1 hp
  go_wp2_with fail
  refine (C1 _ g lv G1.out).mono ?_
  rintro e w2 ⟨rfl, hG2, ho2⟩
  have G2 := Lib.hid hG2
  have H2 := Lib.hid (og_trans H1.out ho2)
  clear hG2 ho2
  go_wp2_with fail
  go_ret
  exact ⟨rfl, G2.out, H2.out⟩
set_option maxRecDepth 10000 in
set_option maxHeartbeats 1600000 in
theorem simple_7 {L : List Nat} {d i i1 R N : Nat} (hd : d ≤ 100) (hp : pickM L i 28 = (7, i1)) (hnum : Gn 43 L d N) (hN : N ≤ 1000000) (hR : 8 + N + 9 ≤ R) : Sn 41 L d R i := by
  have y0 : (⟨#[79, 117, 116, 46, 73, 110, 116, 40]⟩ : ByteArray).size = 8 := rfl
  have y1 : (⟨#[41, 59, 32, 79, 117, 116, 46, 76, 110]⟩ : ByteArray).size = 9 := rfl
  obtain ⟨S1, j1, S1p, S1b, C1⟩ := hnum i1
  have z0 : ((⟨#[79, 117, 116, 46, 73, 110, 116, 40]⟩ : ByteArray) ++ S1).size = 8 + S1.size := by rw [ByteArray.size_append, y0]
  have kz0 : ¬ 9223372036854775807 < 8 + S1.size := by omega
  have z1 : (((⟨#[79, 117, 116, 46, 73, 110, 116, 40]⟩ : ByteArray) ++ S1) ++ (⟨#[41, 59, 32, 79, 117, 116, 46, 76, 110]⟩ : ByteArray)).size = 8 + S1.size + 9 := by rw [ByteArray.size_append, z0, y1]
  have kz1 : ¬ 9223372036854775807 < 8 + S1.size + 9 := by omega
  refine ⟨(((⟨#[79, 117, 116, 46, 73, 110, 116, 40]⟩ : ByteArray) ++ S1) ++ (⟨#[41, 59, 32, 79, 117, 116, 46, 76, 110]⟩ : ByteArray)), j1, ?pos, by rw [z1]; omega, fun w g lv hG => ?_⟩
  case pos => rw [z1]; omega
  have HG := Lib.hid hG
  clear hG hR S1p S1b hd hN
  go_enter Tryd.func41, Tryd.ntmps41
  go_wp2_with fail
  refine (pick_at HG.out hp 7 rfl (by decide) (by decide)).mono ?_
  rintro e w1 ⟨rfl, hG1, ho1⟩
  have G1 := Lib.hid hG1
  have H1 := Lib.hid ho1
  clear hG1 ho1 hp
  go_wp2_with fail
  refine (C1 _ g lv G1.out).mono ?_
  rintro e w2 ⟨rfl, hG2, ho2⟩
  have G2 := Lib.hid hG2
  have H2 := Lib.hid (og_trans H1.out ho2)
  clear hG2 ho2
  go_wp2_with fail
  go_ret
  exact ⟨rfl, G2.out, H2.out⟩
set_option maxRecDepth 10000 in
set_option maxHeartbeats 1600000 in
theorem simple_8 {L : List Nat} {d i i1 R  : Nat} (hd : d ≤ 100) (hp : pickM L i 28 = (8, i1)) (hchar : Gn 50 L d 16) (hR : 9 + 16 + 1 ≤ R) : Sn 41 L d R i := by
  have y0 : (⟨#[79, 117, 116, 46, 67, 104, 97, 114, 40]⟩ : ByteArray).size = 9 := rfl
  have y1 : (⟨#[41]⟩ : ByteArray).size = 1 := rfl
  obtain ⟨S1, j1, S1p, S1b, C1⟩ := hchar i1
  have z0 : ((⟨#[79, 117, 116, 46, 67, 104, 97, 114, 40]⟩ : ByteArray) ++ S1).size = 9 + S1.size := by rw [ByteArray.size_append, y0]
  have kz0 : ¬ 9223372036854775807 < 9 + S1.size := by omega
  have z1 : (((⟨#[79, 117, 116, 46, 67, 104, 97, 114, 40]⟩ : ByteArray) ++ S1) ++ (⟨#[41]⟩ : ByteArray)).size = 9 + S1.size + 1 := by rw [ByteArray.size_append, z0, y1]
  have kz1 : ¬ 9223372036854775807 < 9 + S1.size + 1 := by omega
  refine ⟨(((⟨#[79, 117, 116, 46, 67, 104, 97, 114, 40]⟩ : ByteArray) ++ S1) ++ (⟨#[41]⟩ : ByteArray)), j1, ?pos, by rw [z1]; omega, fun w g lv hG => ?_⟩
  case pos => rw [z1]; omega
  have HG := Lib.hid hG
  clear hG hR S1p S1b hd
  go_enter Tryd.func41, Tryd.ntmps41
  go_wp2_with fail
  refine (pick_at HG.out hp 8 rfl (by decide) (by decide)).mono ?_
  rintro e w1 ⟨rfl, hG1, ho1⟩
  have G1 := Lib.hid hG1
  have H1 := Lib.hid ho1
  clear hG1 ho1 hp
  go_wp2_with fail
  refine (C1 _ g lv G1.out).mono ?_
  rintro e w2 ⟨rfl, hG2, ho2⟩
  have G2 := Lib.hid hG2
  have H2 := Lib.hid (og_trans H1.out ho2)
  clear hG2 ho2
  go_wp2_with fail
  go_ret
  exact ⟨rfl, G2.out, H2.out⟩
set_option maxRecDepth 10000 in
set_option maxHeartbeats 1600000 in
theorem simple_9 {L : List Nat} {d i i1 R  : Nat} (hd : d ≤ 100) (hp : pickM L i 28 = (9, i1))  (hR : 11 + 7 + 1 ≤ R) : Sn 41 L d R i := by
  have y0 : (⟨#[34, 104, 101, 108, 108, 111, 34]⟩ : ByteArray).size = 7 := rfl
  have y1 : (⟨#[116]⟩ : ByteArray).size = 1 := rfl
  have y2 : (⟨#[34, 34]⟩ : ByteArray).size = 2 := rfl
  have y3 : (⟨#[79, 117, 116, 46, 83, 116, 114, 105, 110, 103, 40]⟩ : ByteArray).size = 11 := rfl
  have y4 : (⟨#[41]⟩ : ByteArray).size = 1 := rfl
  obtain ⟨p1, q1, hp1⟩ : ∃ p q, pickM L i1 3 = (p, q) := ⟨_, _, rfl⟩
  have p1lt : p1 < 3 := by have h := pickM_lt L i1 (n := 3) (by decide); rw [hp1] at h; exact h
  have p1a : (0 : Int) ≤ (p1 : Int) := Int.natCast_nonneg _
  have p1b : (p1 : Int) < 3 := by omega
  obtain ⟨X1, hX1⟩ : ∃ x, ([(⟨#[34, 104, 101, 108, 108, 111, 34]⟩ : ByteArray), (⟨#[116]⟩ : ByteArray), (⟨#[34, 34]⟩ : ByteArray)] : List ByteArray).getD p1 ⟨#[]⟩ = x := ⟨_, rfl⟩
  have X1b : X1.size ≤ 7 := by rw [← hX1]; exact choice_le _ _ (by intro x hx; simp only [List.mem_cons, List.not_mem_nil, or_false] at hx; rcases hx with rfl | rfl | rfl <;> first | decide | (omega)) _
  have X1c : ((#[.string (⟨#[34, 104, 101, 108, 108, 111, 34]⟩ : ByteArray), .string (⟨#[116]⟩ : ByteArray), .string (⟨#[34, 34]⟩ : ByteArray)] : Array Value))[p1]? = some (.string X1) := by rw [← hX1]; exact choice_cell [(⟨#[34, 104, 101, 108, 108, 111, 34]⟩ : ByteArray), (⟨#[116]⟩ : ByteArray), (⟨#[34, 34]⟩ : ByteArray)] p1 p1lt
  have X1h := Lib.hid X1c
  have z0 : ((⟨#[79, 117, 116, 46, 83, 116, 114, 105, 110, 103, 40]⟩ : ByteArray) ++ X1).size = 11 + X1.size := by rw [ByteArray.size_append, y3]
  have kz0 : ¬ 9223372036854775807 < 11 + X1.size := by omega
  have z1 : (((⟨#[79, 117, 116, 46, 83, 116, 114, 105, 110, 103, 40]⟩ : ByteArray) ++ X1) ++ (⟨#[41]⟩ : ByteArray)).size = 11 + X1.size + 1 := by rw [ByteArray.size_append, z0, y4]
  have kz1 : ¬ 9223372036854775807 < 11 + X1.size + 1 := by omega
  refine ⟨(((⟨#[79, 117, 116, 46, 83, 116, 114, 105, 110, 103, 40]⟩ : ByteArray) ++ X1) ++ (⟨#[41]⟩ : ByteArray)), q1, ?pos, by rw [z1]; omega, fun w g lv hG => ?_⟩
  case pos => rw [z1]; omega
  have HG := Lib.hid hG
  clear hG hR hX1 X1b X1c hd
  go_enter Tryd.func41, Tryd.ntmps41
  go_wp2_with fail
  refine (pick_at HG.out hp 9 rfl (by decide) (by decide)).mono ?_
  rintro e w1 ⟨rfl, hG1, ho1⟩
  have G1 := Lib.hid hG1
  have H1 := Lib.hid ho1
  clear hG1 ho1 hp
  go_wp2_with fail
  refine (pick_at (G1.out.go (alloc0 w1 _)) hp1 (p1 : Int) rfl (by decide) (by decide)).mono ?_
  rintro e w2 ⟨rfl, hG2, ho2⟩
  have G2 := Lib.hid hG2
  have H2 := Lib.hid (og_trans H1.out (og_trans (og_nil (alloc0 w1 _)) ho2))
  have cellX1 : w2.cell? ⟨w1.heap.size, p1, none⟩ = some (.string X1) := by
    have h := ((Blk.new w1 #[.string (⟨#[34, 104, 101, 108, 108, 111, 34]⟩ : ByteArray), .string (⟨#[116]⟩ : ByteArray), .string (⟨#[34, 34]⟩ : ByteArray)] 9).kept ho2 (fun h => absurd (show w1.heap.size = g from h) (Nat.ne_of_gt G1.out.blk.lt))).cell p1
    rw [h]; exact X1h.out
  have p1c := p1lt
  clear hG2 ho2
  go_wp2_with fail
  go_ret
  exact ⟨rfl, G2.out, H2.out⟩
set_option maxRecDepth 10000 in
set_option maxHeartbeats 1600000 in
theorem simple_10 {L : List Nat} {d i i1 R  : Nat} (hd : d ≤ 100) (hp : pickM L i 28 = (10, i1))  (hR : 5 + 7 ≤ R) : Sn 41 L d R i := by
  have y0 : (⟨#[34, 97, 98, 99, 100, 101, 34]⟩ : ByteArray).size = 7 := rfl
  have y1 : (⟨#[34, 34]⟩ : ByteArray).size = 2 := rfl
  have y2 : (⟨#[34, 120, 121, 34]⟩ : ByteArray).size = 4 := rfl
  have y3 : (⟨#[116, 32, 58, 61, 32]⟩ : ByteArray).size = 5 := rfl
  obtain ⟨p1, q1, hp1⟩ : ∃ p q, pickM L i1 3 = (p, q) := ⟨_, _, rfl⟩
  have p1lt : p1 < 3 := by have h := pickM_lt L i1 (n := 3) (by decide); rw [hp1] at h; exact h
  have p1a : (0 : Int) ≤ (p1 : Int) := Int.natCast_nonneg _
  have p1b : (p1 : Int) < 3 := by omega
  obtain ⟨X1, hX1⟩ : ∃ x, ([(⟨#[34, 97, 98, 99, 100, 101, 34]⟩ : ByteArray), (⟨#[34, 34]⟩ : ByteArray), (⟨#[34, 120, 121, 34]⟩ : ByteArray)] : List ByteArray).getD p1 ⟨#[]⟩ = x := ⟨_, rfl⟩
  have X1b : X1.size ≤ 7 := by rw [← hX1]; exact choice_le _ _ (by intro x hx; simp only [List.mem_cons, List.not_mem_nil, or_false] at hx; rcases hx with rfl | rfl | rfl <;> first | decide | (omega)) _
  have X1c : ((#[.string (⟨#[34, 97, 98, 99, 100, 101, 34]⟩ : ByteArray), .string (⟨#[34, 34]⟩ : ByteArray), .string (⟨#[34, 120, 121, 34]⟩ : ByteArray)] : Array Value))[p1]? = some (.string X1) := by rw [← hX1]; exact choice_cell [(⟨#[34, 97, 98, 99, 100, 101, 34]⟩ : ByteArray), (⟨#[34, 34]⟩ : ByteArray), (⟨#[34, 120, 121, 34]⟩ : ByteArray)] p1 p1lt
  have X1h := Lib.hid X1c
  have z0 : ((⟨#[116, 32, 58, 61, 32]⟩ : ByteArray) ++ X1).size = 5 + X1.size := by rw [ByteArray.size_append, y3]
  have kz0 : ¬ 9223372036854775807 < 5 + X1.size := by omega
  refine ⟨((⟨#[116, 32, 58, 61, 32]⟩ : ByteArray) ++ X1), q1, ?pos, by rw [z0]; omega, fun w g lv hG => ?_⟩
  case pos => rw [z0]; omega
  have HG := Lib.hid hG
  clear hG hR hX1 X1b X1c hd
  go_enter Tryd.func41, Tryd.ntmps41
  go_wp2_with fail
  refine (pick_at HG.out hp 10 rfl (by decide) (by decide)).mono ?_
  rintro e w1 ⟨rfl, hG1, ho1⟩
  have G1 := Lib.hid hG1
  have H1 := Lib.hid ho1
  clear hG1 ho1 hp
  go_wp2_with fail
  refine (pick_at (G1.out.go (alloc0 w1 _)) hp1 (p1 : Int) rfl (by decide) (by decide)).mono ?_
  rintro e w2 ⟨rfl, hG2, ho2⟩
  have G2 := Lib.hid hG2
  have H2 := Lib.hid (og_trans H1.out (og_trans (og_nil (alloc0 w1 _)) ho2))
  have cellX1 : w2.cell? ⟨w1.heap.size, p1, none⟩ = some (.string X1) := by
    have h := ((Blk.new w1 #[.string (⟨#[34, 97, 98, 99, 100, 101, 34]⟩ : ByteArray), .string (⟨#[34, 34]⟩ : ByteArray), .string (⟨#[34, 120, 121, 34]⟩ : ByteArray)] 9).kept ho2 (fun h => absurd (show w1.heap.size = g from h) (Nat.ne_of_gt G1.out.blk.lt))).cell p1
    rw [h]; exact X1h.out
  have p1c := p1lt
  clear hG2 ho2
  go_wp2_with fail
  go_ret
  exact ⟨rfl, G2.out, H2.out⟩
set_option maxRecDepth 10000 in
set_option maxHeartbeats 1600000 in
theorem simple_11 {L : List Nat} {d i i1 R  : Nat} (hd : d ≤ 100) (hp : pickM L i 28 = (11, i1))  (hR : 4 + 6 + 1 ≤ R) : Sn 41 L d R i := by
  have y0 : (⟨#[112]⟩ : ByteArray).size = 1 := rfl
  have y1 : (⟨#[113]⟩ : ByteArray).size = 1 := rfl
  have y2 : (⟨#[117]⟩ : ByteArray).size = 1 := rfl
  have y3 : (⟨#[112, 46, 110, 101, 120, 116]⟩ : ByteArray).size = 6 := rfl
  have y4 : (⟨#[114, 46, 110, 101, 120, 116]⟩ : ByteArray).size = 6 := rfl
  have y5 : (⟨#[78, 69, 87, 40]⟩ : ByteArray).size = 4 := rfl
  have y6 : (⟨#[41]⟩ : ByteArray).size = 1 := rfl
  obtain ⟨p1, q1, hp1⟩ : ∃ p q, pickM L i1 5 = (p, q) := ⟨_, _, rfl⟩
  have p1lt : p1 < 5 := by have h := pickM_lt L i1 (n := 5) (by decide); rw [hp1] at h; exact h
  have p1a : (0 : Int) ≤ (p1 : Int) := Int.natCast_nonneg _
  have p1b : (p1 : Int) < 5 := by omega
  obtain ⟨X1, hX1⟩ : ∃ x, ([(⟨#[112]⟩ : ByteArray), (⟨#[113]⟩ : ByteArray), (⟨#[117]⟩ : ByteArray), (⟨#[112, 46, 110, 101, 120, 116]⟩ : ByteArray), (⟨#[114, 46, 110, 101, 120, 116]⟩ : ByteArray)] : List ByteArray).getD p1 ⟨#[]⟩ = x := ⟨_, rfl⟩
  have X1b : X1.size ≤ 6 := by rw [← hX1]; exact choice_le _ _ (by intro x hx; simp only [List.mem_cons, List.not_mem_nil, or_false] at hx; rcases hx with rfl | rfl | rfl | rfl | rfl <;> first | decide | (omega)) _
  have X1c : ((#[.string (⟨#[112]⟩ : ByteArray), .string (⟨#[113]⟩ : ByteArray), .string (⟨#[117]⟩ : ByteArray), .string (⟨#[112, 46, 110, 101, 120, 116]⟩ : ByteArray), .string (⟨#[114, 46, 110, 101, 120, 116]⟩ : ByteArray)] : Array Value))[p1]? = some (.string X1) := by rw [← hX1]; exact choice_cell [(⟨#[112]⟩ : ByteArray), (⟨#[113]⟩ : ByteArray), (⟨#[117]⟩ : ByteArray), (⟨#[112, 46, 110, 101, 120, 116]⟩ : ByteArray), (⟨#[114, 46, 110, 101, 120, 116]⟩ : ByteArray)] p1 p1lt
  have X1h := Lib.hid X1c
  have z0 : ((⟨#[78, 69, 87, 40]⟩ : ByteArray) ++ X1).size = 4 + X1.size := by rw [ByteArray.size_append, y5]
  have kz0 : ¬ 9223372036854775807 < 4 + X1.size := by omega
  have z1 : (((⟨#[78, 69, 87, 40]⟩ : ByteArray) ++ X1) ++ (⟨#[41]⟩ : ByteArray)).size = 4 + X1.size + 1 := by rw [ByteArray.size_append, z0, y6]
  have kz1 : ¬ 9223372036854775807 < 4 + X1.size + 1 := by omega
  refine ⟨(((⟨#[78, 69, 87, 40]⟩ : ByteArray) ++ X1) ++ (⟨#[41]⟩ : ByteArray)), q1, ?pos, by rw [z1]; omega, fun w g lv hG => ?_⟩
  case pos => rw [z1]; omega
  have HG := Lib.hid hG
  clear hG hR hX1 X1b X1c hd
  go_enter Tryd.func41, Tryd.ntmps41
  go_wp2_with fail
  refine (pick_at HG.out hp 11 rfl (by decide) (by decide)).mono ?_
  rintro e w1 ⟨rfl, hG1, ho1⟩
  have G1 := Lib.hid hG1
  have H1 := Lib.hid ho1
  clear hG1 ho1 hp
  go_wp2_with fail
  refine (pick_at (G1.out.go (alloc0 w1 _)) hp1 (p1 : Int) rfl (by decide) (by decide)).mono ?_
  rintro e w2 ⟨rfl, hG2, ho2⟩
  have G2 := Lib.hid hG2
  have H2 := Lib.hid (og_trans H1.out (og_trans (og_nil (alloc0 w1 _)) ho2))
  have cellX1 : w2.cell? ⟨w1.heap.size, p1, none⟩ = some (.string X1) := by
    have h := ((Blk.new w1 #[.string (⟨#[112]⟩ : ByteArray), .string (⟨#[113]⟩ : ByteArray), .string (⟨#[117]⟩ : ByteArray), .string (⟨#[112, 46, 110, 101, 120, 116]⟩ : ByteArray), .string (⟨#[114, 46, 110, 101, 120, 116]⟩ : ByteArray)] 9).kept ho2 (fun h => absurd (show w1.heap.size = g from h) (Nat.ne_of_gt G1.out.blk.lt))).cell p1
    rw [h]; exact X1h.out
  have p1c := p1lt
  clear hG2 ho2
  go_wp2_with fail
  go_ret
  exact ⟨rfl, G2.out, H2.out⟩
set_option maxRecDepth 10000 in
set_option maxHeartbeats 1600000 in
theorem simple_12 {L : List Nat} {d i i1 R  : Nat} (hd : d ≤ 100) (hp : pickM L i 28 = (12, i1))  (hR : 11 ≤ R) : Sn 41 L d R i := by
  have y0 : (⟨#[112, 32, 58, 61, 32, 113]⟩ : ByteArray).size = 6 := rfl
  have y1 : (⟨#[113, 32, 58, 61, 32, 112]⟩ : ByteArray).size = 6 := rfl
  have y2 : (⟨#[112, 32, 58, 61, 32, 117]⟩ : ByteArray).size = 6 := rfl
  have y3 : (⟨#[113, 32, 58, 61, 32, 117]⟩ : ByteArray).size = 6 := rfl
  have y4 : (⟨#[112, 32, 58, 61, 32, 78, 73, 76]⟩ : ByteArray).size = 8 := rfl
  have y5 : (⟨#[114, 46, 110, 101, 120, 116, 32, 58, 61, 32, 112]⟩ : ByteArray).size = 11 := rfl
  have y6 : (⟨#[117, 32, 58, 61, 32, 113, 40, 83, 41]⟩ : ByteArray).size = 9 := rfl
  obtain ⟨p1, q1, hp1⟩ : ∃ p q, pickM L i1 7 = (p, q) := ⟨_, _, rfl⟩
  have p1lt : p1 < 7 := by have h := pickM_lt L i1 (n := 7) (by decide); rw [hp1] at h; exact h
  have p1a : (0 : Int) ≤ (p1 : Int) := Int.natCast_nonneg _
  have p1b : (p1 : Int) < 7 := by omega
  obtain ⟨X1, hX1⟩ : ∃ x, ([(⟨#[112, 32, 58, 61, 32, 113]⟩ : ByteArray), (⟨#[113, 32, 58, 61, 32, 112]⟩ : ByteArray), (⟨#[112, 32, 58, 61, 32, 117]⟩ : ByteArray), (⟨#[113, 32, 58, 61, 32, 117]⟩ : ByteArray), (⟨#[112, 32, 58, 61, 32, 78, 73, 76]⟩ : ByteArray), (⟨#[114, 46, 110, 101, 120, 116, 32, 58, 61, 32, 112]⟩ : ByteArray), (⟨#[117, 32, 58, 61, 32, 113, 40, 83, 41]⟩ : ByteArray)] : List ByteArray).getD p1 ⟨#[]⟩ = x := ⟨_, rfl⟩
  have X1b : X1.size ≤ 11 := by rw [← hX1]; exact choice_le _ _ (by intro x hx; simp only [List.mem_cons, List.not_mem_nil, or_false] at hx; rcases hx with rfl | rfl | rfl | rfl | rfl | rfl | rfl <;> first | decide | (omega)) _
  have X1c : ((#[.string (⟨#[112, 32, 58, 61, 32, 113]⟩ : ByteArray), .string (⟨#[113, 32, 58, 61, 32, 112]⟩ : ByteArray), .string (⟨#[112, 32, 58, 61, 32, 117]⟩ : ByteArray), .string (⟨#[113, 32, 58, 61, 32, 117]⟩ : ByteArray), .string (⟨#[112, 32, 58, 61, 32, 78, 73, 76]⟩ : ByteArray), .string (⟨#[114, 46, 110, 101, 120, 116, 32, 58, 61, 32, 112]⟩ : ByteArray), .string (⟨#[117, 32, 58, 61, 32, 113, 40, 83, 41]⟩ : ByteArray)] : Array Value))[p1]? = some (.string X1) := by rw [← hX1]; exact choice_cell [(⟨#[112, 32, 58, 61, 32, 113]⟩ : ByteArray), (⟨#[113, 32, 58, 61, 32, 112]⟩ : ByteArray), (⟨#[112, 32, 58, 61, 32, 117]⟩ : ByteArray), (⟨#[113, 32, 58, 61, 32, 117]⟩ : ByteArray), (⟨#[112, 32, 58, 61, 32, 78, 73, 76]⟩ : ByteArray), (⟨#[114, 46, 110, 101, 120, 116, 32, 58, 61, 32, 112]⟩ : ByteArray), (⟨#[117, 32, 58, 61, 32, 113, 40, 83, 41]⟩ : ByteArray)] p1 p1lt
  have X1h := Lib.hid X1c
  refine ⟨X1, q1, ?pos, by omega, fun w g lv hG => ?_⟩
  case pos => rw [← hX1]; exact choice_pos _ (by intro x hx; simp only [List.mem_cons, List.not_mem_nil, or_false] at hx; rcases hx with rfl | rfl | rfl | rfl | rfl | rfl | rfl <;> first | decide | (omega)) _ (by have := p1lt; exact this)
  have HG := Lib.hid hG
  clear hG hR hX1 X1b X1c hd
  go_enter Tryd.func41, Tryd.ntmps41
  go_wp2_with fail
  refine (pick_at HG.out hp 12 rfl (by decide) (by decide)).mono ?_
  rintro e w1 ⟨rfl, hG1, ho1⟩
  have G1 := Lib.hid hG1
  have H1 := Lib.hid ho1
  clear hG1 ho1 hp
  go_wp2_with fail
  refine (pick_at (G1.out.go (alloc0 w1 _)) hp1 (p1 : Int) rfl (by decide) (by decide)).mono ?_
  rintro e w2 ⟨rfl, hG2, ho2⟩
  have G2 := Lib.hid hG2
  have H2 := Lib.hid (og_trans H1.out (og_trans (og_nil (alloc0 w1 _)) ho2))
  have cellX1 : w2.cell? ⟨w1.heap.size, p1, none⟩ = some (.string X1) := by
    have h := ((Blk.new w1 #[.string (⟨#[112, 32, 58, 61, 32, 113]⟩ : ByteArray), .string (⟨#[113, 32, 58, 61, 32, 112]⟩ : ByteArray), .string (⟨#[112, 32, 58, 61, 32, 117]⟩ : ByteArray), .string (⟨#[113, 32, 58, 61, 32, 117]⟩ : ByteArray), .string (⟨#[112, 32, 58, 61, 32, 78, 73, 76]⟩ : ByteArray), .string (⟨#[114, 46, 110, 101, 120, 116, 32, 58, 61, 32, 112]⟩ : ByteArray), .string (⟨#[117, 32, 58, 61, 32, 113, 40, 83, 41]⟩ : ByteArray)] 9).kept ho2 (fun h => absurd (show w1.heap.size = g from h) (Nat.ne_of_gt G1.out.blk.lt))).cell p1
    rw [h]; exact X1h.out
  have p1c := p1lt
  clear hG2 ho2
  go_wp2_with fail
  go_ret
  exact ⟨rfl, G2.out, H2.out⟩
end Go.Proofs.YtbpdhpfcknaaiaaDoor

/- What simple tells, case by case. -/
set_option linter.unusedSimpArgs false
set_option linter.unusedVariables false
namespace Go.Proofs.YtbpdhpfcknaaiaaDoor
open Go.RowKit M

set_option maxRecDepth 10000 in
set_option maxHeartbeats 1600000 in
theorem simple_14 {L : List Nat} {d i i1 R  : Nat} (hd : d ≤ 100) (hp : pickM L i 28 = (14, i1))  (hR : 4 ≤ R) : Sn 41 L d R i := by
  have y0 : (⟨#[104, 40, 97, 41]⟩ : ByteArray).size = 4 := rfl
  refine ⟨(⟨#[104, 40, 97, 41]⟩ : ByteArray), i1, ?pos, by rw [y0]; omega, fun w g lv hG => ?_⟩
  case pos => rw [y0]; omega
  have HG := Lib.hid hG
  clear hG hR hd
  go_enter Tryd.func41, Tryd.ntmps41
  go_wp2_with fail
  refine (pick_at HG.out hp 14 rfl (by decide) (by decide)).mono ?_
  rintro e w1 ⟨rfl, hG1, ho1⟩
  have G1 := Lib.hid hG1
  have H1 := Lib.hid ho1
  clear hG1 ho1 hp
  go_wp2_with fail
  go_ret
  exact ⟨rfl, G1.out, H1.out⟩
set_option maxRecDepth 10000 in
set_option maxHeartbeats 1600000 in
theorem simple_15 {L : List Nat} {d i i1 R N : Nat} (hd : d ≤ 100) (hp : pickM L i 28 = (15, i1)) (hnum : Gn 43 L d N) (hN : N ≤ 1000000) (hvariable : Gn 49 L d 10) (hR : 4 + 10 + 2 + N + 1 ≤ R) : Sn 41 L d R i := by
  have y0 : (⟨#[73, 78, 67, 40]⟩ : ByteArray).size = 4 := rfl
  have y1 : (⟨#[44, 32]⟩ : ByteArray).size = 2 := rfl
  have y2 : (⟨#[41]⟩ : ByteArray).size = 1 := rfl
  obtain ⟨S1, j1, S1p, S1b, C1⟩ := hvariable i1
  obtain ⟨S2, j2, S2p, S2b, C2⟩ := hnum j1
  have z0 : ((⟨#[73, 78, 67, 40]⟩ : ByteArray) ++ S1).size = 4 + S1.size := by rw [ByteArray.size_append, y0]
  have kz0 : ¬ 9223372036854775807 < 4 + S1.size := by omega
  have z1 : (((⟨#[73, 78, 67, 40]⟩ : ByteArray) ++ S1) ++ (⟨#[44, 32]⟩ : ByteArray)).size = 4 + S1.size + 2 := by rw [ByteArray.size_append, z0, y1]
  have kz1 : ¬ 9223372036854775807 < 4 + S1.size + 2 := by omega
  have z2 : ((((⟨#[73, 78, 67, 40]⟩ : ByteArray) ++ S1) ++ (⟨#[44, 32]⟩ : ByteArray)) ++ S2).size = 4 + S1.size + 2 + S2.size := by rw [ByteArray.size_append, z1]
  have kz2 : ¬ 9223372036854775807 < 4 + S1.size + 2 + S2.size := by omega
  have z3 : (((((⟨#[73, 78, 67, 40]⟩ : ByteArray) ++ S1) ++ (⟨#[44, 32]⟩ : ByteArray)) ++ S2) ++ (⟨#[41]⟩ : ByteArray)).size = 4 + S1.size + 2 + S2.size + 1 := by rw [ByteArray.size_append, z2, y2]
  have kz3 : ¬ 9223372036854775807 < 4 + S1.size + 2 + S2.size + 1 := by omega
  refine ⟨(((((⟨#[73, 78, 67, 40]⟩ : ByteArray) ++ S1) ++ (⟨#[44, 32]⟩ : ByteArray)) ++ S2) ++ (⟨#[41]⟩ : ByteArray)), j2, ?pos, by rw [z3]; omega, fun w g lv hG => ?_⟩
  case pos => rw [z3]; omega
  have HG := Lib.hid hG
  clear hG hR S1p S1b S2p S2b hd hN
  go_enter Tryd.func41, Tryd.ntmps41
  go_wp2_with fail
  refine (pick_at HG.out hp 15 rfl (by decide) (by decide)).mono ?_
  rintro e w1 ⟨rfl, hG1, ho1⟩
  have G1 := Lib.hid hG1
  have H1 := Lib.hid ho1
  clear hG1 ho1 hp
  go_wp2_with fail
  refine (C1 _ g lv G1.out).mono ?_
  rintro e w2 ⟨rfl, hG2, ho2⟩
  have G2 := Lib.hid hG2
  have H2 := Lib.hid (og_trans H1.out ho2)
  clear hG2 ho2
  go_wp2_with fail
  refine (C2 _ g lv G2.out).mono ?_
  rintro e w3 ⟨rfl, hG3, ho3⟩
  have G3 := Lib.hid hG3
  have H3 := Lib.hid (og_trans H2.out ho3)
  clear hG3 ho3
  go_wp2_with fail
  go_ret
  exact ⟨rfl, G3.out, H3.out⟩
set_option maxRecDepth 10000 in
set_option maxHeartbeats 1600000 in
theorem simple_16 {L : List Nat} {d i i1 R  : Nat} (hd : d ≤ 100) (hp : pickM L i 28 = (16, i1)) (hvariable : Gn 49 L d 10) (hR : 4 + 10 + 1 ≤ R) : Sn 41 L d R i := by
  have y0 : (⟨#[68, 69, 67, 40]⟩ : ByteArray).size = 4 := rfl
  have y1 : (⟨#[41]⟩ : ByteArray).size = 1 := rfl
  obtain ⟨S1, j1, S1p, S1b, C1⟩ := hvariable i1
  have z0 : ((⟨#[68, 69, 67, 40]⟩ : ByteArray) ++ S1).size = 4 + S1.size := by rw [ByteArray.size_append, y0]
  have kz0 : ¬ 9223372036854775807 < 4 + S1.size := by omega
  have z1 : (((⟨#[68, 69, 67, 40]⟩ : ByteArray) ++ S1) ++ (⟨#[41]⟩ : ByteArray)).size = 4 + S1.size + 1 := by rw [ByteArray.size_append, z0, y1]
  have kz1 : ¬ 9223372036854775807 < 4 + S1.size + 1 := by omega
  refine ⟨(((⟨#[68, 69, 67, 40]⟩ : ByteArray) ++ S1) ++ (⟨#[41]⟩ : ByteArray)), j1, ?pos, by rw [z1]; omega, fun w g lv hG => ?_⟩
  case pos => rw [z1]; omega
  have HG := Lib.hid hG
  clear hG hR S1p S1b hd
  go_enter Tryd.func41, Tryd.ntmps41
  go_wp2_with fail
  refine (pick_at HG.out hp 16 rfl (by decide) (by decide)).mono ?_
  rintro e w1 ⟨rfl, hG1, ho1⟩
  have G1 := Lib.hid hG1
  have H1 := Lib.hid ho1
  clear hG1 ho1 hp
  go_wp2_with fail
  refine (C1 _ g lv G1.out).mono ?_
  rintro e w2 ⟨rfl, hG2, ho2⟩
  have G2 := Lib.hid hG2
  have H2 := Lib.hid (og_trans H1.out ho2)
  clear hG2 ho2
  go_wp2_with fail
  go_ret
  exact ⟨rfl, G2.out, H2.out⟩
set_option maxRecDepth 10000 in
set_option maxHeartbeats 1600000 in
theorem simple_18 {L : List Nat} {d i i1 R  : Nat} (hd : d ≤ 100) (hp : pickM L i 28 = (18, i1))  (hR : 8 + 4 + 1 ≤ R) : Sn 41 L d R i := by
  have y0 : (⟨#[99]⟩ : ByteArray).size = 1 := rfl
  have y1 : (⟨#[116, 91, 49, 93]⟩ : ByteArray).size = 4 := rfl
  have y2 : (⟨#[117, 46, 122]⟩ : ByteArray).size = 3 := rfl
  have y3 : (⟨#[73, 110, 46, 67, 104, 97, 114, 40]⟩ : ByteArray).size = 8 := rfl
  have y4 : (⟨#[41]⟩ : ByteArray).size = 1 := rfl
  obtain ⟨p1, q1, hp1⟩ : ∃ p q, pickM L i1 3 = (p, q) := ⟨_, _, rfl⟩
  have p1lt : p1 < 3 := by have h := pickM_lt L i1 (n := 3) (by decide); rw [hp1] at h; exact h
  have p1a : (0 : Int) ≤ (p1 : Int) := Int.natCast_nonneg _
  have p1b : (p1 : Int) < 3 := by omega
  obtain ⟨X1, hX1⟩ : ∃ x, ([(⟨#[99]⟩ : ByteArray), (⟨#[116, 91, 49, 93]⟩ : ByteArray), (⟨#[117, 46, 122]⟩ : ByteArray)] : List ByteArray).getD p1 ⟨#[]⟩ = x := ⟨_, rfl⟩
  have X1b : X1.size ≤ 4 := by rw [← hX1]; exact choice_le _ _ (by intro x hx; simp only [List.mem_cons, List.not_mem_nil, or_false] at hx; rcases hx with rfl | rfl | rfl <;> first | decide | (omega)) _
  have X1c : ((#[.string (⟨#[99]⟩ : ByteArray), .string (⟨#[116, 91, 49, 93]⟩ : ByteArray), .string (⟨#[117, 46, 122]⟩ : ByteArray)] : Array Value))[p1]? = some (.string X1) := by rw [← hX1]; exact choice_cell [(⟨#[99]⟩ : ByteArray), (⟨#[116, 91, 49, 93]⟩ : ByteArray), (⟨#[117, 46, 122]⟩ : ByteArray)] p1 p1lt
  have X1h := Lib.hid X1c
  have z0 : ((⟨#[73, 110, 46, 67, 104, 97, 114, 40]⟩ : ByteArray) ++ X1).size = 8 + X1.size := by rw [ByteArray.size_append, y3]
  have kz0 : ¬ 9223372036854775807 < 8 + X1.size := by omega
  have z1 : (((⟨#[73, 110, 46, 67, 104, 97, 114, 40]⟩ : ByteArray) ++ X1) ++ (⟨#[41]⟩ : ByteArray)).size = 8 + X1.size + 1 := by rw [ByteArray.size_append, z0, y4]
  have kz1 : ¬ 9223372036854775807 < 8 + X1.size + 1 := by omega
  refine ⟨(((⟨#[73, 110, 46, 67, 104, 97, 114, 40]⟩ : ByteArray) ++ X1) ++ (⟨#[41]⟩ : ByteArray)), q1, ?pos, by rw [z1]; omega, fun w g lv hG => ?_⟩
  case pos => rw [z1]; omega
  have HG := Lib.hid hG
  clear hG hR hX1 X1b X1c hd
  go_enter Tryd.func41, Tryd.ntmps41
  go_wp2_with fail
  refine (pick_at HG.out hp 18 rfl (by decide) (by decide)).mono ?_
  rintro e w1 ⟨rfl, hG1, ho1⟩
  have G1 := Lib.hid hG1
  have H1 := Lib.hid ho1
  clear hG1 ho1 hp
  go_wp2_with fail
  refine (pick_at (G1.out.go (alloc0 w1 _)) hp1 (p1 : Int) rfl (by decide) (by decide)).mono ?_
  rintro e w2 ⟨rfl, hG2, ho2⟩
  have G2 := Lib.hid hG2
  have H2 := Lib.hid (og_trans H1.out (og_trans (og_nil (alloc0 w1 _)) ho2))
  have cellX1 : w2.cell? ⟨w1.heap.size, p1, none⟩ = some (.string X1) := by
    have h := ((Blk.new w1 #[.string (⟨#[99]⟩ : ByteArray), .string (⟨#[116, 91, 49, 93]⟩ : ByteArray), .string (⟨#[117, 46, 122]⟩ : ByteArray)] 9).kept ho2 (fun h => absurd (show w1.heap.size = g from h) (Nat.ne_of_gt G1.out.blk.lt))).cell p1
    rw [h]; exact X1h.out
  have p1c := p1lt
  clear hG2 ho2
  go_wp2_with fail
  go_ret
  exact ⟨rfl, G2.out, H2.out⟩
set_option maxRecDepth 10000 in
set_option maxHeartbeats 1600000 in
theorem simple_19 {L : List Nat} {d i i1 R C : Nat} (hd : d ≤ 100) (hp : pickM L i 28 = (19, i1)) (hcond : Gn 42 L d C) (hC : C ≤ 1000000) (hR : 7 + C + 1 ≤ R) : Sn 41 L d R i := by
  have y0 : (⟨#[65, 83, 83, 69, 82, 84, 40]⟩ : ByteArray).size = 7 := rfl
  have y1 : (⟨#[41]⟩ : ByteArray).size = 1 := rfl
  obtain ⟨S1, j1, S1p, S1b, C1⟩ := hcond i1
  have z0 : ((⟨#[65, 83, 83, 69, 82, 84, 40]⟩ : ByteArray) ++ S1).size = 7 + S1.size := by rw [ByteArray.size_append, y0]
  have kz0 : ¬ 9223372036854775807 < 7 + S1.size := by omega
  have z1 : (((⟨#[65, 83, 83, 69, 82, 84, 40]⟩ : ByteArray) ++ S1) ++ (⟨#[41]⟩ : ByteArray)).size = 7 + S1.size + 1 := by rw [ByteArray.size_append, z0, y1]
  have kz1 : ¬ 9223372036854775807 < 7 + S1.size + 1 := by omega
  refine ⟨(((⟨#[65, 83, 83, 69, 82, 84, 40]⟩ : ByteArray) ++ S1) ++ (⟨#[41]⟩ : ByteArray)), j1, ?pos, by rw [z1]; omega, fun w g lv hG => ?_⟩
  case pos => rw [z1]; omega
  have HG := Lib.hid hG
  clear hG hR S1p S1b hd hC
  go_enter Tryd.func41, Tryd.ntmps41
  go_wp2_with fail
  refine (pick_at HG.out hp 19 rfl (by decide) (by decide)).mono ?_
  rintro e w1 ⟨rfl, hG1, ho1⟩
  have G1 := Lib.hid hG1
  have H1 := Lib.hid ho1
  clear hG1 ho1 hp
  go_wp2_with fail
  refine (C1 _ g lv G1.out).mono ?_
  rintro e w2 ⟨rfl, hG2, ho2⟩
  have G2 := Lib.hid hG2
  have H2 := Lib.hid (og_trans H1.out ho2)
  clear hG2 ho2
  go_wp2_with fail
  go_ret
  exact ⟨rfl, G2.out, H2.out⟩
set_option maxRecDepth 10000 in
set_option maxHeartbeats 1600000 in
theorem simple_20 {L : List Nat} {d i i1 R  : Nat} (hd : d ≤ 100) (hp : pickM L i 28 = (20, i1))  (hR : 8 ≤ R) : Sn 41 L d R i := by
  have y0 : (⟨#[114, 32, 58, 61, 32, 112, 94]⟩ : ByteArray).size = 7 := rfl
  have y1 : (⟨#[112, 94, 32, 58, 61, 32, 114]⟩ : ByteArray).size = 7 := rfl
  have y2 : (⟨#[113, 94, 32, 58, 61, 32, 112, 94]⟩ : ByteArray).size = 8 := rfl
  obtain ⟨p1, q1, hp1⟩ : ∃ p q, pickM L i1 3 = (p, q) := ⟨_, _, rfl⟩
  have p1lt : p1 < 3 := by have h := pickM_lt L i1 (n := 3) (by decide); rw [hp1] at h; exact h
  have p1a : (0 : Int) ≤ (p1 : Int) := Int.natCast_nonneg _
  have p1b : (p1 : Int) < 3 := by omega
  obtain ⟨X1, hX1⟩ : ∃ x, ([(⟨#[114, 32, 58, 61, 32, 112, 94]⟩ : ByteArray), (⟨#[112, 94, 32, 58, 61, 32, 114]⟩ : ByteArray), (⟨#[113, 94, 32, 58, 61, 32, 112, 94]⟩ : ByteArray)] : List ByteArray).getD p1 ⟨#[]⟩ = x := ⟨_, rfl⟩
  have X1b : X1.size ≤ 8 := by rw [← hX1]; exact choice_le _ _ (by intro x hx; simp only [List.mem_cons, List.not_mem_nil, or_false] at hx; rcases hx with rfl | rfl | rfl <;> first | decide | (omega)) _
  have X1c : ((#[.string (⟨#[114, 32, 58, 61, 32, 112, 94]⟩ : ByteArray), .string (⟨#[112, 94, 32, 58, 61, 32, 114]⟩ : ByteArray), .string (⟨#[113, 94, 32, 58, 61, 32, 112, 94]⟩ : ByteArray)] : Array Value))[p1]? = some (.string X1) := by rw [← hX1]; exact choice_cell [(⟨#[114, 32, 58, 61, 32, 112, 94]⟩ : ByteArray), (⟨#[112, 94, 32, 58, 61, 32, 114]⟩ : ByteArray), (⟨#[113, 94, 32, 58, 61, 32, 112, 94]⟩ : ByteArray)] p1 p1lt
  have X1h := Lib.hid X1c
  refine ⟨X1, q1, ?pos, by omega, fun w g lv hG => ?_⟩
  case pos => rw [← hX1]; exact choice_pos _ (by intro x hx; simp only [List.mem_cons, List.not_mem_nil, or_false] at hx; rcases hx with rfl | rfl | rfl <;> first | decide | (omega)) _ (by have := p1lt; exact this)
  have HG := Lib.hid hG
  clear hG hR hX1 X1b X1c hd
  go_enter Tryd.func41, Tryd.ntmps41
  go_wp2_with fail
  refine (pick_at HG.out hp 20 rfl (by decide) (by decide)).mono ?_
  rintro e w1 ⟨rfl, hG1, ho1⟩
  have G1 := Lib.hid hG1
  have H1 := Lib.hid ho1
  clear hG1 ho1 hp
  go_wp2_with fail
  refine (pick_at (G1.out.go (alloc0 w1 _)) hp1 (p1 : Int) rfl (by decide) (by decide)).mono ?_
  rintro e w2 ⟨rfl, hG2, ho2⟩
  have G2 := Lib.hid hG2
  have H2 := Lib.hid (og_trans H1.out (og_trans (og_nil (alloc0 w1 _)) ho2))
  have cellX1 : w2.cell? ⟨w1.heap.size, p1, none⟩ = some (.string X1) := by
    have h := ((Blk.new w1 #[.string (⟨#[114, 32, 58, 61, 32, 112, 94]⟩ : ByteArray), .string (⟨#[112, 94, 32, 58, 61, 32, 114]⟩ : ByteArray), .string (⟨#[113, 94, 32, 58, 61, 32, 112, 94]⟩ : ByteArray)] 9).kept ho2 (fun h => absurd (show w1.heap.size = g from h) (Nat.ne_of_gt G1.out.blk.lt))).cell p1
    rw [h]; exact X1h.out
  have p1c := p1lt
  clear hG2 ho2
  go_wp2_with fail
  go_ret
  exact ⟨rfl, G2.out, H2.out⟩
set_option maxRecDepth 10000 in
set_option maxHeartbeats 1600000 in
theorem simple_21 {L : List Nat} {d i i1 R  : Nat} (hd : d ≤ 100) (hp : pickM L i 28 = (21, i1))  (hR : 20 ≤ R) : Sn 41 L d R i := by
  have y0 : (⟨#[100, 32, 58, 61, 32, 97, 59, 32, 97, 91, 51, 93, 32, 58, 61, 32, 100, 91, 48, 93]⟩ : ByteArray).size = 20 := rfl
  refine ⟨(⟨#[100, 32, 58, 61, 32, 97, 59, 32, 97, 91, 51, 93, 32, 58, 61, 32, 100, 91, 48, 93]⟩ : ByteArray), i1, ?pos, by rw [y0]; omega, fun w g lv hG => ?_⟩
  case pos => rw [y0]; omega
  have HG := Lib.hid hG
  clear hG hR hd
  go_enter Tryd.func41, Tryd.ntmps41
  go_wp2_with fail
  refine (pick_at HG.out hp 21 rfl (by decide) (by decide)).mono ?_
  rintro e w1 ⟨rfl, hG1, ho1⟩
  have G1 := Lib.hid hG1
  have H1 := Lib.hid ho1
  clear hG1 ho1 hp
  go_wp2_with fail
  go_ret
  exact ⟨rfl, G1.out, H1.out⟩
set_option maxRecDepth 10000 in
set_option maxHeartbeats 1600000 in
theorem simple_22 {L : List Nat} {d i i1 R N : Nat} (hd : d ≤ 100) (hp : pickM L i 28 = (22, i1)) (hnum : Gn 43 L d N) (hN : N ≤ 1000000) (hR : 17 + N ≤ R) : Sn 41 L d R i := by
  have y0 : (⟨#[101, 91, 105, 32, 77, 79, 68, 32, 50, 44, 32, 49, 93, 32, 58, 61, 32]⟩ : ByteArray).size = 17 := rfl
  obtain ⟨S1, j1, S1p, S1b, C1⟩ := hnum i1
  have z0 : ((⟨#[101, 91, 105, 32, 77, 79, 68, 32, 50, 44, 32, 49, 93, 32, 58, 61, 32]⟩ : ByteArray) ++ S1).size = 17 + S1.size := by rw [ByteArray.size_append, y0]
  have kz0 : ¬ 9223372036854775807 < 17 + S1.size := by omega
  refine ⟨((⟨#[101, 91, 105, 32, 77, 79, 68, 32, 50, 44, 32, 49, 93, 32, 58, 61, 32]⟩ : ByteArray) ++ S1), j1, ?pos, by rw [z0]; omega, fun w g lv hG => ?_⟩
  case pos => rw [z0]; omega
  have HG := Lib.hid hG
  clear hG hR S1p S1b hd hN
  go_enter Tryd.func41, Tryd.ntmps41
  go_wp2_with fail
  refine (pick_at HG.out hp 22 rfl (by decide) (by decide)).mono ?_
  rintro e w1 ⟨rfl, hG1, ho1⟩
  have G1 := Lib.hid hG1
  have H1 := Lib.hid ho1
  clear hG1 ho1 hp
  go_wp2_with fail
  refine (C1 _ g lv G1.out).mono ?_
  rintro e w2 ⟨rfl, hG2, ho2⟩
  have G2 := Lib.hid hG2
  have H2 := Lib.hid (og_trans H1.out ho2)
  clear hG2 ho2
  go_wp2_with fail
  go_ret
  exact ⟨rfl, G2.out, H2.out⟩
set_option maxRecDepth 10000 in
set_option maxHeartbeats 1600000 in
theorem simple_23 {L : List Nat} {d i i1 R  : Nat} (hd : d ≤ 100) (hp : pickM L i 28 = (23, i1))  (hR : 10 ≤ R) : Sn 41 L d R i := by
  have y0 : (⟨#[110, 32, 58, 61, 32, 110, 32, 43, 32, 49]⟩ : ByteArray).size = 10 := rfl
  refine ⟨(⟨#[110, 32, 58, 61, 32, 110, 32, 43, 32, 49]⟩ : ByteArray), i1, ?pos, by rw [y0]; omega, fun w g lv hG => ?_⟩
  case pos => rw [y0]; omega
  have HG := Lib.hid hG
  clear hG hR hd
  go_enter Tryd.func41, Tryd.ntmps41
  go_wp2_with fail
  refine (pick_at HG.out hp 23 rfl (by decide) (by decide)).mono ?_
  rintro e w1 ⟨rfl, hG1, ho1⟩
  have G1 := Lib.hid hG1
  have H1 := Lib.hid ho1
  clear hG1 ho1 hp
  go_wp2_with fail
  go_ret
  exact ⟨rfl, G1.out, H1.out⟩
set_option maxRecDepth 10000 in
set_option maxHeartbeats 1600000 in
theorem simple_24 {L : List Nat} {d i i1 R  : Nat} (hd : d ≤ 100) (hp : pickM L i 28 = (24, i1))  (hR : 22 ≤ R) : Sn 41 L d R i := by
  have y0 : (⟨#[79, 117, 116, 46, 73, 110, 116, 40, 101, 91, 49, 93, 91, 106, 32, 77, 79, 68, 32, 51, 93, 41]⟩ : ByteArray).size = 22 := rfl
  refine ⟨(⟨#[79, 117, 116, 46, 73, 110, 116, 40, 101, 91, 49, 93, 91, 106, 32, 77, 79, 68, 32, 51, 93, 41]⟩ : ByteArray), i1, ?pos, by rw [y0]; omega, fun w g lv hG => ?_⟩
  case pos => rw [y0]; omega
  have HG := Lib.hid hG
  clear hG hR hd
  go_enter Tryd.func41, Tryd.ntmps41
  go_wp2_with fail
  refine (pick_at HG.out hp 24 rfl (by decide) (by decide)).mono ?_
  rintro e w1 ⟨rfl, hG1, ho1⟩
  have G1 := Lib.hid hG1
  have H1 := Lib.hid ho1
  clear hG1 ho1 hp
  go_wp2_with fail
  go_ret
  exact ⟨rfl, G1.out, H1.out⟩
set_option maxRecDepth 10000 in
set_option maxHeartbeats 1600000 in
theorem simple_25 {L : List Nat} {d i i1 R  : Nat} (hd : d ≤ 100) (hp : pickM L i 28 = (25, i1)) (hleaf : Gn 52 L d 9) (hR : 5 + 9 ≤ R) : Sn 41 L d R i := by
  have y0 : (⟨#[106, 32, 58, 61, 32]⟩ : ByteArray).size = 5 := rfl
  obtain ⟨S1, j1, S1p, S1b, C1⟩ := hleaf i1
  have z0 : ((⟨#[106, 32, 58, 61, 32]⟩ : ByteArray) ++ S1).size = 5 + S1.size := by rw [ByteArray.size_append, y0]
  have kz0 : ¬ 9223372036854775807 < 5 + S1.size := by omega
  refine ⟨((⟨#[106, 32, 58, 61, 32]⟩ : ByteArray) ++ S1), j1, ?pos, by rw [z0]; omega, fun w g lv hG => ?_⟩
  case pos => rw [z0]; omega
  have HG := Lib.hid hG
  clear hG hR S1p S1b hd
  go_enter Tryd.func41, Tryd.ntmps41
  go_wp2_with fail
  refine (pick_at HG.out hp 25 rfl (by decide) (by decide)).mono ?_
  rintro e w1 ⟨rfl, hG1, ho1⟩
  have G1 := Lib.hid hG1
  have H1 := Lib.hid ho1
  clear hG1 ho1 hp
  go_wp2_with fail
  refine (C1 _ g lv G1.out).mono ?_
  rintro e w2 ⟨rfl, hG2, ho2⟩
  have G2 := Lib.hid hG2
  have H2 := Lib.hid (og_trans H1.out ho2)
  clear hG2 ho2
  go_wp2_with fail
  go_ret
  exact ⟨rfl, G2.out, H2.out⟩
set_option maxRecDepth 10000 in
set_option maxHeartbeats 1600000 in
theorem simple_26 {L : List Nat} {d i i1 R  : Nat} (hd : d ≤ 100) (hp : pickM L i 28 = (26, i1)) (hleaf : Gn 52 L d 9) (hR : 5 + 9 ≤ R) : Sn 41 L d R i := by
  have y0 : (⟨#[106, 32, 58, 61, 32]⟩ : ByteArray).size = 5 := rfl
  obtain ⟨S1, j1, S1p, S1b, C1⟩ := hleaf i1
  have z0 : ((⟨#[106, 32, 58, 61, 32]⟩ : ByteArray) ++ S1).size = 5 + S1.size := by rw [ByteArray.size_append, y0]
  have kz0 : ¬ 9223372036854775807 < 5 + S1.size := by omega
  refine ⟨((⟨#[106, 32, 58, 61, 32]⟩ : ByteArray) ++ S1), j1, ?pos, by rw [z0]; omega, fun w g lv hG => ?_⟩
  case pos => rw [z0]; omega
  have HG := Lib.hid hG
  clear hG hR S1p S1b hd
  go_enter Tryd.func41, Tryd.ntmps41
  go_wp2_with fail
  refine (pick_at HG.out hp 26 rfl (by decide) (by decide)).mono ?_
  rintro e w1 ⟨rfl, hG1, ho1⟩
  have G1 := Lib.hid hG1
  have H1 := Lib.hid ho1
  clear hG1 ho1 hp
  go_wp2_with fail
  refine (C1 _ g lv G1.out).mono ?_
  rintro e w2 ⟨rfl, hG2, ho2⟩
  have G2 := Lib.hid hG2
  have H2 := Lib.hid (og_trans H1.out ho2)
  clear hG2 ho2
  go_wp2_with fail
  go_ret
  exact ⟨rfl, G2.out, H2.out⟩
set_option maxRecDepth 10000 in
set_option maxHeartbeats 1600000 in
theorem simple_27 {L : List Nat} {d i i1 R  : Nat} (hd : d ≤ 100) (hp : pickM L i 28 = (27, i1)) (hleaf : Gn 52 L d 9) (hR : 5 + 9 ≤ R) : Sn 41 L d R i := by
  have y0 : (⟨#[106, 32, 58, 61, 32]⟩ : ByteArray).size = 5 := rfl
  obtain ⟨S1, j1, S1p, S1b, C1⟩ := hleaf i1
  have z0 : ((⟨#[106, 32, 58, 61, 32]⟩ : ByteArray) ++ S1).size = 5 + S1.size := by rw [ByteArray.size_append, y0]
  have kz0 : ¬ 9223372036854775807 < 5 + S1.size := by omega
  refine ⟨((⟨#[106, 32, 58, 61, 32]⟩ : ByteArray) ++ S1), j1, ?pos, by rw [z0]; omega, fun w g lv hG => ?_⟩
  case pos => rw [z0]; omega
  have HG := Lib.hid hG
  clear hG hR S1p S1b hd
  go_enter Tryd.func41, Tryd.ntmps41
  go_wp2_with fail
  refine (pick_at HG.out hp 27 rfl (by decide) (by decide)).mono ?_
  rintro e w1 ⟨rfl, hG1, ho1⟩
  have G1 := Lib.hid hG1
  have H1 := Lib.hid ho1
  clear hG1 ho1 hp
  go_wp2_with fail
  refine (C1 _ g lv G1.out).mono ?_
  rintro e w2 ⟨rfl, hG2, ho2⟩
  have G2 := Lib.hid hG2
  have H2 := Lib.hid (og_trans H1.out ho2)
  clear hG2 ho2
  go_wp2_with fail
  go_ret
  exact ⟨rfl, G2.out, H2.out⟩
end Go.Proofs.YtbpdhpfcknaaiaaDoor

/- What simple tells in its case 13. -/
set_option linter.unusedSimpArgs false
set_option linter.unusedVariables false
namespace Go.Proofs.YtbpdhpfcknaaiaaDoor
open Go.RowKit M

set_option maxRecDepth 10000 in
set_option maxHeartbeats 16000000 in
theorem simple_13 {L : List Nat} {d i i1 R N : Nat} (hd : d ≤ 100) (hp : pickM L i 28 = (13, i1)) (hnum : Gn 43 L d N) (hN : N ≤ 1000000) (hR : 2 + 4 + 2 + N + 1 ≤ R) : Sn 41 L d R i := by
  have y0 : (⟨#[105]⟩ : ByteArray).size = 1 := rfl
  have y1 : (⟨#[106]⟩ : ByteArray).size = 1 := rfl
  have y2 : (⟨#[97, 91, 50, 93]⟩ : ByteArray).size = 4 := rfl
  have y3 : (⟨#[114, 46, 120]⟩ : ByteArray).size = 3 := rfl
  have y4 : (⟨#[112, 46, 121]⟩ : ByteArray).size = 3 := rfl
  have y5 : (⟨#[103, 40]⟩ : ByteArray).size = 2 := rfl
  have y6 : (⟨#[44, 32]⟩ : ByteArray).size = 2 := rfl
  have y7 : (⟨#[41]⟩ : ByteArray).size = 1 := rfl
  obtain ⟨p1, q1, hp1⟩ : ∃ p q, pickM L i1 5 = (p, q) := ⟨_, _, rfl⟩
  have p1lt : p1 < 5 := by have h := pickM_lt L i1 (n := 5) (by decide); rw [hp1] at h; exact h
  have p1a : (0 : Int) ≤ (p1 : Int) := Int.natCast_nonneg _
  have p1b : (p1 : Int) < 5 := by omega
  obtain ⟨X1, hX1⟩ : ∃ x, ([(⟨#[105]⟩ : ByteArray), (⟨#[106]⟩ : ByteArray), (⟨#[97, 91, 50, 93]⟩ : ByteArray), (⟨#[114, 46, 120]⟩ : ByteArray), (⟨#[112, 46, 121]⟩ : ByteArray)] : List ByteArray).getD p1 ⟨#[]⟩ = x := ⟨_, rfl⟩
  have X1b : X1.size ≤ 4 := by rw [← hX1]; exact choice_le _ _ (by intro x hx; simp only [List.mem_cons, List.not_mem_nil, or_false] at hx; rcases hx with rfl | rfl | rfl | rfl | rfl <;> first | decide | (omega)) _
  have X1c : ((#[.string (⟨#[105]⟩ : ByteArray), .string (⟨#[106]⟩ : ByteArray), .string (⟨#[97, 91, 50, 93]⟩ : ByteArray), .string (⟨#[114, 46, 120]⟩ : ByteArray), .string (⟨#[112, 46, 121]⟩ : ByteArray)] : Array Value))[p1]? = some (.string X1) := by rw [← hX1]; exact choice_cell [(⟨#[105]⟩ : ByteArray), (⟨#[106]⟩ : ByteArray), (⟨#[97, 91, 50, 93]⟩ : ByteArray), (⟨#[114, 46, 120]⟩ : ByteArray), (⟨#[112, 46, 121]⟩ : ByteArray)] p1 p1lt
  have X1h := Lib.hid X1c
  obtain ⟨S1, j1, S1p, S1b, C1⟩ := hnum q1
  have z0 : ((⟨#[103, 40]⟩ : ByteArray) ++ X1).size = 2 + X1.size := by rw [ByteArray.size_append, y5]
  have kz0 : ¬ 9223372036854775807 < 2 + X1.size := by omega
  have z1 : (((⟨#[103, 40]⟩ : ByteArray) ++ X1) ++ (⟨#[44, 32]⟩ : ByteArray)).size = 2 + X1.size + 2 := by rw [ByteArray.size_append, z0, y6]
  have kz1 : ¬ 9223372036854775807 < 2 + X1.size + 2 := by omega
  have z2 : ((((⟨#[103, 40]⟩ : ByteArray) ++ X1) ++ (⟨#[44, 32]⟩ : ByteArray)) ++ S1).size = 2 + X1.size + 2 + S1.size := by rw [ByteArray.size_append, z1]
  have kz2 : ¬ 9223372036854775807 < 2 + X1.size + 2 + S1.size := by omega
  have z3 : (((((⟨#[103, 40]⟩ : ByteArray) ++ X1) ++ (⟨#[44, 32]⟩ : ByteArray)) ++ S1) ++ (⟨#[41]⟩ : ByteArray)).size = 2 + X1.size + 2 + S1.size + 1 := by rw [ByteArray.size_append, z2, y7]
  have kz3 : ¬ 9223372036854775807 < 2 + X1.size + 2 + S1.size + 1 := by omega
  refine ⟨(((((⟨#[103, 40]⟩ : ByteArray) ++ X1) ++ (⟨#[44, 32]⟩ : ByteArray)) ++ S1) ++ (⟨#[41]⟩ : ByteArray)), j1, ?pos, by rw [z3]; omega, fun w g lv hG => ?_⟩
  case pos => rw [z3]; omega
  have HG := Lib.hid hG
  clear hG hR S1p S1b hX1 X1b X1c hd hN
  go_enter Tryd.func41, Tryd.ntmps41
  go_wp2_with fail
  refine (pick_at HG.out hp 13 rfl (by decide) (by decide)).mono ?_
  rintro e w1 ⟨rfl, hG1, ho1⟩
  have G1 := Lib.hid hG1
  have H1 := Lib.hid ho1
  clear hG1 ho1 hp
  go_upto_region 27 with fail
  go_cut [2] (fun s wx => s = .string (((((⟨#[103, 40]⟩ : ByteArray) ++ X1) ++ (⟨#[44, 32]⟩ : ByteArray)) ++ S1) ++ (⟨#[41]⟩ : ByteArray)) ∧ GAt wx g lv L j1 d ∧ Only (M.One g) w1 wx)
  case first =>
    have hgw := G1.out.blk.lt
    have hG := G1.out
    have hq : Only (M.One g) w1 w1.drew := (Only.refl (M.One g) w1).drew
    refine wp_region_T (fun w' => Only (M.One g) w1 w') [] (by kernel_rfl) ?_
    refine wpAnyT_sub (S' := fun w' => Only (M.One g) w1.drew w') (fun _ h => og_trans hq h) ?_
    replace hG := hG.go ((Only.refl Nil w1).drew)
    obtain ⟨wd, hwd⟩ : ∃ z, w1.drew = z := ⟨_, rfl⟩
    rw [hwd] at hq hG ⊢
    clear hwd
    refine wpAnyT_take 1 (v := ?_) rfl (by kernel_rfl) (by kernel_rfl) (by kernel_rfl) (fun _ _ _ h => h) (by kernel_rfl) (by kernel_rfl) (Or.inl ⟨by kernel_rfl, ?_⟩) (Only.refl (M.One g) _) ?_
    rotate_left
    · (intro w' hw'; go_simp; (try with_reducible rfl))
    refine wpAnyT_take 7 (v := ?_) rfl (by kernel_rfl) (by kernel_rfl) (by kernel_rfl) (fun _ _ _ h => h) (by kernel_rfl) (by kernel_rfl) (Or.inl ⟨by kernel_rfl, ?_⟩) (Only.refl (M.One g) _) ?_
    rotate_left
    · (intro w' hw'; go_simp; (try with_reducible rfl))
    refine wpAnyT_two (i := 0) (j := 2) rfl rfl (by kernel_rfl) (fun K hK => ?_) (fun K hK => ?_)
    · go_simp
      refine hK.out _ _ (fun _ => (Only.refl (M.One g) wd).alloc _) ?_
      clear hK K
      have q_0 := Blk.new wd #[.string (⟨#[105]⟩ : ByteArray), .string (⟨#[106]⟩ : ByteArray), .string (⟨#[97, 91, 50, 93]⟩ : ByteArray), .string (⟨#[114, 46, 120]⟩ : ByteArray), .string (⟨#[112, 46, 121]⟩ : ByteArray)] 9
      have ho1x := alloc0 wd (.cells #[.string (⟨#[105]⟩ : ByteArray), .string (⟨#[106]⟩ : ByteArray), .string (⟨#[97, 91, 50, 93]⟩ : ByteArray), .string (⟨#[114, 46, 120]⟩ : ByteArray), .string (⟨#[112, 46, 121]⟩ : ByteArray)] 9)
      replace hG := hG.go ho1x
      obtain ⟨b_0, hb_0⟩ : ∃ z, wd.heap.size = z := ⟨_, rfl⟩
      have ng_0 : ¬ M.One g b_0 := by
        intro h
        have h : b_0 = g := h
        have := hq.size
        omega
      obtain ⟨w1x, hw1x⟩ : ∃ z, wd.alloc (.cells #[.string (⟨#[105]⟩ : ByteArray), .string (⟨#[106]⟩ : ByteArray), .string (⟨#[97, 91, 50, 93]⟩ : ByteArray), .string (⟨#[114, 46, 120]⟩ : ByteArray), .string (⟨#[112, 46, 121]⟩ : ByteArray)] 9) = z := ⟨_, rfl⟩
      rw [hb_0] at q_0 ⊢
      rw [hw1x] at q_0 ho1x hG  ⊢
      clear hb_0 hw1x
      refine wpAnyT_sub (S' := fun w' => Only (M.One g) w1x w') (fun _ h => og_trans (og_nil ho1x) h) ?_
      replace hq := og_trans hq (og_nil ho1x)
      clear ho1x
      refine wpAnyT_one (i := 2) rfl (by kernel_rfl) (fun K hK => ?_)
      go_simp
      go_wp2_with (go_at_call 20; refine (pick_at hG hp1 (p1 : Int) rfl (by decide) (by decide)).mono ?_; rintro e w2x ⟨rfl, hG2, ho2x⟩)
      refine hK.out _ _ (fun _ => ho2x) ?_
      clear hK K hG
      have hG := hG2
      clear hG2
      replace q_0 := q_0.kept ho2x ng_0
      refine wpAnyT_sub (S' := fun w' => Only (M.One g) w2x w') (fun _ h => og_trans ho2x h) ?_
      replace hq := og_trans hq ho2x
      clear ho2x
      refine wpAnyT_take 3 (v := ?_) rfl (by kernel_rfl) (by kernel_rfl) (by kernel_rfl) (fun _ _ _ h => h) (by kernel_rfl) (by kernel_rfl) (Or.inl ⟨by kernel_rfl, ?_⟩) (Only.refl (M.One g) _) ?_
      rotate_left
      · (intro w' hw'; go_simp; (try with_reducible rfl))
      refine wpAnyT_take 4 (v := ?_) rfl (by kernel_rfl) (by kernel_rfl) (by kernel_rfl) (fun _ _ _ h => h) (by kernel_rfl) (by kernel_rfl) (Or.inl ⟨by kernel_rfl, ?_⟩) (Only.refl (M.One g) _) ?_
      rotate_left
      · (intro w' hw'; have e0 := ((q_0.kept hw' ng_0).cell p1).trans X1h.out; go_simp; (try with_reducible rfl))
      refine wpAnyT_take 5 (v := ?_) rfl (by kernel_rfl) (by kernel_rfl) (by kernel_rfl) (fun _ _ _ h => h) (by kernel_rfl) (by kernel_rfl) (Or.inl ⟨by kernel_rfl, ?_⟩) (Only.refl (M.One g) _) ?_
      rotate_left
      · (intro w' hw'; go_simp; (try with_reducible rfl))
      refine wpAnyT_take 6 (v := ?_) rfl (by kernel_rfl) (by kernel_rfl) (by kernel_rfl) (fun _ _ _ h => h) (by kernel_rfl) (by kernel_rfl) (Or.inl ⟨by kernel_rfl, ?_⟩) (Only.refl (M.One g) _) ?_
      rotate_left
      · (intro w' hw'; go_simp; (try with_reducible rfl))
      refine wpAnyT_one (i := 8) rfl (by kernel_rfl) (fun K hK => ?_)
      go_simp
      go_wp2_with (go_at_call 43; refine (C1 _ g lv hG).mono ?_; rintro e w3x ⟨rfl, hG2, ho3x⟩)
      refine hK.out _ _ (fun _ => ho3x) ?_
      clear hK K hG
      have hG := hG2
      clear hG2
      replace q_0 := q_0.kept ho3x ng_0
      refine wpAnyT_sub (S' := fun w' => Only (M.One g) w3x w') (fun _ h => og_trans ho3x h) ?_
      replace hq := og_trans hq ho3x
      clear ho3x
      refine wpAnyT_take 9 (v := ?_) rfl (by kernel_rfl) (by kernel_rfl) (by kernel_rfl) (fun _ _ _ h => h) (by kernel_rfl) (by kernel_rfl) (Or.inl ⟨by kernel_rfl, ?_⟩) (Only.refl (M.One g) _) ?_
      rotate_left
      · (intro w' hw'; go_simp; (try with_reducible rfl))
      refine wpAnyT_take 10 (v := ?_) rfl (by kernel_rfl) (by kernel_rfl) (by kernel_rfl) (fun _ _ _ h => h) (by kernel_rfl) (by kernel_rfl) (Or.inl ⟨by kernel_rfl, ?_⟩) (Only.refl (M.One g) _) ?_
      rotate_left
      · (intro w' hw'; go_simp; (try with_reducible rfl))
      refine wpAnyT_take 11 (v := ?_) rfl (by kernel_rfl) (by kernel_rfl) (by kernel_rfl) (fun _ _ _ h => h) (by kernel_rfl) (by kernel_rfl) (Or.inl ⟨by kernel_rfl, ?_⟩) (Only.refl (M.One g) _) ?_
      rotate_left
      · (intro w' hw'; go_simp; (try with_reducible rfl))
      refine wpAnyT_done (by kernel_rfl) ?_
      have HQ := Lib.hid hq
      have HGE := Lib.hid hG
      clear q_0 ng_0
      clear hq hG hgw
      go_wp2_with fail
      go_meet
      exact ⟨rfl, HGE.out, HQ.out⟩
    · go_simp
      go_wp2_with (go_at_call 20; refine (pick_at hG hp1 (p1 : Int) rfl (by decide) (by decide)).mono ?_; rintro e w1x ⟨rfl, hG2, ho1x⟩)
      refine hK.out _ _ (fun _ => ho1x) ?_
      clear hK K hG
      have hG := hG2
      clear hG2
      refine wpAnyT_sub (S' := fun w' => Only (M.One g) w1x w') (fun _ h => og_trans ho1x h) ?_
      replace hq := og_trans hq ho1x
      clear ho1x
      refine wpAnyT_two (i := 0) (j := 8) rfl rfl (by kernel_rfl) (fun K hK => ?_) (fun K hK => ?_)
      · go_simp
        refine hK.out _ _ (fun _ => (Only.refl (M.One g) w1x).alloc _) ?_
        clear hK K
        have q_0 := Blk.new w1x #[.string (⟨#[105]⟩ : ByteArray), .string (⟨#[106]⟩ : ByteArray), .string (⟨#[97, 91, 50, 93]⟩ : ByteArray), .string (⟨#[114, 46, 120]⟩ : ByteArray), .string (⟨#[112, 46, 121]⟩ : ByteArray)] 9
        have ho2x := alloc0 w1x (.cells #[.string (⟨#[105]⟩ : ByteArray), .string (⟨#[106]⟩ : ByteArray), .string (⟨#[97, 91, 50, 93]⟩ : ByteArray), .string (⟨#[114, 46, 120]⟩ : ByteArray), .string (⟨#[112, 46, 121]⟩ : ByteArray)] 9)
        replace hG := hG.go ho2x
        obtain ⟨b_0, hb_0⟩ : ∃ z, w1x.heap.size = z := ⟨_, rfl⟩
        have ng_0 : ¬ M.One g b_0 := by
          intro h
          have h : b_0 = g := h
          have := hq.size
          omega
        obtain ⟨w2x, hw2x⟩ : ∃ z, w1x.alloc (.cells #[.string (⟨#[105]⟩ : ByteArray), .string (⟨#[106]⟩ : ByteArray), .string (⟨#[97, 91, 50, 93]⟩ : ByteArray), .string (⟨#[114, 46, 120]⟩ : ByteArray), .string (⟨#[112, 46, 121]⟩ : ByteArray)] 9) = z := ⟨_, rfl⟩
        rw [hb_0] at q_0 ⊢
        rw [hw2x] at q_0 ho2x hG  ⊢
        clear hb_0 hw2x
        refine wpAnyT_sub (S' := fun w' => Only (M.One g) w2x w') (fun _ h => og_trans (og_nil ho2x) h) ?_
        replace hq := og_trans hq (og_nil ho2x)
        clear ho2x
        refine wpAnyT_take 3 (v := ?_) rfl (by kernel_rfl) (by kernel_rfl) (by kernel_rfl) (fun _ _ _ h => h) (by kernel_rfl) (by kernel_rfl) (Or.inl ⟨by kernel_rfl, ?_⟩) (Only.refl (M.One g) _) ?_
        rotate_left
        · (intro w' hw'; go_simp; (try with_reducible rfl))
        refine wpAnyT_take 4 (v := ?_) rfl (by kernel_rfl) (by kernel_rfl) (by kernel_rfl) (fun _ _ _ h => h) (by kernel_rfl) (by kernel_rfl) (Or.inl ⟨by kernel_rfl, ?_⟩) (Only.refl (M.One g) _) ?_
        rotate_left
        · (intro w' hw'; have e0 := ((q_0.kept hw' ng_0).cell p1).trans X1h.out; go_simp; (try with_reducible rfl))
        refine wpAnyT_take 5 (v := ?_) rfl (by kernel_rfl) (by kernel_rfl) (by kernel_rfl) (fun _ _ _ h => h) (by kernel_rfl) (by kernel_rfl) (Or.inl ⟨by kernel_rfl, ?_⟩) (Only.refl (M.One g) _) ?_
        rotate_left
        · (intro w' hw'; go_simp; (try with_reducible rfl))
        refine wpAnyT_take 6 (v := ?_) rfl (by kernel_rfl) (by kernel_rfl) (by kernel_rfl) (fun _ _ _ h => h) (by kernel_rfl) (by kernel_rfl) (Or.inl ⟨by kernel_rfl, ?_⟩) (Only.refl (M.One g) _) ?_
        rotate_left
        · (intro w' hw'; go_simp; (try with_reducible rfl))
        refine wpAnyT_one (i := 8) rfl (by kernel_rfl) (fun K hK => ?_)
        go_simp
        go_wp2_with (go_at_call 43; refine (C1 _ g lv hG).mono ?_; rintro e w3x ⟨rfl, hG2, ho3x⟩)
        refine hK.out _ _ (fun _ => ho3x) ?_
        clear hK K hG
        have hG := hG2
        clear hG2
        replace q_0 := q_0.kept ho3x ng_0
        refine wpAnyT_sub (S' := fun w' => Only (M.One g) w3x w') (fun _ h => og_trans ho3x h) ?_
        replace hq := og_trans hq ho3x
        clear ho3x
        refine wpAnyT_take 9 (v := ?_) rfl (by kernel_rfl) (by kernel_rfl) (by kernel_rfl) (fun _ _ _ h => h) (by kernel_rfl) (by kernel_rfl) (Or.inl ⟨by kernel_rfl, ?_⟩) (Only.refl (M.One g) _) ?_
        rotate_left
        · (intro w' hw'; go_simp; (try with_reducible rfl))
        refine wpAnyT_take 10 (v := ?_) rfl (by kernel_rfl) (by kernel_rfl) (by kernel_rfl) (fun _ _ _ h => h) (by kernel_rfl) (by kernel_rfl) (Or.inl ⟨by kernel_rfl, ?_⟩) (Only.refl (M.One g) _) ?_
        rotate_left
        · (intro w' hw'; go_simp; (try with_reducible rfl))
        refine wpAnyT_take 11 (v := ?_) rfl (by kernel_rfl) (by kernel_rfl) (by kernel_rfl) (fun _ _ _ h => h) (by kernel_rfl) (by kernel_rfl) (Or.inl ⟨by kernel_rfl, ?_⟩) (Only.refl (M.One g) _) ?_
        rotate_left
        · (intro w' hw'; go_simp; (try with_reducible rfl))
        refine wpAnyT_done (by kernel_rfl) ?_
        have HQ := Lib.hid hq
        have HGE := Lib.hid hG
        clear q_0 ng_0
        clear hq hG hgw
        go_wp2_with fail
        go_meet
        exact ⟨rfl, HGE.out, HQ.out⟩
      · go_simp
        go_wp2_with (go_at_call 43; refine (C1 _ g lv hG).mono ?_; rintro e w2x ⟨rfl, hG2, ho2x⟩)
        refine hK.out _ _ (fun _ => ho2x) ?_
        clear hK K hG
        have hG := hG2
        clear hG2
        refine wpAnyT_sub (S' := fun w' => Only (M.One g) w2x w') (fun _ h => og_trans ho2x h) ?_
        replace hq := og_trans hq ho2x
        clear ho2x
        refine wpAnyT_one (i := 0) rfl (by kernel_rfl) (fun K hK => ?_)
        go_simp
        refine hK.out _ _ (fun _ => (Only.refl (M.One g) w2x).alloc _) ?_
        clear hK K
        have q_0 := Blk.new w2x #[.string (⟨#[105]⟩ : ByteArray), .string (⟨#[106]⟩ : ByteArray), .string (⟨#[97, 91, 50, 93]⟩ : ByteArray), .string (⟨#[114, 46, 120]⟩ : ByteArray), .string (⟨#[112, 46, 121]⟩ : ByteArray)] 9
        have ho3x := alloc0 w2x (.cells #[.string (⟨#[105]⟩ : ByteArray), .string (⟨#[106]⟩ : ByteArray), .string (⟨#[97, 91, 50, 93]⟩ : ByteArray), .string (⟨#[114, 46, 120]⟩ : ByteArray), .string (⟨#[112, 46, 121]⟩ : ByteArray)] 9)
        replace hG := hG.go ho3x
        obtain ⟨b_0, hb_0⟩ : ∃ z, w2x.heap.size = z := ⟨_, rfl⟩
        have ng_0 : ¬ M.One g b_0 := by
          intro h
          have h : b_0 = g := h
          have := hq.size
          omega
        obtain ⟨w3x, hw3x⟩ : ∃ z, w2x.alloc (.cells #[.string (⟨#[105]⟩ : ByteArray), .string (⟨#[106]⟩ : ByteArray), .string (⟨#[97, 91, 50, 93]⟩ : ByteArray), .string (⟨#[114, 46, 120]⟩ : ByteArray), .string (⟨#[112, 46, 121]⟩ : ByteArray)] 9) = z := ⟨_, rfl⟩
        rw [hb_0] at q_0 ⊢
        rw [hw3x] at q_0 ho3x hG  ⊢
        clear hb_0 hw3x
        refine wpAnyT_sub (S' := fun w' => Only (M.One g) w3x w') (fun _ h => og_trans (og_nil ho3x) h) ?_
        replace hq := og_trans hq (og_nil ho3x)
        clear ho3x
        refine wpAnyT_take 3 (v := ?_) rfl (by kernel_rfl) (by kernel_rfl) (by kernel_rfl) (fun _ _ _ h => h) (by kernel_rfl) (by kernel_rfl) (Or.inl ⟨by kernel_rfl, ?_⟩) (Only.refl (M.One g) _) ?_
        rotate_left
        · (intro w' hw'; go_simp; (try with_reducible rfl))
        refine wpAnyT_take 4 (v := ?_) rfl (by kernel_rfl) (by kernel_rfl) (by kernel_rfl) (fun _ _ _ h => h) (by kernel_rfl) (by kernel_rfl) (Or.inl ⟨by kernel_rfl, ?_⟩) (Only.refl (M.One g) _) ?_
        rotate_left
        · (intro w' hw'; have e0 := ((q_0.kept hw' ng_0).cell p1).trans X1h.out; go_simp; (try with_reducible rfl))
        refine wpAnyT_take 5 (v := ?_) rfl (by kernel_rfl) (by kernel_rfl) (by kernel_rfl) (fun _ _ _ h => h) (by kernel_rfl) (by kernel_rfl) (Or.inl ⟨by kernel_rfl, ?_⟩) (Only.refl (M.One g) _) ?_
        rotate_left
        · (intro w' hw'; go_simp; (try with_reducible rfl))
        refine wpAnyT_take 6 (v := ?_) rfl (by kernel_rfl) (by kernel_rfl) (by kernel_rfl) (fun _ _ _ h => h) (by kernel_rfl) (by kernel_rfl) (Or.inl ⟨by kernel_rfl, ?_⟩) (Only.refl (M.One g) _) ?_
        rotate_left
        · (intro w' hw'; go_simp; (try with_reducible rfl))
        refine wpAnyT_take 9 (v := ?_) rfl (by kernel_rfl) (by kernel_rfl) (by kernel_rfl) (fun _ _ _ h => h) (by kernel_rfl) (by kernel_rfl) (Or.inl ⟨by kernel_rfl, ?_⟩) (Only.refl (M.One g) _) ?_
        rotate_left
        · (intro w' hw'; go_simp; (try with_reducible rfl))
        refine wpAnyT_take 10 (v := ?_) rfl (by kernel_rfl) (by kernel_rfl) (by kernel_rfl) (fun _ _ _ h => h) (by kernel_rfl) (by kernel_rfl) (Or.inl ⟨by kernel_rfl, ?_⟩) (Only.refl (M.One g) _) ?_
        rotate_left
        · (intro w' hw'; go_simp; (try with_reducible rfl))
        refine wpAnyT_take 11 (v := ?_) rfl (by kernel_rfl) (by kernel_rfl) (by kernel_rfl) (fun _ _ _ h => h) (by kernel_rfl) (by kernel_rfl) (Or.inl ⟨by kernel_rfl, ?_⟩) (Only.refl (M.One g) _) ?_
        rotate_left
        · (intro w' hw'; go_simp; (try with_reducible rfl))
        refine wpAnyT_done (by kernel_rfl) ?_
        have HQ := Lib.hid hq
        have HGE := Lib.hid hG
        clear q_0 ng_0
        clear hq hG hgw
        go_wp2_with fail
        go_meet
        exact ⟨rfl, HGE.out, HQ.out⟩
  case rest =>
    obtain ⟨rfl, hG2, ho2⟩ := hcut
    obtain ⟨w2, hw9⟩ : ∃ z, wc = z := ⟨_, rfl⟩
    rw [hw9] at hG2 ho2 ⊢
    have G2 := Lib.hid hG2
    have H2 := Lib.hid (og_trans H1.out ho2)
    clear hw9 hG2 ho2
    go_wp2_with fail
    go_ret
    exact ⟨rfl, G2.out, H2.out⟩
end Go.Proofs.YtbpdhpfcknaaiaaDoor

