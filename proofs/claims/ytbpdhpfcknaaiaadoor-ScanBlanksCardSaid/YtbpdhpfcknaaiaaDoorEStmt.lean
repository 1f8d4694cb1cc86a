/- What stmt tells, case by case. -/
import Derived.Test.YtbpdhpfcknaaiaaDoorEGen
import Derived.Test.YtbpdhpfcknaaiaaDoorGOrd
set_option linter.unusedSimpArgs false
set_option linter.unusedVariables false
namespace Go.Proofs.YtbpdhpfcknaaiaaDoor
open Go.RowKit M

set_option maxRecDepth 10000 in
set_option maxHeartbeats 1600000 in
theorem stmt_0 {L : List Nat} {d i i1 R B3 C : Nat} (hd : d ≤ 100) (hp : pickM L i 16 = (0, i1)) (hbody3 : Gb L d 3 B3) (hB3 : B3 ≤ 1000000) (hcond : Gn 42 L d C) (hC : C ≤ 1000000) (hR : 3 + C + 6 + B3 + 4 ≤ R) : Sn 21 L (d + 1) R i := by
  have y0 : (⟨#[73, 70, 32]⟩ : ByteArray).size = 3 := rfl
  have y1 : (⟨#[32, 84, 72, 69, 78, 32]⟩ : ByteArray).size = 6 := rfl
  have y2 : (⟨#[32, 69, 78, 68]⟩ : ByteArray).size = 4 := rfl
  obtain ⟨S1, j1, S1p, S1b, C1⟩ := hcond i1
  obtain ⟨S2, j2, S2p, S2b, C2⟩ := hbody3 j1
  have z0 : ((⟨#[73, 70, 32]⟩ : ByteArray) ++ S1).size = 3 + S1.size := by rw [ByteArray.size_append, y0]
  have kz0 : ¬ 9223372036854775807 < 3 + S1.size := by omega
  have z1 : (((⟨#[73, 70, 32]⟩ : ByteArray) ++ S1) ++ (⟨#[32, 84, 72, 69, 78, 32]⟩ : ByteArray)).size = 3 + S1.size + 6 := by rw [ByteArray.size_append, z0, y1]
  have kz1 : ¬ 9223372036854775807 < 3 + S1.size + 6 := by omega
  have z2 : ((((⟨#[73, 70, 32]⟩ : ByteArray) ++ S1) ++ (⟨#[32, 84, 72, 69, 78, 32]⟩ : ByteArray)) ++ S2).size = 3 + S1.size + 6 + S2.size := by rw [ByteArray.size_append, z1]
  have kz2 : ¬ 9223372036854775807 < 3 + S1.size + 6 + S2.size := by omega
  have z3 : (((((⟨#[73, 70, 32]⟩ : ByteArray) ++ S1) ++ (⟨#[32, 84, 72, 69, 78, 32]⟩ : ByteArray)) ++ S2) ++ (⟨#[32, 69, 78, 68]⟩ : ByteArray)).size = 3 + S1.size + 6 + S2.size + 4 := by rw [ByteArray.size_append, z2, y2]
  have kz3 : ¬ 9223372036854775807 < 3 + S1.size + 6 + S2.size + 4 := by omega
  refine ⟨(((((⟨#[73, 70, 32]⟩ : ByteArray) ++ S1) ++ (⟨#[32, 84, 72, 69, 78, 32]⟩ : ByteArray)) ++ S2) ++ (⟨#[32, 69, 78, 68]⟩ : ByteArray)), j2, ?pos, by rw [z3]; omega, fun w g lv hG => ?_⟩
  case pos => rw [z3]; omega
  have HG := Lib.hid hG
  have c2 : w.cell? ⟨g, 2, none⟩ = some (.int .i64 ((d + 1 : Nat) : Int)) := hG.blk.cell 2
  obtain ⟨D, hD⟩ : ∃ D, d + 1 = D := ⟨_, rfl⟩
  rw [hD] at c2 HG ⊢
  have t1 : ¬ (D : Int) ≤ 0 := by omega
  have t2 : ¬ D = 0 := by omega
  have wd : IntKind.i64.wrap ((D : Int) - 1) = (d : Int) := by rw [IntKind.wrap]; simp [IntKind.bits, IntKind.signed]; omega
  have wu : IntKind.i64.wrap ((d : Int) + 1) = (D : Int) := by rw [IntKind.wrap]; simp [IntKind.bits, IntKind.signed]; omega
  have f2 := hG.blk.free 2
  clear hG hR S1p S1b S2p S2b hD hd hB3 hC
  go_enter Tryd.func21, Tryd.ntmps21
  go_wp2_with fail
  refine (pick_at (HG.out.setD d) hp 0 rfl (by decide) (by decide)).mono ?_
  rintro e w1 ⟨rfl, hG1, ho1⟩
  have G1 := Lib.hid hG1
  have H1 := Lib.hid (og_trans (og g w 2 _) ho1)
  clear hG1 ho1 hp c2 f2 t1 t2 wd
  go_wp2_with fail
  refine (C1 _ g lv G1.out).mono ?_
  rintro e w2 ⟨rfl, hG2, ho2⟩
  have G2 := Lib.hid hG2
  have H2 := Lib.hid (og_trans H1.out ho2)
  clear hG2 ho2
  go_wp2_with fail
  refine (C2 _ g lv G2.out).mono ?_
  rintro e w3 ⟨rfl, hG3, ho3⟩
  have G3 := Lib.hid hG3
  have H3 := Lib.hid (og_trans H2.out ho3)
  clear hG3 ho3
  have c2 : w3.cell? ⟨g, 2, none⟩ = some (.int .i64 (d : Int)) := G3.out.blk.cell 2
  have f2 := G3.out.blk.free 2
  go_wp2_with fail
  go_ret
  exact ⟨rfl, G3.out.setD D, og_trans H3.out (og g _ 2 _)⟩
set_option maxRecDepth 10000 in
set_option maxHeartbeats 1600000 in
theorem stmt_1 {L : List Nat} {d i i1 R B2 C : Nat} (hd : d ≤ 100) (hp : pickM L i 16 = (1, i1)) (hbody2 : Gb L d 2 B2) (hB2 : B2 ≤ 1000000) (hcond : Gn 42 L d C) (hC : C ≤ 1000000) (hR : 3 + C + 6 + B2 + 7 + C + 6 + B2 + 6 + B2 + 4 ≤ R) : Sn 21 L (d + 1) R i := by
  have y0 : (⟨#[73, 70, 32]⟩ : ByteArray).size = 3 := rfl
  have y1 : (⟨#[32, 84, 72, 69, 78, 32]⟩ : ByteArray).size = 6 := rfl
  have y2 : (⟨#[32, 69, 76, 83, 73, 70, 32]⟩ : ByteArray).size = 7 := rfl
  have y3 : (⟨#[32, 69, 76, 83, 69, 32]⟩ : ByteArray).size = 6 := rfl
  have y4 : (⟨#[32, 69, 78, 68]⟩ : ByteArray).size = 4 := rfl
  obtain ⟨S1, j1, S1p, S1b, C1⟩ := hcond i1
  obtain ⟨S2, j2, S2p, S2b, C2⟩ := hbody2 j1
  obtain ⟨S3, j3, S3p, S3b, C3⟩ := hcond j2
  obtain ⟨S4, j4, S4p, S4b, C4⟩ := hbody2 j3
  obtain ⟨S5, j5, S5p, S5b, C5⟩ := hbody2 j4
  have z0 : ((⟨#[73, 70, 32]⟩ : ByteArray) ++ S1).size = 3 + S1.size := by rw [ByteArray.size_append, y0]
  have kz0 : ¬ 9223372036854775807 < 3 + S1.size := by omega
  have z1 : (((⟨#[73, 70, 32]⟩ : ByteArray) ++ S1) ++ (⟨#[32, 84, 72, 69, 78, 32]⟩ : ByteArray)).size = 3 + S1.size + 6 := by rw [ByteArray.size_append, z0, y1]
  have kz1 : ¬ 9223372036854775807 < 3 + S1.size + 6 := by omega
  have z2 : ((((⟨#[73, 70, 32]⟩ : ByteArray) ++ S1) ++ (⟨#[32, 84, 72, 69, 78, 32]⟩ : ByteArray)) ++ S2).size = 3 + S1.size + 6 + S2.size := by rw [ByteArray.size_append, z1]
  have kz2 : ¬ 9223372036854775807 < 3 + S1.size + 6 + S2.size := by omega
  have z3 : (((((⟨#[73, 70, 32]⟩ : ByteArray) ++ S1) ++ (⟨#[32, 84, 72, 69, 78, 32]⟩ : ByteArray)) ++ S2) ++ (⟨#[32, 69, 76, 83, 73, 70, 32]⟩ : ByteArray)).size = 3 + S1.size + 6 + S2.size + 7 := by rw [ByteArray.size_append, z2, y2]
  have kz3 : ¬ 9223372036854775807 < 3 + S1.size + 6 + S2.size + 7 := by omega
  have z4 : ((((((⟨#[73, 70, 32]⟩ : ByteArray) ++ S1) ++ (⟨#[32, 84, 72, 69, 78, 32]⟩ : ByteArray)) ++ S2) ++ (⟨#[32, 69, 76, 83, 73, 70, 32]⟩ : ByteArray)) ++ S3).size = 3 + S1.size + 6 + S2.size + 7 + S3.size := by rw [ByteArray.size_append, z3]
  have kz4 : ¬ 9223372036854775807 < 3 + S1.size + 6 + S2.size + 7 + S3.size := by omega
  have z5 : (((((((⟨#[73, 70, 32]⟩ : ByteArray) ++ S1) ++ (⟨#[32, 84, 72, 69, 78, 32]⟩ : ByteArray)) ++ S2) ++ (⟨#[32, 69, 76, 83, 73, 70, 32]⟩ : ByteArray)) ++ S3) ++ (⟨#[32, 84, 72, 69, 78, 32]⟩ : ByteArray)).size = 3 + S1.size + 6 + S2.size + 7 + S3.size + 6 := by rw [ByteArray.size_append, z4, y1]
  have kz5 : ¬ 9223372036854775807 < 3 + S1.size + 6 + S2.size + 7 + S3.size + 6 := by omega
  have z6 : ((((((((⟨#[73, 70, 32]⟩ : ByteArray) ++ S1) ++ (⟨#[32, 84, 72, 69, 78, 32]⟩ : ByteArray)) ++ S2) ++ (⟨#[32, 69, 76, 83, 73, 70, 32]⟩ : ByteArray)) ++ S3) ++ (⟨#[32, 84, 72, 69, 78, 32]⟩ : ByteArray)) ++ S4).size = 3 + S1.size + 6 + S2.size + 7 + S3.size + 6 + S4.size := by rw [ByteArray.size_append, z5]
  have kz6 : ¬ 9223372036854775807 < 3 + S1.size + 6 + S2.size + 7 + S3.size + 6 + S4.size := by omega
  have z7 : (((((((((⟨#[73, 70, 32]⟩ : ByteArray) ++ S1) ++ (⟨#[32, 84, 72, 69, 78, 32]⟩ : ByteArray)) ++ S2) ++ (⟨#[32, 69, 76, 83, 73, 70, 32]⟩ : ByteArray)) ++ S3) ++ (⟨#[32, 84, 72, 69, 78, 32]⟩ : ByteArray)) ++ S4) ++ (⟨#[32, 69, 76, 83, 69, 32]⟩ : ByteArray)).size = 3 + S1.size + 6 + S2.size + 7 + S3.size + 6 + S4.size + 6 := by rw [ByteArray.size_append, z6, y3]
  have kz7 : ¬ 9223372036854775807 < 3 + S1.size + 6 + S2.size + 7 + S3.size + 6 + S4.size + 6 := by omega
  have z8 : ((((((((((⟨#[73, 70, 32]⟩ : ByteArray) ++ S1) ++ (⟨#[32, 84, 72, 69, 78, 32]⟩ : ByteArray)) ++ S2) ++ (⟨#[32, 69, 76, 83, 73, 70, 32]⟩ : ByteArray)) ++ S3) ++ (⟨#[32, 84, 72, 69, 78, 32]⟩ : ByteArray)) ++ S4) ++ (⟨#[32, 69, 76, 83, 69, 32]⟩ : ByteArray)) ++ S5).size = 3 + S1.size + 6 + S2.size + 7 + S3.size + 6 + S4.size + 6 + S5.size := by rw [ByteArray.size_append, z7]
  have kz8 : ¬ 9223372036854775807 < 3 + S1.size + 6 + S2.size + 7 + S3.size + 6 + S4.size + 6 + S5.size := by omega
  have z9 : (((((((((((⟨#[73, 70, 32]⟩ : ByteArray) ++ S1) ++ (⟨#[32, 84, 72, 69, 78, 32]⟩ : ByteArray)) ++ S2) ++ (⟨#[32, 69, 76, 83, 73, 70, 32]⟩ : ByteArray)) ++ S3) ++ (⟨#[32, 84, 72, 69, 78, 32]⟩ : ByteArray)) ++ S4) ++ (⟨#[32, 69, 76, 83, 69, 32]⟩ : ByteArray)) ++ S5) ++ (⟨#[32, 69, 78, 68]⟩ : ByteArray)).size = 3 + S1.size + 6 + S2.size + 7 + S3.size + 6 + S4.size + 6 + S5.size + 4 := by rw [ByteArray.size_append, z8, y4]
  have kz9 : ¬ 9223372036854775807 < 3 + S1.size + 6 + S2.size + 7 + S3.size + 6 + S4.size + 6 + S5.size + 4 := by omega
  refine ⟨(((((((((((⟨#[73, 70, 32]⟩ : ByteArray) ++ S1) ++ (⟨#[32, 84, 72, 69, 78, 32]⟩ : ByteArray)) ++ S2) ++ (⟨#[32, 69, 76, 83, 73, 70, 32]⟩ : ByteArray)) ++ S3) ++ (⟨#[32, 84, 72, 69, 78, 32]⟩ : ByteArray)) ++ S4) ++ (⟨#[32, 69, 76, 83, 69, 32]⟩ : ByteArray)) ++ S5) ++ (⟨#[32, 69, 78, 68]⟩ : ByteArray)), j5, ?pos, by rw [z9]; omega, fun w g lv hG => ?_⟩
  case pos => rw [z9]; omega
  have HG := Lib.hid hG
  have c2 : w.cell? ⟨g, 2, none⟩ = some (.int .i64 ((d + 1 : Nat) : Int)) := hG.blk.cell 2
  obtain ⟨D, hD⟩ : ∃ D, d + 1 = D := ⟨_, rfl⟩
  rw [hD] at c2 HG ⊢
  have t1 : ¬ (D : Int) ≤ 0 := by omega
  have t2 : ¬ D = 0 := by omega
  have wd : IntKind.i64.wrap ((D : Int) - 1) = (d : Int) := by rw [IntKind.wrap]; simp [IntKind.bits, IntKind.signed]; omega
  have wu : IntKind.i64.wrap ((d : Int) + 1) = (D : Int) := by rw [IntKind.wrap]; simp [IntKind.bits, IntKind.signed]; omega
  have f2 := hG.blk.free 2
  clear hG hR S1p S1b S2p S2b S3p S3b S4p S4b S5p S5b hD hd hB2 hC
  go_enter Tryd.func21, Tryd.ntmps21
  go_wp2_with fail
  refine (pick_at (HG.out.setD d) hp 1 rfl (by decide) (by decide)).mono ?_
  rintro e w1 ⟨rfl, hG1, ho1⟩
  have G1 := Lib.hid hG1
  have H1 := Lib.hid (og_trans (og g w 2 _) ho1)
  clear hG1 ho1 hp c2 f2 t1 t2 wd
  go_wp2_with fail
  refine (C1 _ g lv G1.out).mono ?_
  rintro e w2 ⟨rfl, hG2, ho2⟩
  have G2 := Lib.hid hG2
  have H2 := Lib.hid (og_trans H1.out ho2)
  clear hG2 ho2
  go_wp2_with fail
  refine (C2 _ g lv G2.out).mono ?_
  rintro e w3 ⟨rfl, hG3, ho3⟩
  have G3 := Lib.hid hG3
  have H3 := Lib.hid (og_trans H2.out ho3)
  clear hG3 ho3
  go_wp2_with fail
  refine (C3 _ g lv G3.out).mono ?_
  rintro e w4 ⟨rfl, hG4, ho4⟩
  have G4 := Lib.hid hG4
  have H4 := Lib.hid (og_trans H3.out ho4)
  clear hG4 ho4
  go_wp2_with fail
  refine (C4 _ g lv G4.out).mono ?_
  rintro e w5 ⟨rfl, hG5, ho5⟩
  have G5 := Lib.hid hG5
  have H5 := Lib.hid (og_trans H4.out ho5)
  clear hG5 ho5
  go_wp2_with fail
  refine (C5 _ g lv G5.out).mono ?_
  rintro e w6 ⟨rfl, hG6, ho6⟩
  have G6 := Lib.hid hG6
  have H6 := Lib.hid (og_trans H5.out ho6)
  clear hG6 ho6
  have c2 : w6.cell? ⟨g, 2, none⟩ = some (.int .i64 (d : Int)) := G6.out.blk.cell 2
  have f2 := G6.out.blk.free 2
  go_wp2_with fail
  go_ret
  exact ⟨rfl, G6.out.setD D, og_trans H6.out (og g _ 2 _)⟩
set_option maxRecDepth 10000 in
set_option maxHeartbeats 1600000 in
theorem stmt_2 {L : List Nat} {d i i1 R B2 C : Nat} (hd : d ≤ 100) (hp : pickM L i 16 = (2, i1)) (hbody2 : Gb L d 2 B2) (hB2 : B2 ≤ 1000000) (hcond : Gn 42 L d C) (hC : C ≤ 1000000) (hR : 7 + C + 23 + B2 + 4 ≤ R) : Sn 21 L (d + 1) R i := by
  have y0 : (⟨#[87, 72, 73, 76, 69, 32, 40]⟩ : ByteArray).size = 7 := rfl
  have y1 : (⟨#[41, 32, 38, 32, 40, 110, 32, 62, 32, 48, 41, 32, 68, 79, 32, 68, 69, 67, 40, 110, 41, 59, 32]⟩ : ByteArray).size = 23 := rfl
  have y2 : (⟨#[32, 69, 78, 68]⟩ : ByteArray).size = 4 := rfl
  obtain ⟨S1, j1, S1p, S1b, C1⟩ := hcond i1
  obtain ⟨S2, j2, S2p, S2b, C2⟩ := hbody2 j1
  have z0 : ((⟨#[87, 72, 73, 76, 69, 32, 40]⟩ : ByteArray) ++ S1).size = 7 + S1.size := by rw [ByteArray.size_append, y0]
  have kz0 : ¬ 9223372036854775807 < 7 + S1.size := by omega
  have z1 : (((⟨#[87, 72, 73, 76, 69, 32, 40]⟩ : ByteArray) ++ S1) ++ (⟨#[41, 32, 38, 32, 40, 110, 32, 62, 32, 48, 41, 32, 68, 79, 32, 68, 69, 67, 40, 110, 41, 59, 32]⟩ : ByteArray)).size = 7 + S1.size + 23 := by rw [ByteArray.size_append, z0, y1]
  have kz1 : ¬ 9223372036854775807 < 7 + S1.size + 23 := by omega
  have z2 : ((((⟨#[87, 72, 73, 76, 69, 32, 40]⟩ : ByteArray) ++ S1) ++ (⟨#[41, 32, 38, 32, 40, 110, 32, 62, 32, 48, 41, 32, 68, 79, 32, 68, 69, 67, 40, 110, 41, 59, 32]⟩ : ByteArray)) ++ S2).size = 7 + S1.size + 23 + S2.size := by rw [ByteArray.size_append, z1]
  have kz2 : ¬ 9223372036854775807 < 7 + S1.size + 23 + S2.size := by omega
  have z3 : (((((⟨#[87, 72, 73, 76, 69, 32, 40]⟩ : ByteArray) ++ S1) ++ (⟨#[41, 32, 38, 32, 40, 110, 32, 62, 32, 48, 41, 32, 68, 79, 32, 68, 69, 67, 40, 110, 41, 59, 32]⟩ : ByteArray)) ++ S2) ++ (⟨#[32, 69, 78, 68]⟩ : ByteArray)).size = 7 + S1.size + 23 + S2.size + 4 := by rw [ByteArray.size_append, z2, y2]
  have kz3 : ¬ 9223372036854775807 < 7 + S1.size + 23 + S2.size + 4 := by omega
  refine ⟨(((((⟨#[87, 72, 73, 76, 69, 32, 40]⟩ : ByteArray) ++ S1) ++ (⟨#[41, 32, 38, 32, 40, 110, 32, 62, 32, 48, 41, 32, 68, 79, 32, 68, 69, 67, 40, 110, 41, 59, 32]⟩ : ByteArray)) ++ S2) ++ (⟨#[32, 69, 78, 68]⟩ : ByteArray)), j2, ?pos, by rw [z3]; omega, fun w g lv hG => ?_⟩
  case pos => rw [z3]; omega
  have HG := Lib.hid hG
  have c2 : w.cell? ⟨g, 2, none⟩ = some (.int .i64 ((d + 1 : Nat) : Int)) := hG.blk.cell 2
  obtain ⟨D, hD⟩ : ∃ D, d + 1 = D := ⟨_, rfl⟩
  rw [hD] at c2 HG ⊢
  have t1 : ¬ (D : Int) ≤ 0 := by omega
  have t2 : ¬ D = 0 := by omega
  have wd : IntKind.i64.wrap ((D : Int) - 1) = (d : Int) := by rw [IntKind.wrap]; simp [IntKind.bits, IntKind.signed]; omega
  have wu : IntKind.i64.wrap ((d : Int) + 1) = (D : Int) := by rw [IntKind.wrap]; simp [IntKind.bits, IntKind.signed]; omega
  have f2 := hG.blk.free 2
  clear hG hR S1p S1b S2p S2b hD hd hB2 hC
  go_enter Tryd.func21, Tryd.ntmps21
  go_wp2_with fail
  refine (pick_at (HG.out.setD d) hp 2 rfl (by decide) (by decide)).mono ?_
  rintro e w1 ⟨rfl, hG1, ho1⟩
  have G1 := Lib.hid hG1
  have H1 := Lib.hid (og_trans (og g w 2 _) ho1)
  clear hG1 ho1 hp c2 f2 t1 t2 wd
  go_wp2_with fail
  refine (C1 _ g lv G1.out).mono ?_
  rintro e w2 ⟨rfl, hG2, ho2⟩
  have G2 := Lib.hid hG2
  have H2 := Lib.hid (og_trans H1.out ho2)
  clear hG2 ho2
  go_wp2_with fail
  refine (C2 _ g lv G2.out).mono ?_
  rintro e w3 ⟨rfl, hG3, ho3⟩
  have G3 := Lib.hid hG3
  have H3 := Lib.hid (og_trans H2.out ho3)
  clear hG3 ho3
  have c2 : w3.cell? ⟨g, 2, none⟩ = some (.int .i64 (d : Int)) := G3.out.blk.cell 2
  have f2 := G3.out.blk.free 2
  go_wp2_with fail
  go_ret
  exact ⟨rfl, G3.out.setD D, og_trans H3.out (og g _ 2 _)⟩
set_option maxRecDepth 10000 in
set_option maxHeartbeats 1600000 in
theorem stmt_3 {L : List Nat} {d i i1 R B2 C : Nat} (hd : d ≤ 100) (hp : pickM L i 16 = (3, i1)) (hbody2 : Gb L d 2 B2) (hB2 : B2 ≤ 1000000) (hcond : Gn 42 L d C) (hC : C ≤ 1000000) (hR : 15 + B2 + 19 + C + 1 ≤ R) : Sn 21 L (d + 1) R i := by
  have y0 : (⟨#[82, 69, 80, 69, 65, 84, 32, 73, 78, 67, 40, 106, 41, 59, 32]⟩ : ByteArray).size = 15 := rfl
  have y1 : (⟨#[32, 85, 78, 84, 73, 76, 32, 40, 106, 32, 62, 32, 53, 41, 32, 79, 82, 32, 40]⟩ : ByteArray).size = 19 := rfl
  have y2 : (⟨#[41]⟩ : ByteArray).size = 1 := rfl
  obtain ⟨S1, j1, S1p, S1b, C1⟩ := hbody2 i1
  obtain ⟨S2, j2, S2p, S2b, C2⟩ := hcond j1
  have z0 : ((⟨#[82, 69, 80, 69, 65, 84, 32, 73, 78, 67, 40, 106, 41, 59, 32]⟩ : ByteArray) ++ S1).size = 15 + S1.size := by rw [ByteArray.size_append, y0]
  have kz0 : ¬ 9223372036854775807 < 15 + S1.size := by omega
  have z1 : (((⟨#[82, 69, 80, 69, 65, 84, 32, 73, 78, 67, 40, 106, 41, 59, 32]⟩ : ByteArray) ++ S1) ++ (⟨#[32, 85, 78, 84, 73, 76, 32, 40, 106, 32, 62, 32, 53, 41, 32, 79, 82, 32, 40]⟩ : ByteArray)).size = 15 + S1.size + 19 := by rw [ByteArray.size_append, z0, y1]
  have kz1 : ¬ 9223372036854775807 < 15 + S1.size + 19 := by omega
  have z2 : ((((⟨#[82, 69, 80, 69, 65, 84, 32, 73, 78, 67, 40, 106, 41, 59, 32]⟩ : ByteArray) ++ S1) ++ (⟨#[32, 85, 78, 84, 73, 76, 32, 40, 106, 32, 62, 32, 53, 41, 32, 79, 82, 32, 40]⟩ : ByteArray)) ++ S2).size = 15 + S1.size + 19 + S2.size := by rw [ByteArray.size_append, z1]
  have kz2 : ¬ 9223372036854775807 < 15 + S1.size + 19 + S2.size := by omega
  have z3 : (((((⟨#[82, 69, 80, 69, 65, 84, 32, 73, 78, 67, 40, 106, 41, 59, 32]⟩ : ByteArray) ++ S1) ++ (⟨#[32, 85, 78, 84, 73, 76, 32, 40, 106, 32, 62, 32, 53, 41, 32, 79, 82, 32, 40]⟩ : ByteArray)) ++ S2) ++ (⟨#[41]⟩ : ByteArray)).size = 15 + S1.size + 19 + S2.size + 1 := by rw [ByteArray.size_append, z2, y2]
  have kz3 : ¬ 9223372036854775807 < 15 + S1.size + 19 + S2.size + 1 := by omega
  refine ⟨(((((⟨#[82, 69, 80, 69, 65, 84, 32, 73, 78, 67, 40, 106, 41, 59, 32]⟩ : ByteArray) ++ S1) ++ (⟨#[32, 85, 78, 84, 73, 76, 32, 40, 106, 32, 62, 32, 53, 41, 32, 79, 82, 32, 40]⟩ : ByteArray)) ++ S2) ++ (⟨#[41]⟩ : ByteArray)), j2, ?pos, by rw [z3]; omega, fun w g lv hG => ?_⟩
  case pos => rw [z3]; omega
  have HG := Lib.hid hG
  have c2 : w.cell? ⟨g, 2, none⟩ = some (.int .i64 ((d + 1 : Nat) : Int)) := hG.blk.cell 2
  obtain ⟨D, hD⟩ : ∃ D, d + 1 = D := ⟨_, rfl⟩
  rw [hD] at c2 HG ⊢
  have t1 : ¬ (D : Int) ≤ 0 := by omega
  have t2 : ¬ D = 0 := by omega
  have wd : IntKind.i64.wrap ((D : Int) - 1) = (d : Int) := by rw [IntKind.wrap]; simp [IntKind.bits, IntKind.signed]; omega
  have wu : IntKind.i64.wrap ((d : Int) + 1) = (D : Int) := by rw [IntKind.wrap]; simp [IntKind.bits, IntKind.signed]; omega
  have f2 := hG.blk.free 2
  clear hG hR S1p S1b S2p S2b hD hd hB2 hC
  go_enter Tryd.func21, Tryd.ntmps21
  go_wp2_with fail
  refine (pick_at (HG.out.setD d) hp 3 rfl (by decide) (by decide)).mono ?_
  rintro e w1 ⟨rfl, hG1, ho1⟩
  have G1 := Lib.hid hG1
  have H1 := Lib.hid (og_trans (og g w 2 _) ho1)
  clear hG1 ho1 hp c2 f2 t1 t2 wd
  go_wp2_with fail
  refine (C1 _ g lv G1.out).mono ?_
  rintro e w2 ⟨rfl, hG2, ho2⟩
  have G2 := Lib.hid hG2
  have H2 := Lib.hid (og_trans H1.out ho2)
  clear hG2 ho2
  go_wp2_with fail
  refine (C2 _ g lv G2.out).mono ?_
  rintro e w3 ⟨rfl, hG3, ho3⟩
  have G3 := Lib.hid hG3
  have H3 := Lib.hid (og_trans H2.out ho3)
  clear hG3 ho3
  have c2 : w3.cell? ⟨g, 2, none⟩ = some (.int .i64 (d : Int)) := G3.out.blk.cell 2
  have f2 := G3.out.blk.free 2
  go_wp2_with fail
  go_ret
  exact ⟨rfl, G3.out.setD D, og_trans H3.out (og g _ 2 _)⟩
set_option maxRecDepth 10000 in
set_option maxHeartbeats 1600000 in
theorem stmt_5 {L : List Nat} {d i i1 R B2 : Nat} (hd : d ≤ 100) (hp : pickM L i 16 = (5, i1)) (hbody2 : Gb L d 2 B2) (hB2 : B2 ≤ 1000000) (hR : 25 + B2 + 4 ≤ R) : Sn 21 L (d + 1) R i := by
  have y0 : (⟨#[70, 79, 82, 32, 106, 32, 58, 61, 32, 54, 32, 84, 79, 32, 49, 32, 66, 89, 32, 45, 50, 32, 68, 79, 32]⟩ : ByteArray).size = 25 := rfl
  have y1 : (⟨#[32, 69, 78, 68]⟩ : ByteArray).size = 4 := rfl
  obtain ⟨S1, j1, S1p, S1b, C1⟩ := hbody2 i1
  have z0 : ((⟨#[70, 79, 82, 32, 106, 32, 58, 61, 32, 54, 32, 84, 79, 32, 49, 32, 66, 89, 32, 45, 50, 32, 68, 79, 32]⟩ : ByteArray) ++ S1).size = 25 + S1.size := by rw [ByteArray.size_append, y0]
  have kz0 : ¬ 9223372036854775807 < 25 + S1.size := by omega
  have z1 : (((⟨#[70, 79, 82, 32, 106, 32, 58, 61, 32, 54, 32, 84, 79, 32, 49, 32, 66, 89, 32, 45, 50, 32, 68, 79, 32]⟩ : ByteArray) ++ S1) ++ (⟨#[32, 69, 78, 68]⟩ : ByteArray)).size = 25 + S1.size + 4 := by rw [ByteArray.size_append, z0, y1]
  have kz1 : ¬ 9223372036854775807 < 25 + S1.size + 4 := by omega
  refine ⟨(((⟨#[70, 79, 82, 32, 106, 32, 58, 61, 32, 54, 32, 84, 79, 32, 49, 32, 66, 89, 32, 45, 50, 32, 68, 79, 32]⟩ : ByteArray) ++ S1) ++ (⟨#[32, 69, 78, 68]⟩ : ByteArray)), j1, ?pos, by rw [z1]; omega, fun w g lv hG => ?_⟩
  case pos => rw [z1]; omega
  have HG := Lib.hid hG
  have c2 : w.cell? ⟨g, 2, none⟩ = some (.int .i64 ((d + 1 : Nat) : Int)) := hG.blk.cell 2
  obtain ⟨D, hD⟩ : ∃ D, d + 1 = D := ⟨_, rfl⟩
  rw [hD] at c2 HG ⊢
  have t1 : ¬ (D : Int) ≤ 0 := by omega
  have t2 : ¬ D = 0 := by omega
  have wd : IntKind.i64.wrap ((D : Int) - 1) = (d : Int) := by rw [IntKind.wrap]; simp [IntKind.bits, IntKind.signed]; omega
  have wu : IntKind.i64.wrap ((d : Int) + 1) = (D : Int) := by rw [IntKind.wrap]; simp [IntKind.bits, IntKind.signed]; omega
  have f2 := hG.blk.free 2
  clear hG hR S1p S1b hD hd hB2
  go_enter Tryd.func21, Tryd.ntmps21
  go_wp2_with fail
  refine (pick_at (HG.out.setD d) hp 5 rfl (by decide) (by decide)).mono ?_
  rintro e w1 ⟨rfl, hG1, ho1⟩
  have G1 := Lib.hid hG1
  have H1 := Lib.hid (og_trans (og g w 2 _) ho1)
  clear hG1 ho1 hp c2 f2 t1 t2 wd
  go_wp2_with fail
  refine (C1 _ g lv G1.out).mono ?_
  rintro e w2 ⟨rfl, hG2, ho2⟩
  have G2 := Lib.hid hG2
  have H2 := Lib.hid (og_trans H1.out ho2)
  clear hG2 ho2
  have c2 : w2.cell? ⟨g, 2, none⟩ = some (.int .i64 (d : Int)) := G2.out.blk.cell 2
  have f2 := G2.out.blk.free 2
  go_wp2_with fail
  go_ret
  exact ⟨rfl, G2.out.setD D, og_trans H2.out (og g _ 2 _)⟩
set_option maxRecDepth 10000 in
set_option maxHeartbeats 1600000 in
theorem stmt_6 {L : List Nat} {d i i1 R B2 N T : Nat} (hd : d ≤ 100) (hp : pickM L i 16 = (6, i1)) (hbody2 : Gb L d 2 B2) (hB2 : B2 ≤ 1000000) (hnum : Gn 43 L d N) (hN : N ≤ 1000000) (hsimple : Gn 41 L d T) (hT : T ≤ 1000000) (hR : 5 + N + 13 + B2 + 14 + B2 + 6 + T + 4 ≤ R) : Sn 21 L (d + 1) R i := by
  have y0 : (⟨#[67, 65, 83, 69, 32]⟩ : ByteArray).size = 5 := rfl
  have y1 : (⟨#[32, 77, 79, 68, 32, 53, 32, 79, 70, 32, 48, 58, 32]⟩ : ByteArray).size = 13 := rfl
  have y2 : (⟨#[32, 124, 32, 49, 32, 46, 46, 32, 50, 44, 32, 52, 58, 32]⟩ : ByteArray).size = 14 := rfl
  have y3 : (⟨#[32, 124, 32, 51, 58, 32]⟩ : ByteArray).size = 6 := rfl
  have y4 : (⟨#[32, 69, 78, 68]⟩ : ByteArray).size = 4 := rfl
  obtain ⟨S1, j1, S1p, S1b, C1⟩ := hnum i1
  obtain ⟨S2, j2, S2p, S2b, C2⟩ := hbody2 j1
  obtain ⟨S3, j3, S3p, S3b, C3⟩ := hbody2 j2
  obtain ⟨S4, j4, S4p, S4b, C4⟩ := hsimple j3
  have z0 : ((⟨#[67, 65, 83, 69, 32]⟩ : ByteArray) ++ S1).size = 5 + S1.size := by rw [ByteArray.size_append, y0]
  have kz0 : ¬ 9223372036854775807 < 5 + S1.size := by omega
  have z1 : (((⟨#[67, 65, 83, 69, 32]⟩ : ByteArray) ++ S1) ++ (⟨#[32, 77, 79, 68, 32, 53, 32, 79, 70, 32, 48, 58, 32]⟩ : ByteArray)).size = 5 + S1.size + 13 := by rw [ByteArray.size_append, z0, y1]
  have kz1 : ¬ 9223372036854775807 < 5 + S1.size + 13 := by omega
  have z2 : ((((⟨#[67, 65, 83, 69, 32]⟩ : ByteArray) ++ S1) ++ (⟨#[32, 77, 79, 68, 32, 53, 32, 79, 70, 32, 48, 58, 32]⟩ : ByteArray)) ++ S2).size = 5 + S1.size + 13 + S2.size := by rw [ByteArray.size_append, z1]
  have kz2 : ¬ 9223372036854775807 < 5 + S1.size + 13 + S2.size := by omega
  have z3 : (((((⟨#[67, 65, 83, 69, 32]⟩ : ByteArray) ++ S1) ++ (⟨#[32, 77, 79, 68, 32, 53, 32, 79, 70, 32, 48, 58, 32]⟩ : ByteArray)) ++ S2) ++ (⟨#[32, 124, 32, 49, 32, 46, 46, 32, 50, 44, 32, 52, 58, 32]⟩ : ByteArray)).size = 5 + S1.size + 13 + S2.size + 14 := by rw [ByteArray.size_append, z2, y2]
  have kz3 : ¬ 9223372036854775807 < 5 + S1.size + 13 + S2.size + 14 := by omega
  have z4 : ((((((⟨#[67, 65, 83, 69, 32]⟩ : ByteArray) ++ S1) ++ (⟨#[32, 77, 79, 68, 32, 53, 32, 79, 70, 32, 48, 58, 32]⟩ : ByteArray)) ++ S2) ++ (⟨#[32, 124, 32, 49, 32, 46, 46, 32, 50, 44, 32, 52, 58, 32]⟩ : ByteArray)) ++ S3).size = 5 + S1.size + 13 + S2.size + 14 + S3.size := by rw [ByteArray.size_append, z3]
  have kz4 : ¬ 9223372036854775807 < 5 + S1.size + 13 + S2.size + 14 + S3.size := by omega
  have z5 : (((((((⟨#[67, 65, 83, 69, 32]⟩ : ByteArray) ++ S1) ++ (⟨#[32, 77, 79, 68, 32, 53, 32, 79, 70, 32, 48, 58, 32]⟩ : ByteArray)) ++ S2) ++ (⟨#[32, 124, 32, 49, 32, 46, 46, 32, 50, 44, 32, 52, 58, 32]⟩ : ByteArray)) ++ S3) ++ (⟨#[32, 124, 32, 51, 58, 32]⟩ : ByteArray)).size = 5 + S1.size + 13 + S2.size + 14 + S3.size + 6 := by rw [ByteArray.size_append, z4, y3]
  have kz5 : ¬ 9223372036854775807 < 5 + S1.size + 13 + S2.size + 14 + S3.size + 6 := by omega
  have z6 : ((((((((⟨#[67, 65, 83, 69, 32]⟩ : ByteArray) ++ S1) ++ (⟨#[32, 77, 79, 68, 32, 53, 32, 79, 70, 32, 48, 58, 32]⟩ : ByteArray)) ++ S2) ++ (⟨#[32, 124, 32, 49, 32, 46, 46, 32, 50, 44, 32, 52, 58, 32]⟩ : ByteArray)) ++ S3) ++ (⟨#[32, 124, 32, 51, 58, 32]⟩ : ByteArray)) ++ S4).size = 5 + S1.size + 13 + S2.size + 14 + S3.size + 6 + S4.size := by rw [ByteArray.size_append, z5]
  have kz6 : ¬ 9223372036854775807 < 5 + S1.size + 13 + S2.size + 14 + S3.size + 6 + S4.size := by omega
  have z7 : (((((((((⟨#[67, 65, 83, 69, 32]⟩ : ByteArray) ++ S1) ++ (⟨#[32, 77, 79, 68, 32, 53, 32, 79, 70, 32, 48, 58, 32]⟩ : ByteArray)) ++ S2) ++ (⟨#[32, 124, 32, 49, 32, 46, 46, 32, 50, 44, 32, 52, 58, 32]⟩ : ByteArray)) ++ S3) ++ (⟨#[32, 124, 32, 51, 58, 32]⟩ : ByteArray)) ++ S4) ++ (⟨#[32, 69, 78, 68]⟩ : ByteArray)).size = 5 + S1.size + 13 + S2.size + 14 + S3.size + 6 + S4.size + 4 := by rw [ByteArray.size_append, z6, y4]
  have kz7 : ¬ 9223372036854775807 < 5 + S1.size + 13 + S2.size + 14 + S3.size + 6 + S4.size + 4 := by omega
  refine ⟨(((((((((⟨#[67, 65, 83, 69, 32]⟩ : ByteArray) ++ S1) ++ (⟨#[32, 77, 79, 68, 32, 53, 32, 79, 70, 32, 48, 58, 32]⟩ : ByteArray)) ++ S2) ++ (⟨#[32, 124, 32, 49, 32, 46, 46, 32, 50, 44, 32, 52, 58, 32]⟩ : ByteArray)) ++ S3) ++ (⟨#[32, 124, 32, 51, 58, 32]⟩ : ByteArray)) ++ S4) ++ (⟨#[32, 69, 78, 68]⟩ : ByteArray)), j4, ?pos, by rw [z7]; omega, fun w g lv hG => ?_⟩
  case pos => rw [z7]; omega
  have HG := Lib.hid hG
  have c2 : w.cell? ⟨g, 2, none⟩ = some (.int .i64 ((d + 1 : Nat) : Int)) := hG.blk.cell 2
  obtain ⟨D, hD⟩ : ∃ D, d + 1 = D := ⟨_, rfl⟩
  rw [hD] at c2 HG ⊢
  have t1 : ¬ (D : Int) ≤ 0 := by omega
  have t2 : ¬ D = 0 := by omega
  have wd : IntKind.i64.wrap ((D : Int) - 1) = (d : Int) := by rw [IntKind.wrap]; simp [IntKind.bits, IntKind.signed]; omega
  have wu : IntKind.i64.wrap ((d : Int) + 1) = (D : Int) := by rw [IntKind.wrap]; simp [IntKind.bits, IntKind.signed]; omega
  have f2 := hG.blk.free 2
  clear hG hR S1p S1b S2p S2b S3p S3b S4p S4b hD hd hB2 hN hT
  go_enter Tryd.func21, Tryd.ntmps21
  go_wp2_with fail
  refine (pick_at (HG.out.setD d) hp 6 rfl (by decide) (by decide)).mono ?_
  rintro e w1 ⟨rfl, hG1, ho1⟩
  have G1 := Lib.hid hG1
  have H1 := Lib.hid (og_trans (og g w 2 _) ho1)
  clear hG1 ho1 hp c2 f2 t1 t2 wd
  go_wp2_with fail
  refine (C1 _ g lv G1.out).mono ?_
  rintro e w2 ⟨rfl, hG2, ho2⟩
  have G2 := Lib.hid hG2
  have H2 := Lib.hid (og_trans H1.out ho2)
  clear hG2 ho2
  go_wp2_with fail
  refine (C2 _ g lv G2.out).mono ?_
  rintro e w3 ⟨rfl, hG3, ho3⟩
  have G3 := Lib.hid hG3
  have H3 := Lib.hid (og_trans H2.out ho3)
  clear hG3 ho3
  go_wp2_with fail
  refine (C3 _ g lv G3.out).mono ?_
  rintro e w4 ⟨rfl, hG4, ho4⟩
  have G4 := Lib.hid hG4
  have H4 := Lib.hid (og_trans H3.out ho4)
  clear hG4 ho4
  go_wp2_with fail
  refine (C4 _ g lv G4.out).mono ?_
  rintro e w5 ⟨rfl, hG5, ho5⟩
  have G5 := Lib.hid hG5
  have H5 := Lib.hid (og_trans H4.out ho5)
  clear hG5 ho5
  have c2 : w5.cell? ⟨g, 2, none⟩ = some (.int .i64 (d : Int)) := G5.out.blk.cell 2
  have f2 := G5.out.blk.free 2
  go_wp2_with fail
  go_ret
  exact ⟨rfl, G5.out.setD D, og_trans H5.out (og g _ 2 _)⟩
set_option maxRecDepth 10000 in
set_option maxHeartbeats 1600000 in
theorem stmt_7 {L : List Nat} {d i i1 R T : Nat} (hd : d ≤ 100) (hp : pickM L i 16 = (7, i1)) (hsimple : Gn 41 L d T) (hT : T ≤ 1000000) (hR : 22 + T + 7 + T + 20 ≤ R) : Sn 21 L (d + 1) R i := by
  have y0 : (⟨#[67, 65, 83, 69, 32, 99, 32, 79, 70, 32, 34, 97, 34, 32, 46, 46, 32, 34, 122, 34, 58, 32]⟩ : ByteArray).size = 22 := rfl
  have y1 : (⟨#[32, 124, 32, 48, 88, 58, 32]⟩ : ByteArray).size = 7 := rfl
  have y2 : (⟨#[32, 124, 32, 34, 48, 34, 58, 32, 99, 32, 58, 61, 32, 34, 113, 34, 32, 69, 78, 68]⟩ : ByteArray).size = 20 := rfl
  obtain ⟨S1, j1, S1p, S1b, C1⟩ := hsimple i1
  obtain ⟨S2, j2, S2p, S2b, C2⟩ := hsimple j1
  have z0 : ((⟨#[67, 65, 83, 69, 32, 99, 32, 79, 70, 32, 34, 97, 34, 32, 46, 46, 32, 34, 122, 34, 58, 32]⟩ : ByteArray) ++ S1).size = 22 + S1.size := by rw [ByteArray.size_append, y0]
  have kz0 : ¬ 9223372036854775807 < 22 + S1.size := by omega
  have z1 : (((⟨#[67, 65, 83, 69, 32, 99, 32, 79, 70, 32, 34, 97, 34, 32, 46, 46, 32, 34, 122, 34, 58, 32]⟩ : ByteArray) ++ S1) ++ (⟨#[32, 124, 32, 48, 88, 58, 32]⟩ : ByteArray)).size = 22 + S1.size + 7 := by rw [ByteArray.size_append, z0, y1]
  have kz1 : ¬ 9223372036854775807 < 22 + S1.size + 7 := by omega
  have z2 : ((((⟨#[67, 65, 83, 69, 32, 99, 32, 79, 70, 32, 34, 97, 34, 32, 46, 46, 32, 34, 122, 34, 58, 32]⟩ : ByteArray) ++ S1) ++ (⟨#[32, 124, 32, 48, 88, 58, 32]⟩ : ByteArray)) ++ S2).size = 22 + S1.size + 7 + S2.size := by rw [ByteArray.size_append, z1]
  have kz2 : ¬ 9223372036854775807 < 22 + S1.size + 7 + S2.size := by omega
  have z3 : (((((⟨#[67, 65, 83, 69, 32, 99, 32, 79, 70, 32, 34, 97, 34, 32, 46, 46, 32, 34, 122, 34, 58, 32]⟩ : ByteArray) ++ S1) ++ (⟨#[32, 124, 32, 48, 88, 58, 32]⟩ : ByteArray)) ++ S2) ++ (⟨#[32, 124, 32, 34, 48, 34, 58, 32, 99, 32, 58, 61, 32, 34, 113, 34, 32, 69, 78, 68]⟩ : ByteArray)).size = 22 + S1.size + 7 + S2.size + 20 := by rw [ByteArray.size_append, z2, y2]
  have kz3 : ¬ 9223372036854775807 < 22 + S1.size + 7 + S2.size + 20 := by omega
  refine ⟨(((((⟨#[67, 65, 83, 69, 32, 99, 32, 79, 70, 32, 34, 97, 34, 32, 46, 46, 32, 34, 122, 34, 58, 32]⟩ : ByteArray) ++ S1) ++ (⟨#[32, 124, 32, 48, 88, 58, 32]⟩ : ByteArray)) ++ S2) ++ (⟨#[32, 124, 32, 34, 48, 34, 58, 32, 99, 32, 58, 61, 32, 34, 113, 34, 32, 69, 78, 68]⟩ : ByteArray)), j2, ?pos, by rw [z3]; omega, fun w g lv hG => ?_⟩
  case pos => rw [z3]; omega
  have HG := Lib.hid hG
  have c2 : w.cell? ⟨g, 2, none⟩ = some (.int .i64 ((d + 1 : Nat) : Int)) := hG.blk.cell 2
  obtain ⟨D, hD⟩ : ∃ D, d + 1 = D := ⟨_, rfl⟩
  rw [hD] at c2 HG ⊢
  have t1 : ¬ (D : Int) ≤ 0 := by omega
  have t2 : ¬ D = 0 := by omega
  have wd : IntKind.i64.wrap ((D : Int) - 1) = (d : Int) := by rw [IntKind.wrap]; simp [IntKind.bits, IntKind.signed]; omega
  have wu : IntKind.i64.wrap ((d : Int) + 1) = (D : Int) := by rw [IntKind.wrap]; simp [IntKind.bits, IntKind.signed]; omega
  have f2 := hG.blk.free 2
  clear hG hR S1p S1b S2p S2b hD hd hT
  go_enter Tryd.func21, Tryd.ntmps21
  go_wp2_with fail
  refine (pick_at (HG.out.setD d) hp 7 rfl (by decide) (by decide)).mono ?_
  rintro e w1 ⟨rfl, hG1, ho1⟩
  have G1 := Lib.hid hG1
  have H1 := Lib.hid (og_trans (og g w 2 _) ho1)
  clear hG1 ho1 hp c2 f2 t1 t2 wd
  go_wp2_with fail
  refine (C1 _ g lv G1.out).mono ?_
  rintro e w2 ⟨rfl, hG2, ho2⟩
  have G2 := Lib.hid hG2
  have H2 := Lib.hid (og_trans H1.out ho2)
  clear hG2 ho2
  go_wp2_with fail
  refine (C2 _ g lv G2.out).mono ?_
  rintro e w3 ⟨rfl, hG3, ho3⟩
  have G3 := Lib.hid hG3
  have H3 := Lib.hid (og_trans H2.out ho3)
  clear hG3 ho3
  have c2 : w3.cell? ⟨g, 2, none⟩ = some (.int .i64 (d : Int)) := G3.out.blk.cell 2
  have f2 := G3.out.blk.free 2
  go_wp2_with fail
  go_ret
  exact ⟨rfl, G3.out.setD D, og_trans H3.out (og g _ 2 _)⟩
end Go.Proofs.YtbpdhpfcknaaiaaDoor

/- What stmt tells, case by case. -/
set_option linter.unusedSimpArgs false
set_option linter.unusedVariables false
namespace Go.Proofs.YtbpdhpfcknaaiaaDoor
open Go.RowKit M

set_option maxRecDepth 10000 in
set_option maxHeartbeats 1600000 in
theorem stmt_8 {L : List Nat} {d i i1 R  : Nat} (hd : d ≤ 100) (hp : pickM L i 16 = (8, i1))  (hR : 50 ≤ R) : Sn 21 L (d + 1) R i := by
  have y0 : (⟨#[87, 72, 73, 76, 69, 32, 106, 32, 60, 32, 48, 32, 68, 79, 32, 73, 78, 67, 40, 106, 41, 32, 69, 76, 83, 73, 70, 32, 106, 32, 62, 32, 57, 32, 68, 79, 32, 68, 69, 67, 40, 106, 44, 32, 51, 41, 32, 69, 78, 68]⟩ : ByteArray).size = 50 := rfl
  refine ⟨(⟨#[87, 72, 73, 76, 69, 32, 106, 32, 60, 32, 48, 32, 68, 79, 32, 73, 78, 67, 40, 106, 41, 32, 69, 76, 83, 73, 70, 32, 106, 32, 62, 32, 57, 32, 68, 79, 32, 68, 69, 67, 40, 106, 44, 32, 51, 41, 32, 69, 78, 68]⟩ : ByteArray), i1, ?pos, by rw [y0]; omega, fun w g lv hG => ?_⟩
  case pos => rw [y0]; omega
  have HG := Lib.hid hG
  have c2 : w.cell? ⟨g, 2, none⟩ = some (.int .i64 ((d + 1 : Nat) : Int)) := hG.blk.cell 2
  obtain ⟨D, hD⟩ : ∃ D, d + 1 = D := ⟨_, rfl⟩
  rw [hD] at c2 HG ⊢
  have t1 : ¬ (D : Int) ≤ 0 := by omega
  have t2 : ¬ D = 0 := by omega
  have wd : IntKind.i64.wrap ((D : Int) - 1) = (d : Int) := by rw [IntKind.wrap]; simp [IntKind.bits, IntKind.signed]; omega
  have wu : IntKind.i64.wrap ((d : Int) + 1) = (D : Int) := by rw [IntKind.wrap]; simp [IntKind.bits, IntKind.signed]; omega
  have f2 := hG.blk.free 2
  clear hG hR hD hd
  go_enter Tryd.func21, Tryd.ntmps21
  go_wp2_with fail
  refine (pick_at (HG.out.setD d) hp 8 rfl (by decide) (by decide)).mono ?_
  rintro e w1 ⟨rfl, hG1, ho1⟩
  have G1 := Lib.hid hG1
  have H1 := Lib.hid (og_trans (og g w 2 _) ho1)
  clear hG1 ho1 hp c2 f2 t1 t2 wd
  have c2 : w1.cell? ⟨g, 2, none⟩ = some (.int .i64 (d : Int)) := G1.out.blk.cell 2
  have f2 := G1.out.blk.free 2
  go_wp2_with fail
  go_ret
  exact ⟨rfl, G1.out.setD D, og_trans H1.out (og g _ 2 _)⟩
set_option maxRecDepth 10000 in
set_option maxHeartbeats 1600000 in
theorem stmt_9 {L : List Nat} {d i i1 R T : Nat} (hd : d ≤ 100) (hp : pickM L i 16 = (9, i1)) (hsimple : Gn 41 L d T) (hT : T ≤ 1000000) (hR : T ≤ R) : Sn 21 L (d + 1) R i := by
  obtain ⟨S1, j1, S1p, S1b, C1⟩ := hsimple i1
  refine ⟨S1, j1, ?pos, by omega, fun w g lv hG => ?_⟩
  case pos => exact S1p
  have HG := Lib.hid hG
  have c2 : w.cell? ⟨g, 2, none⟩ = some (.int .i64 ((d + 1 : Nat) : Int)) := hG.blk.cell 2
  obtain ⟨D, hD⟩ : ∃ D, d + 1 = D := ⟨_, rfl⟩
  rw [hD] at c2 HG ⊢
  have t1 : ¬ (D : Int) ≤ 0 := by omega
  have t2 : ¬ D = 0 := by omega
  have wd : IntKind.i64.wrap ((D : Int) - 1) = (d : Int) := by rw [IntKind.wrap]; simp [IntKind.bits, IntKind.signed]; omega
  have wu : IntKind.i64.wrap ((d : Int) + 1) = (D : Int) := by rw [IntKind.wrap]; simp [IntKind.bits, IntKind.signed]; omega
  have f2 := hG.blk.free 2
  clear hG hR S1p S1b hD hd hT
  go_enter Tryd.func21, Tryd.ntmps21
  go_wp2_with fail
  refine (pick_at (HG.out.setD d) hp 9 rfl (by decide) (by decide)).mono ?_
  rintro e w1 ⟨rfl, hG1, ho1⟩
  have G1 := Lib.hid hG1
  have H1 := Lib.hid (og_trans (og g w 2 _) ho1)
  clear hG1 ho1 hp c2 f2 t1 t2 wd
  go_wp2_with fail
  refine (C1 _ g lv G1.out).mono ?_
  rintro e w2 ⟨rfl, hG2, ho2⟩
  have G2 := Lib.hid hG2
  have H2 := Lib.hid (og_trans H1.out ho2)
  clear hG2 ho2
  have c2 : w2.cell? ⟨g, 2, none⟩ = some (.int .i64 (d : Int)) := G2.out.blk.cell 2
  have f2 := G2.out.blk.free 2
  go_wp2_with fail
  go_ret
  exact ⟨rfl, G2.out.setD D, og_trans H2.out (og g _ 2 _)⟩
set_option maxRecDepth 10000 in
set_option maxHeartbeats 1600000 in
theorem stmt_10 {L : List Nat} {d i i1 R T : Nat} (hd : d ≤ 100) (hp : pickM L i 16 = (10, i1)) (hsimple : Gn 41 L d T) (hT : T ≤ 1000000) (hR : T ≤ R) : Sn 21 L (d + 1) R i := by
  obtain ⟨S1, j1, S1p, S1b, C1⟩ := hsimple i1
  refine ⟨S1, j1, ?pos, by omega, fun w g lv hG => ?_⟩
  case pos => exact S1p
  have HG := Lib.hid hG
  have c2 : w.cell? ⟨g, 2, none⟩ = some (.int .i64 ((d + 1 : Nat) : Int)) := hG.blk.cell 2
  obtain ⟨D, hD⟩ : ∃ D, d + 1 = D := ⟨_, rfl⟩
  rw [hD] at c2 HG ⊢
  have t1 : ¬ (D : Int) ≤ 0 := by omega
  have t2 : ¬ D = 0 := by omega
  have wd : IntKind.i64.wrap ((D : Int) - 1) = (d : Int) := by rw [IntKind.wrap]; simp [IntKind.bits, IntKind.signed]; omega
  have wu : IntKind.i64.wrap ((d : Int) + 1) = (D : Int) := by rw [IntKind.wrap]; simp [IntKind.bits, IntKind.signed]; omega
  have f2 := hG.blk.free 2
  clear hG hR S1p S1b hD hd hT
  go_enter Tryd.func21, Tryd.ntmps21
  go_wp2_with fail
  refine (pick_at (HG.out.setD d) hp 10 rfl (by decide) (by decide)).mono ?_
  rintro e w1 ⟨rfl, hG1, ho1⟩
  have G1 := Lib.hid hG1
  have H1 := Lib.hid (og_trans (og g w 2 _) ho1)
  clear hG1 ho1 hp c2 f2 t1 t2 wd
  go_wp2_with fail
  refine (C1 _ g lv G1.out).mono ?_
  rintro e w2 ⟨rfl, hG2, ho2⟩
  have G2 := Lib.hid hG2
  have H2 := Lib.hid (og_trans H1.out ho2)
  clear hG2 ho2
  have c2 : w2.cell? ⟨g, 2, none⟩ = some (.int .i64 (d : Int)) := G2.out.blk.cell 2
  have f2 := G2.out.blk.free 2
  go_wp2_with fail
  go_ret
  exact ⟨rfl, G2.out.setD D, og_trans H2.out (og g _ 2 _)⟩
set_option maxRecDepth 10000 in
set_option maxHeartbeats 1600000 in
theorem stmt_11 {L : List Nat} {d i i1 R T : Nat} (hd : d ≤ 100) (hp : pickM L i 16 = (11, i1)) (hsimple : Gn 41 L d T) (hT : T ≤ 1000000) (hR : T ≤ R) : Sn 21 L (d + 1) R i := by
  obtain ⟨S1, j1, S1p, S1b, C1⟩ := hsimple i1
  refine ⟨S1, j1, ?pos, by omega, fun w g lv hG => ?_⟩
  case pos => exact S1p
  have HG := Lib.hid hG
  have c2 : w.cell? ⟨g, 2, none⟩ = some (.int .i64 ((d + 1 : Nat) : Int)) := hG.blk.cell 2
  obtain ⟨D, hD⟩ : ∃ D, d + 1 = D := ⟨_, rfl⟩
  rw [hD] at c2 HG ⊢
  have t1 : ¬ (D : Int) ≤ 0 := by omega
  have t2 : ¬ D = 0 := by omega
  have wd : IntKind.i64.wrap ((D : Int) - 1) = (d : Int) := by rw [IntKind.wrap]; simp [IntKind.bits, IntKind.signed]; omega
  have wu : IntKind.i64.wrap ((d : Int) + 1) = (D : Int) := by rw [IntKind.wrap]; simp [IntKind.bits, IntKind.signed]; omega
  have f2 := hG.blk.free 2
  clear hG hR S1p S1b hD hd hT
  go_enter Tryd.func21, Tryd.ntmps21
  go_wp2_with fail
  refine (pick_at (HG.out.setD d) hp 11 rfl (by decide) (by decide)).mono ?_
  rintro e w1 ⟨rfl, hG1, ho1⟩
  have G1 := Lib.hid hG1
  have H1 := Lib.hid (og_trans (og g w 2 _) ho1)
  clear hG1 ho1 hp c2 f2 t1 t2 wd
  go_wp2_with fail
  refine (C1 _ g lv G1.out).mono ?_
  rintro e w2 ⟨rfl, hG2, ho2⟩
  have G2 := Lib.hid hG2
  have H2 := Lib.hid (og_trans H1.out ho2)
  clear hG2 ho2
  have c2 : w2.cell? ⟨g, 2, none⟩ = some (.int .i64 (d : Int)) := G2.out.blk.cell 2
  have f2 := G2.out.blk.free 2
  go_wp2_with fail
  go_ret
  exact ⟨rfl, G2.out.setD D, og_trans H2.out (og g _ 2 _)⟩
set_option maxRecDepth 10000 in
set_option maxHeartbeats 1600000 in
theorem stmt_12 {L : List Nat} {d i i1 R T : Nat} (hd : d ≤ 100) (hp : pickM L i 16 = (12, i1)) (hsimple : Gn 41 L d T) (hT : T ≤ 1000000) (hR : T ≤ R) : Sn 21 L (d + 1) R i := by
  obtain ⟨S1, j1, S1p, S1b, C1⟩ := hsimple i1
  refine ⟨S1, j1, ?pos, by omega, fun w g lv hG => ?_⟩
  case pos => exact S1p
  have HG := Lib.hid hG
  have c2 : w.cell? ⟨g, 2, none⟩ = some (.int .i64 ((d + 1 : Nat) : Int)) := hG.blk.cell 2
  obtain ⟨D, hD⟩ : ∃ D, d + 1 = D := ⟨_, rfl⟩
  rw [hD] at c2 HG ⊢
  have t1 : ¬ (D : Int) ≤ 0 := by omega
  have t2 : ¬ D = 0 := by omega
  have wd : IntKind.i64.wrap ((D : Int) - 1) = (d : Int) := by rw [IntKind.wrap]; simp [IntKind.bits, IntKind.signed]; omega
  have wu : IntKind.i64.wrap ((d : Int) + 1) = (D : Int) := by rw [IntKind.wrap]; simp [IntKind.bits, IntKind.signed]; omega
  have f2 := hG.blk.free 2
  clear hG hR S1p S1b hD hd hT
  go_enter Tryd.func21, Tryd.ntmps21
  go_wp2_with fail
  refine (pick_at (HG.out.setD d) hp 12 rfl (by decide) (by decide)).mono ?_
  rintro e w1 ⟨rfl, hG1, ho1⟩
  have G1 := Lib.hid hG1
  have H1 := Lib.hid (og_trans (og g w 2 _) ho1)
  clear hG1 ho1 hp c2 f2 t1 t2 wd
  go_wp2_with fail
  refine (C1 _ g lv G1.out).mono ?_
  rintro e w2 ⟨rfl, hG2, ho2⟩
  have G2 := Lib.hid hG2
  have H2 := Lib.hid (og_trans H1.out ho2)
  clear hG2 ho2
  have c2 : w2.cell? ⟨g, 2, none⟩ = some (.int .i64 (d : Int)) := G2.out.blk.cell 2
  have f2 := G2.out.blk.free 2
  go_wp2_with fail
  go_ret
  exact ⟨rfl, G2.out.setD D, og_trans H2.out (og g _ 2 _)⟩
set_option maxRecDepth 10000 in
set_option maxHeartbeats 1600000 in
theorem stmt_13 {L : List Nat} {d i i1 R T : Nat} (hd : d ≤ 100) (hp : pickM L i 16 = (13, i1)) (hsimple : Gn 41 L d T) (hT : T ≤ 1000000) (hR : T ≤ R) : Sn 21 L (d + 1) R i := by
  obtain ⟨S1, j1, S1p, S1b, C1⟩ := hsimple i1
  refine ⟨S1, j1, ?pos, by omega, fun w g lv hG => ?_⟩
  case pos => exact S1p
  have HG := Lib.hid hG
  have c2 : w.cell? ⟨g, 2, none⟩ = some (.int .i64 ((d + 1 : Nat) : Int)) := hG.blk.cell 2
  obtain ⟨D, hD⟩ : ∃ D, d + 1 = D := ⟨_, rfl⟩
  rw [hD] at c2 HG ⊢
  have t1 : ¬ (D : Int) ≤ 0 := by omega
  have t2 : ¬ D = 0 := by omega
  have wd : IntKind.i64.wrap ((D : Int) - 1) = (d : Int) := by rw [IntKind.wrap]; simp [IntKind.bits, IntKind.signed]; omega
  have wu : IntKind.i64.wrap ((d : Int) + 1) = (D : Int) := by rw [IntKind.wrap]; simp [IntKind.bits, IntKind.signed]; omega
  have f2 := hG.blk.free 2
  clear hG hR S1p S1b hD hd hT
  go_enter Tryd.func21, Tryd.ntmps21
  go_wp2_with fail
  refine (pick_at (HG.out.setD d) hp 13 rfl (by decide) (by decide)).mono ?_
  rintro e w1 ⟨rfl, hG1, ho1⟩
  have G1 := Lib.hid hG1
  have H1 := Lib.hid (og_trans (og g w 2 _) ho1)
  clear hG1 ho1 hp c2 f2 t1 t2 wd
  go_wp2_with fail
  refine (C1 _ g lv G1.out).mono ?_
  rintro e w2 ⟨rfl, hG2, ho2⟩
  have G2 := Lib.hid hG2
  have H2 := Lib.hid (og_trans H1.out ho2)
  clear hG2 ho2
  have c2 : w2.cell? ⟨g, 2, none⟩ = some (.int .i64 (d : Int)) := G2.out.blk.cell 2
  have f2 := G2.out.blk.free 2
  go_wp2_with fail
  go_ret
  exact ⟨rfl, G2.out.setD D, og_trans H2.out (og g _ 2 _)⟩
set_option maxRecDepth 10000 in
set_option maxHeartbeats 1600000 in
theorem stmt_14 {L : List Nat} {d i i1 R T : Nat} (hd : d ≤ 100) (hp : pickM L i 16 = (14, i1)) (hsimple : Gn 41 L d T) (hT : T ≤ 1000000) (hR : T ≤ R) : Sn 21 L (d + 1) R i := by
  obtain ⟨S1, j1, S1p, S1b, C1⟩ := hsimple i1
  refine ⟨S1, j1, ?pos, by omega, fun w g lv hG => ?_⟩
  case pos => exact S1p
  have HG := Lib.hid hG
  have c2 : w.cell? ⟨g, 2, none⟩ = some (.int .i64 ((d + 1 : Nat) : Int)) := hG.blk.cell 2
  obtain ⟨D, hD⟩ : ∃ D, d + 1 = D := ⟨_, rfl⟩
  rw [hD] at c2 HG ⊢
  have t1 : ¬ (D : Int) ≤ 0 := by omega
  have t2 : ¬ D = 0 := by omega
  have wd : IntKind.i64.wrap ((D : Int) - 1) = (d : Int) := by rw [IntKind.wrap]; simp [IntKind.bits, IntKind.signed]; omega
  have wu : IntKind.i64.wrap ((d : Int) + 1) = (D : Int) := by rw [IntKind.wrap]; simp [IntKind.bits, IntKind.signed]; omega
  have f2 := hG.blk.free 2
  clear hG hR S1p S1b hD hd hT
  go_enter Tryd.func21, Tryd.ntmps21
  go_wp2_with fail
  refine (pick_at (HG.out.setD d) hp 14 rfl (by decide) (by decide)).mono ?_
  rintro e w1 ⟨rfl, hG1, ho1⟩
  have G1 := Lib.hid hG1
  have H1 := Lib.hid (og_trans (og g w 2 _) ho1)
  clear hG1 ho1 hp c2 f2 t1 t2 wd
  go_wp2_with fail
  refine (C1 _ g lv G1.out).mono ?_
  rintro e w2 ⟨rfl, hG2, ho2⟩
  have G2 := Lib.hid hG2
  have H2 := Lib.hid (og_trans H1.out ho2)
  clear hG2 ho2
  have c2 : w2.cell? ⟨g, 2, none⟩ = some (.int .i64 (d : Int)) := G2.out.blk.cell 2
  have f2 := G2.out.blk.free 2
  go_wp2_with fail
  go_ret
  exact ⟨rfl, G2.out.setD D, og_trans H2.out (og g _ 2 _)⟩
set_option maxRecDepth 10000 in
set_option maxHeartbeats 1600000 in
theorem stmt_15 {L : List Nat} {d i i1 R T : Nat} (hd : d ≤ 100) (hp : pickM L i 16 = (15, i1)) (hsimple : Gn 41 L d T) (hT : T ≤ 1000000) (hR : T ≤ R) : Sn 21 L (d + 1) R i := by
  obtain ⟨S1, j1, S1p, S1b, C1⟩ := hsimple i1
  refine ⟨S1, j1, ?pos, by omega, fun w g lv hG => ?_⟩
  case pos => exact S1p
  have HG := Lib.hid hG
  have c2 : w.cell? ⟨g, 2, none⟩ = some (.int .i64 ((d + 1 : Nat) : Int)) := hG.blk.cell 2
  obtain ⟨D, hD⟩ : ∃ D, d + 1 = D := ⟨_, rfl⟩
  rw [hD] at c2 HG ⊢
  have t1 : ¬ (D : Int) ≤ 0 := by omega
  have t2 : ¬ D = 0 := by omega
  have wd : IntKind.i64.wrap ((D : Int) - 1) = (d : Int) := by rw [IntKind.wrap]; simp [IntKind.bits, IntKind.signed]; omega
  have wu : IntKind.i64.wrap ((d : Int) + 1) = (D : Int) := by rw [IntKind.wrap]; simp [IntKind.bits, IntKind.signed]; omega
  have f2 := hG.blk.free 2
  clear hG hR S1p S1b hD hd hT
  go_enter Tryd.func21, Tryd.ntmps21
  go_wp2_with fail
  refine (pick_at (HG.out.setD d) hp 15 rfl (by decide) (by decide)).mono ?_
  rintro e w1 ⟨rfl, hG1, ho1⟩
  have G1 := Lib.hid hG1
  have H1 := Lib.hid (og_trans (og g w 2 _) ho1)
  clear hG1 ho1 hp c2 f2 t1 t2 wd
  go_wp2_with fail
  refine (C1 _ g lv G1.out).mono ?_
  rintro e w2 ⟨rfl, hG2, ho2⟩
  have G2 := Lib.hid hG2
  have H2 := Lib.hid (og_trans H1.out ho2)
  clear hG2 ho2
  have c2 : w2.cell? ⟨g, 2, none⟩ = some (.int .i64 (d : Int)) := G2.out.blk.cell 2
  have f2 := G2.out.blk.free 2
  go_wp2_with fail
  go_ret
  exact ⟨rfl, G2.out.setD D, og_trans H2.out (og g _ 2 _)⟩
end Go.Proofs.YtbpdhpfcknaaiaaDoor

/- What stmt tells in its case 4. -/
set_option linter.unusedSimpArgs false
set_option linter.unusedVariables false
namespace Go.Proofs.YtbpdhpfcknaaiaaDoor
open Go.RowKit M

set_option maxRecDepth 10000 in
set_option maxHeartbeats 16000000 in
theorem stmt_4 {L : List Nat} {d i i1 R B2 : Nat} (hd : d ≤ 100) (hp : pickM L i 16 = (4, i1)) (hbody2 : Gb L d 2 B2) (hB2 : B2 ≤ 1000000) (hR : 14 + 7 + 4 + B2 + 4 ≤ R) : Sn 21 L (d + 1) R i := by
  have y0 : (⟨#[51]⟩ : ByteArray).size = 1 := rfl
  have y1 : (⟨#[106, 32, 77, 79, 68, 32, 53]⟩ : ByteArray).size = 7 := rfl
  have y2 : (⟨#[53]⟩ : ByteArray).size = 1 := rfl
  have y3 : (⟨#[70, 79, 82, 32, 105, 32, 58, 61, 32, 48, 32, 84, 79, 32]⟩ : ByteArray).size = 14 := rfl
  have y4 : (⟨#[32, 68, 79, 32]⟩ : ByteArray).size = 4 := rfl
  have y5 : (⟨#[32, 69, 78, 68]⟩ : ByteArray).size = 4 := rfl
  obtain ⟨p1, q1, hp1⟩ : ∃ p q, pickM L i1 3 = (p, q) := ⟨_, _, rfl⟩
  have p1lt : p1 < 3 := by have h := pickM_lt L i1 (n := 3) (by decide); rw [hp1] at h; exact h
  have p1a : (0 : Int) ≤ (p1 : Int) := Int.natCast_nonneg _
  have p1b : (p1 : Int) < 3 := by omega
  obtain ⟨X1, hX1⟩ : ∃ x, ([(⟨#[51]⟩ : ByteArray), (⟨#[106, 32, 77, 79, 68, 32, 53]⟩ : ByteArray), (⟨#[53]⟩ : ByteArray)] : List ByteArray).getD p1 ⟨#[]⟩ = x := ⟨_, rfl⟩
  have X1b : X1.size ≤ 7 := by rw [← hX1]; exact choice_le _ _ (by intro x hx; simp only [List.mem_cons, List.not_mem_nil, or_false] at hx; rcases hx with rfl | rfl | rfl <;> first | decide | (omega)) _
  have X1c : ((#[.string (⟨#[51]⟩ : ByteArray), .string (⟨#[106, 32, 77, 79, 68, 32, 53]⟩ : ByteArray), .string (⟨#[53]⟩ : ByteArray)] : Array Value))[p1]? = some (.string X1) := by rw [← hX1]; exact choice_cell [(⟨#[51]⟩ : ByteArray), (⟨#[106, 32, 77, 79, 68, 32, 53]⟩ : ByteArray), (⟨#[53]⟩ : ByteArray)] p1 p1lt
  have X1h := Lib.hid X1c
  obtain ⟨S1, j1, S1p, S1b, C1⟩ := hbody2 q1
  have z0 : ((⟨#[70, 79, 82, 32, 105, 32, 58, 61, 32, 48, 32, 84, 79, 32]⟩ : ByteArray) ++ X1).size = 14 + X1.size := by rw [ByteArray.size_append, y3]
  have kz0 : ¬ 9223372036854775807 < 14 + X1.size := by omega
  have z1 : (((⟨#[70, 79, 82, 32, 105, 32, 58, 61, 32, 48, 32, 84, 79, 32]⟩ : ByteArray) ++ X1) ++ (⟨#[32, 68, 79, 32]⟩ : ByteArray)).size = 14 + X1.size + 4 := by rw [ByteArray.size_append, z0, y4]
  have kz1 : ¬ 9223372036854775807 < 14 + X1.size + 4 := by omega
  have z2 : ((((⟨#[70, 79, 82, 32, 105, 32, 58, 61, 32, 48, 32, 84, 79, 32]⟩ : ByteArray) ++ X1) ++ (⟨#[32, 68, 79, 32]⟩ : ByteArray)) ++ S1).size = 14 + X1.size + 4 + S1.size := by rw [ByteArray.size_append, z1]
  have kz2 : ¬ 9223372036854775807 < 14 + X1.size + 4 + S1.size := by omega
  have z3 : (((((⟨#[70, 79, 82, 32, 105, 32, 58, 61, 32, 48, 32, 84, 79, 32]⟩ : ByteArray) ++ X1) ++ (⟨#[32, 68, 79, 32]⟩ : ByteArray)) ++ S1) ++ (⟨#[32, 69, 78, 68]⟩ : ByteArray)).size = 14 + X1.size + 4 + S1.size + 4 := by rw [ByteArray.size_append, z2, y5]
  have kz3 : ¬ 9223372036854775807 < 14 + X1.size + 4 + S1.size + 4 := by omega
  refine ⟨(((((⟨#[70, 79, 82, 32, 105, 32, 58, 61, 32, 48, 32, 84, 79, 32]⟩ : ByteArray) ++ X1) ++ (⟨#[32, 68, 79, 32]⟩ : ByteArray)) ++ S1) ++ (⟨#[32, 69, 78, 68]⟩ : ByteArray)), j1, ?pos, by rw [z3]; omega, fun w g lv hG => ?_⟩
  case pos => rw [z3]; omega
  have HG := Lib.hid hG
  have c2 : w.cell? ⟨g, 2, none⟩ = some (.int .i64 ((d + 1 : Nat) : Int)) := hG.blk.cell 2
  obtain ⟨D, hD⟩ : ∃ D, d + 1 = D := ⟨_, rfl⟩
  rw [hD] at c2 HG ⊢
  have t1 : ¬ (D : Int) ≤ 0 := by omega
  have t2 : ¬ D = 0 := by omega
  have wd : IntKind.i64.wrap ((D : Int) - 1) = (d : Int) := by rw [IntKind.wrap]; simp [IntKind.bits, IntKind.signed]; omega
  have wu : IntKind.i64.wrap ((d : Int) + 1) = (D : Int) := by rw [IntKind.wrap]; simp [IntKind.bits, IntKind.signed]; omega
  have f2 := hG.blk.free 2
  clear hG hR S1p S1b hX1 X1b X1c hD hd hB2
  go_enter Tryd.func21, Tryd.ntmps21
  go_wp2_with fail
  refine (pick_at (HG.out.setD d) hp 4 rfl (by decide) (by decide)).mono ?_
  rintro e w1 ⟨rfl, hG1, ho1⟩
  have G1 := Lib.hid hG1
  have H1 := Lib.hid (og_trans (og g w 2 _) ho1)
  clear hG1 ho1 hp c2 f2 t1 t2 wd
  go_upto_region 16 with fail
  have hgw := G1.out.blk.lt
  have hG := G1.out
  have hq : Only (M.One g) w1 w1.drew := (Only.refl (M.One g) w1).drew
  refine wp_region_T (fun w' => Only (M.One g) w1 w') [] (by kernel_rfl) ?_
  refine wpAnyT_sub (S' := fun w' => Only (M.One g) w1.drew w') (fun _ h => og_trans hq h) ?_
  replace hG := hG.go ((Only.refl Nil w1).drew)
  obtain ⟨wd, hwd⟩ : ∃ z, w1.drew = z := ⟨_, rfl⟩
  rw [hwd] at hq hG ⊢
  clear hwd
  refine wpAnyT_take 1 (v := ?_) rfl (by kernel_rfl) (by kernel_rfl) (by kernel_rfl) (fun _ _ _ h => h) (by kernel_rfl) (by kernel_rfl) (Or.inl ⟨by kernel_rfl, ?_⟩) (Only.refl (M.One g) _) ?_
  rotate_left
  · (intro w' hw'; go_simp; (try with_reducible rfl))
  refine wpAnyT_take 7 (v := ?_) rfl (by kernel_rfl) (by kernel_rfl) (by kernel_rfl) (fun _ _ _ h => h) (by kernel_rfl) (by kernel_rfl) (Or.inl ⟨by kernel_rfl, ?_⟩) (Only.refl (M.One g) _) ?_
  rotate_left
  · (intro w' hw'; go_simp; (try with_reducible rfl))
  refine wpAnyT_two (i := 0) (j := 2) rfl rfl (by kernel_rfl) (fun K hK => ?_) (fun K hK => ?_)
  · go_simp
    refine hK.out _ _ (fun _ => (Only.refl (M.One g) wd).alloc _) ?_
    clear hK K
    have q_0 := Blk.new wd #[.string (⟨#[51]⟩ : ByteArray), .string (⟨#[106, 32, 77, 79, 68, 32, 53]⟩ : ByteArray), .string (⟨#[53]⟩ : ByteArray)] 9
    have ho1x := alloc0 wd (.cells #[.string (⟨#[51]⟩ : ByteArray), .string (⟨#[106, 32, 77, 79, 68, 32, 53]⟩ : ByteArray), .string (⟨#[53]⟩ : ByteArray)] 9)
    replace hG := hG.go ho1x
    obtain ⟨b_0, hb_0⟩ : ∃ z, wd.heap.size = z := ⟨_, rfl⟩
    have ng_0 : ¬ M.One g b_0 := by
      intro h
      have h : b_0 = g := h
      have := hq.size
      omega
    obtain ⟨w1x, hw1x⟩ : ∃ z, wd.alloc (.cells #[.string (⟨#[51]⟩ : ByteArray), .string (⟨#[106, 32, 77, 79, 68, 32, 53]⟩ : ByteArray), .string (⟨#[53]⟩ : ByteArray)] 9) = z := ⟨_, rfl⟩
    rw [hb_0] at q_0 ⊢
    rw [hw1x] at q_0 ho1x hG  ⊢
    clear hb_0 hw1x
    refine wpAnyT_sub (S' := fun w' => Only (M.One g) w1x w') (fun _ h => og_trans (og_nil ho1x) h) ?_
    replace hq := og_trans hq (og_nil ho1x)
    clear ho1x
    refine wpAnyT_one (i := 2) rfl (by kernel_rfl) (fun K hK => ?_)
    go_simp
    go_wp2_with (go_at_call 20; refine (pick_at hG hp1 (p1 : Int) rfl (by decide) (by decide)).mono ?_; rintro e w2x ⟨rfl, hG2, ho2x⟩)
    refine hK.out _ _ (fun _ => ho2x) ?_
    clear hK K hG
    have hG := hG2
    clear hG2
    replace q_0 := q_0.kept ho2x ng_0
    refine wpAnyT_sub (S' := fun w' => Only (M.One g) w2x w') (fun _ h => og_trans ho2x h) ?_
    replace hq := og_trans hq ho2x
    clear ho2x
    refine wpAnyT_take 3 (v := ?_) rfl (by kernel_rfl) (by kernel_rfl) (by kernel_rfl) (fun _ _ _ h => h) (by kernel_rfl) (by kernel_rfl) (Or.inl ⟨by kernel_rfl, ?_⟩) (Only.refl (M.One g) _) ?_
    rotate_left
    · (intro w' hw'; go_simp; (try with_reducible rfl))
    refine wpAnyT_take 4 (v := ?_) rfl (by kernel_rfl) (by kernel_rfl) (by kernel_rfl) (fun _ _ _ h => h) (by kernel_rfl) (by kernel_rfl) (Or.inl ⟨by kernel_rfl, ?_⟩) (Only.refl (M.One g) _) ?_
    rotate_left
    · (intro w' hw'; have e0 := ((q_0.kept hw' ng_0).cell p1).trans X1h.out; go_simp; (try with_reducible rfl))
    refine wpAnyT_take 5 (v := ?_) rfl (by kernel_rfl) (by kernel_rfl) (by kernel_rfl) (fun _ _ _ h => h) (by kernel_rfl) (by kernel_rfl) (Or.inl ⟨by kernel_rfl, ?_⟩) (Only.refl (M.One g) _) ?_
    rotate_left
    · (intro w' hw'; go_simp; (try with_reducible rfl))
    refine wpAnyT_take 6 (v := ?_) rfl (by kernel_rfl) (by kernel_rfl) (by kernel_rfl) (fun _ _ _ h => h) (by kernel_rfl) (by kernel_rfl) (Or.inl ⟨by kernel_rfl, ?_⟩) (Only.refl (M.One g) _) ?_
    rotate_left
    · (intro w' hw'; go_simp; (try with_reducible rfl))
    refine wpAnyT_one (i := 8) rfl (by kernel_rfl) (fun K hK => ?_)
    go_simp
    go_wp2_with (go_at_call 12; refine (C1 _ g lv hG).mono ?_; rintro e w3x ⟨rfl, hG2, ho3x⟩)
    refine hK.out _ _ (fun _ => ho3x) ?_
    clear hK K hG
    have hG := hG2
    clear hG2
    replace q_0 := q_0.kept ho3x ng_0
    refine wpAnyT_sub (S' := fun w' => Only (M.One g) w3x w') (fun _ h => og_trans ho3x h) ?_
    replace hq := og_trans hq ho3x
    clear ho3x
    refine wpAnyT_take 9 (v := ?_) rfl (by kernel_rfl) (by kernel_rfl) (by kernel_rfl) (fun _ _ _ h => h) (by kernel_rfl) (by kernel_rfl) (Or.inl ⟨by kernel_rfl, ?_⟩) (Only.refl (M.One g) _) ?_
    rotate_left
    · (intro w' hw'; go_simp; (try with_reducible rfl))
    refine wpAnyT_take 10 (v := ?_) rfl (by kernel_rfl) (by kernel_rfl) (by kernel_rfl) (fun _ _ _ h => h) (by kernel_rfl) (by kernel_rfl) (Or.inl ⟨by kernel_rfl, ?_⟩) (Only.refl (M.One g) _) ?_
    rotate_left
    · (intro w' hw'; go_simp; (try with_reducible rfl))
    refine wpAnyT_take 11 (v := ?_) rfl (by kernel_rfl) (by kernel_rfl) (by kernel_rfl) (fun _ _ _ h => h) (by kernel_rfl) (by kernel_rfl) (Or.inl ⟨by kernel_rfl, ?_⟩) (Only.refl (M.One g) _) ?_
    rotate_left
    · (intro w' hw'; go_simp; (try with_reducible rfl))
    refine wpAnyT_done (by kernel_rfl) ?_
    have HQ := Lib.hid hq
    have HGE := Lib.hid hG
    clear q_0 ng_0
    have c2 : w3x.cell? ⟨g, 2, none⟩ = some (.int .i64 (d : Int)) := HGE.out.blk.cell 2
    have f2 := HGE.out.blk.free 2
    clear hq hG hgw
    go_wp2_with fail
    go_ret
    exact ⟨rfl, HGE.out.setD D, og_trans (og_trans H1.out HQ.out) (og g _ 2 _)⟩
  · go_simp
    go_wp2_with (go_at_call 20; refine (pick_at hG hp1 (p1 : Int) rfl (by decide) (by decide)).mono ?_; rintro e w1x ⟨rfl, hG2, ho1x⟩)
    refine hK.out _ _ (fun _ => ho1x) ?_
    clear hK K hG
    have hG := hG2
    clear hG2
    refine wpAnyT_sub (S' := fun w' => Only (M.One g) w1x w') (fun _ h => og_trans ho1x h) ?_
    replace hq := og_trans hq ho1x
    clear ho1x
    refine wpAnyT_two (i := 0) (j := 8) rfl rfl (by kernel_rfl) (fun K hK => ?_) (fun K hK => ?_)
    · go_simp
      refine hK.out _ _ (fun _ => (Only.refl (M.One g) w1x).alloc _) ?_
      clear hK K
      have q_0 := Blk.new w1x #[.string (⟨#[51]⟩ : ByteArray), .string (⟨#[106, 32, 77, 79, 68, 32, 53]⟩ : ByteArray), .string (⟨#[53]⟩ : ByteArray)] 9
      have ho2x := alloc0 w1x (.cells #[.string (⟨#[51]⟩ : ByteArray), .string (⟨#[106, 32, 77, 79, 68, 32, 53]⟩ : ByteArray), .string (⟨#[53]⟩ : ByteArray)] 9)
      replace hG := hG.go ho2x
      obtain ⟨b_0, hb_0⟩ : ∃ z, w1x.heap.size = z := ⟨_, rfl⟩
      have ng_0 : ¬ M.One g b_0 := by
        intro h
        have h : b_0 = g := h
        have := hq.size
        omega
      obtain ⟨w2x, hw2x⟩ : ∃ z, w1x.alloc (.cells #[.string (⟨#[51]⟩ : ByteArray), .string (⟨#[106, 32, 77, 79, 68, 32, 53]⟩ : ByteArray), .string (⟨#[53]⟩ : ByteArray)] 9) = z := ⟨_, rfl⟩
      rw [hb_0] at q_0 ⊢
      rw [hw2x] at q_0 ho2x hG  ⊢
      clear hb_0 hw2x
      refine wpAnyT_sub (S' := fun w' => Only (M.One g) w2x w') (fun _ h => og_trans (og_nil ho2x) h) ?_
      replace hq := og_trans hq (og_nil ho2x)
      clear ho2x
      refine wpAnyT_take 3 (v := ?_) rfl (by kernel_rfl) (by kernel_rfl) (by kernel_rfl) (fun _ _ _ h => h) (by kernel_rfl) (by kernel_rfl) (Or.inl ⟨by kernel_rfl, ?_⟩) (Only.refl (M.One g) _) ?_
      rotate_left
      · (intro w' hw'; go_simp; (try with_reducible rfl))
      refine wpAnyT_take 4 (v := ?_) rfl (by kernel_rfl) (by kernel_rfl) (by kernel_rfl) (fun _ _ _ h => h) (by kernel_rfl) (by kernel_rfl) (Or.inl ⟨by kernel_rfl, ?_⟩) (Only.refl (M.One g) _) ?_
      rotate_left
      · (intro w' hw'; have e0 := ((q_0.kept hw' ng_0).cell p1).trans X1h.out; go_simp; (try with_reducible rfl))
      refine wpAnyT_take 5 (v := ?_) rfl (by kernel_rfl) (by kernel_rfl) (by kernel_rfl) (fun _ _ _ h => h) (by kernel_rfl) (by kernel_rfl) (Or.inl ⟨by kernel_rfl, ?_⟩) (Only.refl (M.One g) _) ?_
      rotate_left
      · (intro w' hw'; go_simp; (try with_reducible rfl))
      refine wpAnyT_take 6 (v := ?_) rfl (by kernel_rfl) (by kernel_rfl) (by kernel_rfl) (fun _ _ _ h => h) (by kernel_rfl) (by kernel_rfl) (Or.inl ⟨by kernel_rfl, ?_⟩) (Only.refl (M.One g) _) ?_
      rotate_left
      · (intro w' hw'; go_simp; (try with_reducible rfl))
      refine wpAnyT_one (i := 8) rfl (by kernel_rfl) (fun K hK => ?_)
      go_simp
      go_wp2_with (go_at_call 12; refine (C1 _ g lv hG).mono ?_; rintro e w3x ⟨rfl, hG2, ho3x⟩)
      refine hK.out _ _ (fun _ => ho3x) ?_
      clear hK K hG
      have hG := hG2
      clear hG2
      replace q_0 := q_0.kept ho3x ng_0
      refine wpAnyT_sub (S' := fun w' => Only (M.One g) w3x w') (fun _ h => og_trans ho3x h) ?_
      replace hq := og_trans hq ho3x
      clear ho3x
      refine wpAnyT_take 9 (v := ?_) rfl (by kernel_rfl) (by kernel_rfl) (by kernel_rfl) (fun _ _ _ h => h) (by kernel_rfl) (by kernel_rfl) (Or.inl ⟨by kernel_rfl, ?_⟩) (Only.refl (M.One g) _) ?_
      rotate_left
      · (intro w' hw'; go_simp; (try with_reducible rfl))
      refine wpAnyT_take 10 (v := ?_) rfl (by kernel_rfl) (by kernel_rfl) (by kernel_rfl) (fun _ _ _ h => h) (by kernel_rfl) (by kernel_rfl) (Or.inl ⟨by kernel_rfl, ?_⟩) (Only.refl (M.One g) _) ?_
      rotate_left
      · (intro w' hw'; go_simp; (try with_reducible rfl))
      refine wpAnyT_take 11 (v := ?_) rfl (by kernel_rfl) (by kernel_rfl) (by kernel_rfl) (fun _ _ _ h => h) (by kernel_rfl) (by kernel_rfl) (Or.inl ⟨by kernel_rfl, ?_⟩) (Only.refl (M.One g) _) ?_
      rotate_left
      · (intro w' hw'; go_simp; (try with_reducible rfl))
      refine wpAnyT_done (by kernel_rfl) ?_
      have HQ := Lib.hid hq
      have HGE := Lib.hid hG
      clear q_0 ng_0
      have c2 : w3x.cell? ⟨g, 2, none⟩ = some (.int .i64 (d : Int)) := HGE.out.blk.cell 2
      have f2 := HGE.out.blk.free 2
      clear hq hG hgw
      go_wp2_with fail
      go_ret
      exact ⟨rfl, HGE.out.setD D, og_trans (og_trans H1.out HQ.out) (og g _ 2 _)⟩
    · go_simp
      go_wp2_with (go_at_call 12; refine (C1 _ g lv hG).mono ?_; rintro e w2x ⟨rfl, hG2, ho2x⟩)
      refine hK.out _ _ (fun _ => ho2x) ?_
      clear hK K hG
      have hG := hG2
      clear hG2
      refine wpAnyT_sub (S' := fun w' => Only (M.One g) w2x w') (fun _ h => og_trans ho2x h) ?_
      replace hq := og_trans hq ho2x
      clear ho2x
      refine wpAnyT_one (i := 0) rfl (by kernel_rfl) (fun K hK => ?_)
      go_simp
      refine hK.out _ _ (fun _ => (Only.refl (M.One g) w2x).alloc _) ?_
      clear hK K
      have q_0 := Blk.new w2x #[.string (⟨#[51]⟩ : ByteArray), .string (⟨#[106, 32, 77, 79, 68, 32, 53]⟩ : ByteArray), .string (⟨#[53]⟩ : ByteArray)] 9
      have ho3x := alloc0 w2x (.cells #[.string (⟨#[51]⟩ : ByteArray), .string (⟨#[106, 32, 77, 79, 68, 32, 53]⟩ : ByteArray), .string (⟨#[53]⟩ : ByteArray)] 9)
      replace hG := hG.go ho3x
      obtain ⟨b_0, hb_0⟩ : ∃ z, w2x.heap.size = z := ⟨_, rfl⟩
      have ng_0 : ¬ M.One g b_0 := by
        intro h
        have h : b_0 = g := h
        have := hq.size
        omega
      obtain ⟨w3x, hw3x⟩ : ∃ z, w2x.alloc (.cells #[.string (⟨#[51]⟩ : ByteArray), .string (⟨#[106, 32, 77, 79, 68, 32, 53]⟩ : ByteArray), .string (⟨#[53]⟩ : ByteArray)] 9) = z := ⟨_, rfl⟩
      rw [hb_0] at q_0 ⊢
      rw [hw3x] at q_0 ho3x hG  ⊢
      clear hb_0 hw3x
      refine wpAnyT_sub (S' := fun w' => Only (M.One g) w3x w') (fun _ h => og_trans (og_nil ho3x) h) ?_
      replace hq := og_trans hq (og_nil ho3x)
      clear ho3x
      refine wpAnyT_take 3 (v := ?_) rfl (by kernel_rfl) (by kernel_rfl) (by kernel_rfl) (fun _ _ _ h => h) (by kernel_rfl) (by kernel_rfl) (Or.inl ⟨by kernel_rfl, ?_⟩) (Only.refl (M.One g) _) ?_
      rotate_left
      · (intro w' hw'; go_simp; (try with_reducible rfl))
      refine wpAnyT_take 4 (v := ?_) rfl (by kernel_rfl) (by kernel_rfl) (by kernel_rfl) (fun _ _ _ h => h) (by kernel_rfl) (by kernel_rfl) (Or.inl ⟨by kernel_rfl, ?_⟩) (Only.refl (M.One g) _) ?_
      rotate_left
      · (intro w' hw'; have e0 := ((q_0.kept hw' ng_0).cell p1).trans X1h.out; go_simp; (try with_reducible rfl))
      refine wpAnyT_take 5 (v := ?_) rfl (by kernel_rfl) (by kernel_rfl) (by kernel_rfl) (fun _ _ _ h => h) (by kernel_rfl) (by kernel_rfl) (Or.inl ⟨by kernel_rfl, ?_⟩) (Only.refl (M.One g) _) ?_
      rotate_left
      · (intro w' hw'; go_simp; (try with_reducible rfl))
      refine wpAnyT_take 6 (v := ?_) rfl (by kernel_rfl) (by kernel_rfl) (by kernel_rfl) (fun _ _ _ h => h) (by kernel_rfl) (by kernel_rfl) (Or.inl ⟨by kernel_rfl, ?_⟩) (Only.refl (M.One g) _) ?_
      rotate_left
      · (intro w' hw'; go_simp; (try with_reducible rfl))
      refine wpAnyT_take 9 (v := ?_) rfl (by kernel_rfl) (by kernel_rfl) (by kernel_rfl) (fun _ _ _ h => h) (by kernel_rfl) (by kernel_rfl) (Or.inl ⟨by kernel_rfl, ?_⟩) (Only.refl (M.One g) _) ?_
      rotate_left
      · (intro w' hw'; go_simp; (try with_reducible rfl))
      refine wpAnyT_take 10 (v := ?_) rfl (by kernel_rfl) (by kernel_rfl) (by kernel_rfl) (fun _ _ _ h => h) (by kernel_rfl) (by kernel_rfl) (Or.inl ⟨by kernel_rfl, ?_⟩) (Only.refl (M.One g) _) ?_
      rotate_left
      · (intro w' hw'; go_simp; (try with_reducible rfl))
      refine wpAnyT_take 11 (v := ?_) rfl (by kernel_rfl) (by kernel_rfl) (by kernel_rfl) (fun _ _ _ h => h) (by kernel_rfl) (by kernel_rfl) (Or.inl ⟨by kernel_rfl, ?_⟩) (Only.refl (M.One g) _) ?_
      rotate_left
      · (intro w' hw'; go_simp; (try with_reducible rfl))
      refine wpAnyT_done (by kernel_rfl) ?_
      have HQ := Lib.hid hq
      have HGE := Lib.hid hG
      clear q_0 ng_0
      have c2 : w3x.cell? ⟨g, 2, none⟩ = some (.int .i64 (d : Int)) := HGE.out.blk.cell 2
      have f2 := HGE.out.blk.free 2
      clear hq hG hgw
      go_wp2_with fail
      go_ret
      exact ⟨rfl, HGE.out.setD D, og_trans (og_trans H1.out HQ.out) (og g _ 2 _)⟩
end Go.Proofs.YtbpdhpfcknaaiaaDoor

