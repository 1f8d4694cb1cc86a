/- What num tells, case by case. -/
import Derived.Test.YtbpdhpfcknaaiaaDoorEGen
import Derived.Test.YtbpdhpfcknaaiaaDoorGOrd
set_option linter.unusedSimpArgs false
set_option linter.unusedVariables false
namespace Go.Proofs.YtbpdhpfcknaaiaaDoor
open Go.RowKit M

set_option maxRecDepth 10000 in
set_option maxHeartbeats 1600000 in
theorem num_0 {L : List Nat} {d i i1 R  : Nat} (hd : d ≤ 100) (hp : pickM L i 20 = (0, i1)) (hleaf : Gn 52 L d 9) (hR : 9 ≤ R) : Sn 43 L (d + 1) R i := by
  obtain ⟨S1, j1, S1p, S1b, C1⟩ := hleaf i1
  refine ⟨S1, j1, ?pos, by omega, fun w g lv hG => ?_⟩
  case pos => exact S1p
  have HG := Lib.hid hG
  have c2 : w.cell? ⟨g, 2, none⟩ = some (.int .i64 ((d + 1 : Nat) : Int)) := hG.blk.cell 2
  obtain ⟨D, hD⟩ : ∃ D, d + 1 = D := ⟨_, rfl⟩
  rw [hD] at c2 HG ⊢
  have t1 : ¬ (D : Int) ≤ 0 := by omega
  have t2 : ¬ D = 0 := by omega
  have wd : IntKind.i64.wrap ((D : Int) - 1) = (d : Int) := by rw [IntKind.wrap]; simp [IntKind.bits, IntKind.signed]; omega
  have wu : IntKind.i64.wrap ((d : Int) + 1) = (D : Int) := by rw [IntKind.wrap]; simp [IntKind.bits, IntKind.signed]; omega
  have f2 := hG.blk.free 2
  clear hG hR S1p S1b hD hd
  go_enter Tryd.func43, Tryd.ntmps43
  go_wp2_with fail
  refine (pick_at (HG.out.setD d) hp 0 rfl (by decide) (by decide)).mono ?_
  rintro e w1 ⟨rfl, hG1, ho1⟩
  have G1 := Lib.hid hG1
  have H1 := Lib.hid (og_trans (og g w 2 _) ho1)
  clear hG1 ho1 hp c2 f2 t1 t2 wd
  go_wp2_with fail
  refine (C1 _ g lv G1.out).mono ?_
  rintro e w2 ⟨rfl, hG2, ho2⟩
  have G2 := Lib.hid hG2
  have H2 := Lib.hid (og_trans H1.out ho2)
  clear hG2 ho2
  have c2 : w2.cell? ⟨g, 2, none⟩ = some (.int .i64 (d : Int)) := G2.out.blk.cell 2
  have f2 := G2.out.blk.free 2
  go_wp2_with fail
  go_ret
  exact ⟨rfl, G2.out.setD D, og_trans H2.out (og g _ 2 _)⟩
set_option maxRecDepth 10000 in
set_option maxHeartbeats 1600000 in
theorem num_1 {L : List Nat} {d i i1 R  : Nat} (hd : d ≤ 100) (hp : pickM L i 20 = (1, i1)) (hleaf : Gn 52 L d 9) (hR : 9 ≤ R) : Sn 43 L (d + 1) R i := by
  obtain ⟨S1, j1, S1p, S1b, C1⟩ := hleaf i1
  refine ⟨S1, j1, ?pos, by omega, fun w g lv hG => ?_⟩
  case pos => exact S1p
  have HG := Lib.hid hG
  have c2 : w.cell? ⟨g, 2, none⟩ = some (.int .i64 ((d + 1 : Nat) : Int)) := hG.blk.cell 2
  obtain ⟨D, hD⟩ : ∃ D, d + 1 = D := ⟨_, rfl⟩
  rw [hD] at c2 HG ⊢
  have t1 : ¬ (D : Int) ≤ 0 := by omega
  have t2 : ¬ D = 0 := by omega
  have wd : IntKind.i64.wrap ((D : Int) - 1) = (d : Int) := by rw [IntKind.wrap]; simp [IntKind.bits, IntKind.signed]; omega
  have wu : IntKind.i64.wrap ((d : Int) + 1) = (D : Int) := by rw [IntKind.wrap]; simp [IntKind.bits, IntKind.signed]; omega
  have f2 := hG.blk.free 2
  clear hG hR S1p S1b hD hd
  go_enter Tryd.func43, Tryd.ntmps43
  go_wp2_with fail
  refine (pick_at (HG.out.setD d) hp 1 rfl (by decide) (by decide)).mono ?_
  rintro e w1 ⟨rfl, hG1, ho1⟩
  have G1 := Lib.hid hG1
  have H1 := Lib.hid (og_trans (og g w 2 _) ho1)
  clear hG1 ho1 hp c2 f2 t1 t2 wd
  go_wp2_with fail
  refine (C1 _ g lv G1.out).mono ?_
  rintro e w2 ⟨rfl, hG2, ho2⟩
  have G2 := Lib.hid hG2
  have H2 := Lib.hid (og_trans H1.out ho2)
  clear hG2 ho2
  have c2 : w2.cell? ⟨g, 2, none⟩ = some (.int .i64 (d : Int)) := G2.out.blk.cell 2
  have f2 := G2.out.blk.free 2
  go_wp2_with fail
  go_ret
  exact ⟨rfl, G2.out.setD D, og_trans H2.out (og g _ 2 _)⟩
set_option maxRecDepth 10000 in
set_option maxHeartbeats 1600000 in
theorem num_2 {L : List Nat} {d i i1 R  : Nat} (hd : d ≤ 100) (hp : pickM L i 20 = (2, i1)) (hleaf : Gn 52 L d 9) (hR : 9 ≤ R) : Sn 43 L (d + 1) R i := by
  obtain ⟨S1, j1, S1p, S1b, C1⟩ := hleaf i1
  refine ⟨S1, j1, ?pos, by omega, fun w g lv hG => ?_⟩
  case pos => exact S1p
  have HG := Lib.hid hG
  have c2 : w.cell? ⟨g, 2, none⟩ = some (.int .i64 ((d + 1 : Nat) : Int)) := hG.blk.cell 2
  obtain ⟨D, hD⟩ : ∃ D, d + 1 = D := ⟨_, rfl⟩
  rw [hD] at c2 HG ⊢
  have t1 : ¬ (D : Int) ≤ 0 := by omega
  have t2 : ¬ D = 0 := by omega
  have wd : IntKind.i64.wrap ((D : Int) - 1) = (d : Int) := by rw [IntKind.wrap]; simp [IntKind.bits, IntKind.signed]; omega
  have wu : IntKind.i64.wrap ((d : Int) + 1) = (D : Int) := by rw [IntKind.wrap]; simp [IntKind.bits, IntKind.signed]; omega
  have f2 := hG.blk.free 2
  clear hG hR S1p S1b hD hd
  go_enter Tryd.func43, Tryd.ntmps43
  go_wp2_with fail
  refine (pick_at (HG.out.setD d) hp 2 rfl (by decide) (by decide)).mono ?_
  rintro e w1 ⟨rfl, hG1, ho1⟩
  have G1 := Lib.hid hG1
  have H1 := Lib.hid (og_trans (og g w 2 _) ho1)
  clear hG1 ho1 hp c2 f2 t1 t2 wd
  go_wp2_with fail
  refine (C1 _ g lv G1.out).mono ?_
  rintro e w2 ⟨rfl, hG2, ho2⟩
  have G2 := Lib.hid hG2
  have H2 := Lib.hid (og_trans H1.out ho2)
  clear hG2 ho2
  have c2 : w2.cell? ⟨g, 2, none⟩ = some (.int .i64 (d : Int)) := G2.out.blk.cell 2
  have f2 := G2.out.blk.free 2
  go_wp2_with fail
  go_ret
  exact ⟨rfl, G2.out.setD D, og_trans H2.out (og g _ 2 _)⟩
set_option maxRecDepth 10000 in
set_option maxHeartbeats 1600000 in
theorem num_3 {L : List Nat} {d i i1 R  : Nat} (hd : d ≤ 100) (hp : pickM L i 20 = (3, i1)) (hleaf : Gn 52 L d 9) (hR : 9 ≤ R) : Sn 43 L (d + 1) R i := by
  obtain ⟨S1, j1, S1p, S1b, C1⟩ := hleaf i1
  refine ⟨S1, j1, ?pos, by omega, fun w g lv hG => ?_⟩
  case pos => exact S1p
  have HG := Lib.hid hG
  have c2 : w.cell? ⟨g, 2, none⟩ = some (.int .i64 ((d + 1 : Nat) : Int)) := hG.blk.cell 2
  obtain ⟨D, hD⟩ : ∃ D, d + 1 = D := ⟨_, rfl⟩
  rw [hD] at c2 HG ⊢
  have t1 : ¬ (D : Int) ≤ 0 := by omega
  have t2 : ¬ D = 0 := by omega
  have wd : IntKind.i64.wrap ((D : Int) - 1) = (d : Int) := by rw [IntKind.wrap]; simp [IntKind.bits, IntKind.signed]; omega
  have wu : IntKind.i64.wrap ((d : Int) + 1) = (D : Int) := by rw [IntKind.wrap]; simp [IntKind.bits, IntKind.signed]; omega
  have f2 := hG.blk.free 2
  clear hG hR S1p S1b hD hd
  go_enter Tryd.func43, Tryd.ntmps43
  go_wp2_with fail
  refine (pick_at (HG.out.setD d) hp 3 rfl (by decide) (by decide)).mono ?_
  rintro e w1 ⟨rfl, hG1, ho1⟩
  have G1 := Lib.hid hG1
  have H1 := Lib.hid (og_trans (og g w 2 _) ho1)
  clear hG1 ho1 hp c2 f2 t1 t2 wd
  go_wp2_with fail
  refine (C1 _ g lv G1.out).mono ?_
  rintro e w2 ⟨rfl, hG2, ho2⟩
  have G2 := Lib.hid hG2
  have H2 := Lib.hid (og_trans H1.out ho2)
  clear hG2 ho2
  have c2 : w2.cell? ⟨g, 2, none⟩ = some (.int .i64 (d : Int)) := G2.out.blk.cell 2
  have f2 := G2.out.blk.free 2
  go_wp2_with fail
  go_ret
  exact ⟨rfl, G2.out.setD D, og_trans H2.out (og g _ 2 _)⟩
set_option maxRecDepth 10000 in
set_option maxHeartbeats 1600000 in
theorem num_4 {L : List Nat} {d i i1 R N : Nat} (hd : d ≤ 100) (hp : pickM L i 20 = (4, i1)) (hnum : Gn 43 L d N) (hN : N ≤ 1000000) (hR : 1 + N + 3 + N + 1 ≤ R) : Sn 43 L (d + 1) R i := by
  have y0 : (⟨#[40]⟩ : ByteArray).size = 1 := rfl
  have y1 : (⟨#[32, 43, 32]⟩ : ByteArray).size = 3 := rfl
  have y2 : (⟨#[41]⟩ : ByteArray).size = 1 := rfl
  obtain ⟨S1, j1, S1p, S1b, C1⟩ := hnum i1
  obtain ⟨S2, j2, S2p, S2b, C2⟩ := hnum j1
  have z0 : ((⟨#[40]⟩ : ByteArray) ++ S1).size = 1 + S1.size := by rw [ByteArray.size_append, y0]
  have kz0 : ¬ 9223372036854775807 < 1 + S1.size := by omega
  have z1 : (((⟨#[40]⟩ : ByteArray) ++ S1) ++ (⟨#[32, 43, 32]⟩ : ByteArray)).size = 1 + S1.size + 3 := by rw [ByteArray.size_append, z0, y1]
  have kz1 : ¬ 9223372036854775807 < 1 + S1.size + 3 := by omega
  have z2 : ((((⟨#[40]⟩ : ByteArray) ++ S1) ++ (⟨#[32, 43, 32]⟩ : ByteArray)) ++ S2).size = 1 + S1.size + 3 + S2.size := by rw [ByteArray.size_append, z1]
  have kz2 : ¬ 9223372036854775807 < 1 + S1.size + 3 + S2.size := by omega
  have z3 : (((((⟨#[40]⟩ : ByteArray) ++ S1) ++ (⟨#[32, 43, 32]⟩ : ByteArray)) ++ S2) ++ (⟨#[41]⟩ : ByteArray)).size = 1 + S1.size + 3 + S2.size + 1 := by rw [ByteArray.size_append, z2, y2]
  have kz3 : ¬ 9223372036854775807 < 1 + S1.size + 3 + S2.size + 1 := by omega
  refine ⟨(((((⟨#[40]⟩ : ByteArray) ++ S1) ++ (⟨#[32, 43, 32]⟩ : ByteArray)) ++ S2) ++ (⟨#[41]⟩ : ByteArray)), j2, ?pos, by rw [z3]; omega, fun w g lv hG => ?_⟩
  case pos => rw [z3]; omega
  have HG := Lib.hid hG
  have c2 : w.cell? ⟨g, 2, none⟩ = some (.int .i64 ((d + 1 : Nat) : Int)) := hG.blk.cell 2
  obtain ⟨D, hD⟩ : ∃ D, d + 1 = D := ⟨_, rfl⟩
  rw [hD] at c2 HG ⊢
  have t1 : ¬ (D : Int) ≤ 0 := by omega
  have t2 : ¬ D = 0 := by omega
  have wd : IntKind.i64.wrap ((D : Int) - 1) = (d : Int) := by rw [IntKind.wrap]; simp [IntKind.bits, IntKind.signed]; omega
  have wu : IntKind.i64.wrap ((d : Int) + 1) = (D : Int) := by rw [IntKind.wrap]; simp [IntKind.bits, IntKind.signed]; omega
  have f2 := hG.blk.free 2
  clear hG hR S1p S1b S2p S2b hD hd hN
  go_enter Tryd.func43, Tryd.ntmps43
  go_wp2_with fail
  refine (pick_at (HG.out.setD d) hp 4 rfl (by decide) (by decide)).mono ?_
  rintro e w1 ⟨rfl, hG1, ho1⟩
  have G1 := Lib.hid hG1
  have H1 := Lib.hid (og_trans (og g w 2 _) ho1)
  clear hG1 ho1 hp c2 f2 t1 t2 wd
  go_wp2_with fail
  refine (C1 _ g lv G1.out).mono ?_
  rintro e w2 ⟨rfl, hG2, ho2⟩
  have G2 := Lib.hid hG2
  have H2 := Lib.hid (og_trans H1.out ho2)
  clear hG2 ho2
  go_wp2_with fail
  refine (C2 _ g lv G2.out).mono ?_
  rintro e w3 ⟨rfl, hG3, ho3⟩
  have G3 := Lib.hid hG3
  have H3 := Lib.hid (og_trans H2.out ho3)
  clear hG3 ho3
  have c2 : w3.cell? ⟨g, 2, none⟩ = some (.int .i64 (d : Int)) := G3.out.blk.cell 2
  have f2 := G3.out.blk.free 2
  go_wp2_with fail
  go_ret
  exact ⟨rfl, G3.out.setD D, og_trans H3.out (og g _ 2 _)⟩
set_option maxRecDepth 10000 in
set_option maxHeartbeats 1600000 in
theorem num_5 {L : List Nat} {d i i1 R N : Nat} (hd : d ≤ 100) (hp : pickM L i 20 = (5, i1)) (hnum : Gn 43 L d N) (hN : N ≤ 1000000) (hR : 1 + N + 3 + N + 1 ≤ R) : Sn 43 L (d + 1) R i := by
  have y0 : (⟨#[40]⟩ : ByteArray).size = 1 := rfl
  have y1 : (⟨#[32, 45, 32]⟩ : ByteArray).size = 3 := rfl
  have y2 : (⟨#[41]⟩ : ByteArray).size = 1 := rfl
  obtain ⟨S1, j1, S1p, S1b, C1⟩ := hnum i1
  obtain ⟨S2, j2, S2p, S2b, C2⟩ := hnum j1
  have z0 : ((⟨#[40]⟩ : ByteArray) ++ S1).size = 1 + S1.size := by rw [ByteArray.size_append, y0]
  have kz0 : ¬ 9223372036854775807 < 1 + S1.size := by omega
  have z1 : (((⟨#[40]⟩ : ByteArray) ++ S1) ++ (⟨#[32, 45, 32]⟩ : ByteArray)).size = 1 + S1.size + 3 := by rw [ByteArray.size_append, z0, y1]
  have kz1 : ¬ 9223372036854775807 < 1 + S1.size + 3 := by omega
  have z2 : ((((⟨#[40]⟩ : ByteArray) ++ S1) ++ (⟨#[32, 45, 32]⟩ : ByteArray)) ++ S2).size = 1 + S1.size + 3 + S2.size := by rw [ByteArray.size_append, z1]
  have kz2 : ¬ 9223372036854775807 < 1 + S1.size + 3 + S2.size := by omega
  have z3 : (((((⟨#[40]⟩ : ByteArray) ++ S1) ++ (⟨#[32, 45, 32]⟩ : ByteArray)) ++ S2) ++ (⟨#[41]⟩ : ByteArray)).size = 1 + S1.size + 3 + S2.size + 1 := by rw [ByteArray.size_append, z2, y2]
  have kz3 : ¬ 9223372036854775807 < 1 + S1.size + 3 + S2.size + 1 := by omega
  refine ⟨(((((⟨#[40]⟩ : ByteArray) ++ S1) ++ (⟨#[32, 45, 32]⟩ : ByteArray)) ++ S2) ++ (⟨#[41]⟩ : ByteArray)), j2, ?pos, by rw [z3]; omega, fun w g lv hG => ?_⟩
  case pos => rw [z3]; omega
  have HG := Lib.hid hG
  have c2 : w.cell? ⟨g, 2, none⟩ = some (.int .i64 ((d + 1 : Nat) : Int)) := hG.blk.cell 2
  obtain ⟨D, hD⟩ : ∃ D, d + 1 = D := ⟨_, rfl⟩
  rw [hD] at c2 HG ⊢
  have t1 : ¬ (D : Int) ≤ 0 := by omega
  have t2 : ¬ D = 0 := by omega
  have wd : IntKind.i64.wrap ((D : Int) - 1) = (d : Int) := by rw [IntKind.wrap]; simp [IntKind.bits, IntKind.signed]; omega
  have wu : IntKind.i64.wrap ((d : Int) + 1) = (D : Int) := by rw [IntKind.wrap]; simp [IntKind.bits, IntKind.signed]; omega
  have f2 := hG.blk.free 2
  clear hG hR S1p S1b S2p S2b hD hd hN
  go_enter Tryd.func43, Tryd.ntmps43
  go_wp2_with fail
  refine (pick_at (HG.out.setD d) hp 5 rfl (by decide) (by decide)).mono ?_
  rintro e w1 ⟨rfl, hG1, ho1⟩
  have G1 := Lib.hid hG1
  have H1 := Lib.hid (og_trans (og g w 2 _) ho1)
  clear hG1 ho1 hp c2 f2 t1 t2 wd
  go_wp2_with fail
  refine (C1 _ g lv G1.out).mono ?_
  rintro e w2 ⟨rfl, hG2, ho2⟩
  have G2 := Lib.hid hG2
  have H2 := Lib.hid (og_trans H1.out ho2)
  clear hG2 ho2
  go_wp2_with fail
  refine (C2 _ g lv G2.out).mono ?_
  rintro e w3 ⟨rfl, hG3, ho3⟩
  have G3 := Lib.hid hG3
  have H3 := Lib.hid (og_trans H2.out ho3)
  clear hG3 ho3
  have c2 : w3.cell? ⟨g, 2, none⟩ = some (.int .i64 (d : Int)) := G3.out.blk.cell 2
  have f2 := G3.out.blk.free 2
  go_wp2_with fail
  go_ret
  exact ⟨rfl, G3.out.setD D, og_trans H3.out (og g _ 2 _)⟩
set_option maxRecDepth 10000 in
set_option maxHeartbeats 1600000 in
theorem num_6 {L : List Nat} {d i i1 R N : Nat} (hd : d ≤ 100) (hp : pickM L i 20 = (6, i1)) (hnum : Gn 43 L d N) (hN : N ≤ 1000000) (hR : 1 + N + 3 + N + 1 ≤ R) : Sn 43 L (d + 1) R i := by
  have y0 : (⟨#[40]⟩ : ByteArray).size = 1 := rfl
  have y1 : (⟨#[32, 42, 32]⟩ : ByteArray).size = 3 := rfl
  have y2 : (⟨#[41]⟩ : ByteArray).size = 1 := rfl
  obtain ⟨S1, j1, S1p, S1b, C1⟩ := hnum i1
  obtain ⟨S2, j2, S2p, S2b, C2⟩ := hnum j1
  have z0 : ((⟨#[40]⟩ : ByteArray) ++ S1).size = 1 + S1.size := by rw [ByteArray.size_append, y0]
  have kz0 : ¬ 9223372036854775807 < 1 + S1.size := by omega
  have z1 : (((⟨#[40]⟩ : ByteArray) ++ S1) ++ (⟨#[32, 42, 32]⟩ : ByteArray)).size = 1 + S1.size + 3 := by rw [ByteArray.size_append, z0, y1]
  have kz1 : ¬ 9223372036854775807 < 1 + S1.size + 3 := by omega
  have z2 : ((((⟨#[40]⟩ : ByteArray) ++ S1) ++ (⟨#[32, 42, 32]⟩ : ByteArray)) ++ S2).size = 1 + S1.size + 3 + S2.size := by rw [ByteArray.size_append, z1]
  have kz2 : ¬ 9223372036854775807 < 1 + S1.size + 3 + S2.size := by omega
  have z3 : (((((⟨#[40]⟩ : ByteArray) ++ S1) ++ (⟨#[32, 42, 32]⟩ : ByteArray)) ++ S2) ++ (⟨#[41]⟩ : ByteArray)).size = 1 + S1.size + 3 + S2.size + 1 := by rw [ByteArray.size_append, z2, y2]
  have kz3 : ¬ 9223372036854775807 < 1 + S1.size + 3 + S2.size + 1 := by omega
  refine ⟨(((((⟨#[40]⟩ : ByteArray) ++ S1) ++ (⟨#[32, 42, 32]⟩ : ByteArray)) ++ S2) ++ (⟨#[41]⟩ : ByteArray)), j2, ?pos, by rw [z3]; omega, fun w g lv hG => ?_⟩
  case pos => rw [z3]; omega
  have HG := Lib.hid hG
  have c2 : w.cell? ⟨g, 2, none⟩ = some (.int .i64 ((d + 1 : Nat) : Int)) := hG.blk.cell 2
  obtain ⟨D, hD⟩ : ∃ D, d + 1 = D := ⟨_, rfl⟩
  rw [hD] at c2 HG ⊢
  have t1 : ¬ (D : Int) ≤ 0 := by omega
  have t2 : ¬ D = 0 := by omega
  have wd : IntKind.i64.wrap ((D : Int) - 1) = (d : Int) := by rw [IntKind.wrap]; simp [IntKind.bits, IntKind.signed]; omega
  have wu : IntKind.i64.wrap ((d : Int) + 1) = (D : Int) := by rw [IntKind.wrap]; simp [IntKind.bits, IntKind.signed]; omega
  have f2 := hG.blk.free 2
  clear hG hR S1p S1b S2p S2b hD hd hN
  go_enter Tryd.func43, Tryd.ntmps43
  go_wp2_with fail
  refine (pick_at (HG.out.setD d) hp 6 rfl (by decide) (by decide)).mono ?_
  rintro e w1 ⟨rfl, hG1, ho1⟩
  have G1 := Lib.hid hG1
  have H1 := Lib.hid (og_trans (og g w 2 _) ho1)
  clear hG1 ho1 hp c2 f2 t1 t2 wd
  go_wp2_with fail
  refine (C1 _ g lv G1.out).mono ?_
  rintro e w2 ⟨rfl, hG2, ho2⟩
  have G2 := Lib.hid hG2
  have H2 := Lib.hid (og_trans H1.out ho2)
  clear hG2 ho2
  go_wp2_with fail
  refine (C2 _ g lv G2.out).mono ?_
  rintro e w3 ⟨rfl, hG3, ho3⟩
  have G3 := Lib.hid hG3
  have H3 := Lib.hid (og_trans H2.out ho3)
  clear hG3 ho3
  have c2 : w3.cell? ⟨g, 2, none⟩ = some (.int .i64 (d : Int)) := G3.out.blk.cell 2
  have f2 := G3.out.blk.free 2
  go_wp2_with fail
  go_ret
  exact ⟨rfl, G3.out.setD D, og_trans H3.out (og g _ 2 _)⟩
set_option maxRecDepth 10000 in
set_option maxHeartbeats 1600000 in
theorem num_7 {L : List Nat} {d i i1 R N : Nat} (hd : d ≤ 100) (hp : pickM L i 20 = (7, i1)) (hnum : Gn 43 L d N) (hN : N ≤ 1000000) (hR : 1 + N + 5 + 1 + 1 ≤ R) : Sn 43 L (d + 1) R i := by
  have y0 : (⟨#[40]⟩ : ByteArray).size = 1 := rfl
  have y1 : (⟨#[32, 68, 73, 86, 32]⟩ : ByteArray).size = 5 := rfl
  have y2 : (⟨#[50]⟩ : ByteArray).size = 1 := rfl
  have y3 : (⟨#[51]⟩ : ByteArray).size = 1 := rfl
  have y4 : (⟨#[55]⟩ : ByteArray).size = 1 := rfl
  have y5 : (⟨#[110]⟩ : ByteArray).size = 1 := rfl
  have y6 : (⟨#[41]⟩ : ByteArray).size = 1 := rfl
  obtain ⟨S1, j1, S1p, S1b, C1⟩ := hnum i1
  obtain ⟨p1, q1, hp1⟩ : ∃ p q, pickM L j1 4 = (p, q) := ⟨_, _, rfl⟩
  have p1lt : p1 < 4 := by have h := pickM_lt L j1 (n := 4) (by decide); rw [hp1] at h; exact h
  have p1a : (0 : Int) ≤ (p1 : Int) := Int.natCast_nonneg _
  have p1b : (p1 : Int) < 4 := by omega
  obtain ⟨X1, hX1⟩ : ∃ x, ([(⟨#[50]⟩ : ByteArray), (⟨#[51]⟩ : ByteArray), (⟨#[55]⟩ : ByteArray), (⟨#[110]⟩ : ByteArray)] : List ByteArray).getD p1 ⟨#[]⟩ = x := ⟨_, rfl⟩
  have X1b : X1.size ≤ 1 := by rw [← hX1]; exact choice_le _ _ (by intro x hx; simp only [List.mem_cons, List.not_mem_nil, or_false] at hx; rcases hx with rfl | rfl | rfl | rfl <;> first | decide | (omega)) _
  have X1c : ((#[.string (⟨#[50]⟩ : ByteArray), .string (⟨#[51]⟩ : ByteArray), .string (⟨#[55]⟩ : ByteArray), .string (⟨#[110]⟩ : ByteArray)] : Array Value))[p1]? = some (.string X1) := by rw [← hX1]; exact choice_cell [(⟨#[50]⟩ : ByteArray), (⟨#[51]⟩ : ByteArray), (⟨#[55]⟩ : ByteArray), (⟨#[110]⟩ : ByteArray)] p1 p1lt
  have X1h := Lib.hid X1c
  have z0 : ((⟨#[40]⟩ : ByteArray) ++ S1).size = 1 + S1.size := by rw [ByteArray.size_append, y0]
  have kz0 : ¬ 9223372036854775807 < 1 + S1.size := by omega
  have z1 : (((⟨#[40]⟩ : ByteArray) ++ S1) ++ (⟨#[32, 68, 73, 86, 32]⟩ : ByteArray)).size = 1 + S1.size + 5 := by rw [ByteArray.size_append, z0, y1]
  have kz1 : ¬ 9223372036854775807 < 1 + S1.size + 5 := by omega
  have z2 : ((((⟨#[40]⟩ : ByteArray) ++ S1) ++ (⟨#[32, 68, 73, 86, 32]⟩ : ByteArray)) ++ X1).size = 1 + S1.size + 5 + X1.size := by rw [ByteArray.size_append, z1]
  have kz2 : ¬ 9223372036854775807 < 1 + S1.size + 5 + X1.size := by omega
  have z3 : (((((⟨#[40]⟩ : ByteArray) ++ S1) ++ (⟨#[32, 68, 73, 86, 32]⟩ : ByteArray)) ++ X1) ++ (⟨#[41]⟩ : ByteArray)).size = 1 + S1.size + 5 + X1.size + 1 := by rw [ByteArray.size_append, z2, y6]
  have kz3 : ¬ 9223372036854775807 < 1 + S1.size + 5 + X1.size + 1 := by omega
  refine ⟨(((((⟨#[40]⟩ : ByteArray) ++ S1) ++ (⟨#[32, 68, 73, 86, 32]⟩ : ByteArray)) ++ X1) ++ (⟨#[41]⟩ : ByteArray)), q1, ?pos, by rw [z3]; omega, fun w g lv hG => ?_⟩
  case pos => rw [z3]; omega
  have HG := Lib.hid hG
  have c2 : w.cell? ⟨g, 2, none⟩ = some (.int .i64 ((d + 1 : Nat) : Int)) := hG.blk.cell 2
  obtain ⟨D, hD⟩ : ∃ D, d + 1 = D := ⟨_, rfl⟩
  rw [hD] at c2 HG ⊢
  have t1 : ¬ (D : Int) ≤ 0 := by omega
  have t2 : ¬ D = 0 := by omega
  have wd : IntKind.i64.wrap ((D : Int) - 1) = (d : Int) := by rw [IntKind.wrap]; simp [IntKind.bits, IntKind.signed]; omega
  have wu : IntKind.i64.wrap ((d : Int) + 1) = (D : Int) := by rw [IntKind.wrap]; simp [IntKind.bits, IntKind.signed]; omega
  have f2 := hG.blk.free 2
  clear hG hR S1p S1b hX1 X1b X1c hD hd hN
  go_enter Tryd.func43, Tryd.ntmps43
  go_wp2_with fail
  refine (pick_at (HG.out.setD d) hp 7 rfl (by decide) (by decide)).mono ?_
  rintro e w1 ⟨rfl, hG1, ho1⟩
  have G1 := Lib.hid hG1
  have H1 := Lib.hid (og_trans (og g w 2 _) ho1)
  clear hG1 ho1 hp c2 f2 t1 t2 wd
  go_wp2_with fail
  refine (C1 _ g lv G1.out).mono ?_
  rintro e w2 ⟨rfl, hG2, ho2⟩
  have G2 := Lib.hid hG2
  have H2 := Lib.hid (og_trans H1.out ho2)
  clear hG2 ho2
  go_wp2_with fail
  refine (pick_at (G2.out.go (alloc0 w2 _)) hp1 (p1 : Int) rfl (by decide) (by decide)).mono ?_
  rintro e w3 ⟨rfl, hG3, ho3⟩
  have G3 := Lib.hid hG3
  have H3 := Lib.hid (og_trans H2.out (og_trans (og_nil (alloc0 w2 _)) ho3))
  have cellX1 : w3.cell? ⟨w2.heap.size, p1, none⟩ = some (.string X1) := by
    have h := ((Blk.new w2 #[.string (⟨#[50]⟩ : ByteArray), .string (⟨#[51]⟩ : ByteArray), .string (⟨#[55]⟩ : ByteArray), .string (⟨#[110]⟩ : ByteArray)] 9).kept ho3 (fun h => absurd (show w2.heap.size = g from h) (Nat.ne_of_gt G2.out.blk.lt))).cell p1
    rw [h]; exact X1h.out
  have p1c := p1lt
  clear hG3 ho3
  have c2 : w3.cell? ⟨g, 2, none⟩ = some (.int .i64 (d : Int)) := G3.out.blk.cell 2
  have f2 := G3.out.blk.free 2
  go_wp2_with fail
  go_ret
  exact ⟨rfl, G3.out.setD D, og_trans H3.out (og g _ 2 _)⟩
set_option maxRecDepth 10000 in
set_option maxHeartbeats 1600000 in
theorem num_8 {L : List Nat} {d i i1 R N : Nat} (hd : d ≤ 100) (hp : pickM L i 20 = (8, i1)) (hnum : Gn 43 L d N) (hN : N ≤ 1000000) (hR : 1 + N + 5 + 1 + 1 ≤ R) : Sn 43 L (d + 1) R i := by
  have y0 : (⟨#[40]⟩ : ByteArray).size = 1 := rfl
  have y1 : (⟨#[32, 77, 79, 68, 32]⟩ : ByteArray).size = 5 := rfl
  have y2 : (⟨#[52]⟩ : ByteArray).size = 1 := rfl
  have y3 : (⟨#[53]⟩ : ByteArray).size = 1 := rfl
  have y4 : (⟨#[110]⟩ : ByteArray).size = 1 := rfl
  have y5 : (⟨#[41]⟩ : ByteArray).size = 1 := rfl
  obtain ⟨S1, j1, S1p, S1b, C1⟩ := hnum i1
  obtain ⟨p1, q1, hp1⟩ : ∃ p q, pickM L j1 3 = (p, q) := ⟨_, _, rfl⟩
  have p1lt : p1 < 3 := by have h := pickM_lt L j1 (n := 3) (by decide); rw [hp1] at h; exact h
  have p1a : (0 : Int) ≤ (p1 : Int) := Int.natCast_nonneg _
  have p1b : (p1 : Int) < 3 := by omega
  obtain ⟨X1, hX1⟩ : ∃ x, ([(⟨#[52]⟩ : ByteArray), (⟨#[53]⟩ : ByteArray), (⟨#[110]⟩ : ByteArray)] : List ByteArray).getD p1 ⟨#[]⟩ = x := ⟨_, rfl⟩
  have X1b : X1.size ≤ 1 := by rw [← hX1]; exact choice_le _ _ (by intro x hx; simp only [List.mem_cons, List.not_mem_nil, or_false] at hx; rcases hx with rfl | rfl | rfl <;> first | decide | (omega)) _
  have X1c : ((#[.string (⟨#[52]⟩ : ByteArray), .string (⟨#[53]⟩ : ByteArray), .string (⟨#[110]⟩ : ByteArray)] : Array Value))[p1]? = some (.string X1) := by rw [← hX1]; exact choice_cell [(⟨#[52]⟩ : ByteArray), (⟨#[53]⟩ : ByteArray), (⟨#[110]⟩ : ByteArray)] p1 p1lt
  have X1h := Lib.hid X1c
  have z0 : ((⟨#[40]⟩ : ByteArray) ++ S1).size = 1 + S1.size := by rw [ByteArray.size_append, y0]
  have kz0 : ¬ 9223372036854775807 < 1 + S1.size := by omega
  have z1 : (((⟨#[40]⟩ : ByteArray) ++ S1) ++ (⟨#[32, 77, 79, 68, 32]⟩ : ByteArray)).size = 1 + S1.size + 5 := by rw [ByteArray.size_append, z0, y1]
  have kz1 : ¬ 9223372036854775807 < 1 + S1.size + 5 := by omega
  have z2 : ((((⟨#[40]⟩ : ByteArray) ++ S1) ++ (⟨#[32, 77, 79, 68, 32]⟩ : ByteArray)) ++ X1).size = 1 + S1.size + 5 + X1.size := by rw [ByteArray.size_append, z1]
  have kz2 : ¬ 9223372036854775807 < 1 + S1.size + 5 + X1.size := by omega
  have z3 : (((((⟨#[40]⟩ : ByteArray) ++ S1) ++ (⟨#[32, 77, 79, 68, 32]⟩ : ByteArray)) ++ X1) ++ (⟨#[41]⟩ : ByteArray)).size = 1 + S1.size + 5 + X1.size + 1 := by rw [ByteArray.size_append, z2, y5]
  have kz3 : ¬ 9223372036854775807 < 1 + S1.size + 5 + X1.size + 1 := by omega
  refine ⟨(((((⟨#[40]⟩ : ByteArray) ++ S1) ++ (⟨#[32, 77, 79, 68, 32]⟩ : ByteArray)) ++ X1) ++ (⟨#[41]⟩ : ByteArray)), q1, ?pos, by rw [z3]; omega, fun w g lv hG => ?_⟩
  case pos => rw [z3]; omega
  have HG := Lib.hid hG
  have c2 : w.cell? ⟨g, 2, none⟩ = some (.int .i64 ((d + 1 : Nat) : Int)) := hG.blk.cell 2
  obtain ⟨D, hD⟩ : ∃ D, d + 1 = D := ⟨_, rfl⟩
  rw [hD] at c2 HG ⊢
  have t1 : ¬ (D : Int) ≤ 0 := by omega
  have t2 : ¬ D = 0 := by omega
  have wd : IntKind.i64.wrap ((D : Int) - 1) = (d : Int) := by rw [IntKind.wrap]; simp [IntKind.bits, IntKind.signed]; omega
  have wu : IntKind.i64.wrap ((d : Int) + 1) = (D : Int) := by rw [IntKind.wrap]; simp [IntKind.bits, IntKind.signed]; omega
  have f2 := hG.blk.free 2
  clear hG hR S1p S1b hX1 X1b X1c hD hd hN
  go_enter Tryd.func43, Tryd.ntmps43
  go_wp2_with fail
  refine (pick_at (HG.out.setD d) hp 8 rfl (by decide) (by decide)).mono ?_
  rintro e w1 ⟨rfl, hG1, ho1⟩
  have G1 := Lib.hid hG1
  have H1 := Lib.hid (og_trans (og g w 2 _) ho1)
  clear hG1 ho1 hp c2 f2 t1 t2 wd
  go_wp2_with fail
  refine (C1 _ g lv G1.out).mono ?_
  rintro e w2 ⟨rfl, hG2, ho2⟩
  have G2 := Lib.hid hG2
  have H2 := Lib.hid (og_trans H1.out ho2)
  clear hG2 ho2
  go_wp2_with fail
  refine (pick_at (G2.out.go (alloc0 w2 _)) hp1 (p1 : Int) rfl (by decide) (by decide)).mono ?_
  rintro e w3 ⟨rfl, hG3, ho3⟩
  have G3 := Lib.hid hG3
  have H3 := Lib.hid (og_trans H2.out (og_trans (og_nil (alloc0 w2 _)) ho3))
  have cellX1 : w3.cell? ⟨w2.heap.size, p1, none⟩ = some (.string X1) := by
    have h := ((Blk.new w2 #[.string (⟨#[52]⟩ : ByteArray), .string (⟨#[53]⟩ : ByteArray), .string (⟨#[110]⟩ : ByteArray)] 9).kept ho3 (fun h => absurd (show w2.heap.size = g from h) (Nat.ne_of_gt G2.out.blk.lt))).cell p1
    rw [h]; exact X1h.out
  have p1c := p1lt
  clear hG3 ho3
  have c2 : w3.cell? ⟨g, 2, none⟩ = some (.int .i64 (d : Int)) := G3.out.blk.cell 2
  have f2 := G3.out.blk.free 2
  go_wp2_with fail
  go_ret
  exact ⟨rfl, G3.out.setD D, og_trans H3.out (og g _ 2 _)⟩
set_option maxRecDepth 10000 in
set_option maxHeartbeats 1600000 in
theorem num_9 {L : List Nat} {d i i1 R N : Nat} (hd : d ≤ 100) (hp : pickM L i 20 = (9, i1)) (hnum : Gn 43 L d N) (hN : N ≤ 1000000) (hR : 2 + N + 7 ≤ R) : Sn 43 L (d + 1) R i := by
  have y0 : (⟨#[97, 91]⟩ : ByteArray).size = 2 := rfl
  have y1 : (⟨#[32, 77, 79, 68, 32, 52, 93]⟩ : ByteArray).size = 7 := rfl
  obtain ⟨S1, j1, S1p, S1b, C1⟩ := hnum i1
  have z0 : ((⟨#[97, 91]⟩ : ByteArray) ++ S1).size = 2 + S1.size := by rw [ByteArray.size_append, y0]
  have kz0 : ¬ 9223372036854775807 < 2 + S1.size := by omega
  have z1 : (((⟨#[97, 91]⟩ : ByteArray) ++ S1) ++ (⟨#[32, 77, 79, 68, 32, 52, 93]⟩ : ByteArray)).size = 2 + S1.size + 7 := by rw [ByteArray.size_append, z0, y1]
  have kz1 : ¬ 9223372036854775807 < 2 + S1.size + 7 := by omega
  refine ⟨(((⟨#[97, 91]⟩ : ByteArray) ++ S1) ++ (⟨#[32, 77, 79, 68, 32, 52, 93]⟩ : ByteArray)), j1, ?pos, by rw [z1]; omega, fun w g lv hG => ?_⟩
  case pos => rw [z1]; omega
  have HG := Lib.hid hG
  have c2 : w.cell? ⟨g, 2, none⟩ = some (.int .i64 ((d + 1 : Nat) : Int)) := hG.blk.cell 2
  obtain ⟨D, hD⟩ : ∃ D, d + 1 = D := ⟨_, rfl⟩
  rw [hD] at c2 HG ⊢
  have t1 : ¬ (D : Int) ≤ 0 := by omega
  have t2 : ¬ D = 0 := by omega
  have wd : IntKind.i64.wrap ((D : Int) - 1) = (d : Int) := by rw [IntKind.wrap]; simp [IntKind.bits, IntKind.signed]; omega
  have wu : IntKind.i64.wrap ((d : Int) + 1) = (D : Int) := by rw [IntKind.wrap]; simp [IntKind.bits, IntKind.signed]; omega
  have f2 := hG.blk.free 2
  clear hG hR S1p S1b hD hd hN
  go_enter Tryd.func43, Tryd.ntmps43
  go_wp2_with fail
  refine (pick_at (HG.out.setD d) hp 9 rfl (by decide) (by decide)).mono ?_
  rintro e w1 ⟨rfl, hG1, ho1⟩
  have G1 := Lib.hid hG1
  have H1 := Lib.hid (og_trans (og g w 2 _) ho1)
  clear hG1 ho1 hp c2 f2 t1 t2 wd
  go_wp2_with fail
  refine (C1 _ g lv G1.out).mono ?_
  rintro e w2 ⟨rfl, hG2, ho2⟩
  have G2 := Lib.hid hG2
  have H2 := Lib.hid (og_trans H1.out ho2)
  clear hG2 ho2
  have c2 : w2.cell? ⟨g, 2, none⟩ = some (.int .i64 (d : Int)) := G2.out.blk.cell 2
  have f2 := G2.out.blk.free 2
  go_wp2_with fail
  go_ret
  exact ⟨rfl, G2.out.setD D, og_trans H2.out (og g _ 2 _)⟩
end Go.Proofs.YtbpdhpfcknaaiaaDoor

/- What num tells, case by case. -/
set_option linter.unusedSimpArgs false
set_option linter.unusedVariables false
namespace Go.Proofs.YtbpdhpfcknaaiaaDoor
open Go.RowKit M

set_option maxRecDepth 10000 in
set_option maxHeartbeats 1600000 in
theorem num_10 {L : List Nat} {d i i1 R N : Nat} (hd : d ≤ 100) (hp : pickM L i 20 = (10, i1)) (hnum : Gn 43 L d N) (hN : N ≤ 1000000) (hR : 2 + N + 2 + 7 + 1 ≤ R) : Sn 43 L (d + 1) R i := by
  have y0 : (⟨#[102, 40]⟩ : ByteArray).size = 2 := rfl
  have y1 : (⟨#[44, 32]⟩ : ByteArray).size = 2 := rfl
  have y2 : (⟨#[50]⟩ : ByteArray).size = 1 := rfl
  have y3 : (⟨#[51]⟩ : ByteArray).size = 1 := rfl
  have y4 : (⟨#[106, 32, 77, 79, 68, 32, 52]⟩ : ByteArray).size = 7 := rfl
  have y5 : (⟨#[41]⟩ : ByteArray).size = 1 := rfl
  obtain ⟨S1, j1, S1p, S1b, C1⟩ := hnum i1
  obtain ⟨p1, q1, hp1⟩ : ∃ p q, pickM L j1 3 = (p, q) := ⟨_, _, rfl⟩
  have p1lt : p1 < 3 := by have h := pickM_lt L j1 (n := 3) (by decide); rw [hp1] at h; exact h
  have p1a : (0 : Int) ≤ (p1 : Int) := Int.natCast_nonneg _
  have p1b : (p1 : Int) < 3 := by omega
  obtain ⟨X1, hX1⟩ : ∃ x, ([(⟨#[50]⟩ : ByteArray), (⟨#[51]⟩ : ByteArray), (⟨#[106, 32, 77, 79, 68, 32, 52]⟩ : ByteArray)] : List ByteArray).getD p1 ⟨#[]⟩ = x := ⟨_, rfl⟩
  have X1b : X1.size ≤ 7 := by rw [← hX1]; exact choice_le _ _ (by intro x hx; simp only [List.mem_cons, List.not_mem_nil, or_false] at hx; rcases hx with rfl | rfl | rfl <;> first | decide | (omega)) _
  have X1c : ((#[.string (⟨#[50]⟩ : ByteArray), .string (⟨#[51]⟩ : ByteArray), .string (⟨#[106, 32, 77, 79, 68, 32, 52]⟩ : ByteArray)] : Array Value))[p1]? = some (.string X1) := by rw [← hX1]; exact choice_cell [(⟨#[50]⟩ : ByteArray), (⟨#[51]⟩ : ByteArray), (⟨#[106, 32, 77, 79, 68, 32, 52]⟩ : ByteArray)] p1 p1lt
  have X1h := Lib.hid X1c
  have z0 : ((⟨#[102, 40]⟩ : ByteArray) ++ S1).size = 2 + S1.size := by rw [ByteArray.size_append, y0]
  have kz0 : ¬ 9223372036854775807 < 2 + S1.size := by omega
  have z1 : (((⟨#[102, 40]⟩ : ByteArray) ++ S1) ++ (⟨#[44, 32]⟩ : ByteArray)).size = 2 + S1.size + 2 := by rw [ByteArray.size_append, z0, y1]
  have kz1 : ¬ 9223372036854775807 < 2 + S1.size + 2 := by omega
  have z2 : ((((⟨#[102, 40]⟩ : ByteArray) ++ S1) ++ (⟨#[44, 32]⟩ : ByteArray)) ++ X1).size = 2 + S1.size + 2 + X1.size := by rw [ByteArray.size_append, z1]
  have kz2 : ¬ 9223372036854775807 < 2 + S1.size + 2 + X1.size := by omega
  have z3 : (((((⟨#[102, 40]⟩ : ByteArray) ++ S1) ++ (⟨#[44, 32]⟩ : ByteArray)) ++ X1) ++ (⟨#[41]⟩ : ByteArray)).size = 2 + S1.size + 2 + X1.size + 1 := by rw [ByteArray.size_append, z2, y5]
  have kz3 : ¬ 9223372036854775807 < 2 + S1.size + 2 + X1.size + 1 := by omega
  refine ⟨(((((⟨#[102, 40]⟩ : ByteArray) ++ S1) ++ (⟨#[44, 32]⟩ : ByteArray)) ++ X1) ++ (⟨#[41]⟩ : ByteArray)), q1, ?pos, by rw [z3]; omega, fun w g lv hG => ?_⟩
  case pos => rw [z3]; omega
  have HG := Lib.hid hG
  have c2 : w.cell? ⟨g, 2, none⟩ = some (.int .i64 ((d + 1 : Nat) : Int)) := hG.blk.cell 2
  obtain ⟨D, hD⟩ : ∃ D, d + 1 = D := ⟨_, rfl⟩
  rw [hD] at c2 HG ⊢
  have t1 : ¬ (D : Int) ≤ 0 := by omega
  have t2 : ¬ D = 0 := by omega
  have wd : IntKind.i64.wrap ((D : Int) - 1) = (d : Int) := by rw [IntKind.wrap]; simp [IntKind.bits, IntKind.signed]; omega
  have wu : IntKind.i64.wrap ((d : Int) + 1) = (D : Int) := by rw [IntKind.wrap]; simp [IntKind.bits, IntKind.signed]; omega
  have f2 := hG.blk.free 2
  clear hG hR S1p S1b hX1 X1b X1c hD hd hN
  go_enter Tryd.func43, Tryd.ntmps43
  go_wp2_with fail
  refine (pick_at (HG.out.setD d) hp 10 rfl (by decide) (by decide)).mono ?_
  rintro e w1 ⟨rfl, hG1, ho1⟩
  have G1 := Lib.hid hG1
  have H1 := Lib.hid (og_trans (og g w 2 _) ho1)
  clear hG1 ho1 hp c2 f2 t1 t2 wd
  go_wp2_with fail
  refine (C1 _ g lv G1.out).mono ?_
  rintro e w2 ⟨rfl, hG2, ho2⟩
  have G2 := Lib.hid hG2
  have H2 := Lib.hid (og_trans H1.out ho2)
  clear hG2 ho2
  go_wp2_with fail
  refine (pick_at (G2.out.go (alloc0 w2 _)) hp1 (p1 : Int) rfl (by decide) (by decide)).mono ?_
  rintro e w3 ⟨rfl, hG3, ho3⟩
  have G3 := Lib.hid hG3
  have H3 := Lib.hid (og_trans H2.out (og_trans (og_nil (alloc0 w2 _)) ho3))
  have cellX1 : w3.cell? ⟨w2.heap.size, p1, none⟩ = some (.string X1) := by
    have h := ((Blk.new w2 #[.string (⟨#[50]⟩ : ByteArray), .string (⟨#[51]⟩ : ByteArray), .string (⟨#[106, 32, 77, 79, 68, 32, 52]⟩ : ByteArray)] 9).kept ho3 (fun h => absurd (show w2.heap.size = g from h) (Nat.ne_of_gt G2.out.blk.lt))).cell p1
    rw [h]; exact X1h.out
  have p1c := p1lt
  clear hG3 ho3
  have c2 : w3.cell? ⟨g, 2, none⟩ = some (.int .i64 (d : Int)) := G3.out.blk.cell 2
  have f2 := G3.out.blk.free 2
  go_wp2_with fail
  go_ret
  exact ⟨rfl, G3.out.setD D, og_trans H3.out (og g _ 2 _)⟩
set_option maxRecDepth 10000 in
set_option maxHeartbeats 1600000 in
theorem num_11 {L : List Nat} {d i i1 R  : Nat} (hd : d ≤ 100) (hp : pickM L i 20 = (11, i1)) (hchar : Gn 50 L d 16) (hR : 4 + 16 + 1 ≤ R) : Sn 43 L (d + 1) R i := by
  have y0 : (⟨#[79, 82, 68, 40]⟩ : ByteArray).size = 4 := rfl
  have y1 : (⟨#[41]⟩ : ByteArray).size = 1 := rfl
  obtain ⟨S1, j1, S1p, S1b, C1⟩ := hchar i1
  have z0 : ((⟨#[79, 82, 68, 40]⟩ : ByteArray) ++ S1).size = 4 + S1.size := by rw [ByteArray.size_append, y0]
  have kz0 : ¬ 9223372036854775807 < 4 + S1.size := by omega
  have z1 : (((⟨#[79, 82, 68, 40]⟩ : ByteArray) ++ S1) ++ (⟨#[41]⟩ : ByteArray)).size = 4 + S1.size + 1 := by rw [ByteArray.size_append, z0, y1]
  have kz1 : ¬ 9223372036854775807 < 4 + S1.size + 1 := by omega
  refine ⟨(((⟨#[79, 82, 68, 40]⟩ : ByteArray) ++ S1) ++ (⟨#[41]⟩ : ByteArray)), j1, ?pos, by rw [z1]; omega, fun w g lv hG => ?_⟩
  case pos => rw [z1]; omega
  have HG := Lib.hid hG
  have c2 : w.cell? ⟨g, 2, none⟩ = some (.int .i64 ((d + 1 : Nat) : Int)) := hG.blk.cell 2
  obtain ⟨D, hD⟩ : ∃ D, d + 1 = D := ⟨_, rfl⟩
  rw [hD] at c2 HG ⊢
  have t1 : ¬ (D : Int) ≤ 0 := by omega
  have t2 : ¬ D = 0 := by omega
  have wd : IntKind.i64.wrap ((D : Int) - 1) = (d : Int) := by rw [IntKind.wrap]; simp [IntKind.bits, IntKind.signed]; omega
  have wu : IntKind.i64.wrap ((d : Int) + 1) = (D : Int) := by rw [IntKind.wrap]; simp [IntKind.bits, IntKind.signed]; omega
  have f2 := hG.blk.free 2
  clear hG hR S1p S1b hD hd
  go_enter Tryd.func43, Tryd.ntmps43
  go_wp2_with fail
  refine (pick_at (HG.out.setD d) hp 11 rfl (by decide) (by decide)).mono ?_
  rintro e w1 ⟨rfl, hG1, ho1⟩
  have G1 := Lib.hid hG1
  have H1 := Lib.hid (og_trans (og g w 2 _) ho1)
  clear hG1 ho1 hp c2 f2 t1 t2 wd
  go_wp2_with fail
  refine (C1 _ g lv G1.out).mono ?_
  rintro e w2 ⟨rfl, hG2, ho2⟩
  have G2 := Lib.hid hG2
  have H2 := Lib.hid (og_trans H1.out ho2)
  clear hG2 ho2
  have c2 : w2.cell? ⟨g, 2, none⟩ = some (.int .i64 (d : Int)) := G2.out.blk.cell 2
  have f2 := G2.out.blk.free 2
  go_wp2_with fail
  go_ret
  exact ⟨rfl, G2.out.setD D, og_trans H2.out (og g _ 2 _)⟩
set_option maxRecDepth 10000 in
set_option maxHeartbeats 1600000 in
theorem num_12 {L : List Nat} {d i i1 R N : Nat} (hd : d ≤ 100) (hp : pickM L i 20 = (12, i1)) (hnum : Gn 43 L d N) (hN : N ≤ 1000000) (hR : 4 + N + 1 ≤ R) : Sn 43 L (d + 1) R i := by
  have y0 : (⟨#[65, 66, 83, 40]⟩ : ByteArray).size = 4 := rfl
  have y1 : (⟨#[41]⟩ : ByteArray).size = 1 := rfl
  obtain ⟨S1, j1, S1p, S1b, C1⟩ := hnum i1
  have z0 : ((⟨#[65, 66, 83, 40]⟩ : ByteArray) ++ S1).size = 4 + S1.size := by rw [ByteArray.size_append, y0]
  have kz0 : ¬ 9223372036854775807 < 4 + S1.size := by omega
  have z1 : (((⟨#[65, 66, 83, 40]⟩ : ByteArray) ++ S1) ++ (⟨#[41]⟩ : ByteArray)).size = 4 + S1.size + 1 := by rw [ByteArray.size_append, z0, y1]
  have kz1 : ¬ 9223372036854775807 < 4 + S1.size + 1 := by omega
  refine ⟨(((⟨#[65, 66, 83, 40]⟩ : ByteArray) ++ S1) ++ (⟨#[41]⟩ : ByteArray)), j1, ?pos, by rw [z1]; omega, fun w g lv hG => ?_⟩
  case pos => rw [z1]; omega
  have HG := Lib.hid hG
  have c2 : w.cell? ⟨g, 2, none⟩ = some (.int .i64 ((d + 1 : Nat) : Int)) := hG.blk.cell 2
  obtain ⟨D, hD⟩ : ∃ D, d + 1 = D := ⟨_, rfl⟩
  rw [hD] at c2 HG ⊢
  have t1 : ¬ (D : Int) ≤ 0 := by omega
  have t2 : ¬ D = 0 := by omega
  have wd : IntKind.i64.wrap ((D : Int) - 1) = (d : Int) := by rw [IntKind.wrap]; simp [IntKind.bits, IntKind.signed]; omega
  have wu : IntKind.i64.wrap ((d : Int) + 1) = (D : Int) := by rw [IntKind.wrap]; simp [IntKind.bits, IntKind.signed]; omega
  have f2 := hG.blk.free 2
  clear hG hR S1p S1b hD hd hN
  go_enter Tryd.func43, Tryd.ntmps43
  go_wp2_with fail
  refine (pick_at (HG.out.setD d) hp 12 rfl (by decide) (by decide)).mono ?_
  rintro e w1 ⟨rfl, hG1, ho1⟩
  have G1 := Lib.hid hG1
  have H1 := Lib.hid (og_trans (og g w 2 _) ho1)
  clear hG1 ho1 hp c2 f2 t1 t2 wd
  go_wp2_with fail
  refine (C1 _ g lv G1.out).mono ?_
  rintro e w2 ⟨rfl, hG2, ho2⟩
  have G2 := Lib.hid hG2
  have H2 := Lib.hid (og_trans H1.out ho2)
  clear hG2 ho2
  have c2 : w2.cell? ⟨g, 2, none⟩ = some (.int .i64 (d : Int)) := G2.out.blk.cell 2
  have f2 := G2.out.blk.free 2
  go_wp2_with fail
  go_ret
  exact ⟨rfl, G2.out.setD D, og_trans H2.out (og g _ 2 _)⟩
set_option maxRecDepth 10000 in
set_option maxHeartbeats 1600000 in
theorem num_14 {L : List Nat} {d i i1 R  : Nat} (hd : d ≤ 100) (hp : pickM L i 20 = (14, i1)) (hleaf : Gn 52 L d 9) (hR : 2 + 9 + 1 ≤ R) : Sn 43 L (d + 1) R i := by
  have y0 : (⟨#[40, 45]⟩ : ByteArray).size = 2 := rfl
  have y1 : (⟨#[41]⟩ : ByteArray).size = 1 := rfl
  obtain ⟨S1, j1, S1p, S1b, C1⟩ := hleaf i1
  have z0 : ((⟨#[40, 45]⟩ : ByteArray) ++ S1).size = 2 + S1.size := by rw [ByteArray.size_append, y0]
  have kz0 : ¬ 9223372036854775807 < 2 + S1.size := by omega
  have z1 : (((⟨#[40, 45]⟩ : ByteArray) ++ S1) ++ (⟨#[41]⟩ : ByteArray)).size = 2 + S1.size + 1 := by rw [ByteArray.size_append, z0, y1]
  have kz1 : ¬ 9223372036854775807 < 2 + S1.size + 1 := by omega
  refine ⟨(((⟨#[40, 45]⟩ : ByteArray) ++ S1) ++ (⟨#[41]⟩ : ByteArray)), j1, ?pos, by rw [z1]; omega, fun w g lv hG => ?_⟩
  case pos => rw [z1]; omega
  have HG := Lib.hid hG
  have c2 : w.cell? ⟨g, 2, none⟩ = some (.int .i64 ((d + 1 : Nat) : Int)) := hG.blk.cell 2
  obtain ⟨D, hD⟩ : ∃ D, d + 1 = D := ⟨_, rfl⟩
  rw [hD] at c2 HG ⊢
  have t1 : ¬ (D : Int) ≤ 0 := by omega
  have t2 : ¬ D = 0 := by omega
  have wd : IntKind.i64.wrap ((D : Int) - 1) = (d : Int) := by rw [IntKind.wrap]; simp [IntKind.bits, IntKind.signed]; omega
  have wu : IntKind.i64.wrap ((d : Int) + 1) = (D : Int) := by rw [IntKind.wrap]; simp [IntKind.bits, IntKind.signed]; omega
  have f2 := hG.blk.free 2
  clear hG hR S1p S1b hD hd
  go_enter Tryd.func43, Tryd.ntmps43
  go_wp2_with fail
  refine (pick_at (HG.out.setD d) hp 14 rfl (by decide) (by decide)).mono ?_
  rintro e w1 ⟨rfl, hG1, ho1⟩
  have G1 := Lib.hid hG1
  have H1 := Lib.hid (og_trans (og g w 2 _) ho1)
  clear hG1 ho1 hp c2 f2 t1 t2 wd
  go_wp2_with fail
  refine (C1 _ g lv G1.out).mono ?_
  rintro e w2 ⟨rfl, hG2, ho2⟩
  have G2 := Lib.hid hG2
  have H2 := Lib.hid (og_trans H1.out ho2)
  clear hG2 ho2
  have c2 : w2.cell? ⟨g, 2, none⟩ = some (.int .i64 (d : Int)) := G2.out.blk.cell 2
  have f2 := G2.out.blk.free 2
  go_wp2_with fail
  go_ret
  exact ⟨rfl, G2.out.setD D, og_trans H2.out (og g _ 2 _)⟩
set_option maxRecDepth 10000 in
set_option maxHeartbeats 1600000 in
theorem num_15 {L : List Nat} {d i i1 R  : Nat} (hd : d ≤ 100) (hp : pickM L i 20 = (15, i1))  (hR : 8 ≤ R) : Sn 43 L (d + 1) R i := by
  have y0 : (⟨#[112, 46, 120]⟩ : ByteArray).size = 3 := rfl
  have y1 : (⟨#[113, 46, 121]⟩ : ByteArray).size = 3 := rfl
  have y2 : (⟨#[112, 46, 110, 101, 120, 116, 46, 120]⟩ : ByteArray).size = 8 := rfl
  have y3 : (⟨#[117, 46, 120]⟩ : ByteArray).size = 3 := rfl
  have y4 : (⟨#[113, 40, 83, 41, 46, 120]⟩ : ByteArray).size = 6 := rfl
  have y5 : (⟨#[97, 91, 106, 93]⟩ : ByteArray).size = 4 := rfl
  obtain ⟨p1, q1, hp1⟩ : ∃ p q, pickM L i1 6 = (p, q) := ⟨_, _, rfl⟩
  have p1lt : p1 < 6 := by have h := pickM_lt L i1 (n := 6) (by decide); rw [hp1] at h; exact h
  have p1a : (0 : Int) ≤ (p1 : Int) := Int.natCast_nonneg _
  have p1b : (p1 : Int) < 6 := by omega
  obtain ⟨X1, hX1⟩ : ∃ x, ([(⟨#[112, 46, 120]⟩ : ByteArray), (⟨#[113, 46, 121]⟩ : ByteArray), (⟨#[112, 46, 110, 101, 120, 116, 46, 120]⟩ : ByteArray), (⟨#[117, 46, 120]⟩ : ByteArray), (⟨#[113, 40, 83, 41, 46, 120]⟩ : ByteArray), (⟨#[97, 91, 106, 93]⟩ : ByteArray)] : List ByteArray).getD p1 ⟨#[]⟩ = x := ⟨_, rfl⟩
  have X1b : X1.size ≤ 8 := by rw [← hX1]; exact choice_le _ _ (by intro x hx; simp only [List.mem_cons, List.not_mem_nil, or_false] at hx; rcases hx with rfl | rfl | rfl | rfl | rfl | rfl <;> first | decide | (omega)) _
  have X1c : ((#[.string (⟨#[112, 46, 120]⟩ : ByteArray), .string (⟨#[113, 46, 121]⟩ : ByteArray), .string (⟨#[112, 46, 110, 101, 120, 116, 46, 120]⟩ : ByteArray), .string (⟨#[117, 46, 120]⟩ : ByteArray), .string (⟨#[113, 40, 83, 41, 46, 120]⟩ : ByteArray), .string (⟨#[97, 91, 106, 93]⟩ : ByteArray)] : Array Value))[p1]? = some (.string X1) := by rw [← hX1]; exact choice_cell [(⟨#[112, 46, 120]⟩ : ByteArray), (⟨#[113, 46, 121]⟩ : ByteArray), (⟨#[112, 46, 110, 101, 120, 116, 46, 120]⟩ : ByteArray), (⟨#[117, 46, 120]⟩ : ByteArray), (⟨#[113, 40, 83, 41, 46, 120]⟩ : ByteArray), (⟨#[97, 91, 106, 93]⟩ : ByteArray)] p1 p1lt
  have X1h := Lib.hid X1c
  refine ⟨X1, q1, ?pos, by omega, fun w g lv hG => ?_⟩
  case pos => rw [← hX1]; exact choice_pos _ (by intro x hx; simp only [List.mem_cons, List.not_mem_nil, or_false] at hx; rcases hx with rfl | rfl | rfl | rfl | rfl | rfl <;> first | decide | (omega)) _ (by have := p1lt; exact this)
  have HG := Lib.hid hG
  have c2 : w.cell? ⟨g, 2, none⟩ = some (.int .i64 ((d + 1 : Nat) : Int)) := hG.blk.cell 2
  obtain ⟨D, hD⟩ : ∃ D, d + 1 = D := ⟨_, rfl⟩
  rw [hD] at c2 HG ⊢
  have t1 : ¬ (D : Int) ≤ 0 := by omega
  have t2 : ¬ D = 0 := by omega
  have wd : IntKind.i64.wrap ((D : Int) - 1) = (d : Int) := by rw [IntKind.wrap]; simp [IntKind.bits, IntKind.signed]; omega
  have wu : IntKind.i64.wrap ((d : Int) + 1) = (D : Int) := by rw [IntKind.wrap]; simp [IntKind.bits, IntKind.signed]; omega
  have f2 := hG.blk.free 2
  clear hG hR hX1 X1b X1c hD hd
  go_enter Tryd.func43, Tryd.ntmps43
  go_wp2_with fail
  refine (pick_at (HG.out.setD d) hp 15 rfl (by decide) (by decide)).mono ?_
  rintro e w1 ⟨rfl, hG1, ho1⟩
  have G1 := Lib.hid hG1
  have H1 := Lib.hid (og_trans (og g w 2 _) ho1)
  clear hG1 ho1 hp c2 f2 t1 t2 wd
  go_wp2_with fail
  refine (pick_at (G1.out.go (alloc0 w1 _)) hp1 (p1 : Int) rfl (by decide) (by decide)).mono ?_
  rintro e w2 ⟨rfl, hG2, ho2⟩
  have G2 := Lib.hid hG2
  have H2 := Lib.hid (og_trans H1.out (og_trans (og_nil (alloc0 w1 _)) ho2))
  have cellX1 : w2.cell? ⟨w1.heap.size, p1, none⟩ = some (.string X1) := by
    have h := ((Blk.new w1 #[.string (⟨#[112, 46, 120]⟩ : ByteArray), .string (⟨#[113, 46, 121]⟩ : ByteArray), .string (⟨#[112, 46, 110, 101, 120, 116, 46, 120]⟩ : ByteArray), .string (⟨#[117, 46, 120]⟩ : ByteArray), .string (⟨#[113, 40, 83, 41, 46, 120]⟩ : ByteArray), .string (⟨#[97, 91, 106, 93]⟩ : ByteArray)] 9).kept ho2 (fun h => absurd (show w1.heap.size = g from h) (Nat.ne_of_gt G1.out.blk.lt))).cell p1
    rw [h]; exact X1h.out
  have p1c := p1lt
  clear hG2 ho2
  have c2 : w2.cell? ⟨g, 2, none⟩ = some (.int .i64 (d : Int)) := G2.out.blk.cell 2
  have f2 := G2.out.blk.free 2
  go_wp2_with fail
  go_ret
  exact ⟨rfl, G2.out.setD D, og_trans H2.out (og g _ 2 _)⟩
set_option maxRecDepth 10000 in
set_option maxHeartbeats 1600000 in
theorem num_16 {L : List Nat} {d i i1 R  : Nat} (hd : d ≤ 100) (hp : pickM L i 20 = (16, i1)) (hset : Gn 51 L d 21) (hR : 4 + 21 + 1 ≤ R) : Sn 43 L (d + 1) R i := by
  have y0 : (⟨#[79, 82, 68, 40]⟩ : ByteArray).size = 4 := rfl
  have y1 : (⟨#[41]⟩ : ByteArray).size = 1 := rfl
  obtain ⟨S1, j1, S1p, S1b, C1⟩ := hset i1
  have z0 : ((⟨#[79, 82, 68, 40]⟩ : ByteArray) ++ S1).size = 4 + S1.size := by rw [ByteArray.size_append, y0]
  have kz0 : ¬ 9223372036854775807 < 4 + S1.size := by omega
  have z1 : (((⟨#[79, 82, 68, 40]⟩ : ByteArray) ++ S1) ++ (⟨#[41]⟩ : ByteArray)).size = 4 + S1.size + 1 := by rw [ByteArray.size_append, z0, y1]
  have kz1 : ¬ 9223372036854775807 < 4 + S1.size + 1 := by omega
  refine ⟨(((⟨#[79, 82, 68, 40]⟩ : ByteArray) ++ S1) ++ (⟨#[41]⟩ : ByteArray)), j1, ?pos, by rw [z1]; omega, fun w g lv hG => ?_⟩
  case pos => rw [z1]; omega
  have HG := Lib.hid hG
  have c2 : w.cell? ⟨g, 2, none⟩ = some (.int .i64 ((d + 1 : Nat) : Int)) := hG.blk.cell 2
  obtain ⟨D, hD⟩ : ∃ D, d + 1 = D := ⟨_, rfl⟩
  rw [hD] at c2 HG ⊢
  have t1 : ¬ (D : Int) ≤ 0 := by omega
  have t2 : ¬ D = 0 := by omega
  have wd : IntKind.i64.wrap ((D : Int) - 1) = (d : Int) := by rw [IntKind.wrap]; simp [IntKind.bits, IntKind.signed]; omega
  have wu : IntKind.i64.wrap ((d : Int) + 1) = (D : Int) := by rw [IntKind.wrap]; simp [IntKind.bits, IntKind.signed]; omega
  have f2 := hG.blk.free 2
  clear hG hR S1p S1b hD hd
  go_enter Tryd.func43, Tryd.ntmps43
  go_wp2_with fail
  refine (pick_at (HG.out.setD d) hp 16 rfl (by decide) (by decide)).mono ?_
  rintro e w1 ⟨rfl, hG1, ho1⟩
  have G1 := Lib.hid hG1
  have H1 := Lib.hid (og_trans (og g w 2 _) ho1)
  clear hG1 ho1 hp c2 f2 t1 t2 wd
  go_wp2_with fail
  refine (C1 _ g lv G1.out).mono ?_
  rintro e w2 ⟨rfl, hG2, ho2⟩
  have G2 := Lib.hid hG2
  have H2 := Lib.hid (og_trans H1.out ho2)
  clear hG2 ho2
  have c2 : w2.cell? ⟨g, 2, none⟩ = some (.int .i64 (d : Int)) := G2.out.blk.cell 2
  have f2 := G2.out.blk.free 2
  go_wp2_with fail
  go_ret
  exact ⟨rfl, G2.out.setD D, og_trans H2.out (og g _ 2 _)⟩
set_option maxRecDepth 10000 in
set_option maxHeartbeats 1600000 in
theorem num_17 {L : List Nat} {d i i1 R C : Nat} (hd : d ≤ 100) (hp : pickM L i 20 = (17, i1)) (hcond : Gn 42 L d C) (hC : C ≤ 1000000) (hR : 4 + C + 1 ≤ R) : Sn 43 L (d + 1) R i := by
  have y0 : (⟨#[79, 82, 68, 40]⟩ : ByteArray).size = 4 := rfl
  have y1 : (⟨#[41]⟩ : ByteArray).size = 1 := rfl
  obtain ⟨S1, j1, S1p, S1b, C1⟩ := hcond i1
  have z0 : ((⟨#[79, 82, 68, 40]⟩ : ByteArray) ++ S1).size = 4 + S1.size := by rw [ByteArray.size_append, y0]
  have kz0 : ¬ 9223372036854775807 < 4 + S1.size := by omega
  have z1 : (((⟨#[79, 82, 68, 40]⟩ : ByteArray) ++ S1) ++ (⟨#[41]⟩ : ByteArray)).size = 4 + S1.size + 1 := by rw [ByteArray.size_append, z0, y1]
  have kz1 : ¬ 9223372036854775807 < 4 + S1.size + 1 := by omega
  refine ⟨(((⟨#[79, 82, 68, 40]⟩ : ByteArray) ++ S1) ++ (⟨#[41]⟩ : ByteArray)), j1, ?pos, by rw [z1]; omega, fun w g lv hG => ?_⟩
  case pos => rw [z1]; omega
  have HG := Lib.hid hG
  have c2 : w.cell? ⟨g, 2, none⟩ = some (.int .i64 ((d + 1 : Nat) : Int)) := hG.blk.cell 2
  obtain ⟨D, hD⟩ : ∃ D, d + 1 = D := ⟨_, rfl⟩
  rw [hD] at c2 HG ⊢
  have t1 : ¬ (D : Int) ≤ 0 := by omega
  have t2 : ¬ D = 0 := by omega
  have wd : IntKind.i64.wrap ((D : Int) - 1) = (d : Int) := by rw [IntKind.wrap]; simp [IntKind.bits, IntKind.signed]; omega
  have wu : IntKind.i64.wrap ((d : Int) + 1) = (D : Int) := by rw [IntKind.wrap]; simp [IntKind.bits, IntKind.signed]; omega
  have f2 := hG.blk.free 2
  clear hG hR S1p S1b hD hd hC
  go_enter Tryd.func43, Tryd.ntmps43
  go_wp2_with fail
  refine (pick_at (HG.out.setD d) hp 17 rfl (by decide) (by decide)).mono ?_
  rintro e w1 ⟨rfl, hG1, ho1⟩
  have G1 := Lib.hid hG1
  have H1 := Lib.hid (og_trans (og g w 2 _) ho1)
  clear hG1 ho1 hp c2 f2 t1 t2 wd
  go_wp2_with fail
  refine (C1 _ g lv G1.out).mono ?_
  rintro e w2 ⟨rfl, hG2, ho2⟩
  have G2 := Lib.hid hG2
  have H2 := Lib.hid (og_trans H1.out ho2)
  clear hG2 ho2
  have c2 : w2.cell? ⟨g, 2, none⟩ = some (.int .i64 (d : Int)) := G2.out.blk.cell 2
  have f2 := G2.out.blk.free 2
  go_wp2_with fail
  go_ret
  exact ⟨rfl, G2.out.setD D, og_trans H2.out (og g _ 2 _)⟩
set_option maxRecDepth 10000 in
set_option maxHeartbeats 1600000 in
theorem num_18 {L : List Nat} {d i i1 R  : Nat} (hd : d ≤ 100) (hp : pickM L i 20 = (18, i1)) (hleaf : Gn 52 L d 9) (hR : 1 + 9 + 3 + 9 + 1 ≤ R) : Sn 43 L (d + 1) R i := by
  have y0 : (⟨#[40]⟩ : ByteArray).size = 1 := rfl
  have y1 : (⟨#[32, 43, 32]⟩ : ByteArray).size = 3 := rfl
  have y2 : (⟨#[41]⟩ : ByteArray).size = 1 := rfl
  obtain ⟨S1, j1, S1p, S1b, C1⟩ := hleaf i1
  obtain ⟨S2, j2, S2p, S2b, C2⟩ := hleaf j1
  have z0 : ((⟨#[40]⟩ : ByteArray) ++ S1).size = 1 + S1.size := by rw [ByteArray.size_append, y0]
  have kz0 : ¬ 9223372036854775807 < 1 + S1.size := by omega
  have z1 : (((⟨#[40]⟩ : ByteArray) ++ S1) ++ (⟨#[32, 43, 32]⟩ : ByteArray)).size = 1 + S1.size + 3 := by rw [ByteArray.size_append, z0, y1]
  have kz1 : ¬ 9223372036854775807 < 1 + S1.size + 3 := by omega
  have z2 : ((((⟨#[40]⟩ : ByteArray) ++ S1) ++ (⟨#[32, 43, 32]⟩ : ByteArray)) ++ S2).size = 1 + S1.size + 3 + S2.size := by rw [ByteArray.size_append, z1]
  have kz2 : ¬ 9223372036854775807 < 1 + S1.size + 3 + S2.size := by omega
  have z3 : (((((⟨#[40]⟩ : ByteArray) ++ S1) ++ (⟨#[32, 43, 32]⟩ : ByteArray)) ++ S2) ++ (⟨#[41]⟩ : ByteArray)).size = 1 + S1.size + 3 + S2.size + 1 := by rw [ByteArray.size_append, z2, y2]
  have kz3 : ¬ 9223372036854775807 < 1 + S1.size + 3 + S2.size + 1 := by omega
  refine ⟨(((((⟨#[40]⟩ : ByteArray) ++ S1) ++ (⟨#[32, 43, 32]⟩ : ByteArray)) ++ S2) ++ (⟨#[41]⟩ : ByteArray)), j2, ?pos, by rw [z3]; omega, fun w g lv hG => ?_⟩
  case pos => rw [z3]; omega
  have HG := Lib.hid hG
  have c2 : w.cell? ⟨g, 2, none⟩ = some (.int .i64 ((d + 1 : Nat) : Int)) := hG.blk.cell 2
  obtain ⟨D, hD⟩ : ∃ D, d + 1 = D := ⟨_, rfl⟩
  rw [hD] at c2 HG ⊢
  have t1 : ¬ (D : Int) ≤ 0 := by omega
  have t2 : ¬ D = 0 := by omega
  have wd : IntKind.i64.wrap ((D : Int) - 1) = (d : Int) := by rw [IntKind.wrap]; simp [IntKind.bits, IntKind.signed]; omega
  have wu : IntKind.i64.wrap ((d : Int) + 1) = (D : Int) := by rw [IntKind.wrap]; simp [IntKind.bits, IntKind.signed]; omega
  have f2 := hG.blk.free 2
  clear hG hR S1p S1b S2p S2b hD hd
  go_enter Tryd.func43, Tryd.ntmps43
  go_wp2_with fail
  refine (pick_at (HG.out.setD d) hp 18 rfl (by decide) (by decide)).mono ?_
  rintro e w1 ⟨rfl, hG1, ho1⟩
  have G1 := Lib.hid hG1
  have H1 := Lib.hid (og_trans (og g w 2 _) ho1)
  clear hG1 ho1 hp c2 f2 t1 t2 wd
  go_wp2_with fail
  refine (C1 _ g lv G1.out).mono ?_
  rintro e w2 ⟨rfl, hG2, ho2⟩
  have G2 := Lib.hid hG2
  have H2 := Lib.hid (og_trans H1.out ho2)
  clear hG2 ho2
  go_wp2_with fail
  refine (C2 _ g lv G2.out).mono ?_
  rintro e w3 ⟨rfl, hG3, ho3⟩
  have G3 := Lib.hid hG3
  have H3 := Lib.hid (og_trans H2.out ho3)
  clear hG3 ho3
  have c2 : w3.cell? ⟨g, 2, none⟩ = some (.int .i64 (d : Int)) := G3.out.blk.cell 2
  have f2 := G3.out.blk.free 2
  go_wp2_with fail
  go_ret
  exact ⟨rfl, G3.out.setD D, og_trans H3.out (og g _ 2 _)⟩
set_option maxRecDepth 10000 in
set_option maxHeartbeats 1600000 in
theorem num_19 {L : List Nat} {d i i1 R  : Nat} (hd : d ≤ 100) (hp : pickM L i 20 = (19, i1)) (hleaf : Gn 52 L d 9) (hR : 1 + 9 + 3 + 9 + 1 ≤ R) : Sn 43 L (d + 1) R i := by
  have y0 : (⟨#[40]⟩ : ByteArray).size = 1 := rfl
  have y1 : (⟨#[32, 43, 32]⟩ : ByteArray).size = 3 := rfl
  have y2 : (⟨#[41]⟩ : ByteArray).size = 1 := rfl
  obtain ⟨S1, j1, S1p, S1b, C1⟩ := hleaf i1
  obtain ⟨S2, j2, S2p, S2b, C2⟩ := hleaf j1
  have z0 : ((⟨#[40]⟩ : ByteArray) ++ S1).size = 1 + S1.size := by rw [ByteArray.size_append, y0]
  have kz0 : ¬ 9223372036854775807 < 1 + S1.size := by omega
  have z1 : (((⟨#[40]⟩ : ByteArray) ++ S1) ++ (⟨#[32, 43, 32]⟩ : ByteArray)).size = 1 + S1.size + 3 := by rw [ByteArray.size_append, z0, y1]
  have kz1 : ¬ 9223372036854775807 < 1 + S1.size + 3 := by omega
  have z2 : ((((⟨#[40]⟩ : ByteArray) ++ S1) ++ (⟨#[32, 43, 32]⟩ : ByteArray)) ++ S2).size = 1 + S1.size + 3 + S2.size := by rw [ByteArray.size_append, z1]
  have kz2 : ¬ 9223372036854775807 < 1 + S1.size + 3 + S2.size := by omega
  have z3 : (((((⟨#[40]⟩ : ByteArray) ++ S1) ++ (⟨#[32, 43, 32]⟩ : ByteArray)) ++ S2) ++ (⟨#[41]⟩ : ByteArray)).size = 1 + S1.size + 3 + S2.size + 1 := by rw [ByteArray.size_append, z2, y2]
  have kz3 : ¬ 9223372036854775807 < 1 + S1.size + 3 + S2.size + 1 := by omega
  refine ⟨(((((⟨#[40]⟩ : ByteArray) ++ S1) ++ (⟨#[32, 43, 32]⟩ : ByteArray)) ++ S2) ++ (⟨#[41]⟩ : ByteArray)), j2, ?pos, by rw [z3]; omega, fun w g lv hG => ?_⟩
  case pos => rw [z3]; omega
  have HG := Lib.hid hG
  have c2 : w.cell? ⟨g, 2, none⟩ = some (.int .i64 ((d + 1 : Nat) : Int)) := hG.blk.cell 2
  obtain ⟨D, hD⟩ : ∃ D, d + 1 = D := ⟨_, rfl⟩
  rw [hD] at c2 HG ⊢
  have t1 : ¬ (D : Int) ≤ 0 := by omega
  have t2 : ¬ D = 0 := by omega
  have wd : IntKind.i64.wrap ((D : Int) - 1) = (d : Int) := by rw [IntKind.wrap]; simp [IntKind.bits, IntKind.signed]; omega
  have wu : IntKind.i64.wrap ((d : Int) + 1) = (D : Int) := by rw [IntKind.wrap]; simp [IntKind.bits, IntKind.signed]; omega
  have f2 := hG.blk.free 2
  clear hG hR S1p S1b S2p S2b hD hd
  go_enter Tryd.func43, Tryd.ntmps43
  go_wp2_with fail
  refine (pick_at (HG.out.setD d) hp 19 rfl (by decide) (by decide)).mono ?_
  rintro e w1 ⟨rfl, hG1, ho1⟩
  have G1 := Lib.hid hG1
  have H1 := Lib.hid (og_trans (og g w 2 _) ho1)
  clear hG1 ho1 hp c2 f2 t1 t2 wd
  go_wp2_with fail
  refine (C1 _ g lv G1.out).mono ?_
  rintro e w2 ⟨rfl, hG2, ho2⟩
  have G2 := Lib.hid hG2
  have H2 := Lib.hid (og_trans H1.out ho2)
  clear hG2 ho2
  go_wp2_with fail
  refine (C2 _ g lv G2.out).mono ?_
  rintro e w3 ⟨rfl, hG3, ho3⟩
  have G3 := Lib.hid hG3
  have H3 := Lib.hid (og_trans H2.out ho3)
  clear hG3 ho3
  have c2 : w3.cell? ⟨g, 2, none⟩ = some (.int .i64 (d : Int)) := G3.out.blk.cell 2
  have f2 := G3.out.blk.free 2
  go_wp2_with fail
  go_ret
  exact ⟨rfl, G3.out.setD D, og_trans H3.out (og g _ 2 _)⟩
end Go.Proofs.YtbpdhpfcknaaiaaDoor

/- What num tells in its case 13. -/
set_option linter.unusedSimpArgs false
set_option linter.unusedVariables false
namespace Go.Proofs.YtbpdhpfcknaaiaaDoor
open Go.RowKit M

set_option maxRecDepth 10000 in
set_option maxHeartbeats 16000000 in
theorem num_13 {L : List Nat} {d i i1 R N : Nat} (hd : d ≤ 100) (hp : pickM L i 20 = (13, i1)) (hnum : Gn 43 L d N) (hN : N ≤ 1000000) (hR : 3 + 1 + N + 2 + N + 1 ≤ R) : Sn 43 L (d + 1) R i := by
  have y0 : (⟨#[76, 83, 76]⟩ : ByteArray).size = 3 := rfl
  have y1 : (⟨#[65, 83, 82]⟩ : ByteArray).size = 3 := rfl
  have y2 : (⟨#[82, 79, 82]⟩ : ByteArray).size = 3 := rfl
  have y3 : (⟨#[40]⟩ : ByteArray).size = 1 := rfl
  have y4 : (⟨#[44, 32]⟩ : ByteArray).size = 2 := rfl
  have y5 : (⟨#[41]⟩ : ByteArray).size = 1 := rfl
  obtain ⟨p1, q1, hp1⟩ : ∃ p q, pickM L i1 3 = (p, q) := ⟨_, _, rfl⟩
  have p1lt : p1 < 3 := by have h := pickM_lt L i1 (n := 3) (by decide); rw [hp1] at h; exact h
  have p1a : (0 : Int) ≤ (p1 : Int) := Int.natCast_nonneg _
  have p1b : (p1 : Int) < 3 := by omega
  obtain ⟨X1, hX1⟩ : ∃ x, ([(⟨#[76, 83, 76]⟩ : ByteArray), (⟨#[65, 83, 82]⟩ : ByteArray), (⟨#[82, 79, 82]⟩ : ByteArray)] : List ByteArray).getD p1 ⟨#[]⟩ = x := ⟨_, rfl⟩
  have X1b : X1.size ≤ 3 := by rw [← hX1]; exact choice_le _ _ (by intro x hx; simp only [List.mem_cons, List.not_mem_nil, or_false] at hx; rcases hx with rfl | rfl | rfl <;> first | decide | (omega)) _
  have X1c : ((#[.string (⟨#[76, 83, 76]⟩ : ByteArray), .string (⟨#[65, 83, 82]⟩ : ByteArray), .string (⟨#[82, 79, 82]⟩ : ByteArray)] : Array Value))[p1]? = some (.string X1) := by rw [← hX1]; exact choice_cell [(⟨#[76, 83, 76]⟩ : ByteArray), (⟨#[65, 83, 82]⟩ : ByteArray), (⟨#[82, 79, 82]⟩ : ByteArray)] p1 p1lt
  have X1h := Lib.hid X1c
  obtain ⟨S1, j1, S1p, S1b, C1⟩ := hnum q1
  obtain ⟨S2, j2, S2p, S2b, C2⟩ := hnum j1
  have z0 : (X1 ++ (⟨#[40]⟩ : ByteArray)).size = X1.size + 1 := by rw [ByteArray.size_append, y3]
  have kz0 : ¬ 9223372036854775807 < X1.size + 1 := by omega
  have z1 : ((X1 ++ (⟨#[40]⟩ : ByteArray)) ++ S1).size = X1.size + 1 + S1.size := by rw [ByteArray.size_append, z0]
  have kz1 : ¬ 9223372036854775807 < X1.size + 1 + S1.size := by omega
  have z2 : (((X1 ++ (⟨#[40]⟩ : ByteArray)) ++ S1) ++ (⟨#[44, 32]⟩ : ByteArray)).size = X1.size + 1 + S1.size + 2 := by rw [ByteArray.size_append, z1, y4]
  have kz2 : ¬ 9223372036854775807 < X1.size + 1 + S1.size + 2 := by omega
  have z3 : ((((X1 ++ (⟨#[40]⟩ : ByteArray)) ++ S1) ++ (⟨#[44, 32]⟩ : ByteArray)) ++ S2).size = X1.size + 1 + S1.size + 2 + S2.size := by rw [ByteArray.size_append, z2]
  have kz3 : ¬ 9223372036854775807 < X1.size + 1 + S1.size + 2 + S2.size := by omega
  have z4 : (((((X1 ++ (⟨#[40]⟩ : ByteArray)) ++ S1) ++ (⟨#[44, 32]⟩ : ByteArray)) ++ S2) ++ (⟨#[41]⟩ : ByteArray)).size = X1.size + 1 + S1.size + 2 + S2.size + 1 := by rw [ByteArray.size_append, z3, y5]
  have kz4 : ¬ 9223372036854775807 < X1.size + 1 + S1.size + 2 + S2.size + 1 := by omega
  refine ⟨(((((X1 ++ (⟨#[40]⟩ : ByteArray)) ++ S1) ++ (⟨#[44, 32]⟩ : ByteArray)) ++ S2) ++ (⟨#[41]⟩ : ByteArray)), j2, ?pos, by rw [z4]; omega, fun w g lv hG => ?_⟩
  case pos => rw [z4]; omega
  have HG := Lib.hid hG
  have c2 : w.cell? ⟨g, 2, none⟩ = some (.int .i64 ((d + 1 : Nat) : Int)) := hG.blk.cell 2
  obtain ⟨D, hD⟩ : ∃ D, d + 1 = D := ⟨_, rfl⟩
  rw [hD] at c2 HG ⊢
  have t1 : ¬ (D : Int) ≤ 0 := by omega
  have t2 : ¬ D = 0 := by omega
  have wd : IntKind.i64.wrap ((D : Int) - 1) = (d : Int) := by rw [IntKind.wrap]; simp [IntKind.bits, IntKind.signed]; omega
  have wu : IntKind.i64.wrap ((d : Int) + 1) = (D : Int) := by rw [IntKind.wrap]; simp [IntKind.bits, IntKind.signed]; omega
  have f2 := hG.blk.free 2
  clear hG hR S1p S1b S2p S2b hX1 X1b X1c hD hd hN
  go_enter Tryd.func43, Tryd.ntmps43
  go_wp2_with fail
  refine (pick_at (HG.out.setD d) hp 13 rfl (by decide) (by decide)).mono ?_
  rintro e w1 ⟨rfl, hG1, ho1⟩
  have G1 := Lib.hid hG1
  have H1 := Lib.hid (og_trans (og g w 2 _) ho1)
  clear hG1 ho1 hp c2 f2 t1 t2 wd
  go_upto_region 31 with fail
  have hgw := G1.out.blk.lt
  have hG := G1.out
  have hq : Only (M.One g) w1 w1.drew := (Only.refl (M.One g) w1).drew
  refine wp_region_T (fun w' => Only (M.One g) w1 w') [] (by kernel_rfl) ?_
  refine wpAnyT_sub (S' := fun w' => Only (M.One g) w1.drew w') (fun _ h => og_trans hq h) ?_
  replace hG := hG.go ((Only.refl Nil w1).drew)
  obtain ⟨wd, hwd⟩ : ∃ z, w1.drew = z := ⟨_, rfl⟩
  rw [hwd] at hq hG ⊢
  clear hwd
  refine wpAnyT_take 1 (v := ?_) rfl (by kernel_rfl) (by kernel_rfl) (by kernel_rfl) (fun _ _ _ h => h) (by kernel_rfl) (by kernel_rfl) (Or.inl ⟨by kernel_rfl, ?_⟩) (Only.refl (M.One g) _) ?_
  rotate_left
  · (intro w' hw'; go_simp; (try with_reducible rfl))
  refine wpAnyT_take 6 (v := ?_) rfl (by kernel_rfl) (by kernel_rfl) (by kernel_rfl) (fun _ _ _ h => h) (by kernel_rfl) (by kernel_rfl) (Or.inl ⟨by kernel_rfl, ?_⟩) (Only.refl (M.One g) _) ?_
  rotate_left
  · (intro w' hw'; go_simp; (try with_reducible rfl))
  refine wpAnyT_take 10 (v := ?_) rfl (by kernel_rfl) (by kernel_rfl) (by kernel_rfl) (fun _ _ _ h => h) (by kernel_rfl) (by kernel_rfl) (Or.inl ⟨by kernel_rfl, ?_⟩) (Only.refl (M.One g) _) ?_
  rotate_left
  · (intro w' hw'; go_simp; (try with_reducible rfl))
  refine wpAnyT_two (i := 0) (j := 2) rfl rfl (by kernel_rfl) (fun K hK => ?_) (fun K hK => ?_)
  · go_simp
    refine hK.out _ _ (fun _ => (Only.refl (M.One g) wd).alloc _) ?_
    clear hK K
    have q_0 := Blk.new wd #[.string (⟨#[76, 83, 76]⟩ : ByteArray), .string (⟨#[65, 83, 82]⟩ : ByteArray), .string (⟨#[82, 79, 82]⟩ : ByteArray)] 9
    have ho1x := alloc0 wd (.cells #[.string (⟨#[76, 83, 76]⟩ : ByteArray), .string (⟨#[65, 83, 82]⟩ : ByteArray), .string (⟨#[82, 79, 82]⟩ : ByteArray)] 9)
    replace hG := hG.go ho1x
    obtain ⟨b_0, hb_0⟩ : ∃ z, wd.heap.size = z := ⟨_, rfl⟩
    have ng_0 : ¬ M.One g b_0 := by
      intro h
      have h : b_0 = g := h
      have := hq.size
      omega
    obtain ⟨w1x, hw1x⟩ : ∃ z, wd.alloc (.cells #[.string (⟨#[76, 83, 76]⟩ : ByteArray), .string (⟨#[65, 83, 82]⟩ : ByteArray), .string (⟨#[82, 79, 82]⟩ : ByteArray)] 9) = z := ⟨_, rfl⟩
    rw [hb_0] at q_0 ⊢
    rw [hw1x] at q_0 ho1x hG  ⊢
    clear hb_0 hw1x
    refine wpAnyT_sub (S' := fun w' => Only (M.One g) w1x w') (fun _ h => og_trans (og_nil ho1x) h) ?_
    replace hq := og_trans hq (og_nil ho1x)
    clear ho1x
    refine wpAnyT_one (i := 2) rfl (by kernel_rfl) (fun K hK => ?_)
    go_simp
    go_wp2_with (go_at_call 20; refine (pick_at hG hp1 (p1 : Int) rfl (by decide) (by decide)).mono ?_; rintro e w2x ⟨rfl, hG2, ho2x⟩)
    refine hK.out _ _ (fun _ => ho2x) ?_
    clear hK K hG
    have hG := hG2
    clear hG2
    replace q_0 := q_0.kept ho2x ng_0
    refine wpAnyT_sub (S' := fun w' => Only (M.One g) w2x w') (fun _ h => og_trans ho2x h) ?_
    replace hq := og_trans hq ho2x
    clear ho2x
    refine wpAnyT_take 3 (v := ?_) rfl (by kernel_rfl) (by kernel_rfl) (by kernel_rfl) (fun _ _ _ h => h) (by kernel_rfl) (by kernel_rfl) (Or.inl ⟨by kernel_rfl, ?_⟩) (Only.refl (M.One g) _) ?_
    rotate_left
    · (intro w' hw'; go_simp; (try with_reducible rfl))
    refine wpAnyT_take 4 (v := ?_) rfl (by kernel_rfl) (by kernel_rfl) (by kernel_rfl) (fun _ _ _ h => h) (by kernel_rfl) (by kernel_rfl) (Or.inl ⟨by kernel_rfl, ?_⟩) (Only.refl (M.One g) _) ?_
    rotate_left
    · (intro w' hw'; have e0 := ((q_0.kept hw' ng_0).cell p1).trans X1h.out; go_simp; (try with_reducible rfl))
    refine wpAnyT_take 5 (v := ?_) rfl (by kernel_rfl) (by kernel_rfl) (by kernel_rfl) (fun _ _ _ h => h) (by kernel_rfl) (by kernel_rfl) (Or.inl ⟨by kernel_rfl, ?_⟩) (Only.refl (M.One g) _) ?_
    rotate_left
    · (intro w' hw'; go_simp; (try with_reducible rfl))
    refine wpAnyT_one (i := 7) rfl (by kernel_rfl) (fun K hK => ?_)
    go_simp
    go_wp2_with (go_at_call 43; refine (C1 _ g lv hG).mono ?_; rintro e w3x ⟨rfl, hG2, ho3x⟩)
    refine hK.out _ _ (fun _ => ho3x) ?_
    clear hK K hG
    have hG := hG2
    clear hG2
    replace q_0 := q_0.kept ho3x ng_0
    refine wpAnyT_sub (S' := fun w' => Only (M.One g) w3x w') (fun _ h => og_trans ho3x h) ?_
    replace hq := og_trans hq ho3x
    clear ho3x
    refine wpAnyT_take 8 (v := ?_) rfl (by kernel_rfl) (by kernel_rfl) (by kernel_rfl) (fun _ _ _ h => h) (by kernel_rfl) (by kernel_rfl) (Or.inl ⟨by kernel_rfl, ?_⟩) (Only.refl (M.One g) _) ?_
    rotate_left
    · (intro w' hw'; go_simp; (try with_reducible rfl))
    refine wpAnyT_take 9 (v := ?_) rfl (by kernel_rfl) (by kernel_rfl) (by kernel_rfl) (fun _ _ _ h => h) (by kernel_rfl) (by kernel_rfl) (Or.inl ⟨by kernel_rfl, ?_⟩) (Only.refl (M.One g) _) ?_
    rotate_left
    · (intro w' hw'; go_simp; (try with_reducible rfl))
    refine wpAnyT_one (i := 11) rfl (by kernel_rfl) (fun K hK => ?_)
    go_simp
    go_wp2_with (go_at_call 43; refine (C2 _ g lv hG).mono ?_; rintro e w4x ⟨rfl, hG2, ho4x⟩)
    refine hK.out _ _ (fun _ => ho4x) ?_
    clear hK K hG
    have hG := hG2
    clear hG2
    replace q_0 := q_0.kept ho4x ng_0
    refine wpAnyT_sub (S' := fun w' => Only (M.One g) w4x w') (fun _ h => og_trans ho4x h) ?_
    replace hq := og_trans hq ho4x
    clear ho4x
    refine wpAnyT_take 12 (v := ?_) rfl (by kernel_rfl) (by kernel_rfl) (by kernel_rfl) (fun _ _ _ h => h) (by kernel_rfl) (by kernel_rfl) (Or.inl ⟨by kernel_rfl, ?_⟩) (Only.refl (M.One g) _) ?_
    rotate_left
    · (intro w' hw'; go_simp; (try with_reducible rfl))
    refine wpAnyT_take 13 (v := ?_) rfl (by kernel_rfl) (by kernel_rfl) (by kernel_rfl) (fun _ _ _ h => h) (by kernel_rfl) (by kernel_rfl) (Or.inl ⟨by kernel_rfl, ?_⟩) (Only.refl (M.One g) _) ?_
    rotate_left
    · (intro w' hw'; go_simp; (try with_reducible rfl))
    refine wpAnyT_take 14 (v := ?_) rfl (by kernel_rfl) (by kernel_rfl) (by kernel_rfl) (fun _ _ _ h => h) (by kernel_rfl) (by kernel_rfl) (Or.inl ⟨by kernel_rfl, ?_⟩) (Only.refl (M.One g) _) ?_
    rotate_left
    · (intro w' hw'; go_simp; (try with_reducible rfl))
    refine wpAnyT_done (by kernel_rfl) ?_
    have HQ := Lib.hid hq
    have HGE := Lib.hid hG
    clear q_0 ng_0
    have c2 : w4x.cell? ⟨g, 2, none⟩ = some (.int .i64 (d : Int)) := HGE.out.blk.cell 2
    have f2 := HGE.out.blk.free 2
    clear hq hG hgw
    go_wp2_with fail
    go_ret
    exact ⟨rfl, HGE.out.setD D, og_trans (og_trans H1.out HQ.out) (og g _ 2 _)⟩
  · go_simp
    go_wp2_with (go_at_call 20; refine (pick_at hG hp1 (p1 : Int) rfl (by decide) (by decide)).mono ?_; rintro e w1x ⟨rfl, hG2, ho1x⟩)
    refine hK.out _ _ (fun _ => ho1x) ?_
    clear hK K hG
    have hG := hG2
    clear hG2
    refine wpAnyT_sub (S' := fun w' => Only (M.One g) w1x w') (fun _ h => og_trans ho1x h) ?_
    replace hq := og_trans hq ho1x
    clear ho1x
    refine wpAnyT_two (i := 0) (j := 7) rfl rfl (by kernel_rfl) (fun K hK => ?_) (fun K hK => ?_)
    · go_simp
      refine hK.out _ _ (fun _ => (Only.refl (M.One g) w1x).alloc _) ?_
      clear hK K
      have q_0 := Blk.new w1x #[.string (⟨#[76, 83, 76]⟩ : ByteArray), .string (⟨#[65, 83, 82]⟩ : ByteArray), .string (⟨#[82, 79, 82]⟩ : ByteArray)] 9
      have ho2x := alloc0 w1x (.cells #[.string (⟨#[76, 83, 76]⟩ : ByteArray), .string (⟨#[65, 83, 82]⟩ : ByteArray), .string (⟨#[82, 79, 82]⟩ : ByteArray)] 9)
      replace hG := hG.go ho2x
      obtain ⟨b_0, hb_0⟩ : ∃ z, w1x.heap.size = z := ⟨_, rfl⟩
      have ng_0 : ¬ M.One g b_0 := by
        intro h
        have h : b_0 = g := h
        have := hq.size
        omega
      obtain ⟨w2x, hw2x⟩ : ∃ z, w1x.alloc (.cells #[.string (⟨#[76, 83, 76]⟩ : ByteArray), .string (⟨#[65, 83, 82]⟩ : ByteArray), .string (⟨#[82, 79, 82]⟩ : ByteArray)] 9) = z := ⟨_, rfl⟩
      rw [hb_0] at q_0 ⊢
      rw [hw2x] at q_0 ho2x hG  ⊢
      clear hb_0 hw2x
      refine wpAnyT_sub (S' := fun w' => Only (M.One g) w2x w') (fun _ h => og_trans (og_nil ho2x) h) ?_
      replace hq := og_trans hq (og_nil ho2x)
      clear ho2x
      refine wpAnyT_take 3 (v := ?_) rfl (by kernel_rfl) (by kernel_rfl) (by kernel_rfl) (fun _ _ _ h => h) (by kernel_rfl) (by kernel_rfl) (Or.inl ⟨by kernel_rfl, ?_⟩) (Only.refl (M.One g) _) ?_
      rotate_left
      · (intro w' hw'; go_simp; (try with_reducible rfl))
      refine wpAnyT_take 4 (v := ?_) rfl (by kernel_rfl) (by kernel_rfl) (by kernel_rfl) (fun _ _ _ h => h) (by kernel_rfl) (by kernel_rfl) (Or.inl ⟨by kernel_rfl, ?_⟩) (Only.refl (M.One g) _) ?_
      rotate_left
      · (intro w' hw'; have e0 := ((q_0.kept hw' ng_0).cell p1).trans X1h.out; go_simp; (try with_reducible rfl))
      refine wpAnyT_take 5 (v := ?_) rfl (by kernel_rfl) (by kernel_rfl) (by kernel_rfl) (fun _ _ _ h => h) (by kernel_rfl) (by kernel_rfl) (Or.inl ⟨by kernel_rfl, ?_⟩) (Only.refl (M.One g) _) ?_
      rotate_left
      · (intro w' hw'; go_simp; (try with_reducible rfl))
      refine wpAnyT_one (i := 7) rfl (by kernel_rfl) (fun K hK => ?_)
      go_simp
      go_wp2_with (go_at_call 43; refine (C1 _ g lv hG).mono ?_; rintro e w3x ⟨rfl, hG2, ho3x⟩)
      refine hK.out _ _ (fun _ => ho3x) ?_
      clear hK K hG
      have hG := hG2
      clear hG2
      replace q_0 := q_0.kept ho3x ng_0
      refine wpAnyT_sub (S' := fun w' => Only (M.One g) w3x w') (fun _ h => og_trans ho3x h) ?_
      replace hq := og_trans hq ho3x
      clear ho3x
      refine wpAnyT_take 8 (v := ?_) rfl (by kernel_rfl) (by kernel_rfl) (by kernel_rfl) (fun _ _ _ h => h) (by kernel_rfl) (by kernel_rfl) (Or.inl ⟨by kernel_rfl, ?_⟩) (Only.refl (M.One g) _) ?_
      rotate_left
      · (intro w' hw'; go_simp; (try with_reducible rfl))
      refine wpAnyT_take 9 (v := ?_) rfl (by kernel_rfl) (by kernel_rfl) (by kernel_rfl) (fun _ _ _ h => h) (by kernel_rfl) (by kernel_rfl) (Or.inl ⟨by kernel_rfl, ?_⟩) (Only.refl (M.One g) _) ?_
      rotate_left
      · (intro w' hw'; go_simp; (try with_reducible rfl))
      refine wpAnyT_one (i := 11) rfl (by kernel_rfl) (fun K hK => ?_)
      go_simp
      go_wp2_with (go_at_call 43; refine (C2 _ g lv hG).mono ?_; rintro e w4x ⟨rfl, hG2, ho4x⟩)
      refine hK.out _ _ (fun _ => ho4x) ?_
      clear hK K hG
      have hG := hG2
      clear hG2
      replace q_0 := q_0.kept ho4x ng_0
      refine wpAnyT_sub (S' := fun w' => Only (M.One g) w4x w') (fun _ h => og_trans ho4x h) ?_
      replace hq := og_trans hq ho4x
      clear ho4x
      refine wpAnyT_take 12 (v := ?_) rfl (by kernel_rfl) (by kernel_rfl) (by kernel_rfl) (fun _ _ _ h => h) (by kernel_rfl) (by kernel_rfl) (Or.inl ⟨by kernel_rfl, ?_⟩) (Only.refl (M.One g) _) ?_
      rotate_left
      · (intro w' hw'; go_simp; (try with_reducible rfl))
      refine wpAnyT_take 13 (v := ?_) rfl (by kernel_rfl) (by kernel_rfl) (by kernel_rfl) (fun _ _ _ h => h) (by kernel_rfl) (by kernel_rfl) (Or.inl ⟨by kernel_rfl, ?_⟩) (Only.refl (M.One g) _) ?_
      rotate_left
      · (intro w' hw'; go_simp; (try with_reducible rfl))
      refine wpAnyT_take 14 (v := ?_) rfl (by kernel_rfl) (by kernel_rfl) (by kernel_rfl) (fun _ _ _ h => h) (by kernel_rfl) (by kernel_rfl) (Or.inl ⟨by kernel_rfl, ?_⟩) (Only.refl (M.One g) _) ?_
      rotate_left
      · (intro w' hw'; go_simp; (try with_reducible rfl))
      refine wpAnyT_done (by kernel_rfl) ?_
      have HQ := Lib.hid hq
      have HGE := Lib.hid hG
      clear q_0 ng_0
      have c2 : w4x.cell? ⟨g, 2, none⟩ = some (.int .i64 (d : Int)) := HGE.out.blk.cell 2
      have f2 := HGE.out.blk.free 2
      clear hq hG hgw
      go_wp2_with fail
      go_ret
      exact ⟨rfl, HGE.out.setD D, og_trans (og_trans H1.out HQ.out) (og g _ 2 _)⟩
    · go_simp
      go_wp2_with (go_at_call 43; refine (C1 _ g lv hG).mono ?_; rintro e w2x ⟨rfl, hG2, ho2x⟩)
      refine hK.out _ _ (fun _ => ho2x) ?_
      clear hK K hG
      have hG := hG2
      clear hG2
      refine wpAnyT_sub (S' := fun w' => Only (M.One g) w2x w') (fun _ h => og_trans ho2x h) ?_
      replace hq := og_trans hq ho2x
      clear ho2x
      refine wpAnyT_two (i := 0) (j := 11) rfl rfl (by kernel_rfl) (fun K hK => ?_) (fun K hK => ?_)
      · go_simp
        refine hK.out _ _ (fun _ => (Only.refl (M.One g) w2x).alloc _) ?_
        clear hK K
        have q_0 := Blk.new w2x #[.string (⟨#[76, 83, 76]⟩ : ByteArray), .string (⟨#[65, 83, 82]⟩ : ByteArray), .string (⟨#[82, 79, 82]⟩ : ByteArray)] 9
        have ho3x := alloc0 w2x (.cells #[.string (⟨#[76, 83, 76]⟩ : ByteArray), .string (⟨#[65, 83, 82]⟩ : ByteArray), .string (⟨#[82, 79, 82]⟩ : ByteArray)] 9)
        replace hG := hG.go ho3x
        obtain ⟨b_0, hb_0⟩ : ∃ z, w2x.heap.size = z := ⟨_, rfl⟩
        have ng_0 : ¬ M.One g b_0 := by
          intro h
          have h : b_0 = g := h
          have := hq.size
          omega
        obtain ⟨w3x, hw3x⟩ : ∃ z, w2x.alloc (.cells #[.string (⟨#[76, 83, 76]⟩ : ByteArray), .string (⟨#[65, 83, 82]⟩ : ByteArray), .string (⟨#[82, 79, 82]⟩ : ByteArray)] 9) = z := ⟨_, rfl⟩
        rw [hb_0] at q_0 ⊢
        rw [hw3x] at q_0 ho3x hG  ⊢
        clear hb_0 hw3x
        refine wpAnyT_sub (S' := fun w' => Only (M.One g) w3x w') (fun _ h => og_trans (og_nil ho3x) h) ?_
        replace hq := og_trans hq (og_nil ho3x)
        clear ho3x
        refine wpAnyT_take 3 (v := ?_) rfl (by kernel_rfl) (by kernel_rfl) (by kernel_rfl) (fun _ _ _ h => h) (by kernel_rfl) (by kernel_rfl) (Or.inl ⟨by kernel_rfl, ?_⟩) (Only.refl (M.One g) _) ?_
        rotate_left
        · (intro w' hw'; go_simp; (try with_reducible rfl))
        refine wpAnyT_take 4 (v := ?_) rfl (by kernel_rfl) (by kernel_rfl) (by kernel_rfl) (fun _ _ _ h => h) (by kernel_rfl) (by kernel_rfl) (Or.inl ⟨by kernel_rfl, ?_⟩) (Only.refl (M.One g) _) ?_
        rotate_left
        · (intro w' hw'; have e0 := ((q_0.kept hw' ng_0).cell p1).trans X1h.out; go_simp; (try with_reducible rfl))
        refine wpAnyT_take 5 (v := ?_) rfl (by kernel_rfl) (by kernel_rfl) (by kernel_rfl) (fun _ _ _ h => h) (by kernel_rfl) (by kernel_rfl) (Or.inl ⟨by kernel_rfl, ?_⟩) (Only.refl (M.One g) _) ?_
        rotate_left
        · (intro w' hw'; go_simp; (try with_reducible rfl))
        refine wpAnyT_take 8 (v := ?_) rfl (by kernel_rfl) (by kernel_rfl) (by kernel_rfl) (fun _ _ _ h => h) (by kernel_rfl) (by kernel_rfl) (Or.inl ⟨by kernel_rfl, ?_⟩) (Only.refl (M.One g) _) ?_
        rotate_left
        · (intro w' hw'; go_simp; (try with_reducible rfl))
        refine wpAnyT_take 9 (v := ?_) rfl (by kernel_rfl) (by kernel_rfl) (by kernel_rfl) (fun _ _ _ h => h) (by kernel_rfl) (by kernel_rfl) (Or.inl ⟨by kernel_rfl, ?_⟩) (Only.refl (M.One g) _) ?_
        rotate_left
        · (intro w' hw'; go_simp; (try with_reducible rfl))
        refine wpAnyT_one (i := 11) rfl (by kernel_rfl) (fun K hK => ?_)
        go_simp
        go_wp2_with (go_at_call 43; refine (C2 _ g lv hG).mono ?_; rintro e w4x ⟨rfl, hG2, ho4x⟩)
        refine hK.out _ _ (fun _ => ho4x) ?_
        clear hK K hG
        have hG := hG2
        clear hG2
        replace q_0 := q_0.kept ho4x ng_0
        refine wpAnyT_sub (S' := fun w' => Only (M.One g) w4x w') (fun _ h => og_trans ho4x h) ?_
        replace hq := og_trans hq ho4x
        clear ho4x
        refine wpAnyT_take 12 (v := ?_) rfl (by kernel_rfl) (by kernel_rfl) (by kernel_rfl) (fun _ _ _ h => h) (by kernel_rfl) (by kernel_rfl) (Or.inl ⟨by kernel_rfl, ?_⟩) (Only.refl (M.One g) _) ?_
        rotate_left
        · (intro w' hw'; go_simp; (try with_reducible rfl))
        refine wpAnyT_take 13 (v := ?_) rfl (by kernel_rfl) (by kernel_rfl) (by kernel_rfl) (fun _ _ _ h => h) (by kernel_rfl) (by kernel_rfl) (Or.inl ⟨by kernel_rfl, ?_⟩) (Only.refl (M.One g) _) ?_
        rotate_left
        · (intro w' hw'; go_simp; (try with_reducible rfl))
        refine wpAnyT_take 14 (v := ?_) rfl (by kernel_rfl) (by kernel_rfl) (by kernel_rfl) (fun _ _ _ h => h) (by kernel_rfl) (by kernel_rfl) (Or.inl ⟨by kernel_rfl, ?_⟩) (Only.refl (M.One g) _) ?_
        rotate_left
        · (intro w' hw'; go_simp; (try with_reducible rfl))
        refine wpAnyT_done (by kernel_rfl) ?_
        have HQ := Lib.hid hq
        have HGE := Lib.hid hG
        clear q_0 ng_0
        have c2 : w4x.cell? ⟨g, 2, none⟩ = some (.int .i64 (d : Int)) := HGE.out.blk.cell 2
        have f2 := HGE.out.blk.free 2
        clear hq hG hgw
        go_wp2_with fail
        go_ret
        exact ⟨rfl, HGE.out.setD D, og_trans (og_trans H1.out HQ.out) (og g _ 2 _)⟩
      · go_simp
        go_wp2_with (go_at_call 43; refine (C2 _ g lv hG).mono ?_; rintro e w3x ⟨rfl, hG2, ho3x⟩)
        refine hK.out _ _ (fun _ => ho3x) ?_
        clear hK K hG
        have hG := hG2
        clear hG2
        refine wpAnyT_sub (S' := fun w' => Only (M.One g) w3x w') (fun _ h => og_trans ho3x h) ?_
        replace hq := og_trans hq ho3x
        clear ho3x
        refine wpAnyT_one (i := 0) rfl (by kernel_rfl) (fun K hK => ?_)
        go_simp
        refine hK.out _ _ (fun _ => (Only.refl (M.One g) w3x).alloc _) ?_
        clear hK K
        have q_0 := Blk.new w3x #[.string (⟨#[76, 83, 76]⟩ : ByteArray), .string (⟨#[65, 83, 82]⟩ : ByteArray), .string (⟨#[82, 79, 82]⟩ : ByteArray)] 9
        have ho4x := alloc0 w3x (.cells #[.string (⟨#[76, 83, 76]⟩ : ByteArray), .string (⟨#[65, 83, 82]⟩ : ByteArray), .string (⟨#[82, 79, 82]⟩ : ByteArray)] 9)
        replace hG := hG.go ho4x
        obtain ⟨b_0, hb_0⟩ : ∃ z, w3x.heap.size = z := ⟨_, rfl⟩
        have ng_0 : ¬ M.One g b_0 := by
          intro h
          have h : b_0 = g := h
          have := hq.size
          omega
        obtain ⟨w4x, hw4x⟩ : ∃ z, w3x.alloc (.cells #[.string (⟨#[76, 83, 76]⟩ : ByteArray), .string (⟨#[65, 83, 82]⟩ : ByteArray), .string (⟨#[82, 79, 82]⟩ : ByteArray)] 9) = z := ⟨_, rfl⟩
        rw [hb_0] at q_0 ⊢
        rw [hw4x] at q_0 ho4x hG  ⊢
        clear hb_0 hw4x
        refine wpAnyT_sub (S' := fun w' => Only (M.One g) w4x w') (fun _ h => og_trans (og_nil ho4x) h) ?_
        replace hq := og_trans hq (og_nil ho4x)
        clear ho4x
        refine wpAnyT_take 3 (v := ?_) rfl (by kernel_rfl) (by kernel_rfl) (by kernel_rfl) (fun _ _ _ h => h) (by kernel_rfl) (by kernel_rfl) (Or.inl ⟨by kernel_rfl, ?_⟩) (Only.refl (M.One g) _) ?_
        rotate_left
        · (intro w' hw'; go_simp; (try with_reducible rfl))
        refine wpAnyT_take 4 (v := ?_) rfl (by kernel_rfl) (by kernel_rfl) (by kernel_rfl) (fun _ _ _ h => h) (by kernel_rfl) (by kernel_rfl) (Or.inl ⟨by kernel_rfl, ?_⟩) (Only.refl (M.One g) _) ?_
        rotate_left
        · (intro w' hw'; have e0 := ((q_0.kept hw' ng_0).cell p1).trans X1h.out; go_simp; (try with_reducible rfl))
        refine wpAnyT_take 5 (v := ?_) rfl (by kernel_rfl) (by kernel_rfl) (by kernel_rfl) (fun _ _ _ h => h) (by kernel_rfl) (by kernel_rfl) (Or.inl ⟨by kernel_rfl, ?_⟩) (Only.refl (M.One g) _) ?_
        rotate_left
        · (intro w' hw'; go_simp; (try with_reducible rfl))
        refine wpAnyT_take 8 (v := ?_) rfl (by kernel_rfl) (by kernel_rfl) (by kernel_rfl) (fun _ _ _ h => h) (by kernel_rfl) (by kernel_rfl) (Or.inl ⟨by kernel_rfl, ?_⟩) (Only.refl (M.One g) _) ?_
        rotate_left
        · (intro w' hw'; go_simp; (try with_reducible rfl))
        refine wpAnyT_take 9 (v := ?_) rfl (by kernel_rfl) (by kernel_rfl) (by kernel_rfl) (fun _ _ _ h => h) (by kernel_rfl) (by kernel_rfl) (Or.inl ⟨by kernel_rfl, ?_⟩) (Only.refl (M.One g) _) ?_
        rotate_left
        · (intro w' hw'; go_simp; (try with_reducible rfl))
        refine wpAnyT_take 12 (v := ?_) rfl (by kernel_rfl) (by kernel_rfl) (by kernel_rfl) (fun _ _ _ h => h) (by kernel_rfl) (by kernel_rfl) (Or.inl ⟨by kernel_rfl, ?_⟩) (Only.refl (M.One g) _) ?_
        rotate_left
        · (intro w' hw'; go_simp; (try with_reducible rfl))
        refine wpAnyT_take 13 (v := ?_) rfl (by kernel_rfl) (by kernel_rfl) (by kernel_rfl) (fun _ _ _ h => h) (by kernel_rfl) (by kernel_rfl) (Or.inl ⟨by kernel_rfl, ?_⟩) (Only.refl (M.One g) _) ?_
        rotate_left
        · (intro w' hw'; go_simp; (try with_reducible rfl))
        refine wpAnyT_take 14 (v := ?_) rfl (by kernel_rfl) (by kernel_rfl) (by kernel_rfl) (fun _ _ _ h => h) (by kernel_rfl) (by kernel_rfl) (Or.inl ⟨by kernel_rfl, ?_⟩) (Only.refl (M.One g) _) ?_
        rotate_left
        · (intro w' hw'; go_simp; (try with_reducible rfl))
        refine wpAnyT_done (by kernel_rfl) ?_
        have HQ := Lib.hid hq
        have HGE := Lib.hid hG
        clear q_0 ng_0
        have c2 : w4x.cell? ⟨g, 2, none⟩ = some (.int .i64 (d : Int)) := HGE.out.blk.cell 2
        have f2 := HGE.out.blk.free 2
        clear hq hG hgw
        go_wp2_with fail
        go_ret
        exact ⟨rfl, HGE.out.setD D, og_trans (og_trans H1.out HQ.out) (og g _ 2 _)⟩
end Go.Proofs.YtbpdhpfcknaaiaaDoor

