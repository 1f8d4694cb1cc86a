/- What a leaf, a variable, a CHAR is told by. -/
import Derived.Test.YtbpdhpfcknaaiaaDoorEGen
set_option linter.unusedSimpArgs false
set_option linter.unusedVariables false
namespace Go.Proofs.YtbpdhpfcknaaiaaDoor
open Go.RowKit M

set_option maxRecDepth 10000 in
set_option maxHeartbeats 1600000 in
theorem leaf_any (L : List Nat) (d : Nat)  : Gn 52 L d 9 := by
  intro i
  have hR : 9 ≤ 9 := by decide
  have y0 : (⟨#[49]⟩ : ByteArray).size = 1 := rfl
  have y1 : (⟨#[105]⟩ : ByteArray).size = 1 := rfl
  have y2 : (⟨#[106]⟩ : ByteArray).size = 1 := rfl
  have y3 : (⟨#[110]⟩ : ByteArray).size = 1 := rfl
  have y4 : (⟨#[107]⟩ : ByteArray).size = 1 := rfl
  have y5 : (⟨#[48]⟩ : ByteArray).size = 1 := rfl
  have y6 : (⟨#[50]⟩ : ByteArray).size = 1 := rfl
  have y7 : (⟨#[55, 70, 70, 70, 70, 70, 70, 70, 72]⟩ : ByteArray).size = 9 := rfl
  have y8 : (⟨#[97, 91, 49, 93]⟩ : ByteArray).size = 4 := rfl
  have y9 : (⟨#[114, 46, 120]⟩ : ByteArray).size = 3 := rfl
  have y10 : (⟨#[76, 69, 78, 40, 97, 41]⟩ : ByteArray).size = 6 := rfl
  have y11 : (⟨#[51]⟩ : ByteArray).size = 1 := rfl
  have y12 : (⟨#[56, 48, 48, 48, 48, 48, 48, 48, 72]⟩ : ByteArray).size = 9 := rfl
  have y13 : (⟨#[114, 46, 121]⟩ : ByteArray).size = 3 := rfl
  have y14 : (⟨#[49, 48, 48]⟩ : ByteArray).size = 3 := rfl
  obtain ⟨p1, q1, hp1⟩ : ∃ p q, pickM L i 15 = (p, q) := ⟨_, _, rfl⟩
  have p1lt : p1 < 15 := by have h := pickM_lt L i (n := 15) (by decide); rw [hp1] at h; exact h
  have p1a : (0 : Int) ≤ (p1 : Int) := Int.natCast_nonneg _
  have p1b : (p1 : Int) < 15 := by omega
  obtain ⟨X1, hX1⟩ : ∃ x, ([(⟨#[49]⟩ : ByteArray), (⟨#[105]⟩ : ByteArray), (⟨#[106]⟩ : ByteArray), (⟨#[110]⟩ : ByteArray), (⟨#[107]⟩ : ByteArray), (⟨#[48]⟩ : ByteArray), (⟨#[50]⟩ : ByteArray), (⟨#[55, 70, 70, 70, 70, 70, 70, 70, 72]⟩ : ByteArray), (⟨#[97, 91, 49, 93]⟩ : ByteArray), (⟨#[114, 46, 120]⟩ : ByteArray), (⟨#[76, 69, 78, 40, 97, 41]⟩ : ByteArray), (⟨#[51]⟩ : ByteArray), (⟨#[56, 48, 48, 48, 48, 48, 48, 48, 72]⟩ : ByteArray), (⟨#[114, 46, 121]⟩ : ByteArray), (⟨#[49, 48, 48]⟩ : ByteArray)] : List ByteArray).getD p1 ⟨#[]⟩ = x := ⟨_, rfl⟩
  have X1b : X1.size ≤ 9 := by rw [← hX1]; exact choice_le _ _ (by intro x hx; simp only [List.mem_cons, List.not_mem_nil, or_false] at hx; rcases hx with rfl | rfl | rfl | rfl | rfl | rfl | rfl | rfl | rfl | rfl | rfl | rfl | rfl | rfl | rfl <;> first | decide | (omega)) _
  have X1c : ((#[.string (⟨#[49]⟩ : ByteArray), .string (⟨#[105]⟩ : ByteArray), .string (⟨#[106]⟩ : ByteArray), .string (⟨#[110]⟩ : ByteArray), .string (⟨#[107]⟩ : ByteArray), .string (⟨#[48]⟩ : ByteArray), .string (⟨#[50]⟩ : ByteArray), .string (⟨#[55, 70, 70, 70, 70, 70, 70, 70, 72]⟩ : ByteArray), .string (⟨#[97, 91, 49, 93]⟩ : ByteArray), .string (⟨#[114, 46, 120]⟩ : ByteArray), .string (⟨#[76, 69, 78, 40, 97, 41]⟩ : ByteArray), .string (⟨#[51]⟩ : ByteArray), .string (⟨#[56, 48, 48, 48, 48, 48, 48, 48, 72]⟩ : ByteArray), .string (⟨#[114, 46, 121]⟩ : ByteArray), .string (⟨#[49, 48, 48]⟩ : ByteArray)] : Array Value))[p1]? = some (.string X1) := by rw [← hX1]; exact choice_cell [(⟨#[49]⟩ : ByteArray), (⟨#[105]⟩ : ByteArray), (⟨#[106]⟩ : ByteArray), (⟨#[110]⟩ : ByteArray), (⟨#[107]⟩ : ByteArray), (⟨#[48]⟩ : ByteArray), (⟨#[50]⟩ : ByteArray), (⟨#[55, 70, 70, 70, 70, 70, 70, 70, 72]⟩ : ByteArray), (⟨#[97, 91, 49, 93]⟩ : ByteArray), (⟨#[114, 46, 120]⟩ : ByteArray), (⟨#[76, 69, 78, 40, 97, 41]⟩ : ByteArray), (⟨#[51]⟩ : ByteArray), (⟨#[56, 48, 48, 48, 48, 48, 48, 48, 72]⟩ : ByteArray), (⟨#[114, 46, 121]⟩ : ByteArray), (⟨#[49, 48, 48]⟩ : ByteArray)] p1 p1lt
  have X1h := Lib.hid X1c
  refine ⟨X1, q1, ?pos, by omega, fun w g lv hG => ?_⟩
  case pos => rw [← hX1]; exact choice_pos _ (by intro x hx; simp only [List.mem_cons, List.not_mem_nil, or_false] at hx; rcases hx with rfl | rfl | rfl | rfl | rfl | rfl | rfl | rfl | rfl | rfl | rfl | rfl | rfl | rfl | rfl <;> first | decide | (omega)) _ (by have := p1lt; exact this)
  have HG := Lib.hid hG
  clear hG hR hX1 X1b X1c
  go_enter Tryd.func52, Tryd.ntmps52
  go_wp2_with fail
  refine (pick_at (HG.out.go (alloc0 w _)) hp1 (p1 : Int) rfl (by decide) (by decide)).mono ?_
  rintro e w1 ⟨rfl, hG1, ho1⟩
  have G1 := Lib.hid hG1
  have H1 := Lib.hid (og_trans (og_nil (alloc0 w _)) ho1)
  have cellX1 : w1.cell? ⟨w.heap.size, p1, none⟩ = some (.string X1) := by
    have h := ((Blk.new w #[.string (⟨#[49]⟩ : ByteArray), .string (⟨#[105]⟩ : ByteArray), .string (⟨#[106]⟩ : ByteArray), .string (⟨#[110]⟩ : ByteArray), .string (⟨#[107]⟩ : ByteArray), .string (⟨#[48]⟩ : ByteArray), .string (⟨#[50]⟩ : ByteArray), .string (⟨#[55, 70, 70, 70, 70, 70, 70, 70, 72]⟩ : ByteArray), .string (⟨#[97, 91, 49, 93]⟩ : ByteArray), .string (⟨#[114, 46, 120]⟩ : ByteArray), .string (⟨#[76, 69, 78, 40, 97, 41]⟩ : ByteArray), .string (⟨#[51]⟩ : ByteArray), .string (⟨#[56, 48, 48, 48, 48, 48, 48, 48, 72]⟩ : ByteArray), .string (⟨#[114, 46, 121]⟩ : ByteArray), .string (⟨#[49, 48, 48]⟩ : ByteArray)] 9).kept ho1 (fun h => absurd (show w.heap.size = g from h) (Nat.ne_of_gt HG.out.blk.lt))).cell p1
    rw [h]; exact X1h.out
  have p1c := p1lt
  clear hG1 ho1
  go_wp2_with fail
  go_ret
  exact ⟨rfl, G1.out, H1.out⟩
set_option maxRecDepth 10000 in
set_option maxHeartbeats 1600000 in
theorem variable_any (L : List Nat) (d : Nat)  : Gn 49 L d 10 := by
  intro i
  have hR : 10 ≤ 10 := by decide
  have y0 : (⟨#[105]⟩ : ByteArray).size = 1 := rfl
  have y1 : (⟨#[106]⟩ : ByteArray).size = 1 := rfl
  have y2 : (⟨#[110]⟩ : ByteArray).size = 1 := rfl
  have y3 : (⟨#[97, 91, 48, 93]⟩ : ByteArray).size = 4 := rfl
  have y4 : (⟨#[97, 91, 105, 32, 77, 79, 68, 32, 52, 93]⟩ : ByteArray).size = 10 := rfl
  have y5 : (⟨#[114, 46, 120]⟩ : ByteArray).size = 3 := rfl
  have y6 : (⟨#[114, 46, 121]⟩ : ByteArray).size = 3 := rfl
  have y7 : (⟨#[112, 46, 120]⟩ : ByteArray).size = 3 := rfl
  have y8 : (⟨#[97, 91, 106, 93]⟩ : ByteArray).size = 4 := rfl
  have y9 : (⟨#[117, 46, 121]⟩ : ByteArray).size = 3 := rfl
  obtain ⟨p1, q1, hp1⟩ : ∃ p q, pickM L i 10 = (p, q) := ⟨_, _, rfl⟩
  have p1lt : p1 < 10 := by have h := pickM_lt L i (n := 10) (by decide); rw [hp1] at h; exact h
  have p1a : (0 : Int) ≤ (p1 : Int) := Int.natCast_nonneg _
  have p1b : (p1 : Int) < 10 := by omega
  obtain ⟨X1, hX1⟩ : ∃ x, ([(⟨#[105]⟩ : ByteArray), (⟨#[106]⟩ : ByteArray), (⟨#[110]⟩ : ByteArray), (⟨#[97, 91, 48, 93]⟩ : ByteArray), (⟨#[97, 91, 105, 32, 77, 79, 68, 32, 52, 93]⟩ : ByteArray), (⟨#[114, 46, 120]⟩ : ByteArray), (⟨#[114, 46, 121]⟩ : ByteArray), (⟨#[112, 46, 120]⟩ : ByteArray), (⟨#[97, 91, 106, 93]⟩ : ByteArray), (⟨#[117, 46, 121]⟩ : ByteArray)] : List ByteArray).getD p1 ⟨#[]⟩ = x := ⟨_, rfl⟩
  have X1b : X1.size ≤ 10 := by rw [← hX1]; exact choice_le _ _ (by intro x hx; simp only [List.mem_cons, List.not_mem_nil, or_false] at hx; rcases hx with rfl | rfl | rfl | rfl | rfl | rfl | rfl | rfl | rfl | rfl <;> first | decide | (omega)) _
  have X1c : ((#[.string (⟨#[105]⟩ : ByteArray), .string (⟨#[106]⟩ : ByteArray), .string (⟨#[110]⟩ : ByteArray), .string (⟨#[97, 91, 48, 93]⟩ : ByteArray), .string (⟨#[97, 91, 105, 32, 77, 79, 68, 32, 52, 93]⟩ : ByteArray), .string (⟨#[114, 46, 120]⟩ : ByteArray), .string (⟨#[114, 46, 121]⟩ : ByteArray), .string (⟨#[112, 46, 120]⟩ : ByteArray), .string (⟨#[97, 91, 106, 93]⟩ : ByteArray), .string (⟨#[117, 46, 121]⟩ : ByteArray)] : Array Value))[p1]? = some (.string X1) := by rw [← hX1]; exact choice_cell [(⟨#[105]⟩ : ByteArray), (⟨#[106]⟩ : ByteArray), (⟨#[110]⟩ : ByteArray), (⟨#[97, 91, 48, 93]⟩ : ByteArray), (⟨#[97, 91, 105, 32, 77, 79, 68, 32, 52, 93]⟩ : ByteArray), (⟨#[114, 46, 120]⟩ : ByteArray), (⟨#[114, 46, 121]⟩ : ByteArray), (⟨#[112, 46, 120]⟩ : ByteArray), (⟨#[97, 91, 106, 93]⟩ : ByteArray), (⟨#[117, 46, 121]⟩ : ByteArray)] p1 p1lt
  have X1h := Lib.hid X1c
  refine ⟨X1, q1, ?pos, by omega, fun w g lv hG => ?_⟩
  case pos => rw [← hX1]; exact choice_pos _ (by intro x hx; simp only [List.mem_cons, List.not_mem_nil, or_false] at hx; rcases hx with rfl | rfl | rfl | rfl | rfl | rfl | rfl | rfl | rfl | rfl <;> first | decide | (omega)) _ (by have := p1lt; exact this)
  have HG := Lib.hid hG
  clear hG hR hX1 X1b X1c
  go_enter Tryd.func49, Tryd.ntmps49
  go_wp2_with fail
  refine (pick_at (HG.out.go (alloc0 w _)) hp1 (p1 : Int) rfl (by decide) (by decide)).mono ?_
  rintro e w1 ⟨rfl, hG1, ho1⟩
  have G1 := Lib.hid hG1
  have H1 := Lib.hid (og_trans (og_nil (alloc0 w _)) ho1)
  have cellX1 : w1.cell? ⟨w.heap.size, p1, none⟩ = some (.string X1) := by
    have h := ((Blk.new w #[.string (⟨#[105]⟩ : ByteArray), .string (⟨#[106]⟩ : ByteArray), .string (⟨#[110]⟩ : ByteArray), .string (⟨#[97, 91, 48, 93]⟩ : ByteArray), .string (⟨#[97, 91, 105, 32, 77, 79, 68, 32, 52, 93]⟩ : ByteArray), .string (⟨#[114, 46, 120]⟩ : ByteArray), .string (⟨#[114, 46, 121]⟩ : ByteArray), .string (⟨#[112, 46, 120]⟩ : ByteArray), .string (⟨#[97, 91, 106, 93]⟩ : ByteArray), .string (⟨#[117, 46, 121]⟩ : ByteArray)] 9).kept ho1 (fun h => absurd (show w.heap.size = g from h) (Nat.ne_of_gt HG.out.blk.lt))).cell p1
    rw [h]; exact X1h.out
  have p1c := p1lt
  clear hG1 ho1
  go_wp2_with fail
  go_ret
  exact ⟨rfl, G1.out, H1.out⟩
set_option maxRecDepth 10000 in
set_option maxHeartbeats 1600000 in
theorem char_any (L : List Nat) (d : Nat)  : Gn 50 L d 16 := by
  intro i
  have hR : 16 ≤ 16 := by decide
  have y0 : (⟨#[67, 72, 82, 40]⟩ : ByteArray).size = 4 := rfl
  have y1 : (⟨#[32, 77, 79, 68, 32, 50, 53, 54, 41]⟩ : ByteArray).size = 9 := rfl
  have y2 : (⟨#[99]⟩ : ByteArray).size = 1 := rfl
  have y3 : (⟨#[34, 120, 34]⟩ : ByteArray).size = 3 := rfl
  have y4 : (⟨#[52, 49, 88]⟩ : ByteArray).size = 3 := rfl
  have y5 : (⟨#[116, 91, 50, 93]⟩ : ByteArray).size = 4 := rfl
  have y6 : (⟨#[67, 72, 82, 40, 105, 32, 77, 79, 68, 32, 49, 50, 56, 41]⟩ : ByteArray).size = 14 := rfl
  have y7 : (⟨#[116, 91, 105, 32, 77, 79, 68, 32, 54, 93]⟩ : ByteArray).size = 10 := rfl
  have y8 : (⟨#[117, 46, 122]⟩ : ByteArray).size = 3 := rfl
  have y9 : (⟨#[48, 88]⟩ : ByteArray).size = 2 := rfl
  obtain ⟨p1, q1, hp1⟩ : ∃ p q, pickM L i 300 = (p, q) := ⟨_, _, rfl⟩
  have p1lt : p1 < 300 := by have h := pickM_lt L i (n := 300) (by decide); rw [hp1] at h; exact h
  have p1a : (0 : Int) ≤ (p1 : Int) := Int.natCast_nonneg _
  have p1b : (p1 : Int) < 300 := by omega
  obtain ⟨S1, S1p, S1b, C1⟩ := dec_any p1 (by omega)
  obtain ⟨p2, q2, hp2⟩ : ∃ p q, pickM L q1 9 = (p, q) := ⟨_, _, rfl⟩
  have p2lt : p2 < 9 := by have h := pickM_lt L q1 (n := 9) (by decide); rw [hp2] at h; exact h
  have p2a : (0 : Int) ≤ (p2 : Int) := Int.natCast_nonneg _
  have p2b : (p2 : Int) < 9 := by omega
  obtain ⟨X1, hX1⟩ : ∃ x, ([(⟨#[99]⟩ : ByteArray), (⟨#[34, 120, 34]⟩ : ByteArray), (⟨#[52, 49, 88]⟩ : ByteArray), (⟨#[116, 91, 50, 93]⟩ : ByteArray), (((⟨#[67, 72, 82, 40]⟩ : ByteArray) ++ S1) ++ (⟨#[32, 77, 79, 68, 32, 50, 53, 54, 41]⟩ : ByteArray)), (⟨#[67, 72, 82, 40, 105, 32, 77, 79, 68, 32, 49, 50, 56, 41]⟩ : ByteArray), (⟨#[116, 91, 105, 32, 77, 79, 68, 32, 54, 93]⟩ : ByteArray), (⟨#[117, 46, 122]⟩ : ByteArray), (⟨#[48, 88]⟩ : ByteArray)] : List ByteArray).getD p2 ⟨#[]⟩ = x := ⟨_, rfl⟩
  have z0 : ((⟨#[67, 72, 82, 40]⟩ : ByteArray) ++ S1).size = 4 + S1.size := by rw [ByteArray.size_append, y0]
  have kz0 : ¬ 9223372036854775807 < 4 + S1.size := by omega
  have z1 : (((⟨#[67, 72, 82, 40]⟩ : ByteArray) ++ S1) ++ (⟨#[32, 77, 79, 68, 32, 50, 53, 54, 41]⟩ : ByteArray)).size = 4 + S1.size + 9 := by rw [ByteArray.size_append, z0, y1]
  have X1b : X1.size ≤ 16 := by rw [← hX1]; exact choice_le _ _ (by intro x hx; simp only [List.mem_cons, List.not_mem_nil, or_false] at hx; rcases hx with rfl | rfl | rfl | rfl | rfl | rfl | rfl | rfl | rfl <;> first | decide | ((rw [z1]; omega))) _
  have X1c : ((#[.string (⟨#[99]⟩ : ByteArray), .string (⟨#[34, 120, 34]⟩ : ByteArray), .string (⟨#[52, 49, 88]⟩ : ByteArray), .string (⟨#[116, 91, 50, 93]⟩ : ByteArray), .string (((⟨#[67, 72, 82, 40]⟩ : ByteArray) ++ S1) ++ (⟨#[32, 77, 79, 68, 32, 50, 53, 54, 41]⟩ : ByteArray)), .string (⟨#[67, 72, 82, 40, 105, 32, 77, 79, 68, 32, 49, 50, 56, 41]⟩ : ByteArray), .string (⟨#[116, 91, 105, 32, 77, 79, 68, 32, 54, 93]⟩ : ByteArray), .string (⟨#[117, 46, 122]⟩ : ByteArray), .string (⟨#[48, 88]⟩ : ByteArray)] : Array Value))[p2]? = some (.string X1) := by rw [← hX1]; exact choice_cell [(⟨#[99]⟩ : ByteArray), (⟨#[34, 120, 34]⟩ : ByteArray), (⟨#[52, 49, 88]⟩ : ByteArray), (⟨#[116, 91, 50, 93]⟩ : ByteArray), (((⟨#[67, 72, 82, 40]⟩ : ByteArray) ++ S1) ++ (⟨#[32, 77, 79, 68, 32, 50, 53, 54, 41]⟩ : ByteArray)), (⟨#[67, 72, 82, 40, 105, 32, 77, 79, 68, 32, 49, 50, 56, 41]⟩ : ByteArray), (⟨#[116, 91, 105, 32, 77, 79, 68, 32, 54, 93]⟩ : ByteArray), (⟨#[117, 46, 122]⟩ : ByteArray), (⟨#[48, 88]⟩ : ByteArray)] p2 p2lt
  have X1h := Lib.hid X1c
  have kz1 : ¬ 9223372036854775807 < 4 + S1.size + 9 := by omega
  refine ⟨X1, q2, ?pos, by omega, fun w g lv hG => ?_⟩
  case pos => rw [← hX1]; exact choice_pos _ (by intro x hx; simp only [List.mem_cons, List.not_mem_nil, or_false] at hx; rcases hx with rfl | rfl | rfl | rfl | rfl | rfl | rfl | rfl | rfl <;> first | decide | ((rw [z1]; omega))) _ (by have := p2lt; exact this)
  have HG := Lib.hid hG
  clear hG hR S1p S1b hX1 X1b X1c
  go_enter Tryd.func50, Tryd.ntmps50
  go_wp2_with fail
  refine (pick_at HG.out hp1 (p1 : Int) rfl (by decide) (by decide)).mono ?_
  rintro e w1 ⟨rfl, hG1, ho1⟩
  have G1 := Lib.hid hG1
  have H1 := Lib.hid ho1
  clear hG1 ho1
  go_wp2_with fail
  refine (C1 _).mono ?_
  rintro e w2 ⟨rfl, hn2⟩
  have hG2 := G1.out.go hn2
  have ho2 := og_nil (g := g) hn2
  have G2 := Lib.hid hG2
  have H2 := Lib.hid (og_trans H1.out ho2)
  clear hG2 ho2 hn2
  go_wp2_with fail
  refine (pick_at (G2.out.go (alloc0 w2 _)) hp2 (p2 : Int) rfl (by decide) (by decide)).mono ?_
  rintro e w3 ⟨rfl, hG3, ho3⟩
  have G3 := Lib.hid hG3
  have H3 := Lib.hid (og_trans H2.out (og_trans (og_nil (alloc0 w2 _)) ho3))
  have cellX1 : w3.cell? ⟨w2.heap.size, p2, none⟩ = some (.string X1) := by
    have h := ((Blk.new w2 #[.string (⟨#[99]⟩ : ByteArray), .string (⟨#[34, 120, 34]⟩ : ByteArray), .string (⟨#[52, 49, 88]⟩ : ByteArray), .string (⟨#[116, 91, 50, 93]⟩ : ByteArray), .string (((⟨#[67, 72, 82, 40]⟩ : ByteArray) ++ S1) ++ (⟨#[32, 77, 79, 68, 32, 50, 53, 54, 41]⟩ : ByteArray)), .string (⟨#[67, 72, 82, 40, 105, 32, 77, 79, 68, 32, 49, 50, 56, 41]⟩ : ByteArray), .string (⟨#[116, 91, 105, 32, 77, 79, 68, 32, 54, 93]⟩ : ByteArray), .string (⟨#[117, 46, 122]⟩ : ByteArray), .string (⟨#[48, 88]⟩ : ByteArray)] 9).kept ho3 (fun h => absurd (show w2.heap.size = g from h) (Nat.ne_of_gt G2.out.blk.lt))).cell p2
    rw [h]; exact X1h.out
  have p2c := p2lt
  clear hG3 ho3
  go_wp2_with fail
  go_ret
  exact ⟨rfl, G3.out, H3.out⟩
end Go.Proofs.YtbpdhpfcknaaiaaDoor

/- What set tells, case by case. -/
set_option linter.unusedSimpArgs false
set_option linter.unusedVariables false
namespace Go.Proofs.YtbpdhpfcknaaiaaDoor
open Go.RowKit M

set_option maxRecDepth 10000 in
set_option maxHeartbeats 1600000 in
theorem set_0 {L : List Nat} {d i i1 R  : Nat} (hd : d ≤ 100) (hp : pickM L i 8 = (0, i1))  (hR : 1 ≤ R) : Sn 51 L d R i := by
  have y0 : (⟨#[115]⟩ : ByteArray).size = 1 := rfl
  refine ⟨(⟨#[115]⟩ : ByteArray), i1, ?pos, by rw [y0]; omega, fun w g lv hG => ?_⟩
  case pos => rw [y0]; omega
  have HG := Lib.hid hG
  clear hG hR hd
  go_enter Tryd.func51, Tryd.ntmps51
  go_wp2_with fail
  refine (pick_at HG.out hp 0 rfl (by decide) (by decide)).mono ?_
  rintro e w1 ⟨rfl, hG1, ho1⟩
  have G1 := Lib.hid hG1
  have H1 := Lib.hid ho1
  clear hG1 ho1 hp
  go_wp2_with fail
  go_ret
  exact ⟨rfl, G1.out, H1.out⟩
set_option maxRecDepth 10000 in
set_option maxHeartbeats 1600000 in
theorem set_1 {L : List Nat} {d i i1 R  : Nat} (hd : d ≤ 100) (hp : pickM L i 8 = (1, i1))  (hR : 11 ≤ R) : Sn 51 L d R i := by
  have y0 : (⟨#[123, 49, 44, 32, 51, 32, 46, 46, 32, 53, 125]⟩ : ByteArray).size = 11 := rfl
  refine ⟨(⟨#[123, 49, 44, 32, 51, 32, 46, 46, 32, 53, 125]⟩ : ByteArray), i1, ?pos, by rw [y0]; omega, fun w g lv hG => ?_⟩
  case pos => rw [y0]; omega
  have HG := Lib.hid hG
  clear hG hR hd
  go_enter Tryd.func51, Tryd.ntmps51
  go_wp2_with fail
  refine (pick_at HG.out hp 1 rfl (by decide) (by decide)).mono ?_
  rintro e w1 ⟨rfl, hG1, ho1⟩
  have G1 := Lib.hid hG1
  have H1 := Lib.hid ho1
  clear hG1 ho1 hp
  go_wp2_with fail
  go_ret
  exact ⟨rfl, G1.out, H1.out⟩
set_option maxRecDepth 10000 in
set_option maxHeartbeats 1600000 in
theorem set_2 {L : List Nat} {d i i1 R  : Nat} (hd : d ≤ 100) (hp : pickM L i 8 = (2, i1))  (hR : 10 ≤ R) : Sn 51 L d R i := by
  have y0 : (⟨#[123, 105, 32, 77, 79, 68, 32, 51, 50, 125]⟩ : ByteArray).size = 10 := rfl
  refine ⟨(⟨#[123, 105, 32, 77, 79, 68, 32, 51, 50, 125]⟩ : ByteArray), i1, ?pos, by rw [y0]; omega, fun w g lv hG => ?_⟩
  case pos => rw [y0]; omega
  have HG := Lib.hid hG
  clear hG hR hd
  go_enter Tryd.func51, Tryd.ntmps51
  go_wp2_with fail
  refine (pick_at HG.out hp 2 rfl (by decide) (by decide)).mono ?_
  rintro e w1 ⟨rfl, hG1, ho1⟩
  have G1 := Lib.hid hG1
  have H1 := Lib.hid ho1
  clear hG1 ho1 hp
  go_wp2_with fail
  go_ret
  exact ⟨rfl, G1.out, H1.out⟩
set_option maxRecDepth 10000 in
set_option maxHeartbeats 1600000 in
theorem set_3 {L : List Nat} {d i i1 R  : Nat} (hd : d ≤ 100) (hp : pickM L i 8 = (3, i1))  (hR : 14 ≤ R) : Sn 51 L d R i := by
  have y0 : (⟨#[40, 115, 32, 43, 32, 123, 48, 32, 46, 46, 32, 55, 125, 41]⟩ : ByteArray).size = 14 := rfl
  refine ⟨(⟨#[40, 115, 32, 43, 32, 123, 48, 32, 46, 46, 32, 55, 125, 41]⟩ : ByteArray), i1, ?pos, by rw [y0]; omega, fun w g lv hG => ?_⟩
  case pos => rw [y0]; omega
  have HG := Lib.hid hG
  clear hG hR hd
  go_enter Tryd.func51, Tryd.ntmps51
  go_wp2_with fail
  refine (pick_at HG.out hp 3 rfl (by decide) (by decide)).mono ?_
  rintro e w1 ⟨rfl, hG1, ho1⟩
  have G1 := Lib.hid hG1
  have H1 := Lib.hid ho1
  clear hG1 ho1 hp
  go_wp2_with fail
  go_ret
  exact ⟨rfl, G1.out, H1.out⟩
set_option maxRecDepth 10000 in
set_option maxHeartbeats 1600000 in
theorem set_4 {L : List Nat} {d i i1 R  : Nat} (hd : d ≤ 100) (hp : pickM L i 8 = (4, i1))  (hR : 19 ≤ R) : Sn 51 L d R i := by
  have y0 : (⟨#[40, 115, 32, 42, 32, 123, 50, 44, 32, 106, 32, 77, 79, 68, 32, 51, 50, 125, 41]⟩ : ByteArray).size = 19 := rfl
  refine ⟨(⟨#[40, 115, 32, 42, 32, 123, 50, 44, 32, 106, 32, 77, 79, 68, 32, 51, 50, 125, 41]⟩ : ByteArray), i1, ?pos, by rw [y0]; omega, fun w g lv hG => ?_⟩
  case pos => rw [y0]; omega
  have HG := Lib.hid hG
  clear hG hR hd
  go_enter Tryd.func51, Tryd.ntmps51
  go_wp2_with fail
  refine (pick_at HG.out hp 4 rfl (by decide) (by decide)).mono ?_
  rintro e w1 ⟨rfl, hG1, ho1⟩
  have G1 := Lib.hid hG1
  have H1 := Lib.hid ho1
  clear hG1 ho1 hp
  go_wp2_with fail
  go_ret
  exact ⟨rfl, G1.out, H1.out⟩
set_option maxRecDepth 10000 in
set_option maxHeartbeats 1600000 in
theorem set_5 {L : List Nat} {d i i1 R  : Nat} (hd : d ≤ 100) (hp : pickM L i 8 = (5, i1))  (hR : 21 ≤ R) : Sn 51 L d R i := by
  have y0 : (⟨#[40, 115, 32, 47, 32, 123, 105, 32, 77, 79, 68, 32, 56, 32, 46, 46, 32, 51, 49, 125, 41]⟩ : ByteArray).size = 21 := rfl
  refine ⟨(⟨#[40, 115, 32, 47, 32, 123, 105, 32, 77, 79, 68, 32, 56, 32, 46, 46, 32, 51, 49, 125, 41]⟩ : ByteArray), i1, ?pos, by rw [y0]; omega, fun w g lv hG => ?_⟩
  case pos => rw [y0]; omega
  have HG := Lib.hid hG
  clear hG hR hd
  go_enter Tryd.func51, Tryd.ntmps51
  go_wp2_with fail
  refine (pick_at HG.out hp 5 rfl (by decide) (by decide)).mono ?_
  rintro e w1 ⟨rfl, hG1, ho1⟩
  have G1 := Lib.hid hG1
  have H1 := Lib.hid ho1
  clear hG1 ho1 hp
  go_wp2_with fail
  go_ret
  exact ⟨rfl, G1.out, H1.out⟩
set_option maxRecDepth 10000 in
set_option maxHeartbeats 1600000 in
theorem set_6 {L : List Nat} {d i i1 R  : Nat} (hd : d ≤ 100) (hp : pickM L i 8 = (6, i1))  (hR : 4 ≤ R) : Sn 51 L d R i := by
  have y0 : (⟨#[40, 45, 115, 41]⟩ : ByteArray).size = 4 := rfl
  refine ⟨(⟨#[40, 45, 115, 41]⟩ : ByteArray), i1, ?pos, by rw [y0]; omega, fun w g lv hG => ?_⟩
  case pos => rw [y0]; omega
  have HG := Lib.hid hG
  clear hG hR hd
  go_enter Tryd.func51, Tryd.ntmps51
  go_wp2_with fail
  refine (pick_at HG.out hp 6 rfl (by decide) (by decide)).mono ?_
  rintro e w1 ⟨rfl, hG1, ho1⟩
  have G1 := Lib.hid hG1
  have H1 := Lib.hid ho1
  clear hG1 ho1 hp
  go_wp2_with fail
  go_ret
  exact ⟨rfl, G1.out, H1.out⟩
set_option maxRecDepth 10000 in
set_option maxHeartbeats 1600000 in
theorem set_7 {L : List Nat} {d i i1 R  : Nat} (hd : d ≤ 100) (hp : pickM L i 8 = (7, i1))  (hR : 9 ≤ R) : Sn 51 L d R i := by
  have y0 : (⟨#[40, 115, 32, 45, 32, 123, 110, 125, 41]⟩ : ByteArray).size = 9 := rfl
  refine ⟨(⟨#[40, 115, 32, 45, 32, 123, 110, 125, 41]⟩ : ByteArray), i1, ?pos, by rw [y0]; omega, fun w g lv hG => ?_⟩
  case pos => rw [y0]; omega
  have HG := Lib.hid hG
  clear hG hR hd
  go_enter Tryd.func51, Tryd.ntmps51
  go_wp2_with fail
  refine (pick_at HG.out hp 7 rfl (by decide) (by decide)).mono ?_
  rintro e w1 ⟨rfl, hG1, ho1⟩
  have G1 := Lib.hid hG1
  have H1 := Lib.hid ho1
  clear hG1 ho1 hp
  go_wp2_with fail
  go_ret
  exact ⟨rfl, G1.out, H1.out⟩
end Go.Proofs.YtbpdhpfcknaaiaaDoor

