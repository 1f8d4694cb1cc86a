/- The chapter's example. -/
import Derived.Test.YtipdfgkemghmoaaDoorCText
import Derived.Test.YtipdfgkemghmoaaDoorCEnc
import Derived.Test.YtipdfgkemghmoaaDoorCDec
set_option linter.unusedSimpArgs false
set_option linter.unusedVariables false
namespace Go.Proofs.YtipdfgkemghmoaaDoor
open Go.RowKit M

def exL : List Cod := [⟨1, 1⟩, ⟨0, 0⟩]
theorem exL_good : ∀ c ∈ exL, c.Good := by
  intro c hc
  simp only [exL, List.mem_cons, List.not_mem_nil, or_false] at hc
  rcases hc with rfl | rfl <;> decide
theorem exL_fits : ∀ c ∈ exL, c.Fits := by
  intro c hc
  simp only [exL, List.mem_cons, List.not_mem_nil, or_false] at hc
  rcases hc with rfl | rfl <;> exact ⟨⟨by decide, by decide⟩, by decide, by decide⟩
theorem exL_enc : encL exL = [2, 1, 2, 0] := by
  have e2 : putVar 2 = [2] := putVar_small (by decide)
  unfold encL
  rw [show exL.length = 2 from rfl, e2]
  unfold exL
  rw [bytesOf_cons, bytesOf_cons]
  unfold codB
  rw [show hasK (Cod.mk 1 1).op = true by decide, show hasK (Cod.mk 0 0).op = false by decide, show zig (Cod.mk 1 1).k = 2 by decide]
  simp only [if_true, e2]
  rfl
theorem exT : codT ⟨1, 1⟩ = [80, 117, 115, 104, 32, 49] := by
  unfold codT
  rw [if_pos (by decide), if_pos (by decide)]
  have h1 : Lib.itoa 1 = [49] := by
    have := Lib.itoa_nonneg 1
    rw [show ((1 : Nat) : Int) = 1 from rfl] at this
    rw [this, Lib.decDigits_one (by decide)]
    rfl
  simp only [h1]
  decide
def badL : List Cod := [⟨34, 0⟩]
theorem badL_bad : ¬ ∀ c ∈ badL, c.Good := fun h => absurd (h ⟨34, 0⟩ (by simp [badL])) (by decide)

set_option maxRecDepth 10000 in
set_option maxHeartbeats 1600000 in
theorem known_any (w : World) (hT : Tabs w) : Calls Tryd.prog 6 #[] w fun e w' => e = .returned (.bool true) ∧ Only Nil w w' := by
  have hs1 : ∀ w : World, CSrc (w.alloc (.cells #[.int .i64 1, .int .i32 1, .int .i64 0, .int .i32 0] 26)) w.heap.size (.slice (some ⟨w.heap.size, 0, none⟩) 2 2) exL := fun w =>
    ⟨_, 2, 0, rfl, by decide, by decide, fun _ => rfl, cAt_new w exL 26 _ rfl (Only.refl Nil _) (fun h => h)⟩
  have c1 := fun w => encI_any _ _ exL _ (hs1 w) exL_fits (by decide)
  have hs2 : ∀ w : World, CSrc (w.alloc (.cells #[.int .i64 34, .int .i32 0] 26)) w.heap.size (.slice (some ⟨w.heap.size, 0, none⟩) 1 1) badL := fun w =>
    ⟨_, 1, 0, rfl, by decide, by decide, fun _ => rfl, cAt_new w badL 26 _ rfl (Only.refl Nil _) (fun h => h)⟩
  have c2 := fun w => encI_any _ _ badL _ (hs2 w) (by intro c hc; simp only [badL, List.mem_singleton] at hc; subst hc; exact ⟨⟨by decide, by decide⟩, by decide, by decide⟩) (by decide)
  have c3 := fun w h => textI 1 1 w h (by decide) (by decide)
  rw [exT] at c3
  have c4 : ∀ w, Calls Tryd.prog 16 #[.int .i64 1] w fun e w' => e = .returned (.bool true) ∧ w = w' := fun w => has_any 1 w
  have c5 : ∀ w, Calls Tryd.prog 16 #[.int .i64 0] w fun e w' => e = .returned (.bool false) ∧ w = w' := fun w => has_any 0 w
  have hst : strOf [2, 1, 2, 0] = ⟨#[2, 1, 2, 0]⟩ := by rfl
  have HST := Lib.hid hst
  have hts : ((txt [80, 117, 115, 104, 32, 49]).toList == [80, 117, 115, 104, 32, 49]) = true := by rw [ByteArray.toList_eq]; rfl
  clear hs1 hs2 hst
  go_enter Tryd.func6, Tryd.ntmps6
  go_wp2_with fail
  refine (c1 w).mono ?_
  rintro e w1 ⟨h1 | h1, ho1⟩
  rotate_left
  · exact absurd exL_good h1.1
  obtain ⟨_, sb, rfl, hown1⟩ := h1
  have hoW1 : Only Nil w w1 := ((Only.refl Nil w).alloc _).trans ho1 (fun _ _ h => h)
  unfold EncOk at hown1
  rw [exL_enc] at hown1
  have hrow := Row.of_own hown1 (by intro x hx; simp at hx; omega)
  have hde : decL [2, 1, 2, 0] = some exL := by rw [← exL_enc]; exact decL_encL exL exL_good exL_fits (by decide)
  have cD := decI_any sb [2, 1, 2, 0] w1 hrow (by decide)
  rw [hde] at cD
  clear c1 hde ho1
  go_wp2_with fail
  refine cD.mono ?_
  rintro e w2 ⟨sl, rfl, hown2, ho2⟩
  obtain ⟨g2, cap2, rfl, _, _, _, _⟩ := ownsRow_shape (n := 2) hown2 (by decide)
  have hoW2 := hoW1.trans ho2 (fun _ _ h => h)
  clear cD hown2
  go_wp2_with fail
  refine (c2 _).mono ?_
  rintro e w3 ⟨h3 | h3, ho3⟩
  · exact absurd h3.1 badL_bad
  obtain ⟨_, rfl⟩ := h3
  have ho23 : Only Nil w2 w3 := ((Only.refl Nil w2).alloc _).trans ho3 (fun _ _ h => h)
  have hoW3 := hoW2.trans ho23 (fun _ _ h => h)
  obtain ⟨b1, hs1⟩ := (((hrow.kept ho2).kept ho23)).src
  have hcv := conv_src w3 b1 sb _ hs1
  rw [HST.out] at hcv
  have C3 := Lib.hid (c3 w3 (hT.kept hoW3))
  clear c2 c3 hrow hs1 ho23 hoW2 ho2 hoW1 hown1 ho3 hT
  have e1 : decErr (some exL) = 0 := rfl
  go_wp2_with fail
  refine (c4 _).mono ?_
  rintro e w4 ⟨rfl, rfl⟩
  go_wp2_with fail
  refine (c5 _).mono ?_
  rintro e w4 ⟨rfl, rfl⟩
  go_wp2_with fail
  refine C3.out.mono ?_
  rintro e w4 ⟨rfl, ho4⟩
  go_wp2_with fail
  go_ret
  exact ⟨rfl, hoW3.trans ho4 (fun _ _ h => h)⟩
end Go.Proofs.YtipdfgkemghmoaaDoor
