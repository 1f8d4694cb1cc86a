/- The document's Encode, of what is no instruction. -/
import Derived.Test.YthimhbfglgnohaaDoorREncB0
import Derived.Test.YthimhbfglgnohaaDoorREncB1
import Derived.Test.YthimhbfglgnohaaDoorREncB2
import Derived.Test.YthimhbfglgnohaaDoorREncB3
namespace Go.Proofs.YthimhbfglgnohaaDoor
open Go.RowKit M

theorem inB_iff {n a b : Int} {k : Bool} (h : inB n a b = k) : (k = true ∧ a ≤ n ∧ n ≤ b) ∨ (k = false ∧ ¬ (a ≤ n ∧ n ≤ b)) := by
  subst h; unfold inB
  by_cases h : a ≤ n ∧ n ≤ b
  · exact Or.inl ⟨decide_eq_true h, h⟩
  · exact Or.inr ⟨decide_eq_false h, h⟩
theorem inB_t {n a b : Int} (h : inB n a b = true) : a ≤ n ∧ n ≤ b := by
  rcases inB_iff h with ⟨_, h⟩ | ⟨h, _⟩
  · exact h
  · cases h
theorem ne_beq {n : Int} (h : ¬ n = 0) : (n == 0) = false := by simpa using h

theorem encR_bad (i : Ins) (w : World) (m1 : -2147483648 ≤ i.Imm) (m2 : i.Imm ≤ 2147483647) (h : ¬ i.Good) :
    Calls Tryd.prog 11 #[i.val] w (EncBad w) := by
  obtain ⟨F, u, v, A, B, C, Op, m⟩ := i
  simp only at m1 m2
  cases hF : inB F 0 3
  · exact encB_f u v F A B C Op m w hF
  cases hA : inB A 0 15
  · exact encB_a u v F A B C Op m w hF hA
  obtain ⟨f1, f2⟩ := inB_t hF
  obtain ⟨a1, a2⟩ := inB_t hA
  rcases (show F = 0 ∨ F = 1 ∨ F = 2 ∨ F = 3 by omega) with rfl | rfl | rfl | rfl
  · cases hB : inB B 0 15
    · exact encB_b0 u v A B C Op m w hA hB
    cases hO : inB Op 0 15
    · exact encB_o0 u v A B C Op m w hA hB hO
    cases hC : inB C 0 15
    · exact encB_c0 u v A B C Op m w hA hB hO hC
    obtain ⟨b1, b2⟩ := inB_t hB
    obtain ⟨o1, o2⟩ := inB_t hO
    obtain ⟨c1, c2⟩ := inB_t hC
    refine encB_m0 u v A B C Op m w m1 m2 hA hB hO hC (ne_beq fun hm => h ⟨f1, f2, a1, a2, Or.inl ⟨rfl, b1, b2, o1, o2, c1, c2, hm⟩⟩)
  · cases hB : inB B 0 15
    · exact encB_b1 u v A B C Op m w hA hB
    cases hO : inB Op 0 15
    · exact encB_o1 u v A B C Op m w hA hB hO
    obtain ⟨b1, b2⟩ := inB_t hB
    obtain ⟨o1, o2⟩ := inB_t hO
    by_cases hC : C = 0
    · subst hC
      cases hm : inB m 0 65535
      · exact encB_m1 u v A B Op m w m1 m2 hA hB hO hm
      obtain ⟨n1, n2⟩ := inB_t hm
      exact absurd ⟨f1, f2, a1, a2, Or.inr (Or.inl ⟨rfl, b1, b2, o1, o2, rfl, n1, n2⟩)⟩ h
    · exact encB_c1 u v A B C Op m w hA hB hO (ne_beq hC)
  · cases hB : inB B 0 15
    · exact encB_b2 u v A B C Op m w hA hB
    obtain ⟨b1, b2⟩ := inB_t hB
    by_cases hC : C = 0
    · subst hC
      by_cases hO : Op = 0
      · subst hO
        cases hm : inB m (-524288) 524287
        · exact encB_m2 u v A B m w m1 m2 hA hB hm
        obtain ⟨n1, n2⟩ := inB_t hm
        exact absurd ⟨f1, f2, a1, a2, Or.inr (Or.inr (Or.inl ⟨rfl, b1, b2, rfl, rfl, n1, n2⟩))⟩ h
      · exact encB_o2 u v A B Op m w hA hB (ne_beq hO)
    · exact encB_c2 u v A B C Op m w hA hB (ne_beq hC)
  · cases u
    · by_cases hB : B = 0
      · subst hB
        by_cases hO : Op = 0
        · subst hO
          cases hC : inB C 0 15
          · exact encB_c4 v A C m w hA hC
          cases hm : inB m 0 15
          · exact encB_m4 v A C m w m1 m2 hA hC hm
          obtain ⟨c1, c2⟩ := inB_t hC
          obtain ⟨n1, n2⟩ := inB_t hm
          exact absurd ⟨f1, f2, a1, a2, Or.inr (Or.inr (Or.inr (Or.inl ⟨rfl, rfl, rfl, rfl, c1, c2, n1, n2⟩)))⟩ h
        · exact encB_o4 v A C Op m w hA (ne_beq hO)
      · exact encB_b4 v A B C Op m w hA (ne_beq hB)
    · by_cases hB : B = 0
      · subst hB
        by_cases hO : Op = 0
        · subst hO
          by_cases hC : C = 0
          · subst hC
            cases hm : inB m (-8388608) 8388607
            · exact encB_m3 v A m w m1 m2 hA hm
            obtain ⟨n1, n2⟩ := inB_t hm
            exact absurd ⟨f1, f2, a1, a2, Or.inr (Or.inr (Or.inr (Or.inr ⟨rfl, rfl, rfl, rfl, rfl, n1, n2⟩)))⟩ h
          · exact encB_c3 v A C m w hA (ne_beq hC)
        · exact encB_o3 v A C Op m w hA (ne_beq hO)
      · exact encB_b3 v A B C Op m w hA (ne_beq hB)
end Go.Proofs.YthimhbfglgnohaaDoor
