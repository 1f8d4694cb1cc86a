/- The document's Encode, whatever the instruction. -/
import Derived.Test.YthimhbfglgnohaaREncA
set_option linter.unusedSimpArgs false
set_option linter.unusedVariables false
namespace Go.Proofs.Ythimhbfglgnohaa
open Go.RowKit M

/-- An instruction that may be. -/
theorem encR_good (i : Ins) (w : World) (h : i.Good) :
    Calls Try.prog 23 #[i.val] w fun e w' => e = .returned (.tuple #[.int .u32 ((enc i : Nat) : Int), .bool true]) ∧ Only Nil w w' := by
  obtain ⟨F, u, v, A, B, C, Op, m⟩ := i
  obtain ⟨_, _, h3, h4, h5⟩ := h
  simp only at h3 h4 h5
  obtain ⟨a, rfl⟩ := Int.eq_ofNat_of_zero_le h3
  rcases h5 with ⟨rfl, h5⟩ | ⟨rfl, h5⟩ | ⟨rfl, h5⟩ | ⟨rfl, rfl, h5⟩ | ⟨rfl, rfl, h5⟩
  · obtain ⟨b1, b2, o1, o2, c1, c2, rfl⟩ := h5
    obtain ⟨b, rfl⟩ := Int.eq_ofNat_of_zero_le b1
    obtain ⟨o, rfl⟩ := Int.eq_ofNat_of_zero_le o1
    obtain ⟨c, rfl⟩ := Int.eq_ofNat_of_zero_le c1
    exact encR_0 u v a b c o w (by omega) (by omega) (by omega) (by omega)
  · obtain ⟨b1, b2, o1, o2, rfl, m1, m2⟩ := h5
    obtain ⟨b, rfl⟩ := Int.eq_ofNat_of_zero_le b1
    obtain ⟨o, rfl⟩ := Int.eq_ofNat_of_zero_le o1
    obtain ⟨m, rfl⟩ := Int.eq_ofNat_of_zero_le m1
    exact encR_1 u v a b o m w (by omega) (by omega) (by omega) (by omega)
  · obtain ⟨b1, b2, rfl, rfl, m1, m2⟩ := h5
    obtain ⟨b, rfl⟩ := Int.eq_ofNat_of_zero_le b1
    exact encR_2 u v a b m w (by omega) (by omega) m1 m2
  · obtain ⟨rfl, rfl, c1, c2, m1, m2⟩ := h5
    obtain ⟨c, rfl⟩ := Int.eq_ofNat_of_zero_le c1
    obtain ⟨m, rfl⟩ := Int.eq_ofNat_of_zero_le m1
    exact encR_4 v a c m w (by omega) (by omega) (by omega)
  · obtain ⟨rfl, rfl, rfl, m1, m2⟩ := h5
    exact encR_3 v a m w (by omega) m1 m2
end Go.Proofs.Ythimhbfglgnohaa
