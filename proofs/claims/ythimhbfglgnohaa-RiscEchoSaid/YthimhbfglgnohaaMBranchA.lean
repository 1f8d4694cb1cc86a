/- The machine's branches, together. -/
import Derived.Test.YthimhbfglgnohaaMBranch
namespace Go.Proofs.Ythimhbfglgnohaa
open Go.RowKit M
variable {Q : Nat → Prop}

/-- What a branch does. -/
theorem branch_of (mb wb : Nat) (ob : Option Nat) (code : List Nat) (u v : Bool) (a b c o : Nat) (m : Int) (h1 : -2147483648 ≤ m) (h2 : m ≤ 2147483647) (hm : u = false → 0 ≤ m ∧ m ≤ 15) (ha : a < 16) (hc : c < 16) (cv iv ov : Value) (s : St) (w : World) (hs : s.Ok) (hM : MAt Q w mb wb ob code s cv iv ov) :
    Calls Try.prog 42 #[.pointer (some ⟨mb, 0, none⟩), ic 3 u v a b c o m] w fun e w' => match M.branch s ⟨3, u, v, a, b, c, o, m⟩ with
      | some s' => e = .returned (.bool true) ∧ Only (M.One mb) w w' ∧ MAt Q w' mb wb ob code s' cv iv ov
      | none => e = .returned (.bool false) ∧ Only Nil w w' := by
  have hT0 : M.target s ⟨3, u, v, a, b, c, o, m⟩ = (if u then (s.pc : Int) + 1 + m else (s.R c : Int)) := by
    unfold M.target
    simp only [Int.toNat_natCast]
  unfold M.branch
  simp only [Int.toNat_natCast]
  cases hh : holds s a
  · rw [if_pos rfl]
    exact branch_not mb wb ob code u v a b c o m h1 h2 ha hc cv iv ov s w hs hM hh
  · rw [if_neg (by decide)]
    by_cases h12 : u = false ∧ v = true ∧ (c : Int) = 12
    · rw [if_pos h12]
      obtain ⟨rfl, rfl, hc12⟩ := h12
      obtain ⟨m0, m1⟩ := hm rfl
      obtain ⟨t, rfl⟩ := Int.eq_ofNat_of_zero_le m0
      obtain rfl : c = 12 := by omega
      exact branch_end mb wb ob code a b o t (by omega) ha cv iv ov s w hs hM hh
    · rw [if_neg h12, hT0]
      have hne : u = false → v = true → c ≠ 12 := fun e1 e2 e3 => h12 ⟨e1, e2, by omega⟩
      obtain ⟨T, hT⟩ : ∃ T, (if u then (s.pc : Int) + 1 + m else (s.R c : Int)) = T := ⟨_, rfl⟩
      rw [hT]
      by_cases hb : T < 0 ∨ 1048576 < T
      · rw [if_pos hb]
        exact branch_far mb wb ob code u v a b c o m h1 h2 ha hc cv iv ov s w hs hM hh hne hT hb
      · rw [if_neg hb]
        obtain ⟨t, rfl⟩ := Int.eq_ofNat_of_zero_le (show 0 ≤ T by omega)
        exact branch_go mb wb ob code u v a b c o m h1 h2 ha hc cv iv ov s w hs hM hh hne hT (by omega)
end Go.Proofs.Ythimhbfglgnohaa
