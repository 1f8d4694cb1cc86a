/- The machine's loads and stores, together. -/
import Derived.Test.YthimhbfglgnohaaMText
import Derived.Test.YthimhbfglgnohaaMBranch
set_option linter.unusedSimpArgs false
set_option linter.unusedVariables false
namespace Go.Proofs.Ythimhbfglgnohaa
open Go.RowKit M
variable {Q : Nat → Prop}

/-- What a load does. -/
theorem load_of (mb wb : Nat) (ob : Option Nat) (code : List Nat) (v : Bool) (a b c o : Nat) (m : Int) (h1 : -2147483648 ≤ m) (h2 : m ≤ 2147483647) (ha : a < 16) (hb : b < 16) (cv iv ov : Value) (s : St) (w : World) (hs : s.Ok) (hM : MAt Q w mb wb ob code s cv iv ov) :
    Calls Try.prog 44 #[.pointer (some ⟨mb, 0, none⟩), ic 2 false v a b c o m] w fun e w' => match M.load s ⟨2, false, v, a, b, c, o, m⟩ with
      | some s' => ∃ iv', e = .returned (.bool true) ∧ Only (M.One mb) w w' ∧ MAt Q w' mb wb ob code s' cv iv' ov
      | none => e = .returned (.bool false) ∧ Only Nil w w' := by
  obtain ⟨p, hp⟩ : ∃ p, (s.R b + U m) % 4294967296 = p := ⟨_, rfl⟩
  have hpl : M.place s ⟨2, false, v, a, b, c, o, m⟩ = p := by unfold M.place; simp only [Int.toNat_natCast]; exact hp
  unfold M.load
  rw [hpl]
  simp only [Int.toNat_natCast]
  cases v
  · rw [if_neg (by decide)]
    by_cases hw : p % 4 = 0 ∧ p / 4 < s.mem.length
    · rw [if_pos hw]
      exact (load_word mb wb ob code a b c o m h1 h2 ha hb cv iv ov s w hs hM hp hw rfl rfl).mono fun e w' h => ⟨iv, h⟩
    · rw [if_neg hw]
      by_cases h4 : p = 4294967232
      · rw [if_pos h4]
        exact load_text mb wb ob code a b c o m h1 h2 ha hb cv iv ov s w hs hM hp hw h4 rfl
      · rw [if_neg h4]
        by_cases h5 : p = 4294967236
        · rw [if_pos h5]
          by_cases hin : s.inp = []
          · rw [if_pos (by rw [hin]; rfl)]
            exact (load_end mb wb ob code a b c o m h1 h2 ha hb cv iv ov s w hs hM hp hw h5 hin).mono fun e w' h => ⟨iv, h⟩
          · rw [if_neg (by intro h; exact hin (List.eq_nil_of_length_eq_zero h))]
            exact (load_more mb wb ob code a b c o m h1 h2 ha hb cv iv ov s w hs hM hp hw h5 hin).mono fun e w' h => ⟨iv, h⟩
        · rw [if_neg h5]
          exact load_no mb wb ob code a b c o m h1 h2 ha hb cv iv ov s w hs hM hp hw h4 h5
  · rw [if_pos rfl]
    exact load_v mb wb ob code a b c o m h1 h2 hb cv iv ov s w hs.len hM

/-- What a store does. -/
theorem store_of (mb wb : Nat) (ob : Option Nat) (code : List Nat) (v : Bool) (a b c o : Nat) (m : Int) (h1 : -2147483648 ≤ m) (h2 : m ≤ 2147483647) (ha : a < 16) (hb : b < 16) (cv iv ov : Value) (s : St) (w : World) (hs : s.Ok) (hM : MAt Q w mb wb ob code s cv iv ov) (hol : s.out.length ≤ 1099511627776) :
    Calls Try.prog 43 #[.pointer (some ⟨mb, 0, none⟩), ic 2 true v a b c o m] w fun e w' => match M.store s ⟨2, true, v, a, b, c, o, m⟩ with
      | some s' => ∃ ob' ov', e = .returned (.bool true) ∧ Only (Own3 mb wb ob) w w' ∧ (ob' = ob ∨ ∃ k, ob' = some k ∧ w.heap.size ≤ k) ∧ MAt Q w' mb wb ob' code s' cv iv ov'
      | none => e = .returned (.bool false) ∧ Only Nil w w' := by
  obtain ⟨p, hp⟩ : ∃ p, (s.R b + U m) % 4294967296 = p := ⟨_, rfl⟩
  have hpl : M.place s ⟨2, true, v, a, b, c, o, m⟩ = p := by unfold M.place; simp only [Int.toNat_natCast]; exact hp
  unfold M.store
  rw [hpl]
  simp only [Int.toNat_natCast]
  cases v
  · rw [if_neg (by decide)]
    by_cases hw : p % 4 = 0 ∧ p / 4 < s.mem.length
    · rw [if_pos hw]
      exact (store_word mb wb ob code a b c o m h1 h2 ha hb cv iv ov s w hs hM hp hw rfl).mono fun e w' h => ⟨ob, ov, h.1, h.2.1, Or.inl rfl, h.2.2⟩
    · rw [if_neg hw]
      by_cases h4 : p = 4294967232
      · rw [if_pos h4]
        exact store_text mb wb ob code a b c o m h1 h2 ha hb cv iv ov s w hs hM hp hw h4 hol
      · rw [if_neg h4]
        exact store_no mb wb ob code a b c o m h1 h2 ha hb cv iv ov s w hs hM hp hw h4
  · rw [if_pos rfl]
    exact store_v mb wb ob code a b c o m h1 h2 ha hb cv iv ov s w hs hM hp
end Go.Proofs.Ythimhbfglgnohaa

/- The machine's branches, together. -/
namespace Go.Proofs.Ythimhbfglgnohaa
open Go.RowKit M
variable {Q : Nat → Prop}

/-- What a branch does. -/
theorem branch_of (mb wb : Nat) (ob : Option Nat) (code : List Nat) (u v : Bool) (a b c o : Nat) (m : Int) (h1 : -2147483648 ≤ m) (h2 : m ≤ 2147483647) (hm : u = false → 0 ≤ m ∧ m ≤ 15) (ha : a < 16) (hc : c < 16) (cv iv ov : Value) (s : St) (w : World) (hs : s.Ok) (hM : MAt Q w mb wb ob code s cv iv ov) :
    Calls Try.prog 42 #[.pointer (some ⟨mb, 0, none⟩), ic 3 u v a b c o m] w fun e w' => match M.branch s ⟨3, u, v, a, b, c, o, m⟩ with
      | some s' => e = .returned (.bool true) ∧ Only (M.One mb) w w' ∧ MAt Q w' mb wb ob code s' cv iv ov
      | none => e = .returned (.bool false) ∧ Only Nil w w' := by
  have hT0 : M.target s ⟨3, u, v, a, b, c, o, m⟩ = (if u then (s.pc : Int) + 1 + m else (s.R c : Int)) := by
    unfold M.target
    simp only [Int.toNat_natCast]
  unfold M.branch
  simp only [Int.toNat_natCast]
  cases hh : holds s a
  · rw [if_pos rfl]
    exact branch_not mb wb ob code u v a b c o m h1 h2 ha hc cv iv ov s w hs hM hh
  · rw [if_neg (by decide)]
    by_cases h12 : u = false ∧ v = true ∧ (c : Int) = 12
    · rw [if_pos h12]
      obtain ⟨rfl, rfl, hc12⟩ := h12
      obtain ⟨m0, m1⟩ := hm rfl
      obtain ⟨t, rfl⟩ := Int.eq_ofNat_of_zero_le m0
      obtain rfl : c = 12 := by omega
      exact branch_end mb wb ob code a b o t (by omega) ha cv iv ov s w hs hM hh
    · rw [if_neg h12, hT0]
      have hne : u = false → v = true → c ≠ 12 := fun e1 e2 e3 => h12 ⟨e1, e2, by omega⟩
      obtain ⟨T, hT⟩ : ∃ T, (if u then (s.pc : Int) + 1 + m else (s.R c : Int)) = T := ⟨_, rfl⟩
      rw [hT]
      by_cases hb : T < 0 ∨ 1048576 < T
      · rw [if_pos hb]
        exact branch_far mb wb ob code u v a b c o m h1 h2 ha hc cv iv ov s w hs hM hh hne hT hb
      · rw [if_neg hb]
        obtain ⟨t, rfl⟩ := Int.eq_ofNat_of_zero_le (show 0 ≤ T by omega)
        exact branch_go mb wb ob code u v a b c o m h1 h2 ha hc cv iv ov s w hs hM hh hne hT (by omega)
end Go.Proofs.Ythimhbfglgnohaa

