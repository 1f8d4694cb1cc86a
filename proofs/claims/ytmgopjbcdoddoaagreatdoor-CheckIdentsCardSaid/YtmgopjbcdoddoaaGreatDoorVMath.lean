/- Numbers by sevens of bits: plain mathematics, no Go program is imported. -/
namespace Go.Proofs.YtmgopjbcdoddoaaGreatDoor.M

/-- The bytes of a number. -/
def putVar (v : Nat) : List Nat := if h : v < 128 then [v] else (v % 128 + 128) :: putVar (v / 128)
termination_by v
decreasing_by omega

theorem putVar_small {v : Nat} (h : v < 128) : putVar v = [v] := by rw [putVar]; simp [h]
theorem putVar_more {v : Nat} (h : ¬ v < 128) : putVar v = (v % 128 + 128) :: putVar (v / 128) := by rw [putVar]; simp [h]

theorem putVar_pos (v : Nat) : 0 < (putVar v).length := by
  by_cases h : v < 128
  · rw [putVar_small h]; simp
  · rw [putVar_more h]; simp

theorem putVar_lt (v : Nat) : ∀ x ∈ putVar v, x < 256 := by
  induction v using Nat.strongRecOn with
  | ind v ih =>
    by_cases h : v < 128
    · rw [putVar_small h]; intro x hx; simp at hx; omega
    · rw [putVar_more h]; intro x hx
      rcases List.mem_cons.1 hx with hx | hx
      · omega
      · exact ih (v / 128) (by omega) x hx

theorem putVar_len_le (k : Nat) : ∀ v : Nat, v < 128 ^ (k + 1) → (putVar v).length ≤ k + 1 := by
  induction k with
  | zero => intro v h; rw [putVar_small (by omega)]; simp
  | succ k ih =>
    intro v h
    by_cases hv : v < 128
    · rw [putVar_small hv]; simp
    · rw [putVar_more hv]
      have := ih (v / 128) (by rw [Nat.pow_succ _ (k + 1)] at h; omega)
      simp only [List.length_cons]; omega

theorem putVar_len (v : Nat) (h : v < 18446744073709551616) : (putVar v).length ≤ 10 :=
  putVar_len_le 9 v (by omega)

theorem putVar_mono (b : Nat) : ∀ a : Nat, a ≤ b → (putVar a).length ≤ (putVar b).length := by
  induction b using Nat.strongRecOn with
  | ind b ih =>
    intro a hab
    by_cases ha : a < 128
    · rw [putVar_small ha]; exact putVar_pos b
    · rw [putVar_more ha, putVar_more (v := b) (by omega)]
      have := ih (b / 128) (by omega) (a / 128) (by omega)
      simp only [List.length_cons]; omega

/-- What is told of bytes: the number, how many bytes, whether. -/
def readV : Nat → Nat → List Nat → Nat × Nat × Bool
  | _, _, [] => (0, 0, false)
  | i, acc, c :: l =>
    if 10 ≤ i then (0, 0, false)
    else if i = 9 ∧ 1 < c then (0, 0, false)
    else if c < 128 then (if 0 < i ∧ c = 0 then (0, 0, false) else (acc + c * 2 ^ (7 * i), i + 1, true))
    else readV (i + 1) (acc + c % 128 * 2 ^ (7 * i)) l

theorem readV_ten (acc : Nat) (l : List Nat) (i : Nat) (h : 10 ≤ i) : readV i acc l = (0, 0, false) := by
  cases l with
  | nil => rfl
  | cons c l => simp [readV, h]
theorem readV_nil (acc i : Nat) : readV i acc [] = (0, 0, false) := rfl
theorem readV_great (acc : Nat) (c : Nat) (l : List Nat) (h : 1 < c) : readV 9 acc (c :: l) = (0, 0, false) := by simp [readV, h]
theorem readV_nought (acc i : Nat) (l : List Nat) (h0 : 0 < i) (h : i < 10) : readV i acc (0 :: l) = (0, 0, false) := by
  have : ¬ 10 ≤ i := by omega
  simp [readV, this, h0]
theorem readV_last (acc i c : Nat) (l : List Nat) (h : i < 10) (hc : c < 128) (hn : ¬ (i = 9 ∧ 1 < c)) (h0 : ¬ (0 < i ∧ c = 0)) : readV i acc (c :: l) = (acc + c * 2 ^ (7 * i), i + 1, true) := by
  have : ¬ 10 ≤ i := by omega
  rw [readV, if_neg this, if_neg hn, if_pos hc, if_neg h0]
theorem readV_more (acc i c : Nat) (l : List Nat) (h : i < 9) (hc : ¬ c < 128) : readV i acc (c :: l) = readV (i + 1) (acc + c % 128 * 2 ^ (7 * i)) l := by
  have h1 : ¬ 10 ≤ i := by omega
  have h2 : ¬ (i = 9 ∧ 1 < c) := by omega
  rw [readV, if_neg h1, if_neg h2, if_neg hc]

theorem two7 (i : Nat) : 2 ^ (7 * (i + 1)) = 128 * 2 ^ (7 * i) := by
  rw [show 7 * (i + 1) = 7 * i + 7 by omega, Nat.pow_add]; omega

theorem acc_lt (acc c i : Nat) (ha : acc < 2 ^ (7 * i)) : acc + c % 128 * 2 ^ (7 * i) < 2 ^ (7 * (i + 1)) := by
  rw [two7]
  have h1 : c % 128 ≤ 127 := by omega
  have h2 := Nat.mul_le_mul_right (2 ^ (7 * i)) h1
  omega

/-- What was put is read, with what stands behind left. -/
theorem readV_putVar (v : Nat) : ∀ (i acc : Nat) (l : List Nat), (0 < i → 0 < v) → v * 2 ^ (7 * i) < 18446744073709551616 → i < 10 →
    readV i acc (putVar v ++ l) = (acc + v * 2 ^ (7 * i), i + (putVar v).length, true) := by
  induction v using Nat.strongRecOn with
  | ind v ih =>
    intro i acc l h0 h64 hi
    by_cases hv : v < 128
    · rw [putVar_small hv]
      rw [List.singleton_append, readV_last acc i v l hi hv ?_ (by omega)]
      · simp
      · rintro ⟨rfl, h⟩
        have : (2 : Nat) ^ (7 * 9) = 9223372036854775808 := by decide
        rw [this] at h64; omega
    · rw [putVar_more hv, List.cons_append]
      have hi9 : i < 9 := by
        apply Decidable.byContradiction
        intro hn
        have : i = 9 := by omega
        subst this
        have : (2 : Nat) ^ (7 * 9) = 9223372036854775808 := by decide
        rw [this] at h64; omega
      have e : v % 128 * 2 ^ (7 * i) + v / 128 * 2 ^ (7 * (i + 1)) = v * 2 ^ (7 * i) := by
        rw [two7, ← Nat.mul_assoc, ← Nat.add_mul]
        congr 1; omega
      have hm : (v % 128 + 128) % 128 = v % 128 := by omega
      rw [readV_more acc i _ _ hi9 (by omega), ih (v / 128) (by omega) (i + 1) _ l (fun _ => by omega) (by omega) (by omega), hm]
      simp only [List.length_cons, Prod.mk.injEq, and_true]
      exact ⟨by omega, by omega⟩

theorem readV_put (v : Nat) (l : List Nat) (h : v < 18446744073709551616) : readV 0 0 (putVar v ++ l) = (v, (putVar v).length, true) := by
  rw [readV_putVar v 0 0 l (by omega) (by simpa using h) (by omega)]; simp

/-- What is read is a number of 64 bits. -/
theorem readV_bound (l : List Nat) : ∀ (i acc : Nat), acc < 2 ^ (7 * i) → i ≤ 10 → (i = 10 → acc < 18446744073709551616) → (readV i acc l).1 < 18446744073709551616 ∧ (readV i acc l).2.1 ≤ 10 := by
  induction l with
  | nil => intro i acc _ _ _; rw [readV_nil]; decide
  | cons c l ih =>
    intro i acc ha hi h10
    by_cases h : 10 ≤ i
    · rw [readV_ten _ _ _ h]; decide
    · by_cases h9 : i = 9 ∧ 1 < c
      · obtain ⟨rfl, h1⟩ := h9
        rw [readV_great _ _ _ h1]; decide
      · by_cases hc : c < 128
        · by_cases h0 : 0 < i ∧ c = 0
          · obtain ⟨hp, rfl⟩ := h0
            rw [readV_nought _ _ _ hp (by omega)]; decide
          · rw [readV_last _ _ _ _ (by omega) hc h9 h0]
            refine ⟨?_, by simp; omega⟩
            show acc + c * 2 ^ (7 * i) < _
            by_cases e9 : i = 9
            · subst e9
              have e : (2 : Nat) ^ (7 * 9) = 9223372036854775808 := by decide
              rw [e] at ha ⊢
              have : c ≤ 1 := by omega
              omega
            · have hl := acc_lt acc c i ha
              rw [Nat.mod_eq_of_lt hc] at hl
              have := Nat.pow_le_pow_right (n := 2) (by omega) (show 7 * (i + 1) ≤ 63 by omega)
              have e : (2 : Nat) ^ 63 = 9223372036854775808 := by decide
              omega
        · rw [readV_more _ _ _ _ (by omega) hc]
          refine ih (i + 1) _ (acc_lt acc c i ha) (by omega) (fun h => ?_)
          omega

theorem readV_fail (l : List Nat) : ∀ (i acc a n : Nat), readV i acc l = (a, n, false) → a = 0 := by
  induction l with
  | nil => intro i acc a n h; rw [readV_nil] at h; simp at h; omega
  | cons c l ih =>
    intro i acc a n h
    rw [readV] at h
    split at h
    · simp at h; omega
    · split at h
      · simp at h; omega
      · split at h
        · split at h
          · simp at h; omega
          · simp at h
        · exact ih _ _ _ _ h

/-- A number by its sign: the double, or the double of what is behind nought, less one. -/
def zig (v : Int) : Nat := if 0 ≤ v then 2 * v.toNat else 2 * (-(v + 1)).toNat + 1
def zag (u : Nat) : Int := if u % 2 = 0 then ((u / 2 : Nat) : Int) else -((u / 2 : Nat) : Int) - 1

theorem zig_pos {v : Int} (h : 0 ≤ v) : zig v = 2 * v.toNat := by simp [zig, h]
theorem zig_neg {v : Int} (h : v < 0) : zig v = 2 * (-(v + 1)).toNat + 1 := by
  have : ¬ 0 ≤ v := by omega
  simp [zig, this]
theorem zag_even {u : Nat} (h : u % 2 = 0) : zag u = ((u / 2 : Nat) : Int) := by simp [zag, h]
theorem zag_odd {u : Nat} (h : u % 2 = 1) : zag u = -((u / 2 : Nat) : Int) - 1 := by simp [zag, h]
theorem zag_zig (v : Int) : zag (zig v) = v := by
  by_cases h : 0 ≤ v
  · rw [zig_pos h, zag_even (by omega)]; omega
  · rw [zig_neg (by omega), zag_odd (by omega)]; omega
theorem zig_lt (v : Int) (h1 : -9223372036854775808 ≤ v) (h2 : v ≤ 9223372036854775807) : zig v < 18446744073709551616 := by
  by_cases h : 0 ≤ v
  · rw [zig_pos h]; omega
  · rw [zig_neg (by omega)]; omega

theorem zig_len (v : Nat) : (putVar (2 * v)).length = (putVar (2 * v + 1)).length := by
  by_cases h : v < 64
  · rw [putVar_small (by omega), putVar_small (by omega)]; rfl
  · rw [putVar_more (v := 2 * v) (by omega), putVar_more (v := 2 * v + 1) (by omega), show 2 * v / 128 = (2 * v + 1) / 128 by omega]; rfl
end Go.Proofs.YtmgopjbcdoddoaaGreatDoor.M
