/- Files: sums, words of four bytes, what a file is: plain mathematics. -/
import Derived.Test.YtgijepaohhekfaaVMath
namespace Go.Proofs.Ytgijepaohhekfaa.M

/-- The two numbers of a sum. -/
def adl : Nat → Nat → List Nat → Nat × Nat
  | x, y, [] => (x, y)
  | x, y, c :: l => adl ((x + c) % 65521) ((y + (x + c) % 65521) % 65521) l
def sumOf (B : List Nat) : Nat := (adl 1 0 B).2 * 65536 + (adl 1 0 B).1
def rawY : Nat → List Nat → Nat
  | _, [] => 0
  | x, c :: l => (x + c) + rawY (x + c) l

theorem adl_lt (B : List Nat) : ∀ x y, x < 65521 → y < 65521 → (adl x y B).1 < 65521 ∧ (adl x y B).2 < 65521 := by
  induction B with
  | nil => intro x y hx hy; exact ⟨hx, hy⟩
  | cons c l ih => intro x y _ _; exact ih _ _ (Nat.mod_lt _ (by decide)) (Nat.mod_lt _ (by decide))
theorem adl_append (B C : List Nat) : ∀ x y, adl x y (B ++ C) = adl (adl x y B).1 (adl x y B).2 C := by
  induction B with
  | nil => intro x y; rfl
  | cons c l ih => intro x y; exact ih _ _
theorem sumOf_lt (B : List Nat) : sumOf B < 4294967296 := by
  have := adl_lt B 1 0 (by decide) (by decide)
  unfold sumOf; omega
theorem adl_raw (B : List Nat) : ∀ x y x0 y0, x = x0 % 65521 → y = y0 % 65521 → adl x y B = ((x0 + B.sum) % 65521, (y0 + rawY x0 B) % 65521) := by
  induction B with
  | nil => intro x y x0 y0 hx hy; simp [adl, rawY, hx, hy]
  | cons c l ih =>
    intro x y x0 y0 hx hy
    have h1 : (x + c) % 65521 = (x0 + c) % 65521 := by omega
    rw [adl, ih _ _ (x0 + c) (y0 + (x0 + c)) h1 (by rw [h1]; omega)]
    simp only [List.sum_cons, rawY, Nat.add_assoc]
theorem rawY_append (B C : List Nat) : ∀ x, rawY x (B ++ C) = rawY x B + rawY (x + B.sum) C := by
  induction B with
  | nil => intro x; simp [rawY]
  | cons c l ih => intro x; simp only [List.cons_append, rawY, ih, List.sum_cons, Nat.add_assoc]
theorem sumOf_eq (B : List Nat) : sumOf B = (rawY 1 B) % 65521 * 65536 + (1 + B.sum) % 65521 := by
  unfold sumOf; rw [adl_raw B 1 0 1 0 rfl rfl]; simp
theorem sum_set (B : List Nat) : ∀ i c d, B[i]? = some c → (B.set i d).sum + c = B.sum + d := by
  induction B with
  | nil => intro i c d h; simp at h
  | cons b l ih =>
    intro i c d h
    cases i with
    | zero => simp at h; subst h; simp; omega
    | succ i =>
      have := ih i c d (by simpa using h)
      simp only [List.set_cons_succ, List.sum_cons]; omega
/-- A byte that is another one makes another sum. -/
theorem sumOf_set (B : List Nat) (i c d : Nat) (h : B[i]? = some c) (hc : c < 256) (hd : d < 256) (hne : c ≠ d) : sumOf (B.set i d) ≠ sumOf B := by
  have := sum_set B i c d h
  rw [sumOf_eq, sumOf_eq]
  omega
/-- Two bytes the other way round make the same sum just if they are the same. -/
theorem sumOf_swap (l m : List Nat) (p q : Nat) (hp : p < 256) (hq : q < 256) : (sumOf (l ++ q :: p :: m) = sumOf (l ++ p :: q :: m)) ↔ p = q := by
  constructor
  · intro h
    rw [sumOf_eq, sumOf_eq, rawY_append, rawY_append] at h
    simp only [List.sum_append, List.sum_cons, rawY] at h
    have e : rawY (1 + l.sum + q + p) m = rawY (1 + l.sum + p + q) m := by congr 1; omega
    rw [e] at h
    omega
  · intro h; subst h; rfl

/-- Four bytes of a number, the highest first. -/
def four (v : Nat) : List Nat := [v / 16777216 % 256, v / 65536 % 256, v / 256 % 256, v % 256]
def wordN (D : List Nat) : Nat := D.foldl (fun w c => w * 256 % 4294967296 + c) 0
theorem four_lt (v : Nat) : ∀ x ∈ four v, x < 256 := by intro x hx; simp [four] at hx; omega
theorem four_len (v : Nat) : (four v).length = 4 := rfl
theorem word_lt (D : List Nat) (h : ∀ x ∈ D, x < 256) : ∀ w, w < 4294967296 → D.foldl (fun w c => w * 256 % 4294967296 + c) w < 4294967296 := by
  induction D with
  | nil => intro w hw; exact hw
  | cons c l ih =>
    intro w hw
    have hc := h c (by simp)
    exact ih (fun x hx => h x (by simp [hx])) _ (by show w * 256 % 4294967296 + c < 4294967296; omega)
theorem word_four (D : List Nat) (hD : D.length = 4) (h : ∀ x ∈ D, x < 256) (v : Nat) (hv : v < 4294967296) : wordN D = v ↔ D = four v := by
  match D, hD with
  | [a, b, c, d], _ =>
    have ha := h a (by simp)
    have hb := h b (by simp)
    have hc := h c (by simp)
    have hd := h d (by simp)
    simp only [wordN, List.foldl_cons, List.foldl_nil, four, List.cons.injEq, and_true]
    omega

/-- A file. -/
def headOf (k : Nat) (P : List Nat) : List Nat := [87, 65, 70, 82] ++ (k :: (putVar P.length ++ P))
def fileOf (k : Nat) (P : List Nat) : List Nat := headOf k P ++ four (sumOf (headOf k P))
/-- What a file is opened to: kind, payload, error. -/
def openV (B : List Nat) : Nat × List Nat × Nat :=
  if B.length < 5 ∨ B.take 4 ≠ [87, 65, 70, 82] then (0, [], 20)
  else if (readV 0 0 (B.drop 5)).2.2 = false then (0, [], 20)
  else if 16777216 < (readV 0 0 (B.drop 5)).1 then (0, [], 22)
  else if B.length ≠ 5 + (readV 0 0 (B.drop 5)).2.1 + (readV 0 0 (B.drop 5)).1 + 4 then (0, [], 20)
  else if B.drop (B.length - 4) ≠ four (sumOf (B.take (B.length - 4))) then (0, [], 21)
  else (B.getD 4 0, (B.drop (5 + (readV 0 0 (B.drop 5)).2.1)).take (readV 0 0 (B.drop 5)).1, 0)

theorem headOf_len (k : Nat) (P : List Nat) : (headOf k P).length = 5 + (putVar P.length).length + P.length := by simp [headOf]; omega
theorem fileOf_len (k : Nat) (P : List Nat) : (fileOf k P).length = 5 + (putVar P.length).length + P.length + 4 := by simp [fileOf, headOf_len, four_len]
theorem headOf_lt (k : Nat) (P : List Nat) (hk : k < 256) (hP : ∀ x ∈ P, x < 256) : ∀ x ∈ headOf k P, x < 256 := by
  intro x hx
  simp only [headOf, List.mem_append, List.mem_cons, List.not_mem_nil, or_false] at hx
  rcases hx with (h | h | h | h) | h | h | h
  · omega
  · omega
  · omega
  · omega
  · omega
  · exact putVar_lt _ x h
  · exact hP x h
theorem fileOf_lt (k : Nat) (P : List Nat) (hk : k < 256) (hP : ∀ x ∈ P, x < 256) : ∀ x ∈ fileOf k P, x < 256 := by
  intro x hx
  rcases List.mem_append.1 hx with h | h
  · exact headOf_lt k P hk hP x h
  · exact four_lt _ x h

theorem open_file (k : Nat) (P : List Nat) (hl : P.length ≤ 16777216) : openV (fileOf k P) = (k, P, 0) := by
  have hr : readV 0 0 ((fileOf k P).drop 5) = (P.length, (putVar P.length).length, true) := by
    have e : (fileOf k P).drop 5 = putVar P.length ++ (P ++ four (sumOf (headOf k P))) := by simp [fileOf, headOf]
    rw [e, readV_put _ _ (by omega)]
  have h4 : (fileOf k P).take 4 = [87, 65, 70, 82] := by simp [fileOf, headOf]
  have hlen := fileOf_len k P
  have hd : (fileOf k P).length - 4 = (headOf k P).length := by rw [hlen, headOf_len]; omega
  unfold openV
  rw [hr, if_neg (by rw [h4]; simp; omega), if_neg (by simp), if_neg (by simp; omega), if_neg (by rw [hlen]; simp), hd]
  rw [if_neg (by rw [show (fileOf k P).drop (headOf k P).length = four (sumOf (headOf k P)) from List.drop_left' rfl, show (fileOf k P).take (headOf k P).length = headOf k P from List.take_left' rfl]; simp)]
  have e1 : (fileOf k P).getD 4 0 = k := by simp [fileOf, headOf]
  have e2 : ((fileOf k P).drop (5 + (putVar P.length).length)).take P.length = P := by
    have : fileOf k P = ([87, 65, 70, 82] ++ (k :: putVar P.length)) ++ (P ++ four (sumOf (headOf k P))) := by simp [fileOf, headOf]
    rw [this, List.drop_left' (by simp; omega), List.take_left' rfl]
  rw [e1, e2]

/-- How many bytes a number takes that was read. -/
theorem readV_len (l : List Nat) : ∀ (i acc a n : Nat), readV i acc l = (a, n, true) → ∃ v, a = acc + v * 2 ^ (7 * i) ∧ n = i + (putVar v).length ∧ (0 < i → 0 < v) := by
  induction l with
  | nil => intro i acc a n h; rw [readV_nil] at h; simp at h
  | cons c l ih =>
    intro i acc a n h
    rw [readV] at h
    split at h
    · simp at h
    · split at h
      · simp at h
      · split at h
        · rename_i h1 h2 hc
          split at h
          · simp at h
          · rename_i h0
            simp only [Prod.mk.injEq, and_true] at h
            refine ⟨c, h.1.symm, by rw [putVar_small hc, ← h.2]; rfl, fun hi => by omega⟩
        · rename_i h1 h2 hc
          obtain ⟨v, hv1, hv2, hv3⟩ := ih _ _ _ _ h
          have hp := hv3 (by omega)
          refine ⟨c % 128 + 128 * v, ?_, ?_, fun _ => by omega⟩
          · rw [hv1, two7, Nat.add_mul, Nat.add_assoc]
            congr 2
            rw [Nat.mul_comm 128 v, Nat.mul_assoc]
          · rw [hv2, putVar_more (v := c % 128 + 128 * v) (by omega), show (c % 128 + 128 * v) / 128 = v by omega, List.length_cons]; omega

theorem len_inj {a b : Nat} (h : a + (putVar a).length = b + (putVar b).length) : a = b := by
  rcases Nat.lt_trichotomy a b with h1 | h1 | h1
  · have := putVar_mono b a (by omega); omega
  · exact h1
  · have := putVar_mono a b (by omega); omega

/-- A file with a byte that is another one is none. -/
theorem open_changed (k : Nat) (P : List Nat) (hk : k < 256) (hP : ∀ x ∈ P, x < 256) (i c d : Nat) (hc : (fileOf k P)[i]? = some c) (hd : d < 256) (hne : c ≠ d) :
    (openV ((fileOf k P).set i d)).2.2 ≠ 0 := by
  intro h0
  have hlen := fileOf_len k P
  have hc8 : c < 256 := fileOf_lt k P hk hP c (List.mem_of_getElem? hc)
  have hi : i < (fileOf k P).length := (List.getElem?_eq_some_iff.1 hc).1
  have hFh : (fileOf k P).take (headOf k P).length = headOf k P := List.take_left' rfl
  have hFt : (fileOf k P).drop (headOf k P).length = four (sumOf (headOf k P)) := List.drop_left' rfl
  have hhl := headOf_len k P
  unfold openV at h0
  split at h0
  · cases h0
  · split at h0
    · cases h0
    · split at h0
      · cases h0
      · split at h0
        · cases h0
        · split at h0
          · cases h0
          · rename_i hr _ hl hw
            obtain ⟨a, n, ok, hrd⟩ : ∃ a n ok, readV 0 0 (((fileOf k P).set i d).drop 5) = (a, n, ok) := ⟨_, _, _, rfl⟩
            rw [hrd] at hr hl
            simp only [Bool.not_eq_false] at hr
            subst hr
            obtain ⟨v, hv1, hv2, _⟩ := readV_len _ _ _ _ _ hrd
            simp only [List.length_set, ne_eq, Decidable.not_not] at hl hw
            have hav : v = a := by simpa using hv1.symm
            subst hav
            have hsz : v = P.length := len_inj (by omega)
            have hm : (fileOf k P).length - 4 = (headOf k P).length := by omega
            rw [hm] at hw
            by_cases him : i < (headOf k P).length
            · have e1 : ((fileOf k P).set i d).drop (headOf k P).length = four (sumOf (headOf k P)) := by
                rw [List.drop_set, if_pos him, hFt]
              have e2 : ((fileOf k P).set i d).take (headOf k P).length = (headOf k P).set i d := by
                rw [List.take_set, hFh]
              rw [e1, e2] at hw
              have hc' : (headOf k P)[i]? = some c := by
                rw [← hFh, List.getElem?_take_of_lt him]; exact hc
              have := sumOf_set (headOf k P) i c d hc' hc8 hd hne
              have h4 := (word_four _ (four_len (sumOf (headOf k P))) (four_lt _) _ (sumOf_lt _)).2 rfl
              have h5 := (word_four _ (four_len (sumOf (headOf k P))) (four_lt _) _ (sumOf_lt _)).2 hw
              exact this (by rw [← h5, h4])
            · have e2 : ((fileOf k P).set i d).take (headOf k P).length = headOf k P := by
                rw [List.take_set_of_le (by omega), hFh]
              rw [e2] at hw
              have e1 : ((fileOf k P).set i d)[i]? = some d := by rw [List.getElem?_set_self hi]
              have e3 : ((fileOf k P).set i d)[i]? = (fileOf k P)[i]? := by
                have h6 : i = (headOf k P).length + (i - (headOf k P).length) := by omega
                rw [h6, ← List.getElem?_drop, ← List.getElem?_drop, ← h6, hw, hFt]
              rw [e1, hc] at e3
              injection e3 with e3
              exact hne e3.symm
theorem openV_err (B : List Nat) : (openV B).2.2 = 0 ∨ (openV B).2.2 = 20 ∨ (openV B).2.2 = 21 ∨ (openV B).2.2 = 22 := by
  unfold openV
  repeat' split
  all_goals simp
end Go.Proofs.Ytgijepaohhekfaa.M
