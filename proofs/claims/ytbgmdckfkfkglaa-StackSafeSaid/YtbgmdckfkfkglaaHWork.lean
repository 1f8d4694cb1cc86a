/- Ways through are gone by a list: what is kept, as mathematics. -/
import Derived.Test.YtbgmdckfkfkglaaHMath
set_option linter.unusedSimpArgs false
set_option linter.unusedVariables false
namespace Go.Proofs.Ytbgmdckfkfkglaa.M

def upK (K : Nat → Option Nat) (j h : Nat) : Nat → Option Nat := fun i => if i = j then some h else K i
theorem upK_same (K : Nat → Option Nat) (j h : Nat) : upK K j h j = some h := by unfold upK; rw [if_pos rfl]
theorem upK_other (K : Nat → Option Nat) {j i : Nat} (h : Nat) (hne : i ≠ j) : upK K j h i = K i := by unfold upK; rw [if_neg hne]
/-- Of how many of the first n something is known. -/
def cnt (K : Nat → Option Nat) (n : Nat) : Nat := ((List.range n).filter fun i => (K i).isSome).length
theorem cnt_le (K : Nat → Option Nat) (n : Nat) : cnt K n ≤ n := by
  have := List.length_filter_le (fun i => (K i).isSome) (List.range n)
  simpa [cnt] using this
theorem cnt_up (K : Nat → Option Nat) (j h : Nat) (hn : K j = none) : ∀ n, cnt (upK K j h) n = cnt K n + (if j < n then 1 else 0) := by
  intro n
  induction n with
  | zero => simp [cnt]
  | succ n ih =>
    unfold cnt at ih ⊢
    rw [List.range_succ, List.filter_append, List.filter_append, List.length_append, List.length_append, ih]
    by_cases hj : j = n
    · subst hj
      simp [List.filter_cons, upK_same, hn]
    · have e : upK K j h n = K n := upK_other K h (fun e => hj e.symm)
      simp only [List.filter_cons, List.filter_nil, e]
      have e1 : (if j < n then 1 else 0 : Nat) = (if j < n + 1 then 1 else 0) := by split <;> split <;> omega
      rw [e1]; omega
theorem cnt_lt (K : Nat → Option Nat) (j h n : Nat) (hn : K j = none) (hj : j < n) : cnt (upK K j h) n = cnt K n + 1 ∧ cnt K n < n := by
  have h1 := cnt_up K j h hn n
  rw [if_pos hj] at h1
  have h2 := cnt_le (upK K j h) n
  omega

structure Work (L : List Cod) (K : Nat → Option Nat) (T : List Nat) : Prop where
  zero : K 0 = some 0
  reach : ∀ i h, K i = some h → Reach L i h
  todo : ∀ i ∈ T, ∃ h, K i = some h
  done : ∀ i h, K i = some h → i ∉ T → Fine L i h ∧ ∀ j ∈ waysV L i, K j = some (after L i h)
structure Mid (L : List Cod) (K : Nat → Option Nat) (T : List Nat) (i h q : Nat) : Prop where
  zero : K 0 = some 0
  reach : ∀ i h, K i = some h → Reach L i h
  todo : ∀ i ∈ T, ∃ h, K i = some h
  here : K i = some h
  done : ∀ i' h', K i' = some h' → i' ∉ T → i' ≠ i → Fine L i' h' ∧ ∀ j ∈ waysV L i', K j = some (after L i' h')
  told : ∀ j ∈ (waysV L i).take q, K j = some (after L i h)

theorem Work.first {L : List Cod} (h0 : 0 < L.length) : Work L (upK (fun _ => none) 0 0) [0] := by
  refine ⟨upK_same _ _ _, fun i h hk => ?_, fun i hi => ?_, fun i h hk hi => ?_⟩
  · by_cases e : i = 0
    · subst e; rw [upK_same] at hk; injection hk with hk; subst hk; exact Reach.zero
    · rw [upK_other _ _ e] at hk; cases hk
  · rw [List.mem_singleton.1 hi]; exact ⟨0, upK_same _ _ _⟩
  · by_cases e : i = 0
    · exact absurd (List.mem_singleton.2 e) hi
    · rw [upK_other _ _ e] at hk; cases hk
theorem Work.pop {L : List Cod} {K : Nat → Option Nat} {T : List Nat} {i h : Nat} (w : Work L K (T ++ [i])) (hk : K i = some h) : Mid L K T i h 0 :=
  ⟨w.zero, w.reach, fun j hj => w.todo j (by simp [hj]), hk, fun j k h1 h2 h3 => w.done j k h1 (by simp [h2, h3]), fun j hj => by simp at hj⟩
theorem Mid.same {L : List Cod} {K : Nat → Option Nat} {T : List Nat} {i h q j : Nat} (m : Mid L K T i h q) (hj : (waysV L i)[q]? = some j) (hk : K j = some (after L i h)) : Mid L K T i h (q + 1) := by
  refine ⟨m.zero, m.reach, m.todo, m.here, m.done, fun x hx => ?_⟩
  rw [List.take_add_one, hj] at hx
  rcases List.mem_append.1 hx with hx | hx
  · exact m.told x hx
  · simp at hx; rw [hx]; exact hk
theorem Mid.more {L : List Cod} {K : Nat → Option Nat} {T : List Nat} {i h q j : Nat} (m : Mid L K T i h q) (hj : (waysV L i)[q]? = some j) (hk : K j = none) (hr : Reach L j (after L i h)) : Mid L (upK K j (after L i h)) (T ++ [j]) i h (q + 1) := by
  have keep : ∀ x y, K x = some y → upK K j (after L i h) x = some y := fun x y hx => by
    rw [upK_other _ _ (fun e => by rw [e, hk] at hx; cases hx)]; exact hx
  have m2 := m
  refine ⟨keep _ _ m.zero, fun x y hx => ?_, fun x hx => ?_, keep _ _ m.here, fun x y hx h1 h2 => ?_, fun x hx => ?_⟩
  · by_cases e : x = j
    · subst e; rw [upK_same] at hx; injection hx with hx; subst hx; exact hr
    · rw [upK_other _ _ e] at hx; exact m.reach x y hx
  · rcases List.mem_append.1 hx with hx | hx
    · obtain ⟨y, hy⟩ := m.todo x hx; exact ⟨y, keep _ _ hy⟩
    · simp at hx; subst hx; exact ⟨_, upK_same _ _ _⟩
  · have e : x ≠ j := fun e => h1 (by simp [e])
    rw [upK_other _ _ e] at hx
    obtain ⟨a, b⟩ := m.done x y hx (fun hh => h1 (by simp [hh])) h2
    exact ⟨a, fun z hz => keep _ _ (b z hz)⟩
  · rw [List.take_add_one, hj] at hx
    rcases List.mem_append.1 hx with hx | hx
    · exact keep _ _ (m.told x hx)
    · simp at hx; subst hx; exact upK_same _ _ _
theorem Mid.fin {L : List Cod} {K : Nat → Option Nat} {T : List Nat} {i h q : Nat} (m : Mid L K T i h q) (hq : (waysV L i).length ≤ q) (hf : Fine L i h) : Work L K T := by
  refine ⟨m.zero, m.reach, m.todo, fun x y hx h1 => ?_⟩
  by_cases e : x = i
  · subst e
    have : y = h := by have := m.here; rw [hx] at this; injection this
    subst this
    refine ⟨hf, fun z hz => m.told z ?_⟩
    rw [List.take_of_length_le hq]; exact hz
  · exact m.done x y hx h1 e
theorem reach_after {L : List Cod} {i h j : Nat} (hr : Reach L i h) (hi : i < L.length) (hf : Fine L i h) (hj : j ∈ waysV L i) : Reach L j (after L i h) := Reach.next hr hi hf.1 hf.2 hj
end Go.Proofs.Ytbgmdckfkfkglaa.M
