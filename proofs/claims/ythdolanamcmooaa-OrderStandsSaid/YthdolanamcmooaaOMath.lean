/- Modules in an order: no Go program is imported. -/
import Derived.Test.YthdolanamcmooaaJMath
set_option linter.unusedSimpArgs false
set_option linter.unusedVariables false
namespace Go.Proofs.Ythdolanamcmooaa

/-- A module: its name, its imports. -/
abbrev Md := ByteArray × List ByteArray
def inB : ByteArray := ⟨#[73, 110]⟩
def outB : ByteArray := ⟨#[79, 117, 116]⟩
def isText (s : ByteArray) : Bool := decide (s = inB) || decide (s = outB)
def needsM (l : List ByteArray) : List ByteArray := l.filter fun s => !isText s
def names (L : List Md) : List ByteArray := L.map (·.1)
theorem names_len (L : List Md) : (names L).length = L.length := by simp [names]
def impsOf (L : List Md) (i : Nat) : List ByteArray := (L.getD i default).2
def nameOf (L : List Md) (i : Nat) : ByteArray := (L.getD i default).1
theorem needsM_snoc (l : List ByteArray) (k : Nat) (s : ByteArray) (h : l[k]? = some s) : needsM (l.take (k + 1)) = if isText s then needsM (l.take k) else needsM (l.take k) ++ [s] := by
  obtain ⟨hk, hs⟩ := List.getElem?_eq_some_iff.1 h
  rw [List.take_succ_eq_append_getElem hk, hs]
  unfold needsM
  rw [List.filter_append]
  cases h2 : isText s <;> simp [h2]
theorem needsM_len (l : List ByteArray) : (needsM l).length ≤ l.length := List.length_filter_le _ _
/-- The numbers of what a module needs. -/
def needI (L : List Md) (i : Nat) : List Nat := (needsM (impsOf L i)).map (posB (names L))

abbrev Res := Bool × List Int × List Int
def runAll (V : List Int → List Int → Nat → Res) : List Nat → List Int → List Int → Res
  | [], st, out => (true, st, out)
  | j :: js, st, out => match V st out j with
    | (true, st', out') => runAll V js st' out'
    | (false, st', out') => (false, st', out')
def finV (i : Nat) : Res → Res
  | (true, st', out') => (true, st'.set i 2, out' ++ [(i : Int)])
  | (false, st', out') => (false, st', out')
def visitF (N : Nat → List Nat) : Nat → List Int → List Int → Nat → Res
  | 0, st, out, _ => (false, st, out)
  | f + 1, st, out, i => if st.getD i 0 ≠ 0 then (st.getD i 0 == 2, st, out) else finV i (runAll (visitF N f) (N i) (st.set i 1) out)
def zeros : List Int → Nat
  | [] => 0
  | x :: l => (if x = 0 then 1 else 0) + zeros l
theorem zeros_set : ∀ (st : List Int) (i : Nat) (x : Int), x ≠ 0 → zeros (st.set i x) ≤ zeros st
  | [], i, x, h => by simp [zeros]
  | y :: l, 0, x, h => by simp only [List.set, zeros]; rw [if_neg h]; omega
  | y :: l, i + 1, x, h => by have := zeros_set l i x h; simp only [List.set, zeros]; omega
theorem zeros_set1 : ∀ (st : List Int) (i : Nat) (x : Int), x ≠ 0 → i < st.length → st.getD i 0 = 0 → zeros (st.set i x) + 1 = zeros st
  | [], i, x, h, hi, h0 => by simp at hi
  | y :: l, 0, x, h, hi, h0 => by
    have e : y = 0 := by simpa using h0
    simp only [List.set, zeros]; rw [if_neg h, if_pos e]; omega
  | y :: l, i + 1, x, h, hi, h0 => by
    have := zeros_set1 l i x h (by simpa using hi) (by simpa using h0)
    simp only [List.set, zeros]; omega
/-- What is kept. -/
def Fewer (st : List Int) (r : Res) : Prop := r.2.1.length = st.length ∧ zeros r.2.1 ≤ zeros st
theorem runAll_fewer (V : List Int → List Int → Nat → Res) (hV : ∀ st out j, Fewer st (V st out j)) : ∀ (js : List Nat) (st out : List Int), Fewer st (runAll V js st out)
  | [], st, out => ⟨rfl, Nat.le_refl _⟩
  | j :: js, st, out => by
    have h := hV st out j
    unfold runAll
    generalize V st out j = r at h
    obtain ⟨b, st', out'⟩ := r
    cases b
    · exact h
    · have h2 := runAll_fewer V hV js st' out'
      exact ⟨h2.1.trans h.1, Nat.le_trans h2.2 h.2⟩
theorem visitF_fewer (N : Nat → List Nat) : ∀ (f : Nat) (st out : List Int) (i : Nat), Fewer st (visitF N f st out i)
  | 0, st, out, i => ⟨rfl, Nat.le_refl _⟩
  | f + 1, st, out, i => by
    unfold visitF
    split
    · exact ⟨rfl, Nat.le_refl _⟩
    · have h := runAll_fewer (visitF N f) (visitF_fewer N f) (N i) (st.set i 1) out
      generalize runAll (visitF N f) (N i) (st.set i 1) out = r at h
      obtain ⟨b, st', out'⟩ := r
      have h1 : st'.length = st.length := by have := h.1; simpa using this
      have h2 : zeros st' ≤ zeros st := Nat.le_trans h.2 (zeros_set st i 1 (by decide))
      cases b
      · exact ⟨h1, h2⟩
      · exact ⟨by show (st'.set i 2).length = st.length; rw [List.length_set]; exact h1, Nat.le_trans (zeros_set st' i 2 (by decide)) h2⟩
theorem runAll_out (V : List Int → List Int → Nat → Res) (n : Nat) (hV : ∀ st out j, Fewer st (V st out j)) (hO : ∀ st out j, st.length = n → j < n → (V st out j).2.2.length + zeros (V st out j).2.1 ≤ out.length + zeros st) : ∀ (js : List Nat) (st out : List Int), st.length = n → (∀ j ∈ js, j < n) → (runAll V js st out).2.2.length + zeros (runAll V js st out).2.1 ≤ out.length + zeros st
  | [], st, out, _, _ => Nat.le_refl _
  | j :: js, st, out, hs, hj => by
    have h := hO st out j hs (hj j (by simp))
    have h1 := hV st out j
    unfold runAll
    generalize V st out j = r at h h1
    obtain ⟨b, st', out'⟩ := r
    cases b
    · exact h
    · exact Nat.le_trans (runAll_out V n hV hO js st' out' (h1.1.trans hs) (fun k hk => hj k (by simp [hk]))) h
theorem visitF_out (N : Nat → List Nat) (n : Nat) (hN : ∀ i, i < n → ∀ j ∈ N i, j < n) : ∀ (f : Nat) (st out : List Int) (i : Nat), st.length = n → i < n → (visitF N f st out i).2.2.length + zeros (visitF N f st out i).2.1 ≤ out.length + zeros st
  | 0, st, out, i, _, _ => Nat.le_refl _
  | f + 1, st, out, i, hs, hi => by
    unfold visitF
    split
    · exact Nat.le_refl _
    · rename_i h0
      have h := runAll_out (visitF N f) n (visitF_fewer N f) (fun st out j => visitF_out N n hN f st out j) (N i) (st.set i 1) out (by simpa using hs) (hN i hi)
      have hz := zeros_set1 st i 1 (by decide) (by omega) (by simpa using h0)
      generalize runAll (visitF N f) (N i) (st.set i 1) out = r at h
      obtain ⟨b, st', out'⟩ := r
      replace h : out'.length + zeros st' ≤ out.length + zeros (st.set i 1) := h
      have h2 := zeros_set st' i 2 (by decide)
      cases b
      · show out'.length + zeros st' ≤ _
        omega
      · show (out' ++ [(i : Int)]).length + zeros (st'.set i 2) ≤ _
        simp only [List.length_append, List.length_cons, List.length_nil]
        omega
theorem drop_cons {α : Type} (l : List α) (k : Nat) (x : α) (h : l[k]? = some x) : l.drop k = x :: l.drop (k + 1) := by
  obtain ⟨hk, hx⟩ := List.getElem?_eq_some_iff.1 h
  rw [List.drop_eq_getElem_cons hk, hx]
def twice (L : List Md) : Prop := ∃ i, i < L.length ∧ posB (names L) (nameOf L i) ≠ i
def missing (L : List Md) : Prop := ∃ i, i < L.length ∧ ∃ s, s ∈ needsM (impsOf L i) ∧ ¬ posB (names L) s < L.length
def allF (L : List Md) : Res := runAll (visitF (needI L) (L.length + 1)) (List.range L.length) (List.replicate L.length 0) []
/-- Which order modules have, or why none. -/
def OrdR (L : List Md) (l : List Int) (e : Int) : Prop :=
  (16 < L.length ∧ l = [] ∧ e = 34) ∨
  (L.length ≤ 16 ∧ twice L ∧ l = [] ∧ e = 43) ∨
  (L.length ≤ 16 ∧ ¬ twice L ∧ missing L ∧ l = [] ∧ e = 40) ∨
  (L.length ≤ 16 ∧ ¬ twice L ∧ ¬ missing L ∧ (allF L).1 = false ∧ l = [] ∧ e = 41) ∨
  (L.length ≤ 16 ∧ ¬ twice L ∧ ¬ missing L ∧ (allF L).1 = true ∧ l = (allF L).2.2 ∧ e = 0)
theorem OrdR.unique {L : List Md} {l l' : List Int} {e e' : Int} (h : OrdR L l e) (k : OrdR L l' e') : l = l' ∧ e = e' := by
  rcases h with ⟨a, rfl, rfl⟩ | ⟨a, b, rfl, rfl⟩ | ⟨a, b, c, rfl, rfl⟩ | ⟨a, b, c, d, rfl, rfl⟩ | ⟨a, b, c, d, rfl, rfl⟩ <;>
  rcases k with ⟨a', rfl, rfl⟩ | ⟨a', b', rfl, rfl⟩ | ⟨a', b', c', rfl, rfl⟩ | ⟨a', b', c', d', rfl, rfl⟩ | ⟨a', b', c', d', rfl, rfl⟩ <;>
  first
  | exact ⟨rfl, rfl⟩
  | (exfalso; omega)
  | (exfalso; exact absurd b b')
  | (exfalso; exact absurd b' b)
  | (exfalso; exact absurd c c')
  | (exfalso; exact absurd c' c)
  | (exfalso; rw [d] at d'; cases d')
theorem zeros_replicate (n : Nat) : zeros (List.replicate n 0) = n := by
  induction n with
  | zero => rfl
  | succ n ih => simp only [List.replicate_succ, zeros, ih, if_pos]; omega
theorem runAll_cons_true {V : List Int → List Int → Nat → Res} {j : Nat} {js : List Nat} {st out st' out' : List Int} (h : V st out j = (true, st', out')) : runAll V (j :: js) st out = runAll V js st' out' := by
  simp [runAll, h]
theorem runAll_cons_false {V : List Int → List Int → Nat → Res} {j : Nat} {js : List Nat} {st out st' out' : List Int} (h : V st out j = (false, st', out')) : runAll V (j :: js) st out = (false, st', out') := by
  simp [runAll, h]
end Go.Proofs.Ythdolanamcmooaa
