/- When two types are the same, and which are right: no Go. -/
import Derived.Test.YtcbeibhmjokecaaDoorQTree
set_option linter.unusedSimpArgs false
set_option linter.unusedVariables false
namespace Go.Proofs.YtcbeibhmjokecaaDoor

mutual
/-- Are two types the same? -/
def sameB : Ty → Ty → Bool
  | .mk f n s l, .mk f2 n2 s2 l2 => (f == f2) && (if f = 7 then (n == n2) && sameL l l2 else if f = 8 ∨ f = 9 then (s.toList == s2.toList) else true)
def sameL : List Ty → List Ty → Bool
  | [], [] => true
  | a :: l, b :: l2 => sameB a b && sameL l l2
  | _, _ => false
end
theorem sameL_len : ∀ {a b : List Ty}, sameL a b = true → a.length = b.length
  | [], [], _ => rfl
  | a :: l, b :: l2, h => by
    unfold sameL at h
    rw [Bool.and_eq_true] at h
    simp [sameL_len h.2]
  | [], _ :: _, h => by simp [sameL] at h
  | _ :: _, [], h => by simp [sameL] at h
/-- 'all below k are the same'. -/
def SameUp (k : Nat) (a b : List Ty) : Prop := sameL (a.take k) (b.take k) = true
theorem SameUp.zero (a b : List Ty) : SameUp 0 a b := by simp [SameUp, sameL]
theorem sameL_snoc : ∀ {a b : List Ty} (x y : Ty), a.length = b.length → sameL (a ++ [x]) (b ++ [y]) = (sameL a b && sameB x y)
  | [], [], x, y, _ => by simp [sameL]
  | a :: l, b :: l2, x, y, h => by
    have := sameL_snoc (a := l) (b := l2) x y (by simpa using h)
    simp only [List.cons_append]
    unfold sameL
    rw [this, Bool.and_assoc]
  | [], _ :: _, _, _, h => by simp at h
  | _ :: _, [], _, _, h => by simp at h
theorem SameUp.next {k : Nat} {a b : List Ty} {x y : Ty} (h : SameUp k a b) (hx : a[k]? = some x) (hy : b[k]? = some y) (e : sameB x y = true) : SameUp (k + 1) a b := by
  unfold SameUp at *
  have h1 := (List.getElem?_eq_some_iff.1 hx).1
  have h2 := (List.getElem?_eq_some_iff.1 hy).1
  rw [List.take_add_one, List.take_add_one, hx, hy]
  show sameL (a.take k ++ [x]) (b.take k ++ [y]) = true
  rw [sameL_snoc x y (by rw [List.length_take, List.length_take]; omega), h, e]
  rfl
theorem SameUp.all {a b : List Ty} (h : SameUp a.length a b) (hl : a.length = b.length) : sameL a b = true := by
  unfold SameUp at h
  rwa [List.take_of_length_le (Nat.le_refl _), List.take_of_length_le (by omega)] at h
theorem sameL_get : ∀ {a b : List Ty} {k : Nat} {x y : Ty}, sameL a b = true → a[k]? = some x → b[k]? = some y → sameB x y = true
  | [], _, _, _, _, _, hx, _ => by simp at hx
  | _ :: _, [], _, _, _, h, _, _ => by simp [sameL] at h
  | a :: l, b :: l2, 0, x, y, h, hx, hy => by
    simp only [List.getElem?_cons_zero, Option.some.injEq] at hx hy
    subst hx; subst hy
    unfold sameL at h
    rw [Bool.and_eq_true] at h
    exact h.1
  | a :: l, b :: l2, k + 1, x, y, h, hx, hy => by
    simp only [List.getElem?_cons_succ] at hx hy
    unfold sameL at h
    rw [Bool.and_eq_true] at h
    exact sameL_get h.2 hx hy
theorem sameL_no {a b : List Ty} {k : Nat} {x y : Ty} (hx : a[k]? = some x) (hy : b[k]? = some y) (e : sameB x y = false) : sameL a b = false := by
  cases h : sameL a b with
  | false => rfl
  | true => rw [sameL_get h hx hy] at e; cases e
theorem sameL_ne {a b : List Ty} (h : a.length ≠ b.length) : sameL a b = false := by
  cases h2 : sameL a b with
  | false => rfl
  | true => exact absurd (sameL_len h2) h
mutual
/-- May a variable be of it, as far as the type alone tells? -/
def rightB : Ty → Bool
  | .mk f n s l => if f = 1 ∨ f = 2 ∨ f = 3 ∨ f = 4 then (n == 0) && ((s.toList == []) && (l.length == 0))
    else if f = 7 then decide (1 ≤ n) && (decide (n ≤ 1024) && ((s.toList == []) && oneR l))
    else if f = 8 ∨ f = 9 then (n == 0) && ((s.toList != []) && (l.length == 0)) else false
def oneR : List Ty → Bool
  | [t] => rightB t
  | _ => false
end
end Go.Proofs.YtcbeibhmjokecaaDoor
