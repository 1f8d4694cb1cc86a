/- A map from numbers, as a tree of their bits, that the kernel reads and changes in few steps. No Go program is imported. -/
import Derived.KernelRfl
set_option linter.unusedSimpArgs false
set_option linter.unusedVariables false
namespace Go.VE
noncomputable section

inductive Tr (α : Type) where
  | e
  | n (l : Tr α) (v : Option α) (r : Tr α)

section
variable {α β : Type}

/-- What lies at a number. -/
def Tr.get (t : Tr α) : Nat → Option α :=
  Tr.rec (motive := fun _ => Nat → Option α) (fun _ => none)
    (fun _ v _ gl gr k => Bool.rec (Bool.rec (gl (k / 2)) (gr (k / 2 - 1)) (Nat.beq (k % 2) 0)) v (Nat.beq k 0)) t

/-- A tree of one number alone; fuel enough for its bits. -/
noncomputable def Tr.one (f : Nat) : Nat → α → (Tr α → β) → β :=
  Nat.rec (motive := fun _ => Nat → α → (Tr α → β) → β) (fun _ v c => c (Tr.n .e (some v) .e))
    (fun _ ih k v c => Bool.rec (Bool.rec (ih (k / 2) v fun x => c (Tr.n x none .e)) (ih (k / 2 - 1) v fun x => c (Tr.n .e none x)) (Nat.beq (k % 2) 0)) (c (Tr.n .e (some v) .e)) (Nat.beq k 0)) f

/-- The tree with something else at a number, handed on. -/
def Tr.setK (t : Tr α) : Nat → α → (Tr α → β) → β :=
  Tr.rec (motive := fun _ => Nat → α → (Tr α → β) → β)
   (fun k v c => Tr.one (k + 1) k v c)
   (fun l u r sl sr k v c => Bool.rec (Bool.rec (sl (k / 2) v fun x => c (Tr.n x u r)) (sr (k / 2 - 1) v fun x => c (Tr.n l u x)) (Nat.beq (k % 2) 0)) (c (Tr.n l (some v) r)) (Nat.beq k 0)) t

def Tr.set (t : Tr α) (k : Nat) (v : α) : Tr α := Tr.setK t k v id

theorem beq0 {k : Nat} (h : k ≠ 0) : Nat.beq k 0 = false := by cases k with | zero => exact absurd rfl h | succ n => rfl
theorem Tr.get_e (k : Nat) : (Tr.e : Tr α).get k = none := rfl
theorem Tr.get_n (l : Tr α) (v : Option α) (r : Tr α) (k : Nat) :
    (Tr.n l v r).get k = if k = 0 then v else if k % 2 = 0 then r.get (k / 2 - 1) else l.get (k / 2) := by
  show (Bool.rec (Bool.rec (l.get (k / 2)) (r.get (k / 2 - 1)) (Nat.beq (k % 2) 0)) v (Nat.beq k 0) : Option α) = _
  by_cases h : k = 0
  · subst h; rfl
  · rw [if_neg h, beq0 h]
    by_cases h2 : k % 2 = 0
    · rw [if_pos h2, h2]; rfl
    · rw [if_neg h2, beq0 h2]

theorem Tr.one_k (f : Nat) : ∀ {β : Type} (k : Nat) (v : α) (c : Tr α → β), Tr.one f k v c = c (Tr.one f k v id) := by
  induction f with
  | zero => intro β k v c; rfl
  | succ f ih =>
    intro β k v c
    show Bool.rec (Bool.rec (Tr.one f (k / 2) v fun x => c (Tr.n x none .e)) (Tr.one f (k / 2 - 1) v fun x => c (Tr.n .e none x)) (Nat.beq (k % 2) 0)) (c (Tr.n .e (some v) .e)) (Nat.beq k 0) = c (Bool.rec (Bool.rec (Tr.one f (k / 2) v fun x => id (Tr.n x none .e)) (Tr.one f (k / 2 - 1) v fun x => id (Tr.n .e none x)) (Nat.beq (k % 2) 0)) (id (Tr.n .e (some v) .e)) (Nat.beq k 0))
    rw [ih (k / 2) v (fun x : Tr α => c (Tr.n x none .e)), ih (k / 2) v (fun x : Tr α => id (Tr.n x none .e)), ih (k / 2 - 1) v (fun x : Tr α => c (Tr.n .e none x)), ih (k / 2 - 1) v (fun x : Tr α => id (Tr.n .e none x))]
    cases Nat.beq k 0 <;> cases Nat.beq (k % 2) 0 <;> rfl

theorem Tr.setK_id (t : Tr α) : ∀ {β : Type} (k : Nat) (v : α) (c : Tr α → β), t.setK k v c = c (t.setK k v id) := by
  induction t with
  | e => intro β k v c; exact Tr.one_k (k + 1) k v c
  | n l u r hl hr =>
    intro β k v c
    show Bool.rec (Bool.rec (l.setK (k / 2) v fun x => c (Tr.n x u r)) (r.setK (k / 2 - 1) v fun x => c (Tr.n l u x)) (Nat.beq (k % 2) 0)) (c (Tr.n l (some v) r)) (Nat.beq k 0) = c (Bool.rec (Bool.rec (l.setK (k / 2) v fun x => id (Tr.n x u r)) (r.setK (k / 2 - 1) v fun x => id (Tr.n l u x)) (Nat.beq (k % 2) 0)) (id (Tr.n l (some v) r)) (Nat.beq k 0))
    rw [hl (k / 2) v (fun x : Tr α => c (Tr.n x u r)), hl (k / 2) v (fun x : Tr α => id (Tr.n x u r)), hr (k / 2 - 1) v (fun x : Tr α => c (Tr.n l u x)), hr (k / 2 - 1) v (fun x : Tr α => id (Tr.n l u x))]
    cases Nat.beq k 0 <;> cases Nat.beq (k % 2) 0 <;> rfl

theorem Tr.setK_k (t : Tr α) {β : Type} (k : Nat) (v : α) (c : Tr α → β) : t.setK k v c = c (t.set k v) := Tr.setK_id t k v c

theorem Tr.set_n (l : Tr α) (u : Option α) (r : Tr α) (k : Nat) (v : α) :
    (Tr.n l u r).set k v = if k = 0 then .n l (some v) r else if k % 2 = 0 then .n l u (r.set (k / 2 - 1) v) else .n (l.set (k / 2) v) u r := by
  show (Bool.rec (Bool.rec (l.setK (k / 2) v fun x => id (Tr.n x u r)) (r.setK (k / 2 - 1) v fun x => id (Tr.n l u x)) (Nat.beq (k % 2) 0)) (id (Tr.n l (some v) r)) (Nat.beq k 0) : Tr α) = _
  rw [Tr.setK_k, Tr.setK_k]
  by_cases h : k = 0
  · subst h; rfl
  · rw [if_neg h, beq0 h]
    by_cases h2 : k % 2 = 0
    · rw [if_pos h2, h2]; rfl
    · rw [if_neg h2, beq0 h2]; rfl

theorem Tr.get_one (f : Nat) : ∀ (k : Nat) (v : α) (j : Nat), k < f → (Tr.one f k v id).get j = if j = k then some v else none := by
  induction f with
  | zero => intro k v j h; omega
  | succ f ih =>
    intro k v j hk
    show (Bool.rec (Bool.rec (Tr.one f (k / 2) v fun x => id (Tr.n x none .e)) (Tr.one f (k / 2 - 1) v fun x => id (Tr.n .e none x)) (Nat.beq (k % 2) 0)) (id (Tr.n .e (some v) .e)) (Nat.beq k 0) : Tr α).get j = _
    rw [Tr.one_k f _ _ (fun x : Tr α => id (Tr.n x none .e)), Tr.one_k f _ _ (fun x : Tr α => id (Tr.n .e none x))]
    by_cases h : k = 0
    · subst h
      show (Tr.n .e (some v) .e).get j = _
      rw [Tr.get_n]
      split <;> simp_all [Tr.get_e]
    · rw [beq0 h]
      by_cases h2 : k % 2 = 0
      · rw [h2]
        show (Tr.n .e none (Tr.one f (k / 2 - 1) v id)).get j = _
        rw [Tr.get_n, Tr.get_e, ih _ _ _ (by omega)]
        by_cases hj : j = k
        · subst hj; simp [h, h2]
        · rw [if_neg hj]
          by_cases h3 : j = 0
          · simp [h3]
          · by_cases h4 : j % 2 = 0
            · rw [if_neg h3, if_pos h4, if_neg (by omega)]
            · rw [if_neg h3, if_neg h4]
      · rw [beq0 h2]
        show (Tr.n (Tr.one f (k / 2) v id) none .e).get j = _
        rw [Tr.get_n, Tr.get_e, ih _ _ _ (by omega)]
        by_cases hj : j = k
        · subst hj; simp [h, h2]
        · rw [if_neg hj]
          by_cases h3 : j = 0
          · simp [h3]
          · by_cases h4 : j % 2 = 0
            · rw [if_neg h3, if_pos h4]
            · rw [if_neg h3, if_neg h4, if_neg (by omega)]

theorem Tr.get_set (t : Tr α) : ∀ (k : Nat) (v : α) (j : Nat), (t.set k v).get j = if j = k then some v else t.get j := by
  induction t with
  | e => intro k v j; exact Tr.get_one (k + 1) k v j (Nat.lt_succ_self k)
  | n l u r hl hr =>
    intro k v j
    rw [Tr.set_n]
    by_cases h : k = 0
    · subst h
      rw [if_pos rfl, Tr.get_n, Tr.get_n]
      by_cases hj : j = 0 <;> simp [hj]
    · rw [if_neg h]
      by_cases h2 : k % 2 = 0
      · rw [if_pos h2, Tr.get_n, Tr.get_n, hr]
        by_cases hj : j = k
        · subst hj; simp [h, h2]
        · rw [if_neg hj]
          by_cases h3 : j = 0
          · simp [h3]
          · by_cases h4 : j % 2 = 0
            · rw [if_neg h3, if_neg h3, if_pos h4, if_pos h4, if_neg (by omega)]
            · rw [if_neg h3, if_neg h3, if_neg h4, if_neg h4]
      · rw [if_neg h2, Tr.get_n, Tr.get_n, hl]
        by_cases hj : j = k
        · subst hj; simp [h, h2]
        · rw [if_neg hj]
          by_cases h3 : j = 0
          · simp [h3]
          · by_cases h4 : j % 2 = 0
            · rw [if_neg h3, if_neg h3, if_pos h4, if_pos h4]
            · rw [if_neg h3, if_neg h3, if_neg h4, if_neg h4, if_neg (by omega)]

theorem Tr.get_set_same (t : Tr α) (k : Nat) (v : α) : (t.set k v).get k = some v := by rw [Tr.get_set, if_pos rfl]
theorem Tr.get_set_ne (t : Tr α) {k j : Nat} (v : α) (h : j ≠ k) : (t.set k v).get j = t.get j := by rw [Tr.get_set, if_neg h]
end
end
end Go.VE
