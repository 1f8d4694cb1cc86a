/- Words between spaces: a text holds ' s ' exactly when s is one of its words. Identifiers. No Go program is imported. -/
import Derived.Lib.IndexMore
set_option linter.unusedSimpArgs false
set_option linter.unusedVariables false
namespace Go.Ident
open Go.Lib

theorem contains_nil (sub : List UInt8) : Lib.contains [] sub = sub.isEmpty := by
  unfold Lib.contains Lib.index
  cases sub <;> simp
theorem contains_cons (b : UInt8) (l sub : List UInt8) : Lib.contains (b :: l) sub = (sub.isPrefixOf (b :: l) || Lib.contains l sub) := by
  unfold Lib.contains
  conv => lhs; unfold Lib.index
  have hge := index_ge l sub
  by_cases h : sub.isPrefixOf (b :: l) = true
  · simp [h]
  · have h' : sub.isPrefixOf (b :: l) = false := Bool.eq_false_iff.2 h
    rw [h']
    simp only [Bool.false_eq_true, if_false, Bool.false_or]
    by_cases h2 : Lib.index l sub = -1
    · rw [h2]; decide
    · have : (Lib.index l sub == -1) = false := by rw [beq_eq_false_iff_ne]; exact h2
      rw [this]
      simp only [Bool.false_eq_true, if_false]
      have h3 : 0 ≤ Lib.index l sub := by omega
      have h4 : 0 ≤ Lib.index l sub + 1 := by omega
      simp [h3, h4]

/-- Words, each with a space behind it. -/
def joinW : List (List UInt8) → List UInt8
  | [] => []
  | w :: ws => w ++ 32 :: joinW ws
def Plain (s : List UInt8) : Prop := ∀ c ∈ s, c ≠ 32

theorem prefix_word : ∀ (s w r : List UInt8), Plain s → Plain w → (s ++ [32]).isPrefixOf (w ++ 32 :: r) = (s == w)
  | [], [], r, _, _ => by simp [List.isPrefixOf]
  | [], b :: w, r, _, hw => by
    have hb : b ≠ 32 := hw b (by simp)
    have : ((32 : UInt8) == b) = false := by rw [beq_eq_false_iff_ne]; exact Ne.symm hb
    simp only [List.nil_append, List.cons_append, List.isPrefixOf, this, Bool.false_and]
    rfl
  | a :: s, [], r, hs, _ => by
    have ha : a ≠ 32 := hs a (by simp)
    have : (a == (32 : UInt8)) = false := by rw [beq_eq_false_iff_ne]; exact ha
    simp only [List.nil_append, List.cons_append, List.isPrefixOf, this, Bool.false_and]
    rfl
  | a :: s, b :: w, r, hs, hw => by
    have ih := prefix_word s w r (fun c hc => hs c (by simp [hc])) (fun c hc => hw c (by simp [hc]))
    simp only [List.cons_append, List.isPrefixOf, ih]
    rfl
theorem skip_word (s : List UInt8) : ∀ (w r : List UInt8), Plain w → Lib.contains (w ++ r) (32 :: s) = Lib.contains r (32 :: s)
  | [], r, _ => rfl
  | b :: w, r, hw => by
    have hb : b ≠ 32 := hw b (by simp)
    have : ((32 : UInt8) == b) = false := by rw [beq_eq_false_iff_ne]; exact Ne.symm hb
    rw [List.cons_append, contains_cons, skip_word s w r (fun c hc => hw c (by simp [hc]))]
    simp only [List.isPrefixOf, this, Bool.false_and, Bool.false_or]
theorem contains_word (s : List UInt8) (hs : Plain s) : ∀ (ws : List (List UInt8)), (∀ w ∈ ws, Plain w) → Lib.contains (32 :: joinW ws) (32 :: (s ++ [32])) = ws.contains s
  | [], _ => by
    rw [joinW, contains_cons, contains_nil]
    cases s <;> simp [List.isPrefixOf]
  | w :: ws, h => by
    have hw := h w (by simp)
    rw [joinW, contains_cons, skip_word _ w _ hw, contains_word s hs ws (fun x hx => h x (by simp [hx]))]
    simp only [List.isPrefixOf, beq_self_eq_true, Bool.true_and, prefix_word s w _ hs hw, List.contains_cons]

def letterB (c : UInt8) : Bool := (65 ≤ c.toNat && c.toNat ≤ 90) || (97 ≤ c.toNat && c.toNat ≤ 122)
def digitB (c : UInt8) : Bool := 48 ≤ c.toNat && c.toNat ≤ 57
theorem plain_of {s : List UInt8} (h : (s.all fun c => digitB c || letterB c) = true) : Plain s := fun c hc e => by
  have := List.all_eq_true.1 h c hc
  subst e
  revert this
  decide
/-- As the program has it: the words kw, st of keywords and of standard names. -/
def identP (max : Nat) (kw st : List UInt8) (s : List UInt8) : Bool :=
  match s with
  | [] => false
  | c :: r => !(decide (max < (c :: r).length)) && (!digitB c && (((c :: r).all fun c => digitB c || letterB c) && (!Lib.contains kw (32 :: ((c :: r) ++ [32])) && !Lib.contains st (32 :: ((c :: r) ++ [32])))))
/-- As the document has it. -/
def identD (max : Nat) (kws sts : List (List UInt8)) (s : List UInt8) : Bool :=
  match s with
  | [] => false
  | c :: r => !(decide (max < (c :: r).length)) && (!kws.contains (c :: r) && (!sts.contains (c :: r) && (letterB c && r.all fun c => letterB c || digitB c)))
theorem digit_letter (c : UInt8) : ¬ (digitB c = true ∧ letterB c = true) := by
  unfold digitB letterB
  simp only [Bool.and_eq_true, Bool.or_eq_true, decide_eq_true_eq]
  omega
theorem ident_same {max : Nat} {kws sts : List (List UInt8)} (hk : ∀ w ∈ kws, Plain w) (ht : ∀ w ∈ sts, Plain w) (s : List UInt8) : identP max (32 :: joinW kws) (32 :: joinW sts) s = identD max kws sts s := by
  cases s with
  | nil => rfl
  | cons c r =>
    simp only [identP, identD]
    by_cases ha : ((c :: r).all fun c => digitB c || letterB c) = true
    · have hp := plain_of ha
      rw [contains_word _ hp kws hk, contains_word _ hp sts ht, ha]
      simp only [List.all_cons, Bool.and_eq_true, Bool.or_eq_true] at ha
      have h2 : (r.all fun c => letterB c || digitB c) = true := by
        rw [List.all_eq_true]
        intro x hx
        have := List.all_eq_true.1 ha.2 x hx
        rw [Bool.or_comm]; exact this
      rw [h2]
      have h3 := digit_letter c
      cases hd : digitB c <;> cases hl : letterB c <;> simp_all
      all_goals first | rfl | (cases List.contains kws (c :: r) <;> cases List.contains sts (c :: r) <;> simp)
    · have ha' : ((c :: r).all fun c => digitB c || letterB c) = false := by simpa using ha
      rw [ha']
      have : (letterB c && r.all fun c => letterB c || digitB c) = false := by
        cases hl : letterB c with
        | false => rfl
        | true =>
          simp only [Bool.true_and]
          simp only [List.all_cons, hl, Bool.or_true, Bool.true_and] at ha'
          rw [← ha']
          congr 1
          funext x
          exact Bool.or_comm _ _
      rw [this]
      simp
end Go.Ident
