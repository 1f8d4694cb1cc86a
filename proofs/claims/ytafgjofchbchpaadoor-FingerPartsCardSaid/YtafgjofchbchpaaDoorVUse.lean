/- What an evaluation that tells 'true' is worth: the call returns true in any world, and touches no memory that was there. No Go program is imported. -/
import Derived.Test.YtafgjofchbchpaaDoorVCode
import Derived.IntWalk
set_option linter.unusedSimpArgs false
set_option linter.unusedVariables false
namespace Go.VE
open Go.RowKit

/-- Does an evaluation tell true. -/
def toldTrue : AV → St → Option Unit
  | .bool true, _ => some ()
  | _, _ => none
def emptySt : St := ⟨.e, 0, .e⟩
/-- Nothing has a name yet. -/
def ghost (val : Nat → Int) : Gh := ⟨fun _ => none, fun _ _ => none, fun _ => none, fun _ => False, val⟩

theorem emptySt_rw (val : Nat → Int) (w : World) : Rw (ghost val) w.heap.size emptySt w :=
  ⟨fun _ _ _ h => (by cases h), fun _ _ h => (by cases h), fun _ _ _ h => (by cases h), fun _ _ _ h => (by cases h), fun _ _ _ _ h => (by cases h), fun _ _ _ _ _ _ _ h => (by cases h), fun _ h => False.elim h, fun _ h => False.elim h, Nat.le_refl _⟩

theorem ev_true {E : Env} (horc : OrcOk E) (ht : TabOk E) (hm : E.P.follows .mixedOrders = true) (hfacts : FactsOk E) (hg : ∀ i, E.glob i = none) {fuel n : Nat} {f : FuncId} {args : List AV} (h : evCall E fuel n f args emptySt toldTrue = some ()) {vs : List Value} (ha : ∀ g : Gh, g.val = E.val → Rl g args vs) (w : World) :
    Calls E.P f ⟨vs⟩ w fun e w' => e = .returned (.bool true) ∧ Below w.heap.size w w' := by
  have := (evCall_ok horc hfacts hm ht fuel n f args emptySt toldTrue () h ⟨fun _ _ => rfl, fun _ _ => rfl⟩ (ghost E.val) w.heap.size w vs ⟨fun i x q => (by rw [hg i] at q; cases q), rfl⟩ (ha _ rfl) (emptySt_rw E.val w) (fun l _ => ⟨rfl, rfl⟩)).2
  refine this.mono fun e w' ⟨v', he, v, st', g', q1, q2, q3, q4, q5⟩ => ?_
  subst he
  unfold toldTrue at q5
  split at q5
  · simp only [Rv] at q1; subst q1
    exact ⟨rfl, q3.below⟩
  · cases q5

theorem none_some {α : Type} {x : α} {P : Prop} (h : (none : Option α) = some x) : P := by cases h

/-- The table of a program's functions. -/
def tabOf (P : Program) (f : FuncId) : Option (Nat × List ResultVar × Code) :=
  match P.funcs[f]? with
  | some fn => match fn.body with
    | some c => some (fn.ntmps, fn.results.toList, c)
    | none => none
  | none => none
theorem tabOf_ok {E : Env} (ht : E.tab = tabOf E.P) (hn : (E.P.funcs.toList.all fun fn => !(fn.name == "runtime.NumGoroutine")) = true) : TabOk E := by
  intro f nt res c h
  rw [ht] at h
  unfold tabOf at h
  cases hf : E.P.funcs[f]? with
  | none => rw [hf] at h; cases h
  | some fn =>
    rw [hf] at h
    simp only [] at h
    cases hb : fn.body with
    | none => rw [hb] at h; cases h
    | some c' =>
      rw [hb] at h; cases h
      refine ⟨fn, rfl, rfl, rfl, hb, fun args w => ?_⟩
      have hname : (fn.name == "runtime.NumGoroutine") = false := by
        have := List.all_eq_true.1 hn fn (Array.mem_toList_iff.2 (Array.mem_of_getElem? hf))
        simpa using this
      unfold callFunc
      simp only [Sem.run_bind, program, Sem.run, hf, hname, hb, Bool.false_eq_true, if_false, Option.isNone_some, Result.andThen_ok]
      rfl

/-- What is toldTrue of small numbers whose remainders and bits are known. -/
def smallFacts (rem and : Nat → Nat → Option Nat) : BinOp → TypeId → AV → AV → Option AV
  | .rem, _, .sym .u8 i, .int .u8 (.ofNat n) => match rem i n with
    | some r => some (.int .u8 (r : Int))
    | none => none
  | .and, _, .sym .u8 i, .int .u8 (.ofNat n) => match and i n with
    | some r => some (.int .u8 (r : Int))
    | none => none
  | _, _, _, _ => none

theorem small_ok {E : Env} {rem and : Nat → Nat → Option Nat} (he : E.facts = smallFacts rem and) (hr : ∀ i n r, rem i n = some r → ∃ x : Nat, E.val i = (x : Int) ∧ x < 256 ∧ 0 < n ∧ x % n = r) (ha : ∀ i n r, and i n = some r → ∃ x : Nat, E.val i = (x : Int) ∧ x < 256 ∧ n < 256 ∧ x &&& n = r) : FactsOk E := by
  intro op t x y v h g hv a b ra rb w
  rw [he] at h
  unfold smallFacts at h
  split at h
  · rename_i i n
    split at h
    · rename_i r hn
      cases h
      obtain ⟨z, e, hz, h0, e2⟩ := hr i n r hn
      simp only [Rv] at ra rb
      rw [hv, e] at ra
      subst ra; subst rb
      refine ⟨fun _ _ => guard_int .., .int .u8 (r : Int), ?_, by simp only [Rv]⟩
      have hne : ¬ ((n : Int) = 0) := by omega
      have hlt : z % n < 256 := Nat.lt_of_le_of_lt (Nat.mod_le z n) hz
      have hm : ((z : Int).tmod (n : Int)) = ((z % n : Nat) : Int) := rfl
      show (Op.intDiv .rem .u8 (z : Int) (n : Int)).run E.P w = _
      simp only [Op.intDiv, hne, if_false, hm, e2, Sem.run_pure, Sem.run_ite, ↓reduceIte]
    · cases h
  · rename_i i n
    split at h
    · rename_i r hn
      cases h
      obtain ⟨z, e, hz, h0, e2⟩ := ha i n r hn
      simp only [Rv] at ra rb
      rw [hv, e] at ra
      subst ra; subst rb
      refine ⟨fun _ _ => guard_int .., .int .u8 (r : Int), ?_, by simp only [Rv]⟩
      show (Op.intBits .and .u8 (z : Int) (n : Int)).run E.P w = _
      have hb : (BitVec.ofInt IntKind.u8.bits (z : Int) &&& BitVec.ofInt IntKind.u8.bits (n : Int)).toNat = r := by
        rw [BitVec.toNat_and, BitVec.toNat_ofInt, BitVec.toNat_ofInt]
        show ((z : Int) % ((256 : Nat) : Int)).toNat &&& ((n : Int) % ((256 : Nat) : Int)).toNat = r
        rw [show ((z : Int) % ((256 : Nat) : Int)).toNat = z by omega, show ((n : Int) % ((256 : Nat) : Int)).toNat = n by omega, e2]
      have hlt : r < 256 := by rw [← e2]; exact Nat.lt_of_le_of_lt Nat.and_le_left hz
      simp only [Op.intBits, hb, Sem.run_pure]
      rw [IntKind.wrap_u8]
      congr 3
      omega
    · cases h
  · cases h
end Go.VE
