/- What an evaluation that tells 'true' is worth: the call returns true in any world, and touches no memory that was there. No Go program is imported. -/
import Derived.Test.YtmgopjbcdoddoaaGreatDoorVOrc
import Derived.IntWalk
set_option linter.unusedSimpArgs false
set_option linter.unusedVariables false
namespace Go.VE
open Go.RowKit

/-- Does an evaluation tell true. -/
def toldTrue : AV → St → Option Unit
  | .bool true, _ => some ()
  | _, _ => none
/-- Nothing has a name yet. -/
def ghost (val : Nat → Int) : Gh := ⟨fun _ => none, fun _ _ => none, fun _ => none, fun _ => False, val, fun _ => 0⟩

theorem emptySt_rw (val : Nat → Int) (w : World) : Rw (ghost val) w.heap.size emptySt w :=
  ⟨fun _ _ _ h => (by cases h), fun _ _ h => (by cases h), fun _ _ _ h => (by cases h), fun _ _ _ h => (by cases h), fun _ _ _ _ h => (by cases h), fun _ _ _ _ _ _ _ h => (by cases h), fun _ h => False.elim h, fun _ h => False.elim h, Nat.le_refl _, fun _ _ h => (by cases h), fun _ _ => rfl⟩

theorem EffOk.none {E : Env} (h : E.eff = fun _ _ _ => none) : EffOk E := fun f args st v st' q => by rw [h] at q; cases q
theorem ev_true {E : Env} (heff : EffOk E) (horc : OrcOk E) (ht : TabOk E) (hm : E.P.follows .mixedOrders = true) (hfacts : FactsOk E) (hg : ∀ i, E.glob i = none) {fuel n : Nat} {f : FuncId} {args : List AV} (h : evCall E fuel n f args emptySt toldTrue = some ()) {vs : List Value} (ha : ∀ g : Gh, g.val = E.val → Rl g args vs) (w : World) :
    Calls E.P f ⟨vs⟩ w fun e w' => e = .returned (.bool true) ∧ Below w.heap.size w w' := by
  have := (evCall_ok heff horc hfacts hm ht fuel n f args emptySt toldTrue () h ⟨fun _ _ => rfl, fun _ _ => rfl⟩ (ghost E.val) w.heap.size w vs ⟨fun i x q => (by rw [hg i] at q; cases q), rfl⟩ (ha _ rfl) (emptySt_rw E.val w) (fun l _ => ⟨rfl, rfl⟩)).2
  refine this.mono fun e w' ⟨v', he, v, st', g', q1, q2, q3, q4, q5⟩ => ?_
  subst he
  unfold toldTrue at q5
  split at q5
  · simp only [Rv] at q1; subst q1
    exact ⟨rfl, q3.below⟩
  · cases q5

theorem none_some {α : Type} {x : α} {P : Prop} (h : (none : Option α) = some x) : P := by cases h

/-- The table of a program's functions. -/
def tabOf (P : Program) (f : FuncId) : Option (Nat × List ResultVar × Code) :=
  match P.funcs[f]? with
  | some fn => match fn.body with
    | some c => some (fn.ntmps, fn.results.toList, c)
    | none => none
  | none => none
theorem tabOf_ok {E : Env} (ht : E.tab = tabOf E.P) (hn : (E.P.funcs.toList.all fun fn => !(fn.name == "runtime.NumGoroutine")) = true) : TabOk E := by
  intro f nt res c h
  rw [ht] at h
  unfold tabOf at h
  cases hf : E.P.funcs[f]? with
  | none => rw [hf] at h; cases h
  | some fn =>
    rw [hf] at h
    simp only [] at h
    cases hb : fn.body with
    | none => rw [hb] at h; cases h
    | some c' =>
      rw [hb] at h; cases h
      refine ⟨fn, rfl, rfl, rfl, hb, fun args w => ?_⟩
      have hname : (fn.name == "runtime.NumGoroutine") = false := by
        have := List.all_eq_true.1 hn fn (Array.mem_toList_iff.2 (Array.mem_of_getElem? hf))
        simpa using this
      unfold callFunc
      simp only [Sem.run_bind, program, Sem.run, hf, hname, hb, Bool.false_eq_true, if_false, Option.isNone_some, Result.andThen_ok]
      rfl

/-- What is toldTrue of small numbers whose remainders and bits are known. -/
def smallFacts (rem and : Nat → Nat → Option Nat) : BinOp → TypeId → AV → AV → Option AV
  | .rem, _, .sym .u8 i, .int .u8 (.ofNat n) => match rem i n with
    | some r => some (.int .u8 (r : Int))
    | none => none
  | .and, _, .sym .u8 i, .int .u8 (.ofNat n) => match and i n with
    | some r => some (.int .u8 (r : Int))
    | none => none
  | _, _, _, _ => none

theorem small_ok {E : Env} {rem and : Nat → Nat → Option Nat} (he : E.facts = smallFacts rem and) (hr : ∀ i n r, rem i n = some r → ∃ x : Nat, E.val i = (x : Int) ∧ x < 256 ∧ 0 < n ∧ x % n = r) (ha : ∀ i n r, and i n = some r → ∃ x : Nat, E.val i = (x : Int) ∧ x < 256 ∧ n < 256 ∧ x &&& n = r) : FactsOk E := by
  intro op t x y v h g hv a b ra rb w
  rw [he] at h
  unfold smallFacts at h
  split at h
  · rename_i i n
    split at h
    · rename_i r hn
      cases h
      obtain ⟨z, e, hz, h0, e2⟩ := hr i n r hn
      simp only [Rv] at ra rb
      rw [hv, e] at ra
      subst ra; subst rb
      refine ⟨fun _ _ => guard_int .., .int .u8 (r : Int), ?_, by simp only [Rv]⟩
      have hne : ¬ ((n : Int) = 0) := by omega
      have hlt : z % n < 256 := Nat.lt_of_le_of_lt (Nat.mod_le z n) hz
      have hm : ((z : Int).tmod (n : Int)) = ((z % n : Nat) : Int) := rfl
      show (Op.intDiv .rem .u8 (z : Int) (n : Int)).run E.P w = _
      simp only [Op.intDiv, hne, if_false, hm, e2, Sem.run_pure, Sem.run_ite, ↓reduceIte]
    · cases h
  · rename_i i n
    split at h
    · rename_i r hn
      cases h
      obtain ⟨z, e, hz, h0, e2⟩ := ha i n r hn
      simp only [Rv] at ra rb
      rw [hv, e] at ra
      subst ra; subst rb
      refine ⟨fun _ _ => guard_int .., .int .u8 (r : Int), ?_, by simp only [Rv]⟩
      show (Op.intBits .and .u8 (z : Int) (n : Int)).run E.P w = _
      have hb : (BitVec.ofInt IntKind.u8.bits (z : Int) &&& BitVec.ofInt IntKind.u8.bits (n : Int)).toNat = r := by
        rw [BitVec.toNat_and, BitVec.toNat_ofInt, BitVec.toNat_ofInt]
        show ((z : Int) % ((256 : Nat) : Int)).toNat &&& ((n : Int) % ((256 : Nat) : Int)).toNat = r
        rw [show ((z : Int) % ((256 : Nat) : Int)).toNat = z by omega, show ((n : Int) % ((256 : Nat) : Int)).toNat = n by omega, e2]
      have hlt : r < 256 := by rw [← e2]; exact Nat.lt_of_le_of_lt Nat.and_le_left hz
      simp only [Op.intBits, hb, Sem.run_pure]
      rw [IntKind.wrap_u8]
      congr 3
      omega
    · cases h
  · cases h

/-- A list of told calls. -/
def orcL : List (Nat × List AV × AV) → FuncId → List AV → Option AV
  | [], _, _ => none
  | (g, a, v) :: r, f, args => if Nat.beq g f && lebL a args then some v else orcL r f args
def envOf (P : Program) (val : Nat → Int) (rem and : Nat → Nat → Option Nat) (l : List (Nat × List AV × AV)) : Env :=
  { P := P, tab := tabOf P, glob := fun _ => none, wr := fun _ => false, val := val, facts := smallFacts rem and, orc := orcL l }
/-- Each told call is right, in the program P. -/
def OrcsOk (P : Program) (l : List (Nat × List AV × AV)) : Prop := ∀ x ∈ l, ∀ E : Env, E.P = P → Orc1 E x.1 x.2.1 x.2.2
theorem orcL_mem : ∀ {l : List (Nat × List AV × AV)} {f : FuncId} {args : List AV} {v : AV}, orcL l f args = some v → ∃ a, (f, a, v) ∈ l ∧ lebL a args = true
  | [], f, args, v, h => by cases h
  | (g, a, u) :: r, f, args, v, h => by
    simp only [orcL] at h
    split at h
    · rename_i hc
      simp only [Bool.and_eq_true] at hc
      cases h
      rw [← beq hc.1]
      exact ⟨a, List.mem_cons_self .., hc.2⟩
    · obtain ⟨b, p, q⟩ := orcL_mem h
      exact ⟨b, List.mem_cons_of_mem _ p, q⟩
theorem Orc1.of_leb {E : Env} {f : FuncId} {a args : List AV} {v : AV} (h : Orc1 E f a v) (k : lebL a args = true) : Orc1 E f args v :=
  ⟨h.1, fun g base st w vs hg hw ha => h.2 g base st w vs hg hw (leb_rl a args vs k ha)⟩
theorem envOf_orc {P : Program} {val : Nat → Int} {rem and : Nat → Nat → Option Nat} {l : List (Nat × List AV × AV)} (hl : OrcsOk P l) : OrcOk (envOf P val rem and l) := fun f args v h => by
  obtain ⟨a, p, q⟩ := orcL_mem h
  exact (hl _ p _ rfl).of_leb q

/-- A call that is told, out of an evaluation. -/
theorem orc_told {P : Program} (hn : (P.funcs.toList.all fun fn => !(fn.name == "runtime.NumGoroutine")) = true) (hm : P.follows .mixedOrders = true) {l : List (Nat × List AV × AV)} (hl : OrcsOk P l) {fuel n : Nat} {f : FuncId} (hc : ∀ vs w, (callFunc f vs).run P w = .ok (.enter f vs) w) {args : List AV} {v : AV}
    (h : evCall (envOf P (fun _ => 0) (fun _ _ => none) (fun _ _ => none) l) fuel n f args emptySt keep = some v) (hp : plainL args = true) : ∀ E : Env, E.P = P → Orc1 E f args v := fun E hE =>
  orc_of_ev (E := E) (E' := envOf P (fun _ => 0) (fun _ _ => none) (fun _ _ => none) l) hE.symm (fun vs w => by rw [hE]; exact hc vs w) (.none rfl) (envOf_orc hl) (tabOf_ok rfl hn) hm (small_ok (rem := fun _ _ => none) (and := fun _ _ => none) rfl (fun _ _ _ h => none_some h) (fun _ _ _ h => none_some h)) (fun _ _ h => none_some h) h hp

/-- A law that is told true, out of an evaluation. -/
theorem law_told {P : Program} (hn : (P.funcs.toList.all fun fn => !(fn.name == "runtime.NumGoroutine")) = true) (hm : P.follows .mixedOrders = true) {l : List (Nat × List AV × AV)} (hl : OrcsOk P l) {val : Nat → Int} {rem and : Nat → Nat → Option Nat}
    (hr : ∀ i n r, rem i n = some r → ∃ x : Nat, val i = (x : Int) ∧ x < 256 ∧ 0 < n ∧ x % n = r) (ha : ∀ i n r, and i n = some r → ∃ x : Nat, val i = (x : Int) ∧ x < 256 ∧ n < 256 ∧ x &&& n = r) {fuel n : Nat} {f : FuncId} {args : List AV}
    (h : evCall (envOf P val rem and l) fuel n f args emptySt toldTrue = some ()) {vs : List Value} (hv : ∀ g : Gh, g.val = val → Rl g args vs) (w : World) :
    Calls P f ⟨vs⟩ w fun e w' => e = .returned (.bool true) ∧ Below w.heap.size w w' :=
  ev_true (E := envOf P val rem and l) (.none rfl) (envOf_orc hl) (tabOf_ok rfl hn) hm (small_ok rfl hr ha) (fun _ => rfl) h hv w

theorem OrcsOk.nil {P : Program} : OrcsOk P [] := fun _ h => by cases h
theorem OrcsOk.cons {P : Program} {f : Nat} {a : List AV} {v : AV} {l : List (Nat × List AV × AV)} (h : ∀ E : Env, E.P = P → Orc1 E f a v) (k : OrcsOk P l) : OrcsOk P ((f, a, v) :: l) := fun x hx => by
  rcases List.mem_cons.1 hx with q | q
  · subst q; exact h
  · exact k x q
/-- Of numbers each one's remainder by its divisor. -/
def remsOf (l : List (Nat × Nat)) : Nat → Nat → Option Nat := fun i n => match l[i]? with
  | some (m, r) => if Nat.beq n m then some r else none
  | none => none
/-- The numbers themselves. -/
def valsOf (l : List Nat) : Nat → Int := fun i => ((l.getD i 0 : Nat) : Int)
theorem remsOf_ok {l : List (Nat × Nat)} {xs : List Nat} (h : ∀ (i m r : Nat), l[i]? = some (m, r) → ∃ x, xs[i]? = some x ∧ x < 256 ∧ 0 < m ∧ x % m = r) : ∀ i n r, remsOf l i n = some r → ∃ x : Nat, valsOf xs i = (x : Int) ∧ x < 256 ∧ 0 < n ∧ x % n = r := fun i n r hr => by
  unfold remsOf at hr
  split at hr
  · rename_i m r' hl
    split at hr
    · rename_i hn
      cases hr
      have hn := beq hn
      subst hn
      obtain ⟨x, p1, p2, p3, p4⟩ := h i _ _ hl
      refine ⟨x, ?_, p2, p3, p4⟩
      unfold valsOf
      rw [List.getD_eq_getElem?_getD, p1]; rfl
    · cases hr
  · cases hr
end Go.VE
