/- Told calls that want a package variable's value: a number that nobody writes. No Go program is imported. -/
import Derived.Test.YtmgopjbcdoddoaaGreatDoorVUse
set_option linter.unusedSimpArgs false
set_option linter.unusedVariables false
namespace Go.VE
open Go.RowKit

/-- The package variable i holds the number m. -/
def globM (i : Nat) (m : Int) : Nat → Option AV := fun j => if Nat.beq j i then some (.eptr [.int .i64 m] 0) else none
def envG (P : Program) (val : Nat → Int) (rem and : Nat → Nat → Option Nat) (gl : Nat → Option AV) (l : List (Nat × List AV × AV)) : Env :=
  { P := P, tab := tabOf P, glob := gl, wr := fun _ => false, val := val, facts := smallFacts rem and, orc := orcL l }
def OrcsG (P : Program) (gl : Nat → Option AV) (l : List (Nat × List AV × AV)) : Prop := ∀ x ∈ l, ∀ E : Env, E.P = P → E.glob = gl → Orc1 E x.1 x.2.1 x.2.2
theorem OrcsG.nil {P : Program} {gl : Nat → Option AV} : OrcsG P gl [] := fun _ h => by cases h
theorem OrcsG.cons {P : Program} {gl : Nat → Option AV} {f : Nat} {a : List AV} {v : AV} {l : List (Nat × List AV × AV)} (h : ∀ E : Env, E.P = P → E.glob = gl → Orc1 E f a v) (k : OrcsG P gl l) : OrcsG P gl ((f, a, v) :: l) := fun x hx => by
  rcases List.mem_cons.1 hx with q | q
  · subst q; exact h
  · exact k x q
theorem OrcsG.append {P : Program} {gl : Nat → Option AV} {l r : List (Nat × List AV × AV)} (h : OrcsG P gl l) (k : OrcsG P gl r) : OrcsG P gl (l ++ r) := fun x hx => by
  rcases List.mem_append.1 hx with q | q
  · exact h x q
  · exact k x q
theorem envG_orc {P : Program} {val : Nat → Int} {rem and : Nat → Nat → Option Nat} {gl : Nat → Option AV} {l : List (Nat × List AV × AV)} (hl : OrcsG P gl l) : OrcOk (envG P val rem and gl l) := fun f args v h => by
  obtain ⟨a, p, q⟩ := orcL_mem h
  exact (hl _ p _ rfl rfl).of_leb q
theorem globM_some {i j : Nat} {m : Int} {x : AV} (h : globM i m j = some x) : j = i ∧ x = .eptr [.int .i64 m] 0 := by
  unfold globM at h
  split at h
  · rename_i hj
    cases h
    exact ⟨beq hj, rfl⟩
  · cases h
/-- What the variable's cell is told by. -/
theorem GlobOk.cell {E : Env} {i : Nat} {m : Int} (he : E.glob = globM i m) {g : Gh} (h : GlobOk E g) {base : Nat} {st : St} {w : World} (hw : Rw g base st w) : w.cell? ⟨i, 0, none⟩ = some (.int .i64 m) := by
  have h0 := h.at_ i (.eptr [.int .i64 m] 0) (by rw [he]; unfold globM; rw [show Nat.beq i i = true from Nat.beq_refl i]; rfl)
  simp only [Rv, Rc] at h0
  obtain ⟨b, p, e, ⟨v, hv, rfl⟩, _⟩ := h0
  have e1 : b = i ∧ p + 0 = 0 := by cases e; exact ⟨rfl, rfl⟩
  obtain ⟨rfl, e2⟩ := e1
  have : p = 0 := by omega
  subst this
  exact (hw.fz _ _ _ hv).1

theorem orcG_told {P : Program} (hn : (P.funcs.toList.all fun fn => !(fn.name == "runtime.NumGoroutine")) = true) (hm : P.follows .mixedOrders = true) {i : Nat} {m : Int} {l : List (Nat × List AV × AV)} (hl : OrcsG P (globM i m) l) {fuel n : Nat} {f : FuncId} (hc : ∀ vs w, (callFunc f vs).run P w = .ok (.enter f vs) w) {args : List AV} {v : AV}
    (h : evCall (envG P (fun _ => 0) (fun _ _ => none) (fun _ _ => none) (globM i m) l) fuel n f args emptySt keep = some v) (hp : plainL args = true) : ∀ E : Env, E.P = P → E.glob = globM i m → Orc1 E f args v := fun E hE hgl =>
  orc_of_ev (E := E) (E' := envG P (fun _ => 0) (fun _ _ => none) (fun _ _ => none) (globM i m) l) hE.symm (fun vs w => by rw [hE]; exact hc vs w) (.none rfl) (envG_orc hl) (tabOf_ok rfl hn) hm (small_ok (rem := fun _ _ => none) (and := fun _ _ => none) rfl (fun _ _ _ h => none_some h) (fun _ _ _ h => none_some h)) (fun j x q => by
    obtain ⟨_, rfl⟩ := globM_some q
    exact ⟨by rw [hgl]; exact q, rfl⟩) h hp

/-- A law that is told true, where the variable holds the number. -/
theorem lawG_told {P : Program} (hn : (P.funcs.toList.all fun fn => !(fn.name == "runtime.NumGoroutine")) = true) (hm : P.follows .mixedOrders = true) {i : Nat} {m : Int} {l : List (Nat × List AV × AV)} (hl : OrcsG P (globM i m) l) {val : Nat → Int} {rem and : Nat → Nat → Option Nat}
    (hr : ∀ i n r, rem i n = some r → ∃ x : Nat, val i = (x : Int) ∧ x < 256 ∧ 0 < n ∧ x % n = r) (ha : ∀ i n r, and i n = some r → ∃ x : Nat, val i = (x : Int) ∧ x < 256 ∧ n < 256 ∧ x &&& n = r) {fuel n : Nat} {f : FuncId} {args : List AV}
    (h : evCall (envG P val rem and (globM i m) l) fuel n f args emptySt toldTrue = some ()) {vs : List Value} (hv : ∀ g : Gh, g.val = val → Rl g args vs) (w : World) (hcell : w.cell? ⟨i, 0, none⟩ = some (.int .i64 m)) :
    Calls P f ⟨vs⟩ w fun e w' => e = .returned (.bool true) ∧ Below w.heap.size w w' := by
  let g0 : Gh := ⟨fun _ => none, fun b o => if b = i ∧ o = 0 then some (.int .i64 m) else none, fun _ => none, fun _ => False, val, fun _ => 0⟩
  have hfz : ∀ b o v, g0.fz b o = some v → w.cell? ⟨b, o, none⟩ = some v ∧ v.oneCell' = true := fun b o v q => by
    change (if b = i ∧ o = 0 then some (Value.int .i64 m) else none) = some v at q
    split at q
    · rename_i hh
      obtain ⟨rfl, rfl⟩ := hh
      cases q
      exact ⟨hcell, rfl⟩
    · cases q
  have hw : Rw g0 w.heap.size emptySt w :=
    ⟨hfz, fun _ _ h => (by cases h), fun _ _ _ h => (by cases h), fun _ _ _ h => (by cases h), fun _ _ _ _ h => (by cases h), fun _ _ _ _ _ _ _ h => (by cases h), fun _ h => False.elim h, fun _ h => False.elim h, Nat.le_refl _, fun _ _ h => (by cases h), fun _ _ => rfl⟩
  have hglob : GlobOk (envG P val rem and (globM i m) l) g0 := ⟨fun j x q => by
    obtain ⟨rfl, rfl⟩ := globM_some q
    simp only [Rv, Rc]
    exact ⟨j, 0, rfl, ⟨_, if_pos ⟨rfl, rfl⟩, rfl⟩, trivial⟩, rfl⟩
  have := (evCall_ok (E := envG P val rem and (globM i m) l) (.none rfl) (envG_orc hl) (small_ok rfl hr ha) hm (tabOf_ok rfl hn) fuel n f args emptySt toldTrue () h ⟨fun _ _ => rfl, fun _ _ => rfl⟩ g0 w.heap.size w vs hglob (hv _ rfl) hw (fun l _ => ⟨rfl, rfl⟩)).2
  refine this.mono fun e w' ⟨v', he, v, st', g', q1, q2, q3, q4, q5⟩ => ?_
  subst he
  unfold toldTrue at q5
  split at q5
  · simp only [Rv] at q1; subst q1
    exact ⟨rfl, q3.below⟩
  · cases q5

/-- A call whose contract is known: it returns this, and the world is as it was. -/
theorem orcG_of {P : Program} {i : Nat} {m : Int} {f : FuncId} (hc : ∀ vs w, (callFunc f vs).run P w = .ok (.enter f vs) w) {a b : List UInt8} {r : Bool}
    (h : ∀ w, w.cell? ⟨i, 0, none⟩ = some (.int .i64 m) → Calls P f #[.string ⟨⟨a⟩⟩, .string ⟨⟨b⟩⟩] w fun e w' => e = .returned (.bool r) ∧ w' = w) : ∀ E : Env, E.P = P → E.glob = globM i m → Orc1 E f [.str a, .str b] (.bool r) := fun E hE hgl => by
  refine ⟨fun vs w => by rw [hE]; exact hc vs w, fun g base st w vs hglob hw ha => ?_⟩
  simp only [Rl, Rv] at ha
  obtain ⟨v1, r1, rfl, rfl, v2, r2, rfl, rfl, rfl⟩ := ha
  rw [hE]
  refine (h w (hglob.cell hgl hw)).mono fun e w' ⟨he, hw'⟩ => ?_
  subst hw'
  exact ⟨_, g.fz, he, by simp only [Rv], hw, fun _ _ _ q => q, fun _ _ _ q => .inl q, .refl _ _⟩
end Go.VE
