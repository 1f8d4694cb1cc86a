/- Told calls and laws where some slices are written, or appended to in place. No Go program is imported. -/
import Derived.Test.YtgidgiidcnlpbaaGreatDoorVGlob
set_option linter.unusedSimpArgs false
set_option linter.unusedVariables false
namespace Go.VE
open Go.RowKit

/-- Of which elements slices are written; which appends make slices that are written. -/
structure Cfg where
  wr : List TypeId
  vec : List (TypeId × Nat)
def envC (P : Program) (val : Nat → Int) (rem and : Nat → Nat → Option Nat) (gl : Nat → Option AV) (c : Cfg) (l : List (Nat × List AV × AV)) : Env :=
  { P := P, tab := tabOf P, glob := gl, wr := fun t => c.wr.any (Nat.beq t), val := val, facts := smallFacts rem and, orc := orcL l, vec := fun t d => c.vec.any fun p => Nat.beq p.1 t && Nat.beq p.2 d }
theorem envC_orc {P : Program} {val : Nat → Int} {rem and : Nat → Nat → Option Nat} {gl : Nat → Option AV} {c : Cfg} {l : List (Nat × List AV × AV)} (hl : OrcsG P gl l) : OrcOk (envC P val rem and gl c l) := fun f args v h => by
  obtain ⟨a, p, q⟩ := orcL_mem h
  exact (hl _ p _ rfl rfl).of_leb q

theorem orcC_told {P : Program} (hn : (P.funcs.toList.all fun fn => !(fn.name == "runtime.NumGoroutine")) = true) (hm : P.follows .mixedOrders = true) {gl : Nat → Option AV} (hgl : ∀ i x, gl i = some x → plain x = true) {c : Cfg} {l : List (Nat × List AV × AV)} (hl : OrcsG P gl l) {fuel n : Nat} {f : FuncId} (hc : ∀ vs w, (callFunc f vs).run P w = .ok (.enter f vs) w) {args : List AV} {v : AV}
    (h : evCall (envC P (fun _ => 0) (fun _ _ => none) (fun _ _ => none) gl c l) fuel n f args emptySt keep = some v) (hp : plainL args = true) : ∀ E : Env, E.P = P → E.glob = gl → Orc1 E f args v := fun E hE hg =>
  orc_of_ev (E := E) (E' := envC P (fun _ => 0) (fun _ _ => none) (fun _ _ => none) gl c l) hE.symm (fun vs w => by rw [hE]; exact hc vs w) (.none rfl) (envC_orc hl) (tabOf_ok rfl hn) hm (small_ok (rem := fun _ _ => none) (and := fun _ _ => none) rfl (fun _ _ _ h => none_some h) (fun _ _ _ h => none_some h)) (fun j x q => ⟨by rw [hg]; exact q, hgl j x q⟩) h hp

/-- A law that is told true, where no package variable is looked at. -/
theorem lawC_told {P : Program} (hn : (P.funcs.toList.all fun fn => !(fn.name == "runtime.NumGoroutine")) = true) (hm : P.follows .mixedOrders = true) {c : Cfg} {l : List (Nat × List AV × AV)} (hl : OrcsG P (fun _ => none) l) {val : Nat → Int} {rem and : Nat → Nat → Option Nat}
    (hr : ∀ i n r, rem i n = some r → ∃ x : Nat, val i = (x : Int) ∧ x < 256 ∧ 0 < n ∧ x % n = r) (ha : ∀ i n r, and i n = some r → ∃ x : Nat, val i = (x : Int) ∧ x < 256 ∧ n < 256 ∧ x &&& n = r) {fuel n : Nat} {f : FuncId} {args : List AV}
    (h : evCall (envC P val rem and (fun _ => none) c l) fuel n f args emptySt toldTrue = some ()) {vs : List Value} (hv : ∀ g : Gh, g.val = val → Rl g args vs) (w : World) :
    Calls P f ⟨vs⟩ w fun e w' => e = .returned (.bool true) ∧ Below w.heap.size w w' :=
  ev_true (E := envC P val rem and (fun _ => none) c l) (.none rfl) (envC_orc hl) (tabOf_ok rfl hn) hm (small_ok rfl hr ha) (fun _ => rfl) h hv w

/-- A told call is right, in the program P. -/
def IsTold (P : Program) (gl : Nat → Option AV) (x : Nat × List AV × AV) : Prop := ∀ E : Env, E.P = P → E.glob = gl → Orc1 E x.1 x.2.1 x.2.2
theorem OrcsG.more {P : Program} {gl : Nat → Option AV} {x : Nat × List AV × AV} {l : List (Nat × List AV × AV)} (h : IsTold P gl x) (k : OrcsG P gl l) : OrcsG P gl (x :: l) := fun y hy => by
  rcases List.mem_cons.1 hy with q | q
  · subst q; exact h
  · exact k y q
/-- No package variable is told. -/
def noGlob : Nat → Option AV := fun _ => none
theorem told_of {P : Program} (hn : (P.funcs.toList.all fun fn => !(fn.name == "runtime.NumGoroutine")) = true) (hm : P.follows .mixedOrders = true) {c : Cfg} {l : List (Nat × List AV × AV)} (hl : OrcsG P noGlob l) {fuel n : Nat} (x : Nat × List AV × AV) (hc : ∀ vs w, (callFunc x.1 vs).run P w = .ok (.enter x.1 vs) w)
    (h : evCall (envC P (fun _ => 0) (fun _ _ => none) (fun _ _ => none) noGlob c l) fuel n x.1 x.2.1 emptySt keep = some x.2.2) (hp : plainL x.2.1 = true) : IsTold P noGlob x :=
  orcC_told hn hm (fun _ _ h => none_some h) hl hc h hp
theorem law_of {P : Program} (hn : (P.funcs.toList.all fun fn => !(fn.name == "runtime.NumGoroutine")) = true) (hm : P.follows .mixedOrders = true) {c : Cfg} {l : List (Nat × List AV × AV)} (hl : OrcsG P noGlob l) {val : Nat → Int} {rem and : Nat → Nat → Option Nat}
    (hr : ∀ i n r, rem i n = some r → ∃ x : Nat, val i = (x : Int) ∧ x < 256 ∧ 0 < n ∧ x % n = r) (ha : ∀ i n r, and i n = some r → ∃ x : Nat, val i = (x : Int) ∧ x < 256 ∧ n < 256 ∧ x &&& n = r) {fuel n : Nat} {f : FuncId} {args : List AV}
    (h : evCall (envC P val rem and noGlob c l) fuel n f args emptySt toldTrue = some ()) {vs : List Value} (hv : ∀ g : Gh, g.val = val → Rl g args vs) (w : World) :
    Calls P f ⟨vs⟩ w fun e w' => e = .returned (.bool true) ∧ Below w.heap.size w w' := lawC_told hn hm hl hr ha h hv w
end Go.VE
