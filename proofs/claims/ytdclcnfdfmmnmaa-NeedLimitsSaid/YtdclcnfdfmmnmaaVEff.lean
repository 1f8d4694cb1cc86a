/- Told calls that write: of each is told what memory it begins with, and what it comes to. No Go program is imported. -/
import Derived.Test.YtdclcnfdfmmnmaaVBel
set_option linter.unusedSimpArgs false
set_option linter.unusedVariables false
namespace Go.VE
open Go.RowKit

def eqbE : List (AV × AV) → List (AV × AV) → Bool
  | [], [] => true
  | (a, b) :: r, (c, d) :: s => a.eqb c && (b.eqb d && eqbE r s)
  | _, _ => false
def eqbT : Tr AV → Tr AV → Bool
  | .e, .e => true
  | .n a none b, .n c none d => eqbT a c && eqbT b d
  | .n a (some x) b, .n c (some y) d => x.eqb y && (eqbT a c && eqbT b d)
  | _, _ => false
def AB.eqb : AB → AB → Bool
  | .cells n t v, .cells m u w => Nat.beq n m && (Nat.beq v w && eqbT t u)
  | .map e v, .map f w => Nat.beq v w && eqbE e f
  | .gone v, .gone w => Nat.beq v w
  | _, _ => false
def eqbH : Tr AB → Tr AB → Bool
  | .e, .e => true
  | .n a none b, .n c none d => eqbH a c && eqbH b d
  | .n a (some x) b, .n c (some y) d => x.eqb y && (eqbH a c && eqbH b d)
  | _, _ => false
def eqbU : Tr Unit → Tr Unit → Bool
  | .e, .e => true
  | .n a none b, .n c none d => eqbU a c && eqbU b d
  | .n a (some _) b, .n c (some _) d => eqbU a c && eqbU b d
  | _, _ => false
def St.eqb (a b : St) : Bool := Nat.beq a.next b.next && (eqbH a.heap b.heap && eqbU a.spent b.spent)

theorem eqbE_eq : ∀ (a b : List (AV × AV)), eqbE a b = true → a = b
  | [], [], _ => rfl
  | [], _ :: _, h => by simp [eqbE] at h
  | _ :: _, [], h => by simp [eqbE] at h
  | (a, b) :: r, (c, d) :: s, h => by
    simp only [eqbE, Bool.and_eq_true] at h
    rw [AV.eqb_eq _ _ h.1, AV.eqb_eq _ _ h.2.1, eqbE_eq _ _ h.2.2]
theorem eqbT_eq : ∀ (a b : Tr AV), eqbT a b = true → a = b
  | .e, .e, _ => rfl
  | .e, .n _ _ _, h => by simp [eqbT] at h
  | .n _ v _, .e, h => by cases v <;> simp [eqbT] at h
  | .n a none b, .n c none d, h => by
    simp only [eqbT, Bool.and_eq_true] at h
    rw [eqbT_eq _ _ h.1, eqbT_eq _ _ h.2]
  | .n a (some x) b, .n c (some y) d, h => by
    simp only [eqbT, Bool.and_eq_true] at h
    rw [AV.eqb_eq _ _ h.1, eqbT_eq _ _ h.2.1, eqbT_eq _ _ h.2.2]
  | .n a none b, .n c (some y) d, h => by simp [eqbT] at h
  | .n a (some x) b, .n c none d, h => by simp [eqbT] at h
theorem AB.eqb_eq : ∀ (a b : AB), a.eqb b = true → a = b
  | .cells n t v, .cells m u w, h => by
    simp only [AB.eqb, Bool.and_eq_true] at h
    rw [beq h.1, beq h.2.1, eqbT_eq _ _ h.2.2]
  | .map e v, .map f w, h => by
    simp only [AB.eqb, Bool.and_eq_true] at h
    rw [beq h.1, eqbE_eq _ _ h.2]
  | .gone v, .gone w, h => by rw [beq (show Nat.beq v w = true from h)]
  | .cells _ _ _, .map _ _, h => by cases h
  | .cells _ _ _, .gone _, h => by cases h
  | .map _ _, .cells _ _ _, h => by cases h
  | .map _ _, .gone _, h => by cases h
  | .gone _, .cells _ _ _, h => by cases h
  | .gone _, .map _ _, h => by cases h
theorem eqbH_eq : ∀ (a b : Tr AB), eqbH a b = true → a = b
  | .e, .e, _ => rfl
  | .e, .n _ _ _, h => by simp [eqbH] at h
  | .n _ v _, .e, h => by cases v <;> simp [eqbH] at h
  | .n a none b, .n c none d, h => by
    simp only [eqbH, Bool.and_eq_true] at h
    rw [eqbH_eq _ _ h.1, eqbH_eq _ _ h.2]
  | .n a (some x) b, .n c (some y) d, h => by
    simp only [eqbH, Bool.and_eq_true] at h
    rw [AB.eqb_eq _ _ h.1, eqbH_eq _ _ h.2.1, eqbH_eq _ _ h.2.2]
  | .n a none b, .n c (some y) d, h => by simp [eqbH] at h
  | .n a (some x) b, .n c none d, h => by simp [eqbH] at h
theorem eqbU_eq : ∀ (a b : Tr Unit), eqbU a b = true → a = b
  | .e, .e, _ => rfl
  | .e, .n _ _ _, h => by simp [eqbU] at h
  | .n _ v _, .e, h => by cases v <;> simp [eqbU] at h
  | .n a none b, .n c none d, h => by
    simp only [eqbU, Bool.and_eq_true] at h
    rw [eqbU_eq _ _ h.1, eqbU_eq _ _ h.2]
  | .n a (some x) b, .n c (some y) d, h => by
    simp only [eqbU, Bool.and_eq_true] at h
    rw [eqbU_eq _ _ h.1, eqbU_eq _ _ h.2]
  | .n a none b, .n c (some y) d, h => by simp [eqbU] at h
  | .n a (some x) b, .n c none d, h => by simp [eqbU] at h
theorem St.eqb_eq {a b : St} (h : a.eqb b = true) : a = b := by
  cases a; cases b
  simp only [St.eqb, Bool.and_eq_true] at h
  rw [beq h.1, eqbH_eq _ _ h.2.1, eqbU_eq _ _ h.2.2]

/-- A told call that writes. -/
structure Eff where
  f : Nat
  args : List AV
  st : St
  v : AV
  st' : St
def effL : List Eff → FuncId → List AV → St → Option (AV × St)
  | [], _, _, _ => none
  | x :: r, f, args, st => if Nat.beq x.f f && (eqbL x.args args && x.st.eqb st) then some (x.v, x.st') else effL r f args st
theorem effL_mem : ∀ {l : List Eff} {f : FuncId} {args : List AV} {st : St} {v : AV} {st' : St}, effL l f args st = some (v, st') → ∃ x ∈ l, x.f = f ∧ x.args = args ∧ x.st = st ∧ x.v = v ∧ x.st' = st'
  | [], f, args, st, v, st', h => by cases h
  | x :: r, f, args, st, v, st', h => by
    simp only [effL] at h
    split at h
    · rename_i hc
      simp only [Bool.and_eq_true] at hc
      cases h
      exact ⟨x, List.mem_cons_self .., beq hc.1, eqbL_eq _ _ hc.2.1, St.eqb_eq hc.2.2, rfl, rfl⟩
    · obtain ⟨y, p, q⟩ := effL_mem h
      exact ⟨y, List.mem_cons_of_mem _ p, q⟩

/-- Told calls, and such as write. -/
def envE (P : Program) (c : Cfg) (l : List (Nat × List AV × AV)) (m : List Eff) : Env := { envC P (fun _ => 0) (fun _ _ => none) (fun _ _ => none) noGlob c l with eff := effL m }
/-- It is as the evaluation has it; the names that it makes are forgotten. -/
def IsEff (P : Program) (x : Eff) : Prop := ∃ c l fuel n, OrcsG P noGlob l ∧ (∀ vs w, (callFunc x.f vs).run P w = .ok (.enter x.f vs) w) ∧ evCallP (envC P (fun _ => 0) (fun _ _ => none) (fun _ _ => none) noGlob c l) fuel n x.f x.args x.st (cut x.st) (fun _ _ => none) = some (x.v, x.st')
def EffsOk (P : Program) (m : List Eff) : Prop := ∀ x ∈ m, IsEff P x
theorem EffsOk.nil {P : Program} : EffsOk P [] := fun _ h => by cases h
theorem EffsOk.more {P : Program} {x : Eff} {m : List Eff} (h : IsEff P x) (k : EffsOk P m) : EffsOk P (x :: m) := fun y hy => by
  rcases List.mem_cons.1 hy with q | q
  · subst q; exact h
  · exact k y q

theorem envE_eff {P : Program} (hn : (P.funcs.toList.all fun fn => !(fn.name == "runtime.NumGoroutine")) = true) (hm : P.follows .mixedOrders = true) {c : Cfg} {l : List (Nat × List AV × AV)} {m : List Eff} (h : EffsOk P m) : EffOk (envE P c l m) := fun f args st v st' he R k kp r hk wf g base w vs hg ha hw hfr => by
  obtain ⟨x, hx, rfl, rfl, rfl, rfl, rfl⟩ := effL_mem he
  obtain ⟨c1, l1, fuel, n, ho, hc, hrun⟩ := h x hx
  obtain ⟨p1, p2⟩ := evCallP_ok (R := AV × St) (E := envC P (fun _ => 0) (fun _ _ => none) (fun _ _ => none) noGlob c1 l1) (.none rfl) (envC_orc ho) (small_ok (rem := fun _ _ => none) (and := fun _ _ => none) rfl (fun _ _ _ h => none_some h) (fun _ _ _ h => none_some h)) hm (tabOf_ok rfl hn) fuel n x.f x.args x.st (cut x.st) (fun _ _ => none) (x.v, x.st') hrun wf g base w vs ⟨fun i x q => none_some q, hg.val⟩ ha hw hfr
  refine ⟨p1, p2.mono fun e w' hh => ?_⟩
  rcases hh with ⟨v', he', u, st1, g1, q1, q2, q3, q4, q5⟩ | ⟨v', _, u, st1, g1, _, _, _, _, q5⟩
  · obtain ⟨g2, z1, z2, z3, z4⟩ := cut_ok q5 wf hfr hw q1 q2 q3
    exact .inl ⟨v', he', x.v, x.st', g2, z1, z2, z3, z4, hk⟩
  · cases q5
theorem envE_orc {P : Program} {c : Cfg} {l : List (Nat × List AV × AV)} {m : List Eff} (hl : OrcsG P noGlob l) : OrcOk (envE P c l m) := fun f args v h => by
  obtain ⟨a, p, q⟩ := orcL_mem h
  exact (hl _ p _ rfl rfl).of_leb q

theorem told_eff {P : Program} (hn : (P.funcs.toList.all fun fn => !(fn.name == "runtime.NumGoroutine")) = true) (hm : P.follows .mixedOrders = true) {c : Cfg} {l : List (Nat × List AV × AV)} {m : List Eff} (hl : OrcsG P noGlob l) (he : EffsOk P m) {fuel n : Nat} (x : Nat × List AV × AV) (hc : ∀ vs w, (callFunc x.1 vs).run P w = .ok (.enter x.1 vs) w)
    (h : evCall (envE P c l m) fuel n x.1 x.2.1 emptySt keep = some x.2.2) (hp : plainL x.2.1 = true) : IsTold P noGlob x := fun E hE hg =>
  orc_of_ev (E := E) (E' := envE P c l m) hE.symm (fun vs w => by rw [hE]; exact hc vs w) (envE_eff hn hm he) (envE_orc hl) (tabOf_ok rfl hn) hm (small_ok (rem := fun _ _ => none) (and := fun _ _ => none) rfl (fun _ _ _ h => none_some h) (fun _ _ _ h => none_some h)) (fun j x q => none_some q) h hp
end Go.VE
