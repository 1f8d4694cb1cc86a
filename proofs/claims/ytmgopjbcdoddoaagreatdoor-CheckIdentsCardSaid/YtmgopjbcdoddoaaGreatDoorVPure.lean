/- The evaluation is right: operations upon values without memory. No Go program is imported. -/
import Derived.Test.YtmgopjbcdoddoaaGreatDoorVRun
import Derived.Laws.Sem
set_option linter.unusedSimpArgs false
set_option linter.unusedVariables false
namespace Go.VE
open Go.RowKit

theorem pureOf_run {α : Type} {P : Program} : ∀ {s : Sem α} {a : α}, pureOf P s = some a → ∀ w, s.run P w = .ok a w
  | .pure b, a, h, w => by simp only [pureOf] at h; cases h; rfl
  | .program k, a, h, w => by
    simp only [pureOf] at h
    exact pureOf_run (s := k P) h w
  | .mark m k, a, h, w => by
    simp only [pureOf] at h
    exact pureOf_run (s := k) h w
  | .load .., _, h, _ | .store .., _, h, _ | .new .., _, h, _ | .shape .., _, h, _ | .freeze .., _, h, _ | .frozen .., _, h, _
  | .getObj .., _, h, _ | .setObj .., _, h, _ | .choose .., _, h, _ | .sys .., _, h, _ | .halt .., _, h, _ => by simp only [pureOf] at h; cases h

theorem mapO_get {α β : Type} {f : α → Option β} : ∀ {l : List α} {m : List β}, mapO f l = some m → l.length = m.length ∧ ∀ (i : Nat) (a : α), l[i]? = some a → ∃ b, f a = some b ∧ m[i]? = some b
  | [], m, h => by simp only [mapO] at h; cases h; simp
  | a :: r, m, h => by
    simp only [mapO] at h
    cases hf : f a with
    | none => rw [hf] at h; cases h
    | some b =>
      rw [hf] at h
      cases hr : mapO f r with
      | none => rw [hr] at h; cases h
      | some bs =>
        rw [hr] at h; cases h
        obtain ⟨h1, h2⟩ := mapO_get hr
        refine ⟨by simp [h1], fun i x hx => ?_⟩
        cases i with
        | zero => simp at hx; subst hx; exact ⟨b, hf, rfl⟩
        | succ i => simp at hx; simpa using h2 i x hx
theorem mapO_mem {α β : Type} {f : α → Option β} {l : List α} {m : List β} (h : mapO f l = some m) {a : α} (ha : a ∈ l) : ∃ b, f a = some b := by
  obtain ⟨i, hi⟩ := List.mem_iff_getElem?.1 ha
  obtain ⟨b, hb, _⟩ := (mapO_get h).2 i a hi
  exact ⟨b, hb⟩

theorem atomA_eq {g : Gh} {a : AV} {u v : Value} (h : atomA a = some u) (r : Rv g a v) : v = u := by
  cases a <;> simp only [atomA, Rv] at h r <;> cases h <;> exact r
theorem atomsA_eq {g : Gh} : ∀ {as : List AV} {us vs : List Value}, mapO atomA as = some us → Rl g as vs → vs = us
  | [], us, vs, h, r => by simp only [mapO] at h; cases h; simpa only [Rl] using r
  | a :: as, us, vs, h, r => by
    simp only [mapO] at h
    cases hf : atomA a with
    | none => rw [hf] at h; cases h
    | some b =>
      rw [hf] at h
      cases hr : mapO atomA as with
      | none => rw [hr] at h; cases h
      | some bs =>
        rw [hr] at h; cases h
        simp only [Rl] at r
        obtain ⟨v, rest, rfl, r1, r2⟩ := r
        rw [atomA_eq hf r1, atomsA_eq hr r2]
theorem toV_eq {g : Gh} {a : AV} {u v : Value} (h : toV a = some u) (r : Rv g a v) : v = u := by
  cases a with
  | agg cs =>
    simp only [toV] at h
    cases hm : mapO atomA cs with
    | none => rw [hm] at h; cases h
    | some l =>
      rw [hm] at h; cases h
      simp only [Rv] at r
      obtain ⟨vs, rfl, r⟩ := r
      rw [atomsA_eq hm r]
  | tup cs =>
    simp only [toV] at h
    cases hm : mapO atomA cs with
    | none => rw [hm] at h; cases h
    | some l =>
      rw [hm] at h; cases h
      simp only [Rv] at r
      obtain ⟨vs, rfl, r⟩ := r
      rw [atomsA_eq hm r]
  | _ => exact atomA_eq (by simpa only [toV] using h) r

theorem atomV_rv {g : Gh} {v : Value} {a : AV} (h : atomV v = some a) : Rv g a v := by
  unfold atomV at h
  split at h <;> cases h <;> simp only [Rv]
theorem atomsV_rl {g : Gh} : ∀ {vs : List Value} {as : List AV}, mapO atomV vs = some as → Rl g as vs
  | [], as, h => by simp only [mapO] at h; cases h; simp only [Rl]
  | v :: vs, as, h => by
    simp only [mapO] at h
    cases hf : atomV v with
    | none => rw [hf] at h; cases h
    | some b =>
      rw [hf] at h
      cases hr : mapO atomV vs with
      | none => rw [hr] at h; cases h
      | some bs => rw [hr] at h; cases h; exact Rl.cons (atomV_rv hf) (atomsV_rl hr)
theorem ofV_rv {g : Gh} {v : Value} {a : AV} (h : ofV v = some a) : Rv g a v := by
  cases v with
  | agg vs =>
    simp only [ofV] at h
    cases hm : mapO atomV vs.toList with
    | none => rw [hm] at h; cases h
    | some l => rw [hm] at h; cases h; simp only [Rv]; exact ⟨vs.toList, rfl, atomsV_rl hm⟩
  | tuple vs =>
    simp only [ofV] at h
    cases hm : mapO atomV vs.toList with
    | none => rw [hm] at h; cases h
    | some l => rw [hm] at h; cases h; simp only [Rv]; exact ⟨vs.toList, rfl, atomsV_rl hm⟩
  | _ => exact atomV_rv (by simpa only [ofV] using h)

/-- What a frame's temporaries are known to hold. -/
def RelS (g : Gh) (s : Slots) (a : Act) : Prop := ∀ t x, s.get t = some x → ∃ v, a.tmps[t]? = some v ∧ Rv g x v
/-- What package-level variables are known to hold. -/
structure GlobOk (E : Env) (g : Gh) : Prop where
  at_ : ∀ i x, E.glob i = some x → Rv g x (.pointer (some ⟨i, 0, none⟩))
  val : g.val = E.val
/-- An operand's value. -/
def RelO (E : Env) (g : Gh) (s : Slots) (a : Act) (o : Operand) : Prop := ∀ x, look E s o = some x → Rv g x (a.eval o)

theorem look_rv {E : Env} {g : Gh} {s : Slots} {a : Act} (hs : RelS g s a) (hg : GlobOk E g) (o : Operand) : RelO E g s a o := by
  intro x h
  cases o with
  | tmp t =>
    obtain ⟨v, hv, r⟩ := hs t x h
    show Rv g x (a.tmps.getD t undef)
    rw [Array.getD_eq_getD_getElem?, hv]; exact r
  | const v => exact ofV_rv h
  | global i => exact hg.at_ i x h
  | func f =>
    simp only [look] at h; cases h
    show Rv g (.fn f [] []) (.func (.func f) #[] #[])
    simp only [Rv]
    exact ⟨[], [], rfl, Rl.nil, Rl.nil⟩

/-- What an operation comes to. -/
def Gives (P : Program) (o : Oper) (a : Act) (w : World) (K : Value → World → Prop) : Prop :=
  (∃ v w', (execOp a.eval o).run P w = .ok (.value v) w' ∧ K v w') ∨ (∃ w', (execOp a.eval o).run P w = .ok .skip w' ∧ K undef w') ∨
  ∃ f args w1, (execOp a.eval o).run P w = .ok (.enter f args) w1 ∧ Calls P f args w1 fun e w' => ∃ v, e = .returned v ∧ K v w'

theorem Gives.mono {P : Program} {o : Oper} {a : Act} {w : World} {K K' : Value → World → Prop} (h : Gives P o a w K) (k : ∀ v w', K v w' → K' v w') : Gives P o a w K' := by
  rcases h with ⟨v, w', h1, h2⟩ | ⟨w', h1, h2⟩ | ⟨f, args, w1, h1, h2⟩
  · exact .inl ⟨v, w', h1, k _ _ h2⟩
  · exact .inr (.inl ⟨w', h1, k _ _ h2⟩)
  · exact .inr (.inr ⟨f, args, w1, h1, h2.mono fun e w' ⟨v, h3, h4⟩ => ⟨v, h3, k _ _ h4⟩⟩)
theorem Gives.wp {P : Program} {o : Oper} {a : Act} {w : World} {K : Value → World → Prop} {next : Act → World → Prop} {Q : Exit → Act → World → Prop} (h : Gives P o a w K) (k : ∀ v w', K v w' → next (a.put o.dst v) w') : o.wp P a w next Q := by
  unfold Oper.wp
  rcases h with ⟨v, w', h1, h2⟩ | ⟨w', h1, h2⟩ | ⟨f, args, w1, h1, h2⟩
  · rw [h1]; exact k _ _ h2
  · rw [h1]; exact k _ _ h2
  · rw [h1]
    exact h2.mono fun e w' ⟨v, h3, h4⟩ => by subst h3; exact k _ _ h4

theorem pureOp_run {E : Env} {s : Slots} {o : Oper} {x : AV} (h : pureOp E s o = some x) {g : Gh} {a : Act} (ho : ∀ y ∈ o.op.operands, RelO E g s a y) (w : World) :
    ∃ v, (execOp a.eval o).run E.P w = .ok (.value v) w ∧ Rv g x v := by
  have key : (∀ cs b, o.op ≠ .select cs b) → (match mapO (fun x => (look E s x).bind toV) o.op.operands.toList with
      | some _ => match pureOf E.P (execOp (fun x => ((look E s x).bind toV).getD undef) o) with
        | some (.value v) => ofV v
        | _ => none
      | none => none) = some x → ∃ v, (execOp a.eval o).run E.P w = .ok (.value v) w ∧ Rv g x v := by
    intro hs h
    cases hm : mapO (fun x => (look E s x).bind toV) o.op.operands.toList with
    | none => rw [hm] at h; cases h
    | some l =>
      rw [hm] at h
      simp only [] at h
      have hc : execOp a.eval o = execOp (fun x => ((look E s x).bind toV).getD undef) o := by
        refine execOp_congr o hs fun y hy => ?_
        obtain ⟨b, hb⟩ := mapO_mem hm (Array.mem_toList_iff.2 hy)
        show a.eval y = ((look E s y).bind toV).getD undef
        rw [hb]
        cases hl : look E s y with
        | none => rw [hl] at hb; cases hb
        | some z => rw [hl] at hb; exact toV_eq hb (ho y hy z hl)
      rw [hc]
      cases hp : pureOf E.P (execOp (fun x => ((look E s x).bind toV).getD undef) o) with
      | none => rw [hp] at h; cases h
      | some n =>
        rw [hp] at h
        cases n with
        | value v => exact ⟨v, pureOf_run hp w, ofV_rv h⟩
        | _ => cases h
  unfold pureOp at h
  split at h
  · cases h
  · rename_i hns
    exact key (fun cs b e => hns cs b e) h
end Go.VE
