/- The evaluation is right: maps. No Go program is imported. -/
import Derived.Test.YtmgopjbcdoddoaaGreatDoorVOps
import Derived.MapKept
import Derived.Carry
set_option linter.unusedSimpArgs false
set_option linter.unusedVariables false
namespace Go.VE
open Go.RowKit Go.MapKept

theorem bytes_beq' (a b : List UInt8) : ((⟨⟨a⟩⟩ : ByteArray) == ⟨⟨b⟩⟩) = eqBytes a b := by
  rw [eqBytes_eq]
  by_cases h : a = b
  · subst h
    rw [(MapKept.bytes_beq _ _).2 rfl]; simp
  · have : ¬ ((⟨⟨a⟩⟩ : ByteArray) == ⟨⟨b⟩⟩) = true := fun q => h (by have := (MapKept.bytes_beq _ _).1 q; cases this; rfl)
    simp only [Bool.not_eq_true] at this
    rw [this]
    simp [h]

theorem key_of {d : TypeDesc} {x : AV} (hk : isKeyA d x = true) {g : Gh} {u : Value} (hu : Rv g x u) : IsKey d u := by
  unfold isKeyA at hk
  split at hk
  · simp only [Rv] at hu; subst hu; trivial
  · simp only [Rv] at hu; subst hu
    have := of_decide_eq_true hk
    exact this
  · cases hk

theorem same_key {d : TypeDesc} {x y : AV} {b : Bool} (hk : isKeyA d x = true) (h : keyEq x y = some b) {g : Gh} {u v : Value} (hu : Rv g x u) (hv : Rv g y v) : Instr.sameNow d u v = some b ∧ (b = true → v = u) := by
  unfold keyEq at h
  split at h
  · rename_i a c
    cases h
    simp only [Rv] at hu hv; subst hu hv
    unfold isKeyA at hk
    split at hk
    · refine ⟨?_, fun e => ?_⟩
      · simp only [Instr.sameNow, bytes_beq']
      · rw [eqBytes_eq] at e
        rw [eq_of_beq e]
    · rename_i e; cases e
    · cases hk
  · rename_i j a k c
    split at h
    · rename_i hjk
      have hjk := of_decide_eq_true hjk
      subst hjk
      cases h
      simp only [Rv] at hu hv; subst hu hv
      unfold isKeyA at hk
      split at hk
      · rename_i e; cases e
      · rename_i e
        cases e
        refine ⟨?_, fun e => ?_⟩
        · simp only [Instr.sameNow, if_true]
          congr 1
        · have := of_decide_eq_true e
          rw [this]
      · cases hk
    · cases h
  · cases h

theorem find_run {d : TypeDesc} {k : AV} (hk : isKeyA d k = true) {g : Gh} {u : Value} (hu : Rv g k u) : ∀ (es : List (AV × AV)) (ents : List MapEntry) (i : Nat) (r : Option AV), Rm g es ents → findA k es = some r →
    (r = none ∧ Instr.findNow d u ents i = some none) ∨ ∃ v j val, r = some v ∧ Instr.findNow d u ents i = some (some (j, val)) ∧ Rv g v val
  | [], ents, i, r, hm, h => by
    simp only [Rm] at hm; subst hm
    simp only [findA] at h; cases h
    exact .inl ⟨rfl, rfl⟩
  | (a, v) :: es, ents, i, r, hm, h => by
    simp only [Rm] at hm
    obtain ⟨e, rest, rfl, h1, h2, h3⟩ := hm
    simp only [findA] at h
    cases hq : keyEq k a with
    | none => rw [hq] at h; cases h
    | some b =>
      rw [hq] at h
      have hs := (same_key hk hq hu h1).1
      cases b with
      | true => cases h; exact .inr ⟨v, i, e.val, rfl, by simp [Instr.findNow, hs], h2⟩
      | false =>
        rcases find_run hk hu es rest (i + 1) r h3 h with ⟨p1, p2⟩ | ⟨x, j, val, p1, p2, p3⟩
        · exact .inl ⟨p1, by simp [Instr.findNow, hs, p2]⟩
        · exact .inr ⟨x, j, val, p1, by simp [Instr.findNow, hs, p2], p3⟩

theorem put_run {d : TypeDesc} {k x : AV} (hk : isKeyA d k = true) {g : Gh} {u v : Value} (hu : Rv g k u) (hx : Rv g x v) : ∀ (es : List (AV × AV)) (ents : List MapEntry) (i : Nat) (es' : List (AV × AV)), Rm g es ents → putA k x es = some es' →
    (Instr.findNow d u ents i = some none ∧ ∀ c, Rm g es' (ents ++ [{ key := u, val := v, born := c }])) ∨
    ∃ j e, Instr.findNow d u ents i = some (some (i + j, e.val)) ∧ ents[j]? = some e ∧ e.key = u ∧ Rm g es' (ents.modify j fun e => { e with key := u, val := v })
  | [], ents, i, es', hm, h => by
    simp only [Rm] at hm; subst hm
    simp only [putA] at h; cases h
    exact .inl ⟨rfl, fun c => ⟨_, [], rfl, hu, hx, rfl⟩⟩
  | (a, y) :: es, ents, i, es', hm, h => by
    simp only [Rm] at hm
    obtain ⟨e, rest, rfl, h1, h2, h3⟩ := hm
    simp only [putA] at h
    cases hq : keyEq k a with
    | none => rw [hq] at h; cases h
    | some b =>
      rw [hq] at h
      obtain ⟨hs, hkey⟩ := same_key hk hq hu h1
      cases b with
      | true =>
        cases h
        exact .inr ⟨0, e, by simp [Instr.findNow, hs], rfl, hkey rfl, by
          show Rm g ((k, x) :: es) ({ e with key := u, val := v } :: rest)
          exact ⟨_, rest, rfl, hu, hx, h3⟩⟩
      | false =>
        cases hp : putA k x es with
        | none => rw [hp] at h; cases h
        | some l =>
          rw [hp] at h; cases h
          rcases put_run hk hu hx es rest (i + 1) l h3 hp with ⟨p1, p2⟩ | ⟨j, e2, p1, p2, p3, p4⟩
          · exact .inl ⟨by simp [Instr.findNow, hs, p1], fun c => ⟨e, _, rfl, h1, h2, p2 c⟩⟩
          · exact .inr ⟨j + 1, e2, by simp [Instr.findNow, hs, p1]; omega, by simpa using p2, p3, ⟨e, _, rfl, h1, h2, p4⟩⟩

theorem Rm.len {g : Gh} : ∀ {es : List (AV × AV)} {ents : List MapEntry}, Rm g es ents → es.length = ents.length
  | [], ents, h => by simp only [Rm] at h; subst h; rfl
  | (a, v) :: es, ents, h => by
    simp only [Rm] at h
    obtain ⟨e, rest, rfl, _, _, h3⟩ := h
    simp [Rm.len h3]

/-- The entries that a map's memory holds. -/
theorem entries_run {E : Env} {g : Gh} {base : Nat} {st st2 : St} {w : World} {m : AV} {es : List (AV × AV)} (h : entriesOf st m = some es) (hw : Rw g base st2 w) (hn : ∀ l, m = .map l → st2.heap.get l = st.heap.get l) {v : Value} (hv : Rv g m v) :
    (v = .map none ∧ es = []) ∨ ∃ b ents clock, v = .map (some b) ∧ w.heap[b]? = some (.map ents clock) ∧ Rm g es ents.toList := by
  unfold entriesOf at h
  split at h
  · cases h; simp only [Rv] at hv; exact .inl ⟨hv, rfl⟩
  · rename_i l
    simp only [Rv] at hv
    obtain ⟨b, hb, rfl⟩ := hv
    obtain ⟨_, _, ab, hab, hr⟩ := hw.lab l b hb
    rw [hn l rfl] at hab
    rw [hab] at h
    cases ab with
    | gone ve => cases h
    | cells n t ve => cases h
    | map es' ve =>
      cases h
      obtain ⟨ents, clock, p1, p2⟩ := hr
      exact .inr ⟨b, ents, clock, rfl, p1, p2⟩
  · cases h

theorem lookup_two {P : Program} {w : World} {t kt e : TypeId} {d : TypeDesc} {mv iv zv : Value} {ok : Bool} {ents : Array MapEntry} (hu : P.underlying t = some (.map kt e)) (hd : P.underlying kt = some d) (hk : IsKey d iv)
    (hm : (mv = .map none ∧ ents = #[]) ∨ ∃ b clock, mv = .map (some b) ∧ w.heap[b]? = some (.map ents clock)) {res : Option (Nat × Value)} (hf : Instr.findNow d iv ents.toList 0 = some res) (hz : res = none → (zeroValue e).run P w = .ok zv w) :
    (Instr.lookup t mv iv ok).run P w = .ok (match res with
      | some (_, v) => if ok then .tuple #[v, .bool true] else v
      | none => if ok then .tuple #[zv, .bool false] else zv) w := by
  have hck := fun q => MapKept.run_checkKey (w := w) hd hk q 9999
  have hfk := MapKept.run_findKey (P := P) (w := w) hd hf
  rcases hm with ⟨rfl, rfl⟩ | ⟨b, clock, rfl, p1⟩
  · have hfk' : (Instr.findKey kt iv []).run P w = .ok res w := hfk
    cases res with
    | none => simp only [Instr.lookup, Sem.run_bind, und_run hu, Result.andThen_ok, Sem.run_pure, hck, hfk', hz rfl]
    | some x => obtain ⟨j, v⟩ := x; simp only [Instr.lookup, Sem.run_bind, und_run hu, Result.andThen_ok, Sem.run_pure, hck, hfk']
  · cases res with
    | none => simp only [Instr.lookup, Sem.run_bind, und_run hu, Result.andThen_ok, Sem.run_pure, MapKept.run_getObj_map p1, hck, hfk, hz rfl]
    | some x => obtain ⟨j, v⟩ := x; simp only [Instr.lookup, Sem.run_bind, und_run hu, Result.andThen_ok, Sem.run_pure, MapKept.run_getObj_map p1, hck, hfk]

theorem lookup_run {E : Env} {g : Gh} {base : Nat} {st st2 : St} {w : World} {t : TypeId} {m i : AV} {ok : Bool} {x : AV} (h : evLookup E st t m i ok = some x) (hw : Rw g base st2 w) (hn : ∀ l, m = .map l → st2.heap.get l = st.heap.get l) {mv iv : Value} (hm : Rv g m mv) (hi : Rv g i iv) :
    ∃ v, (Instr.lookup t mv iv ok).run E.P w = .ok v w ∧ Rv g x v := by
  unfold evLookup at h
  split at h
  · rename_i kt e d hu hd
    have hd : E.P.underlying kt = some d := by unfold keyDesc at hd; rw [hu] at hd; exact hd
    split at h
    · rename_i hk
      split at h
      · rename_i es hes
        obtain ⟨ents, hents, hat⟩ : ∃ ents : Array MapEntry, Rm g es ents.toList ∧ ((mv = .map none ∧ ents = #[]) ∨ ∃ b clock, mv = .map (some b) ∧ w.heap[b]? = some (.map ents clock)) := by
          rcases entries_run (E := E) hes hw hn hm with ⟨rfl, rfl⟩ | ⟨b, ents, clock, rfl, p1, p2⟩
          · exact ⟨#[], rfl, .inl ⟨rfl, rfl⟩⟩
          · exact ⟨ents, p2, .inr ⟨b, clock, rfl, p1⟩⟩
        cases hf : findA i es with
        | none => rw [hf] at h; cases h
        | some r =>
          rw [hf] at h
          rcases find_run hk hi es ents.toList 0 r hents hf with ⟨rfl, p2⟩ | ⟨v, j, val, rfl, p2, p3⟩
          · simp only [] at h
            cases hz : ((E.P.info? e).bind (·.zero)).bind ofV with
            | none => rw [hz] at h; cases h
            | some z =>
              rw [hz] at h
              cases hi2 : E.P.info? e with
              | none => rw [hi2] at hz; cases hz
              | some inf =>
                rw [hi2] at hz
                cases hz2 : inf.zero with
                | none => simp [hz2] at hz
                | some zv =>
                  simp only [Option.bind_some, hz2] at hz
                  have hzr : (zeroValue e).run E.P w = .ok zv w := by simp [zeroValue, typeInfo, program, Sem.run, hi2, hz2]
                  have rz : Rv g z zv := ofV_rv hz
                  refine ⟨_, lookup_two hu hd (key_of hk hi) hat p2 (fun _ => hzr), ?_⟩
                  cases h
                  cases ok with
                  | false => exact rz
                  | true =>
                    simp only [if_true, Rv]
                    exact ⟨[zv, .bool false], rfl, Rl.cons rz (Rl.one (by simp only [Rv]))⟩
          · simp only [] at h
            cases h
            refine ⟨_, lookup_two (zv := undef) hu hd (key_of hk hi) hat p2 (fun q => by cases q), ?_⟩
            cases ok with
            | false => exact p3
            | true =>
              simp only [if_true, Rv]
              exact ⟨[val, .bool true], rfl, Rl.cons p3 (Rl.one (by simp only [Rv]))⟩
      · cases h
    · cases h
  · cases h

/-- A new map. -/
theorem evMakeMap_ok {R : Type} {E : Env} {s : Slots} {st : St} {o : Oper} {t : TypeId} (ho : o.op = .makeMap t none) {k : AV → St → Option R} {r : R} (h : (st.heap.setK st.next (.map [] 0) fun h => k (.map st.next) ⟨h, st.next + 1, st.spent⟩) = some r) (wf : st.Wf) : ∃ v st', NOk E s st o v st' ∧ k v st' = some r := by
  rw [Tr.setK_k] at h
  refine ⟨_, _, ⟨new_le wf _, new_wf wf _, new_same wf _, fun g a w base st2 _ q1 q2 q3 q4 q5 q6 => ?_⟩, h⟩
  have hl : g.rho st.next = none := (q5 st.next (Nat.le_refl _) (Nat.lt_succ_self _)).1
  have hh : st2.heap.get st.next = some (.map [] 0) := (q4.other (by unfold isLoad; rw [ho]) _ (by unfold needOf; rw [ho])).trans (Tr.get_set_same _ _ _)
  have le := Gh.le_lay (b := w.heap.size) hl
  refine .inl ⟨.map (some w.heap.size), w.alloc (.map #[] 0), ?_, g.lay st.next w.heap.size, ?_, ?_, Goes.alloc _ q2.base hl (new_le wf _) rfl⟩
  · simp only [execOp, ho, Sem.run_bind, Option.map_none, run_makeMap, Result.andThen_ok, Sem.run_pure]
  · simp only [Rv]
    exact ⟨w.heap.size, by show (if st.next = st.next then some w.heap.size else _) = _; rw [if_pos rfl], rfl⟩
  · exact q2.alloc hl hh ⟨#[], 0, new_obj, rfl⟩
end Go.VE
