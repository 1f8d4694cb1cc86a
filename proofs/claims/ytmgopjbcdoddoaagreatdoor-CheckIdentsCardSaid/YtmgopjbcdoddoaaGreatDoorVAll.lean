/- The evaluation is right: any operation that writes nothing. No Go program is imported. -/
import Derived.Test.YtmgopjbcdoddoaaGreatDoorVMap
import Derived.Laws.MakeOwn
set_option linter.unusedSimpArgs false
set_option linter.unusedVariables false
namespace Go.VE
open Go.RowKit

section
variable {R : Type} {E : Env} {call : CallK R} {s : Slots} {st : St} {o : Oper} {k : AV → St → Option R} {r : R}

theorem times_add {α : Type} (z : List α) : ∀ a b, times z (a + b) = times z a ++ times z b
  | 0, b => by simp [times]
  | a + 1, b => by rw [show a + 1 + b = (a + b) + 1 by omega]; simp [times, times_add z a b]

theorem makeSlice_ok {t : TypeId} {n c : Operand} (ho : o.op = .makeSlice t n c) {a b : AV} (ha : look E s n = some a) (hb : look E s c = some b) (h : evMakeSlice E st t a b k = some r) (wf : st.Wf) : ∃ v st', NOk E s st o v st' ∧ k v st' = some r := by
  have nat_spec : ∀ {x : AV} {m : Nat}, natOf x = some m → ∀ {g : Gh} {v : Value}, Rv g x v → ∃ kk, v = .int kk (m : Int) := fun hx g v hv => by
    unfold natOf at hx
    split at hx
    · cases hx; simp only [Rv] at hv; exact ⟨_, hv⟩
    · cases hx
  unfold evMakeSlice at h
  split at h
  · rename_i e len cap hu hl hc
    split at h
    · rename_i sz z hs hz
      split at h
      · rename_i hcond
        simp only [Bool.and_eq_true] at hcond
        have hzl := beq hcond.1
        have hlc := ble hcond.2.1
        have hsm := ble hcond.2.2.1
        have hby := ble hcond.2.2.2
        obtain ⟨i, hi⟩ : ∃ i, E.P.info? e = some i := by
          unfold size at hs
          cases hi : E.P.info? e with
          | none => rw [hi] at hs; cases hs
          | some i => exact ⟨i, rfl⟩
        rw [bytes_info hi] at hby
        refine evRow_ok h wf (by unfold isLoad; rw [ho]) (fun hw => by unfold needOf; rw [ho]; simp only [needRow, hu, hw, if_true]) hlc (by rw [times_length, hzl]) fun g ac w base st2 q1 q2 => ?_
        obtain ⟨zv, z1, _, z2⟩ := zero_run hz g
        have hzs : zv.cells.size = sz + 1 := by have := z2.length; simp at this; omega
        obtain ⟨k1, e1⟩ := nat_spec hl (q1 n (by rw [ho]; simp [Op.operands]) a ha)
        obtain ⟨k2, e2⟩ := nat_spec hc (q1 c (by rw [ho]; simp [Op.operands]) b hb)
        have htl : (times zv.cells.toList cap).length = cap * (sz + 1) := by rw [times_length]; simp [hzs]
        refine ⟨times zv.cells.toList cap, e, ?_, htl, ?_⟩
        · have hr := times_rl z2 cap
          by_cases hw : E.wr e = true
          · rw [if_pos hw, times_length, hzl, List.take_of_length_le (by omega)]; exact hr
          · rw [if_neg hw, times_length, hzl]
            have e3 : (times z cap).take (len * (sz + 1)) = times z len := by
              have hc : cap = len + (cap - len) := by omega
              rw [hc, times_add, List.take_append_of_le_length (by rw [times_length, hzl]; exact Nat.le_refl _), List.take_of_length_le (by rw [times_length, hzl]; exact Nat.le_refl _)]
            rw [← e3]
            exact hr.take _
        · have hzi : i.zero = some zv := by
            obtain ⟨zv', z1'', z1', _⟩ := zero_run hz g
            have h1 := z1 w
            have h2 := z1'' w
            rw [h1] at h2
            cases h2
            rw [hi] at z1'; simpa using z1'
          have hsz : i.size = sz + 1 := by unfold size at hs; rw [hi] at hs; simpa using hs
          have hm := run_make (P := E.P) w t e i zv hu hi hzi k1 k2 (len : Int) (cap : Int) (by omega) (by omega) (by
            have : ((i.bytes * cap : Nat) : Int) ≤ 281474976710656 := by omega
            rwa [Int.natCast_mul] at this) (by omega)
          have hmade : madeCells zv.cells (cap * i.size) = ⟨times zv.cells.toList cap⟩ := by
            unfold madeCells
            have := times_range zv.cells cap (by omega)
            rw [hzs] at this
            rw [hsz, hzs]; exact this
          simp only [Int.toNat_natCast, hmade] at hm
          simp only [execOp, ho, e1, e2, Sem.run_bind, hm, Result.andThen_ok, Sem.run_pure]
      · cases h
    · cases h
  · cases h

theorem len_ok {c : Call} (ho : o.op = .call c) (hb : c.callee = .builtin .len) {x : AV} (ha : mapO (look E s) c.args.toList = some [x]) {n : Nat} (hn : evLen ((c.argTypes[0]?).bind E.P.underlying) x = some n) (wf : st.Wf) (h : k (.int .i64 (n : Int)) st = some r) : ∃ v st', NOk E s st o v st' ∧ k v st' = some r := by
  refine val_ok wf h fun g ac w hop => ⟨goInt n, ?_, by simp only [Rv, goInt]⟩
  have hr := Rl_of (a := ac) ha fun y hy => hop y (by rw [ho]; simp [Op.operands, Call.operands, hb]; simpa using hy)
  simp only [Rl] at hr
  obtain ⟨v, rest, e, hv, e2⟩ := hr
  subst e2
  have e3 : c.args.map ac.eval = #[v] := by apply Array.ext'; rw [Array.toList_map, e]
  cases ht : c.argTypes[0]? with
  | none => rw [ht] at hn; simp [evLen] at hn
  | some t =>
    rw [ht] at hn
    simp only [Option.bind_some] at hn
    have hrun : (Builtin.len_ c.argTypes o.type #[v]).run E.P w = .ok (goInt n) w := by
      unfold evLen at hn
      split at hn
      · rename_i hu
        cases hn
        simp only [Rv] at hv; subst hv
        simp only [Builtin.len_, ht, Sem.run_bind, und_run hu, Result.andThen_ok, Sem.run_pure, List.getElem?_toArray, List.getElem?_cons_zero]
        rfl
      · rename_i hu
        cases hn
        simp only [Rv] at hv; subst hv
        simp only [Builtin.len_, ht, Sem.run_bind, und_run hu, Result.andThen_ok, Sem.run_pure, List.getElem?_toArray, List.getElem?_cons_zero]
      · rename_i hu
        cases hn
        simp only [Rv] at hv
        obtain ⟨_, _, _, rfl, _⟩ := hv
        simp only [Builtin.len_, ht, Sem.run_bind, und_run hu, Result.andThen_ok, Sem.run_pure, List.getElem?_toArray, List.getElem?_cons_zero]
      · rename_i hu
        cases hn
        simp only [Rv] at hv
        obtain ⟨_, _, rfl⟩ := hv
        simp only [Builtin.len_, ht, Sem.run_bind, und_run hu, Result.andThen_ok, Sem.run_pure, List.getElem?_toArray, List.getElem?_cons_zero]
      · rename_i hu
        cases hn
        simp only [Rv] at hv
        obtain ⟨_, _, _, rfl, _⟩ := hv
        simp only [Builtin.len_, ht, Sem.run_bind, und_run hu, Result.andThen_ok, Sem.run_pure, List.getElem?_toArray, List.getElem?_cons_zero]
      · rename_i hu
        cases hn
        simp only [Rv] at hv
        obtain ⟨_, _, _, rfl, _⟩ := hv
        simp only [Builtin.len_, ht, Sem.run_bind, und_run hu, Result.andThen_ok, Sem.run_pure, List.getElem?_toArray, List.getElem?_cons_zero]
      · cases hn
    simp only [execOp, ho, resolve, hb, e3, Sem.run_bind, Sem.run_pure, Result.andThen_ok, invoke, builtin, hrun]

theorem lenMap_ok {c : Call} (ho : o.op = .call c) (hb : c.callee = .builtin .len) {x : AV} (ha : mapO (look E s) c.args.toList = some [x]) {kt et : TypeId} (hu : (c.argTypes[0]?).bind E.P.underlying = some (.map kt et)) {es : List (AV × AV)} (hes : entriesOf st x = some es) (wf : st.Wf) (h : k (.int .i64 (es.length : Int)) st = some r) : ∃ v st', NOk E s st o v st' ∧ k v st' = some r := by
  refine ⟨_, _, NOk.val wf fun g ac w base st2 q1 q2 q3 q4 => ⟨goInt es.length, ?_, by simp only [Rv, goInt]⟩, h⟩
  have hr := Rl_of (a := ac) ha fun y hy => q1 y (by rw [ho]; simp [Op.operands, Call.operands, hb]; simpa using hy)
  simp only [Rl] at hr
  obtain ⟨v, rest, e, hv, e2⟩ := hr
  subst e2
  have e3 : c.args.map ac.eval = #[v] := by apply Array.ext'; rw [Array.toList_map, e]
  cases ht : c.argTypes[0]? with
  | none => rw [ht] at hu; cases hu
  | some t =>
    rw [ht] at hu
    simp only [Option.bind_some] at hu
    have hrun : (Builtin.len_ c.argTypes o.type #[v]).run E.P w = .ok (goInt es.length) w := by
      rcases entries_run (E := E) hes q2 (fun l hl => q4.other (by unfold isLoad; rw [ho]) l (by unfold needOf; rw [ho]; simp only [hb, ha, hl])) hv with ⟨rfl, rfl⟩ | ⟨b, ents, clock, rfl, p1, p2⟩
      · simp only [Builtin.len_, ht, Sem.run_bind, und_run hu, Result.andThen_ok, Sem.run_pure, List.getElem?_toArray, List.getElem?_cons_zero]
        rfl
      · have := Rm.len p2
        simp only [Builtin.len_, ht, Sem.run_bind, und_run hu, Result.andThen_ok, Sem.run_pure, List.getElem?_toArray, List.getElem?_cons_zero, MapKept.run_getObj_map p1]
        rw [this]
        rfl
    simp only [execOp, ho, resolve, hb, e3, Sem.run_bind, Sem.run_pure, Result.andThen_ok, invoke, builtin, hrun]

theorem assert_run {x v : AV} {u : TypeId} {ok : Bool} (h : evAssert E x u ok = some v) {g : Gh} {y : Value} (hy : Rv g x y) (t : TypeId) (w : World) : ∃ z, (Instr.typeAssert y t u ok).run E.P w = .ok z w ∧ Rv g v z := by
  unfold evAssert at h
  cases hu : E.P.underlying u with
  | none => rw [hu] at h; cases h
  | some d =>
    rw [hu] at h
    simp only [] at h
    split at h
    · cases h
    · rename_i hd
      have zero_of : ∀ {q : AV}, (((E.P.info? u).bind (·.zero)).bind ofV).map (fun z => AV.tup [z, .bool false]) = some q → ∃ z, (∀ w, (zeroValue u).run E.P w = .ok z w) ∧ ∃ a, Rv g a z ∧ q = .tup [a, .bool false] := fun {q} hq => by
        cases hi : E.P.info? u with
        | none => rw [hi] at hq; cases hq
        | some i =>
          rw [hi] at hq
          cases hz : i.zero with
          | none => simp [hz] at hq
          | some z =>
            simp only [Option.bind_some, hz] at hq
            cases ho : ofV z with
            | none => rw [ho] at hq; cases hq
            | some a =>
              rw [ho] at hq; cases hq
              exact ⟨z, fun w => by simp [zeroValue, typeInfo, program, Sem.run, hi, hz], a, ofV_rv ho, rfl⟩
      have tupF : ∀ {a : AV} {z : Value} {b : Bool}, Rv g a z → Rv g (.tup [a, .bool b]) (.tuple #[z, .bool b]) := fun hz => by
        simp only [Rv]
        exact ⟨[_, _], rfl, Rl.cons hz (Rl.one (by simp only [Rv]))⟩
      split at h
      · rename_i t' a
        simp only [Rv] at hy
        obtain ⟨b, rfl, hb⟩ := hy
        split at h
        · rename_i ht
          have ht := beq ht
          subst ht
          cases h
          cases ok with
          | true =>
            refine ⟨.tuple #[b, .bool true], ?_, tupF hb⟩
            cases d <;> first
              | (exfalso; exact hd rfl)
              | simp only [Instr.typeAssert, Sem.run_bind, und_run hu, Result.andThen_ok, if_true, Sem.run_pure, ↓reduceIte]
          | false =>
            refine ⟨b, ?_, hb⟩
            cases d <;> first
              | (exfalso; exact hd rfl)
              | simp only [Instr.typeAssert, Sem.run_bind, und_run hu, Result.andThen_ok, if_true, Sem.run_pure, ↓reduceIte, Bool.false_eq_true, if_false]
        · rename_i ht
          have ht : ¬ t' = u := fun e => ht (by rw [e]; simp)
          cases ok with
          | false => cases h
          | true =>
            simp only [if_true] at h
            obtain ⟨z, z1, a', z2, rfl⟩ := zero_of h
            refine ⟨.tuple #[z, .bool false], ?_, tupF z2⟩
            cases d <;> first
              | (exfalso; exact hd rfl)
              | simp only [Instr.typeAssert, Sem.run_bind, und_run hu, Result.andThen_ok, if_true, Sem.run_pure, ↓reduceIte, ht, if_false, z1]
      · simp only [Rv] at hy; subst hy
        cases ok with
        | false => cases h
        | true =>
          simp only [if_true] at h
          obtain ⟨z, z1, a', z2, rfl⟩ := zero_of h
          refine ⟨.tuple #[z, .bool false], ?_, tupF z2⟩
          cases d <;> first
            | (exfalso; exact hd rfl)
            | simp only [Instr.typeAssert, Sem.run_bind, und_run hu, Result.andThen_ok, if_true, Sem.run_pure, ↓reduceIte, if_false, z1]
      · cases h

theorem evN_ok (hfacts : FactsOk E) (hw : isW o = false) (h : evOp E call s st o k = some r) (wf : st.Wf) : ∃ v st', NOk E s st o v st' ∧ k v st' = some r := by
  have other_ok : opOther E s st o k = some r → ∃ v st', NOk E s st o v st' ∧ k v st' = some r := fun h => by
    unfold opOther at h
    split at h
    · exact pure_ok wf ‹_› h
    · cases h
  unfold evOp at h
  split at h
  case h_1 x ho => -- move
    unfold opMove at h
    split at h
    · rename_i a ha
      exact val_ok wf h fun g ac w hop => ⟨_, by simp only [execOp, ho, Sem.run_pure], hop x (by rw [ho]; simp [Op.operands]) a ha⟩
    · cases h
  case h_2 x ho => -- assign
    unfold opAssign at h
    split at h
    · rename_i a ha
      exact val_ok wf h fun g ac w hop => ⟨_, by simp only [execOp, ho, Sem.run_pure], hop x (by rw [ho]; simp [Op.operands]) a ha⟩
    · cases h
  case h_3 c a b ho => -- pick
    unfold opPick at h
    have mem : c ∈ o.op.operands ∧ a ∈ o.op.operands ∧ b ∈ o.op.operands := by rw [ho]; simp [Op.operands]
    split at h
    · rename_i hc
      split at h
      · rename_i x hx
        refine val_ok wf h fun g ac w hop => ⟨ac.eval a, ?_, hop a mem.2.1 x hx⟩
        have := hop c mem.1 _ hc
        simp only [Rv] at this
        simp only [execOp, ho, this, asBool, Sem.run_bind, Sem.run_pure, Result.andThen_ok, if_true, ↓reduceIte]
      · cases h
    · rename_i hc
      split at h
      · rename_i x hx
        refine val_ok wf h fun g ac w hop => ⟨ac.eval b, ?_, hop b mem.2.2 x hx⟩
        have := hop c mem.1 _ hc
        simp only [Rv] at this
        simp only [execOp, ho, this, asBool, Sem.run_bind, Sem.run_pure, Result.andThen_ok, Bool.false_eq_true, if_false, ↓reduceIte]
      · cases h
    · cases h
  case h_4 t ho => -- alloc
    unfold opAlloc at h
    split at h
    · rename_i cs hz; exact evAlloc_ok ho hz h wf
    · cases h
  case h_5 t x ho => -- box
    unfold opBox at h
    split at h
    · rename_i a ha; exact evBox_ok ho ha h wf
    · cases h
  case h_6 t ps ho => -- build
    unfold opBuild at h
    split at h
    · rename_i l hl
      split at h
      · rename_i a ha
        refine val_ok wf h fun g ac w hop => ?_
        have hp : Rp g l (ps.map fun (i, x) => (i, ac.eval x)).toList := by
          rw [Array.toList_map]
          exact Rp_of hl (parts_rel (by rw [ho] at hop; simpa [Op.operands] using hop))
        obtain ⟨u, r1, r2⟩ := build_run ha hp w
        exact ⟨u, by simp only [execOp, ho, Sem.run_bind, r1, Result.andThen_ok, Sem.run_pure], r2⟩
      · cases h
    · cases h
  case h_7 t n ps ho => -- buildSlice
    unfold opBuildSlice at h
    split at h
    · rename_i l hl
      exact evBuildSlice_ok ho h wf fun g ac hop => by
        rw [Array.toList_map]
        exact Rp_of hl (parts_rel (by rw [ho] at hop; simpa [Op.operands] using hop))
    · cases h
  case h_8 t p ho => -- load
    unfold opLoad at h
    split at h
    · rename_i q hq
      split at h
      · rename_i a ha; exact ⟨a, st, evLoad_ok ho hq ha wf, h⟩
      · cases h
    · cases h
  case h_9 t p x ho => -- store
    unfold opStore at h
    unfold isW at hw; rw [ho] at hw; cases hw
  case h_10 x ho => -- nilCheck
    unfold opNil at h
    have mem : x ∈ o.op.operands := by rw [ho]; simp [Op.operands]
    split at h
    · rename_i l p hx
      refine val_ok wf h fun g ac w hop => ?_
      have r1 := hop x mem _ hx
      have r2 := r1
      simp only [Rv] at r2
      obtain ⟨b, hb, e⟩ := r2
      exact ⟨ac.eval x, by simp only [execOp, ho, e, Sem.run_pure], r1⟩
    · rename_i l p hx
      refine val_ok wf h fun g ac w hop => ?_
      have r1 := hop x mem _ hx
      have r2 := r1
      simp only [Rv] at r2
      obtain ⟨b, q, e, _⟩ := r2
      exact ⟨ac.eval x, by simp only [execOp, ho, e, Sem.run_pure], r1⟩
    · rename_i f p q hx
      refine val_ok wf h fun g ac w hop => ?_
      have r1 := hop x mem _ hx
      have r2 := r1
      simp only [Rv] at r2
      obtain ⟨va, vc, e, _⟩ := r2
      exact ⟨ac.eval x, by simp only [execOp, ho, e, Sem.run_pure], r1⟩
    · cases h
  case h_11 op t x y yt ho => -- binOp
    unfold opBin at h
    split at h
    · rename_i a b ha hb
      split at h
      · rename_i v hv; exact bin_ok hfacts ho ha hb hv wf h
      · cases h
    · cases h
  case h_12 src dst x ho => -- convert
    unfold opConvert at h
    have mem : x ∈ o.op.operands := by rw [ho]; simp [Op.operands]
    split at h
    · rename_i b hx
      split at h
      · rename_i hs hd
        refine val_ok wf h fun g ac w hop => ?_
        have r1 := hop x mem _ hx
        refine ⟨ac.eval x, ?_, r1⟩
        simp only [Rv] at r1
        simp only [execOp, ho, r1, convert, Sem.run_bind, und_run hs, und_run hd, Result.andThen_ok, Sem.run_pure]
      · rename_i e hs hd
        split at h
        · rename_i he _; exact of_string_ok ho hx hs hd he h wf
        · cases h
      · cases h
    · rename_i n own rows hx
      split at h
      · rename_i e bs hs hd hb hn
        split at h
        · rename_i he
          have hn := beq hn
          subst hn
          refine ⟨_, _, NOk.val wf fun g ac w base st2 q1 q2 q3 q4 => ⟨.string ⟨⟨bs⟩⟩, ?_, by simp only [Rv]⟩, h⟩
          have := to_string_run (b := 0) (o' := 0) (n := 0) hs hd he hb q2 (q1 x mem _ hx)
          simp only [execOp, ho, Sem.run_bind, this, Result.andThen_ok, Sem.run_pure]
        · cases h
      · cases h
    · rename_i hx
      split at h
      · rename_i e hs hd
        split at h
        · rename_i he
          refine val_ok wf h fun g ac w hop => ⟨.string ⟨⟨[]⟩⟩, ?_, by simp only [Rv]⟩
          have r1 := hop x mem _ hx
          simp only [Rv] at r1
          simp only [execOp, ho, r1, convert, Sem.run_bind, und_run hs, und_run hd, und_run he, Result.andThen_ok, Sem.run_pure, Conv.bytesToString]
          rfl
        · cases h
      · cases h
    · exact other_ok h
  case h_13 f a b ho => -- makeFunc
    unfold opMakeFunc at h
    split at h
    · rename_i la lb ha hb
      refine val_ok wf h fun g ac w hop => ⟨.func (.func f) (a.map ac.eval) (b.map ac.eval), by simp only [execOp, ho, Instr.makeFunc, Sem.run_bind, Sem.run_pure, Result.andThen_ok], ?_⟩
      simp only [Rv]
      have hop' : ∀ y, y ∈ a ∨ y ∈ b → RelO E g s ac y := fun y hy => hop y (by rw [ho]; simpa [Op.operands] using hy)
      refine ⟨(a.map ac.eval).toList, (b.map ac.eval).toList, rfl, ?_, ?_⟩
      · rw [Array.toList_map]; exact Rl_of ha fun y hy => hop' y (.inl (Array.mem_toList_iff.1 hy))
      · rw [Array.toList_map]; exact Rl_of hb fun y hy => hop' y (.inr (Array.mem_toList_iff.1 hy))
    · cases h
  case h_14 t n c ho => -- makeSlice
    unfold opMakeSlice at h
    split at h
    · rename_i a b ha hb; exact makeSlice_ok ho ha hb h wf
    · cases h
  case h_15 t x lo hi mx ho => -- slice
    unfold opSlice at h
    split at h
    · rename_i a l1 l2 l3 ha h1 h2 h3
      split at h
      · rename_i v hv
        refine val_ok wf h fun g ac w hop => ?_
        have hop' : ∀ y, y = x ∨ lo = some y ∨ hi = some y ∨ mx = some y → RelO E g s ac y := fun y hy => hop y (by
          rw [ho]; simp only [Op.operands, Array.mem_append, Option.mem_toArray]
          rcases hy with q | q | q | q
          · simp [q]
          · simp [q]
          · simp [q]
          · simp [q])
        obtain ⟨u, r1, r2⟩ := slice_run hv (hop' x (.inl rfl) a ha) (Ro_of h1 fun y hy => hop' y (.inr (.inl hy))) (Ro_of h2 fun y hy => hop' y (.inr (.inr (.inl hy)))) (Ro_of h3 fun y hy => hop' y (.inr (.inr (.inr hy)))) w
        exact ⟨u, by simp only [execOp, ho, Sem.run_bind, r1, Result.andThen_ok, Sem.run_pure], r2⟩
      · cases h
    · cases h
  case h_16 t x i ho => -- fieldAddr
    unfold opFieldAddr at h
    split at h
    · rename_i p hp
      split at h
      · rename_i v hv
        refine val_ok wf h fun g ac w hop => ?_
        obtain ⟨u, r1, r2⟩ := field_run hv (hop x (by rw [ho]; simp [Op.operands]) p hp) w
        exact ⟨u, by simp only [execOp, ho, Sem.run_bind, r1, Result.andThen_ok, Sem.run_pure], r2⟩
      · cases h
    · cases h
  case h_17 t x i ho => -- field
    unfold opField at h
    split at h
    · rename_i cs fs hx hu
      split at h
      · rename_i f hf
        split at h
        · rename_i v hv
          refine val_ok wf h fun g ac w hop => ?_
          have r0 := hop x (by rw [ho]; simp [Op.operands]) _ hx
          simp only [Rv] at r0
          obtain ⟨vs, e, r0⟩ := r0
          obtain ⟨u, r1, r2⟩ := part_run hv r0 w
          exact ⟨u, by simp only [execOp, ho, Instr.field, Sem.run_bind, und_run hu, Result.andThen_ok, hf, e, asAgg, Sem.run_pure, r1], r2⟩
        · cases h
      · cases h
    · cases h
  case h_18 t x i ho => -- indexAddr
    unfold opIndexAddr at h
    split at h
    · rename_i a b ha hb
      split at h
      · rename_i v hv
        refine val_ok wf h fun g ac w hop => ?_
        obtain ⟨u, r1, r2⟩ := indexAddr_run hv (hop x (by rw [ho]; simp [Op.operands]) a ha) (hop i (by rw [ho]; simp [Op.operands]) b hb) w
        exact ⟨u, by simp only [execOp, ho, Sem.run_bind, r1, Result.andThen_ok, Sem.run_pure], r2⟩
      · cases h
    · cases h
  case h_19 t x i ho => -- index
    unfold opIndex at h
    have mem : x ∈ o.op.operands ∧ i ∈ o.op.operands := by rw [ho]; simp [Op.operands]
    split at h
    · rename_i bs b hx hi
      split at h
      · rename_i j hu hj
        split at h
        · rename_i c hc
          refine val_ok wf h fun g ac w hop => ?_
          have r0 := hop x mem.1 _ hx
          simp only [Rv] at r0
          obtain ⟨hlt, kk, e⟩ := index_spec hj (hop i mem.2 b hi)
          have hget : (⟨⟨bs⟩⟩ : ByteArray)[j]? = some c := by
            rw [getElem?_pos (⟨⟨bs⟩⟩ : ByteArray) j hlt]
            have : bs[j]? = some bs[j] := List.getElem?_eq_getElem hlt
            rw [this] at hc
            cases hc
            rfl
          refine ⟨.int .u8 (c.toNat : Int), ?_, by simp only [Rv]⟩
          have h0 : (0 : Int) ≤ (j : Int) := by omega
          simp only [execOp, ho, Instr.index, r0, e, asIntOf, Sem.run_bind, Sem.run_pure, Result.andThen_ok, und_run hu, h0, if_true, Int.toNat_natCast, hget, ↓reduceIte]
        · cases h
      · cases h
    · rename_i cs b hx hi
      split at h
      · rename_i n e hu
        split at h
        · rename_i j w0 hj hs
          split at h
          · rename_i v hv
            refine val_ok wf h fun g ac w hop => ?_
            have r0 := hop x mem.1 _ hx
            simp only [Rv] at r0
            obtain ⟨vs, e1, r0⟩ := r0
            obtain ⟨hlt, kk, e2⟩ := index_spec hj (hop i mem.2 b hi)
            obtain ⟨u, r1, r2⟩ := part_run hv r0 w
            have h0 : (0 : Int) ≤ (j : Int) ∧ (j : Int) < (n : Int) := by omega
            exact ⟨u, by simp only [execOp, ho, Instr.index, e1, e2, asIntOf, Sem.run_bind, Sem.run_pure, Result.andThen_ok, und_run hu, h0, and_self, if_true, Int.toNat_natCast, size_run hs, r1, Sem.run_ite, ↓reduceIte], r2⟩
          · cases h
        · cases h
      · cases h
    · cases h
  case h_20 x i ho => -- extract
    unfold opExtract at h
    split at h
    · rename_i vs hx
      split at h
      · rename_i v hv
        refine val_ok wf h fun g ac w hop => ?_
        have r0 := hop x (by rw [ho]; simp [Op.operands]) _ hx
        simp only [Rv] at r0
        obtain ⟨us, e, r0⟩ := r0
        obtain ⟨u, hu, r1⟩ := r0.get hv
        have : (⟨us⟩ : Array Value)[i]? = some u := by simpa using hu
        exact ⟨u, by simp only [execOp, ho, e, Instr.extract, this, Sem.run_bind, Sem.run_pure, Result.andThen_ok], r1⟩
      · cases h
    · cases h
  case h_21 c ho => -- call
    unfold opCall at h
    split at h
    · rename_i args ha
      split at h
      · rename_i b hb
        unfold evBuiltin at h
        split at h
        · exfalso
          unfold isW at hw; rw [ho] at hw; simp only [hb] at hw; cases hw
        · exfalso
          unfold isW at hw; rw [ho] at hw; simp only [hb] at hw; cases hw
        · exfalso
          unfold isW at hw; rw [ho] at hw; simp only [hb] at hw; cases hw
        · rename_i x
          split at h
          · rename_i n hn; exact len_ok ho hb ha hn wf h
          · split at h
            · rename_i kt et es hu hes; exact lenMap_ok ho hb ha hu hes wf h
            · exact other_ok h
        · exact other_ok h
      · unfold isW at hw; rw [ho] at hw; simp only [] at hw
        split at hw
        · cases hw
        · cases hw
        · cases hw
        · simp_all
        · cases hw
      · cases h
    · cases h
  case h_22 t ho => -- makeMap
    exact evMakeMap_ok ho h wf
  case h_23 t m i ok ho => -- lookup
    unfold opLookup at h
    split at h
    · rename_i a b ha hb
      split at h
      · rename_i v hv
        refine ⟨_, _, NOk.val wf fun g ac w base st2 q1 q2 q3 q4 => ?_, h⟩
        have r1 := q1 m (by rw [ho]; simp [Op.operands]) a ha
        have r2 := q1 i (by rw [ho]; simp [Op.operands]) b hb
        obtain ⟨u, p1, p2⟩ := lookup_run hv q2 (fun l e => q4.other (by unfold isLoad; rw [ho]) l (by unfold needOf; rw [ho]; simp only [ha, e])) r1 r2
        exact ⟨u, by simp only [execOp, ho, Sem.run_bind, p1, Result.andThen_ok, Sem.run_pure], p2⟩
      · cases h
    · cases h
  case h_24 t m i x ho => unfold isW at hw; rw [ho] at hw; cases hw
  case h_25 t m i x ho => unfold isW at hw; rw [ho] at hw; cases hw
  case h_26 t x ho => -- makeInterface
    unfold opIface at h
    split at h
    · rename_i a d hx hu
      split at h
      · cases h
      · rename_i hd
        refine val_ok wf h fun g ac w hop => ?_
        have r0 := hop x (by rw [ho]; simp [Op.operands]) a hx
        refine ⟨.iface t (ac.eval x), ?_, by simp only [Rv]; exact ⟨_, rfl, r0⟩⟩
        cases d <;> first
          | (exfalso; exact hd rfl)
          | simp only [execOp, ho, Instr.makeInterface, Sem.run_bind, und_run hu, Result.andThen_ok, Sem.run_pure]
    · cases h
  case h_27 x t u ok ho => -- typeAssert
    unfold opAssert at h
    split at h
    · rename_i a hx
      split at h
      · rename_i v hv
        refine val_ok wf h fun g ac w hop => ?_
        obtain ⟨z, p1, p2⟩ := assert_run hv (hop x (by rw [ho]; simp [Op.operands]) a hx) t w
        exact ⟨z, by simp only [execOp, ho, Sem.run_bind, p1, Result.andThen_ok, Sem.run_pure], p2⟩
      · cases h
    · cases h
  case h_28 => exact other_ok h
end
end Go.VE
