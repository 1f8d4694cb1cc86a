/- The evaluation is right: every operation that writes nothing. No Go program is imported. -/
import Derived.Test.YtmgopjbcdoddoaaGreatDoorVAppend
import Derived.Laws.BytesArg
import Derived.Laws.IdiomStrings
set_option linter.unusedSimpArgs false
set_option linter.unusedVariables false
namespace Go.VE
open Go.RowKit

section
variable {R : Type} {E : Env} {call : CallK R} {s : Slots} {st : St} {o : Oper} {k : AV → St → Option R} {r : R}

/-- A value made of values. -/
theorem val_ok {v : AV} (wf : st.Wf) (h : k v st = some r) (hr : ∀ (g : Gh) (a : Act) (w : World), (∀ y ∈ o.op.operands, RelO E g s a y) → ∃ u, (execOp a.eval o).run E.P w = .ok (.value u) w ∧ Rv g v u) : ∃ v st', NOk E s st o v st' ∧ k v st' = some r :=
  ⟨v, st, NOk.val wf fun g a w base st2 q1 q2 q3 q4 => hr g a w q1, h⟩

theorem pure_ok (wf : st.Wf) {v : AV} (hp : pureOp E s o = some v) (h : k v st = some r) : ∃ v st', NOk E s st o v st' ∧ k v st' = some r :=
  val_ok wf h fun g a w q => pureOp_run hp q w

theorem Ro_of {g : Gh} {a : Act} {x : Option Operand} {l : List AV} (h : mapO (look E s) x.toList = some l) (hr : ∀ y, x = some y → RelO E g s a y) : Ro g l.head? (x.map a.eval) := by
  cases x with
  | none => simp only [Option.toList, mapO] at h; cases h; simp only [List.head?, Ro, Option.map]
  | some y =>
    simp only [Option.toList, mapO] at h
    cases hl : look E s y with
    | none => rw [hl] at h; cases h
    | some b => rw [hl] at h; cases h; exact ⟨_, rfl, hr y rfl b hl⟩

theorem Rl_of {g : Gh} {a : Act} : ∀ {xs : List Operand} {l : List AV}, mapO (look E s) xs = some l → (∀ y ∈ xs, RelO E g s a y) → Rl g l (xs.map a.eval)
  | [], l, h, _ => by simp only [mapO] at h; cases h; exact Rl.nil
  | x :: xs, l, h, hr => by
    simp only [mapO] at h
    cases hl : look E s x with
    | none => rw [hl] at h; cases h
    | some b =>
      rw [hl] at h
      cases hm : mapO (look E s) xs with
      | none => rw [hm] at h; cases h
      | some bs =>
        rw [hm] at h; cases h
        exact Rl.cons (hr x (List.mem_cons_self ..) b hl) (Rl_of hm fun y hy => hr y (List.mem_cons_of_mem _ hy))

theorem Rp_of {g : Gh} {a : Act} : ∀ {ps : List (Nat × Operand)} {l : List (Nat × AV)}, partsA E s ps = some l → (∀ p ∈ ps, RelO E g s a p.2) → Rp g l (ps.map fun (i, x) => (i, a.eval x))
  | [], l, h, _ => by simp only [partsA] at h; cases h; simp only [Rp, List.map]
  | (i, x) :: ps, l, h, hr => by
    simp only [partsA] at h
    cases hl : look E s x with
    | none => rw [hl] at h; cases h
    | some b =>
      rw [hl] at h
      cases hm : partsA E s ps with
      | none => rw [hm] at h; cases h
      | some bs =>
        rw [hm] at h; cases h
        simp only [Rp, List.map]
        exact ⟨_, _, rfl, hr _ (List.mem_cons_self ..) b hl, Rp_of hm fun y hy => hr y (List.mem_cons_of_mem _ hy)⟩

theorem parts_rel {g : Gh} {a : Act} {ps : Array (Nat × Operand)} (hr : ∀ y ∈ (ps.toList.map (·.2)).toArray, RelO E g s a y) : ∀ p ∈ ps.toList, RelO E g s a p.2 := fun p hp => hr p.2 (by simp; exact ⟨p.1, by simpa using hp⟩)

theorem equalIn_run (n : Nat) {P : Program} {t : TypeId} {d : TypeDesc} (hu : P.underlying t = some d) {u v : Value} {b : Bool} (w : World)
    (h : (match d, u, v with
      | .pointer _, .pointer none, .pointer b => pure b.isNone
      | .pointer _, .pointer (some _), .pointer none => pure false
      | .pointer elem, .pointer (some a), .pointer (some b) => do
        if (← sizeOf elem) ≠ 0 then sameAddr a b
        else if a == b then pure true
        else pure ((← choose .zeroSizeEq) = 1)
      | .slice _, .slice none _ _, .slice b _ _ => pure b.isNone
      | .slice _, .slice (some _) _ _, .slice none _ _ => pure false
      | .map _ _, .map none, .map b => pure b.isNone
      | .map _ _, .map (some _), .map none => pure false
      | .func _ _ _, .nilFunc, .nilFunc => pure true
      | .func _ _ _, .nilFunc, .func _ _ _ | .func _ _ _, .func _ _ _, .nilFunc => pure false
      | .interface _, .nilIface, .iface _ _ | .interface _, .iface _ _, .nilIface => pure false
      | _, _, _ => stuck "" : Sem Bool).run P w = .ok b w) : (Op.equalIn (n + 1) t u v).run P w = .ok b w := by
  simp only [Op.equalIn, Sem.run_bind, und_run hu, Result.andThen_ok]
  split at h <;> first
    | exact h
    | (exfalso; revert h; simp [stuck, Sem.run]; done)
theorem equal_of {P : Program} {t : TypeId} {u v : Value} {b : Bool} {w : World} (h : ∀ n, (Op.equalIn (n + 1) t u v).run P w = .ok b w) : (Op.equal t u v).run P w = .ok b w := h 9999
theorem bin_of_equal {P : Program} {t : TypeId} {u v : Value} {b : Bool} {w : World} (h : (Op.equal t u v).run P w = .ok b w) (hk : (match u, v with | .pointer _, .pointer _ => true | .slice _ _ _, .slice _ _ _ => true | .map _, .map _ => true | .func _ _ _, .nilFunc => true | .nilFunc, .func _ _ _ => true | .iface _ _, .nilIface => true | .nilIface, .iface _ _ => true | _, _ => false) = true) :
    (∀ x y : Operand, (eqGuard .eql t x y u v).run P w = .ok () w) ∧ (binOp .eql t u v).run P w = .ok (.bool b) w ∧ (∀ x y : Operand, (eqGuard .neq t x y u v).run P w = .ok () w) ∧ (binOp .neq t u v).run P w = .ok (.bool !b) w := by
  have e : (do pure (.bool (← Op.equal t u v)) : Sem Value).run P w = .ok (.bool b) w := by simp only [Sem.run_bind, h, Result.andThen_ok, Sem.run_pure]
  have n : (do pure (.bool (!(← Op.equal t u v))) : Sem Value).run P w = .ok (.bool !b) w := by simp only [Sem.run_bind, h, Result.andThen_ok, Sem.run_pure]
  split at hk <;> first
    | exact ⟨fun _ _ => rfl, e, fun _ _ => rfl, n⟩
    | cases hk

theorem eq_run {t : TypeId} {x y : AV} {b : Bool} (h : evEq E t x y = some b) {g : Gh} {u v : Value} (hu : Rv g x u) (hv : Rv g y v) (w : World) :
    (∀ x y : Operand, (eqGuard .eql t x y u v).run E.P w = .ok () w) ∧ (binOp .eql t u v).run E.P w = .ok (.bool b) w ∧ (∀ x y : Operand, (eqGuard .neq t x y u v).run E.P w = .ok () w) ∧ (binOp .neq t u v).run E.P w = .ok (.bool !b) w := by
  unfold evEq at h
  split at h
  case h_1 =>
    cases h
    simp only [Rv] at hu hv; subst hu; subst hv
    refine ⟨fun _ _ => rfl, ?_, fun _ _ => rfl, ?_⟩
    · show (Sem.pure (Value.bool _)).run E.P w = _
      rw [ByteArray.toList_eq, ByteArray.toList_eq, eqBytes_eq]; rfl
    · show (Sem.pure (Value.bool _)).run E.P w = _
      rw [ByteArray.toList_eq, ByteArray.toList_eq, eqBytes_eq]; rfl
  case h_20 e l o m p ht =>
    split at h
    · rename_i n hs
      split at h
      · rename_i hlm
        cases h
        have hlm := beq hlm
        subst hlm
        simp only [Rv] at hu hv
        obtain ⟨b1, q1, rfl⟩ := hu
        obtain ⟨b2, q2, rfl⟩ := hv
        rw [q1] at q2; cases q2
        refine bin_of_equal (equal_of fun n => equalIn_run n ht w ?_) rfl
        simp only [Sem.run_bind, size_run hs, Result.andThen_ok, sameAddr, Sem.run_ite, Sem.run_pure, Nat.add_one_ne_zero, ne_eq, not_false_eq_true, if_true, BEq.rfl, ↓reduceIte]
        congr 1
        by_cases ho : o = p
        · subst ho; simp
        · rw [show Nat.beq o p = false from by cases hb : Nat.beq o p with | false => rfl | true => exact absurd (beq hb) ho]
          simp only [beq_eq_false_iff_ne, ne_eq]
          intro e; injection e; exact ho ‹_›
      · cases h
    · cases h
  case h_21 => cases h
  all_goals
    rename_i ht
    cases h
    simp only [Rv] at hu hv
    first
      | obtain ⟨_, _, rfl⟩ := hu
      | obtain ⟨_, _, rfl, _⟩ := hu
      | obtain ⟨_, _, _, rfl, _⟩ := hu
      | obtain ⟨_, rfl, _⟩ := hu
      | subst hu
    first
      | obtain ⟨_, _, rfl⟩ := hv
      | obtain ⟨_, _, rfl, _⟩ := hv
      | obtain ⟨_, _, _, rfl, _⟩ := hv
      | obtain ⟨_, rfl, _⟩ := hv
      | subst hv
    exact bin_of_equal (equal_of fun n => equalIn_run n ht w rfl) rfl

theorem guard_int (op : BinOp) (t : TypeId) (x y : Operand) (j k : IntKind) (a b : Int) (P : Program) (w : World) : (eqGuard op t x y (.int j a) (.int k b)).run P w = .ok () w := by
  unfold eqGuard
  cases op <;> rfl
theorem guard_add (t : TypeId) (x y : Operand) (u v : Value) (P : Program) (w : World) : (eqGuard .add t x y u v).run P w = .ok () w := rfl

/-- What is told of numbers that are not known is right. -/
def FactsOk (E : Env) : Prop := ∀ op t x y v, E.facts op t x y = some v → ∀ g : Gh, g.val = E.val → ∀ a b, Rv g x a → Rv g y b → ∀ w, (∀ p q : Operand, (eqGuard op t p q a b).run E.P w = .ok () w) ∧ ∃ u, (binOp op t a b).run E.P w = .ok u w ∧ Rv g v u

theorem bin_ok (hfacts : FactsOk E) {op : BinOp} {t yt : TypeId} {x y : Operand} (ho : o.op = .binOp op t x y yt) {a b v : AV} (ha : look E s x = some a) (hb : look E s y = some b) (h : evBin E s o op t a b = some v) (wf : st.Wf) (hk : k v st = some r) : ∃ v st', NOk E s st o v st' ∧ k v st' = some r := by
  have mem : x ∈ o.op.operands ∧ y ∈ o.op.operands := by rw [ho]; simp [Op.operands]
  have fin : ∀ {u : Value} {ac : Act} {w : World}, (eqGuard op t x y (ac.eval x) (ac.eval y)).run E.P w = .ok () w → (binOp op t (ac.eval x) (ac.eval y)).run E.P w = .ok u w → (execOp ac.eval o).run E.P w = .ok (.value u) w := fun h1 h2 => by
    simp only [execOp, ho, Sem.run_bind, h1, h2, Result.andThen_ok, Sem.run_pure]
  unfold evBin at h
  split at h
  · -- texts one behind the other
    rename_i p q
    split at h
    · rename_i hle
      cases h
      have hle := ble hle
      refine val_ok wf hk fun g ac w hop => ?_
      have r1 := hop x mem.1 _ ha
      have r2 := hop y mem.2 _ hb
      simp only [Rv] at r1 r2
      refine ⟨.string ⟨⟨p ++ q⟩⟩, fin (by rfl) ?_, by simp only [Rv]⟩
      rw [r1, r2]
      show (Op.stringOp .add _ _).run E.P w = _
      unfold Op.stringOp
      have hsz : ¬ ((((⟨⟨p⟩⟩ : ByteArray).size + (⟨⟨q⟩⟩ : ByteArray).size : Nat) : Int) > IntKind.i64.max) := by
        have e1 : (⟨⟨p⟩⟩ : ByteArray).size = p.length := rfl
        have e2 : (⟨⟨q⟩⟩ : ByteArray).size = q.length := rfl
        have e3 : IntKind.i64.max = 9223372036854775807 := by decide
        rw [e1, e2, e3]; omega
      rw [if_neg hsz]
      show Result.ok (Value.string (⟨⟨p⟩⟩ ++ ⟨⟨q⟩⟩)) w = _
      congr 2
    · cases h
  · -- a number that is not known
    rename_i j i _
    refine ⟨v, st, ⟨.refl st, wf, fun _ _ h => h, fun g ac w base st2 q0 q1 q2 _ _ _ _ => ?_⟩, hk⟩
    obtain ⟨z1, u, z2, z3⟩ := hfacts _ _ _ _ _ h g q0 _ _ (q1 x mem.1 _ ha) (q1 y mem.2 _ hb) w
    exact .inl ⟨u, w, fin (z1 x y) z2, g, z3, q2, Goes.refl base g st w⟩
  · -- numbers
    rename_i j m k2 n _
    split at h
    · rename_i u hp
      refine val_ok wf hk fun g ac w hop => ?_
      have r1 := hop x mem.1 _ ha
      have r2 := hop y mem.2 _ hb
      simp only [Rv] at r1 r2
      exact ⟨u, fin (by rw [r1, r2]; exact guard_int ..) (by rw [r1, r2]; exact pureOf_run hp w), atomV_rv h⟩
    · cases h
  · split at h
    · rename_i c hc
      cases h
      refine val_ok wf hk fun g ac w hop => ?_
      obtain ⟨q1, q2, _, _⟩ := eq_run hc (hop x mem.1 _ ha) (hop y mem.2 _ hb) w
      exact ⟨.bool c, fin (q1 x y) q2, by simp only [Rv]⟩
    · exact pure_ok wf h hk
  · split at h
    · rename_i c hc
      cases h
      refine val_ok wf hk fun g ac w hop => ?_
      obtain ⟨_, _, q1, q2⟩ := eq_run hc (hop x mem.1 _ ha) (hop y mem.2 _ hb) w
      exact ⟨.bool !c, fin (q1 x y) q2, by simp only [Rv]⟩
    · exact pure_ok wf h hk
  · exact pure_ok wf h hk

theorem bytesIn_cells {g : Gh} {b : Nat} : ∀ {rows : List (List AV)} {bs : List UInt8} {o : Nat}, bytesIn rows = some bs → Rr g 1 b rows o → ∃ ns : List Nat, bs = ns.map UInt8.ofNat ∧ ns.length = rows.length ∧ ∀ i, i < rows.length → g.fz b (o + i) = some (.int .u8 ((ns.getD i 0 : Nat) : Int))
  | [], bs, o, h, _ => by simp only [bytesIn] at h; cases h; exact ⟨[], rfl, rfl, fun i hi => by simp at hi⟩
  | r :: rows, bs, o, h, hr => by
    unfold bytesIn at h
    split at h
    · cases ‹r :: rows = []›
    · rename_i n rest e
      cases e
      split at h
      · rename_i l hl
        cases h
        simp only [Rr] at hr
        obtain ⟨_, h2, h3⟩ := hr
        obtain ⟨ns, e1, e2, e3⟩ := bytesIn_cells hl h3
        refine ⟨n :: ns, by rw [e1]; rfl, by simp [e2], fun i hi => ?_⟩
        cases i with
        | zero =>
          simp only [Rc] at h2
          obtain ⟨⟨v, hv, rv⟩, _⟩ := h2
          simp only [Rv] at rv
          rw [Nat.add_zero, hv, rv]; rfl
        | succ i =>
          have := e3 i (by simpa using hi)
          rw [show o + 1 + i = o + (i + 1) by omega] at this
          rw [this]; rfl
      · cases h
    · cases h

theorem to_string_run {src dst e : TypeId} {b o' n : Nat} {own : Own} {rows : List (List AV)} {bs : List UInt8} (hs : E.P.underlying src = some (.slice e)) (hd : E.P.underlying dst = some .string) (he : E.P.underlying e = some (.int .u8)) (hb : bytesIn rows = some bs) {g : Gh} {base : Nat} {st2 : St} {w : World} (hw : Rw g base st2 w) {v : Value} (hv : Rv g (.lst 1 own rows) v) :
    (convert src dst v).run E.P w = .ok (.string ⟨⟨bs⟩⟩) w := by
  simp only [Rv] at hv
  obtain ⟨b, off, cap, rfl, _, _, hrr⟩ := hv
  obtain ⟨ns, e1, e2, e3⟩ := bytesIn_cells hb hrr
  have := run_convert_bytes_arg (P := E.P) w src e hs he b off rows.length cap (ns.map fun (n : Nat) => (n : Int)) (by simp [e2]) (fun i hi => by
    rw [(hw.fz _ _ _ (e3 i hi)).1]
    congr 2
    have hi' : i < ns.length := by omega
    simp [List.getD, hi']) dst hd
  rw [this]
  congr 2
  unfold strOfNums
  rw [e1]
  apply ByteArray.ext
  simp

theorem flat_bytes : ∀ (b : List UInt8), (b.map fun c => [AV.int .u8 (c.toNat : Int)]).flatten = b.map fun c => AV.int .u8 (c.toNat : Int)
  | [] => rfl
  | c :: r => by simp only [List.map_cons, List.flatten_cons, flat_bytes r]; rfl

theorem of_string_ok {src dst e : TypeId} {x : Operand} (ho : o.op = .convert src dst x) {b : List UInt8} (hx : look E s x = some (.str b)) (hs : E.P.underlying src = some .string) (hd : E.P.underlying dst = some (.slice e)) (he : E.P.underlying e = some (.int .u8))
    (hk : k (.lst 1 (.tok st.next) (b.map fun c => [.int .u8 (c.toNat : Int)])) ⟨st.heap, st.next + 1, st.spent⟩ = some r) (wf : st.Wf) : ∃ v st', NOk E s st o v st' ∧ k v st' = some r := by
  refine ⟨_, _, ⟨next_le, next_wf wf, fun _ _ h => h, fun g a w base st2 _ q1 q2 q3 q4 q5 q6 => ?_⟩, hk⟩
  have r1 := q1 x (by rw [ho]; simp [Op.operands]) _ hx
  simp only [Rv] at r1
  have hrun := run_bytes_of_string (P := E.P) w src dst e ⟨⟨b⟩⟩ hs hd he
  have hge := grownCap_ge w b.length 0 e
  have hsz : (⟨⟨b⟩⟩ : ByteArray).size = b.length := rfl
  rw [hsz] at hrun
  have hrow : (bytesRow ⟨⟨b⟩⟩ (grownCap w b.length 0 e)).toList = b.map (fun c => Value.int .u8 (c.toNat : Int)) ++ List.replicate (grownCap w b.length 0 e - b.length) (.int .u8 0) := by
    unfold bytesRow
    simp [hsz]
  have hrsz : (bytesRow ⟨⟨b⟩⟩ (grownCap w b.length 0 e)).size = grownCap w b.length 0 e := by
    rw [← Array.length_toList, hrow]; simp; omega
  have hflat : (b.map fun c => [AV.int .u8 (c.toNat : Int)]).flatten = b.map fun c => AV.int .u8 (c.toNat : Int) := by
    exact flat_bytes b
  have hlen1 : ∀ r ∈ (b.map fun c => [AV.int .u8 (c.toNat : Int)]), r.length = 1 := fun r hr => by obtain ⟨c, _, rfl⟩ := List.mem_map.1 hr; rfl
  have htake : (bytesRow ⟨⟨b⟩⟩ (grownCap w b.length 0 e)).toList.take (b.length * 1) = b.map (fun c => Value.int .u8 (c.toNat : Int)) := by
    rw [hrow, List.take_append_of_le_length (by simp), List.take_of_length_le (by simp)]
  have hrl : Rl g (b.map fun c => AV.int .u8 (c.toNat : Int)) (b.map (fun c => Value.int .u8 (c.toNat : Int))) := by
    clear hrow hrsz htake hflat hlen1 hrun hge hsz r1 hx hk
    induction b with
    | nil => exact Rl.nil
    | cons c r ih => exact Rl.cons (by simp only [Rv]) ih
  obtain ⟨g', a1, a2, a3⟩ := newList (st := st) (st' := ⟨st.heap, st.next + 1, st.spent⟩) (own := .tok st.next) (ty := e) (fr := ((bytesRow ⟨⟨b⟩⟩ (grownCap w b.length 0 e)).size, (bytesRow ⟨⟨b⟩⟩ (grownCap w b.length 0 e)).size + 1)) (len := b.length) (cap := grownCap w b.length 0 e) (s := 1)
    (cs := (b.map fun c => [AV.int .u8 (c.toNat : Int)]).flatten) (vs0 := (bytesRow ⟨⟨b⟩⟩ (grownCap w b.length 0 e)).toList) (w1 := w.drew) q2 rfl ((Below.refl base w).drew) (q5 st.next (Nat.le_refl _) (Nat.lt_succ_self _)).2 next_le (Nat.le_refl _) (Nat.lt_succ_self _)
    (fun i hi => by simp at hi ⊢ <;> omega) (by rw [htake, hflat]; exact hrl) (fun v hv => by rw [htake] at hv; obtain ⟨c, _, rfl⟩ := List.mem_map.1 hv; rfl) (by rw [hflat]; simp) (by rw [Array.length_toList, hrsz, Nat.mul_one]) hge (.inl rfl)
  have hrw := rowsOf_flat hlen1
  rw [List.length_map] at hrw
  rw [hrw] at a1
  exact .inl ⟨_, _, by simp only [execOp, ho, Sem.run_bind, r1, hrun, Result.andThen_ok, Sem.run_pure], g', a1, a2, a3⟩
end
end Go.VE
