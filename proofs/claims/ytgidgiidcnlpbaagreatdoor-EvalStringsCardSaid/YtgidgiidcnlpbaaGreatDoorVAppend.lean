/- The evaluation is right: append, make. No Go program is imported. -/
import Derived.Test.YtgidgiidcnlpbaaGreatDoorVList
import Derived.Laws.AppendOwn
set_option linter.unusedSimpArgs false
set_option linter.unusedVariables false
namespace Go.VE
open Go.RowKit

theorem rr_flat {g : Gh} {s b : Nat} : ∀ {rows : List (List AV)} {o : Nat}, Rr g s b rows o → ∃ vs, Rl g rows.flatten vs ∧ vs.length = rows.length * s ∧ ∀ (j : Nat) (u : Value), vs[j]? = some u → g.fz b (o + j) = some u
  | [], o, _ => ⟨[], Rl.nil, by simp, fun j u h => by simp at h⟩
  | r :: rs, o, h => by
    simp only [Rr] at h
    obtain ⟨h1, h2, h3⟩ := h
    obtain ⟨v1, a1, a2⟩ := vals_of (g := g) (fun i v => g.fz b i = some v) r o (fun j c hc => h2.get hc)
    obtain ⟨v2, b1, b2, b3⟩ := rr_flat h3
    have hl := a1.length
    refine ⟨v1 ++ v2, a1.append b1, by simp [b2, Nat.add_mul]; omega, fun j u hu => ?_⟩
    rw [List.getElem?_append] at hu
    split at hu
    · exact a2 j u hu
    · have := b3 _ u hu
      rw [show o + s + (j - v1.length) = o + j by omega] at this
      exact this
theorem rowsOf_flat {s : Nat} : ∀ {rows : List (List AV)}, (∀ r ∈ rows, r.length = s) → rowsOf s rows.length rows.flatten = rows
  | [], _ => rfl
  | r :: rs, h => by
    have hr := h r (List.mem_cons_self ..)
    simp only [List.length_cons, rowsOf, List.flatten_cons]
    rw [List.take_append_of_le_length (by omega), List.take_of_length_le (by omega), List.drop_append_of_le_length (by omega), List.drop_of_length_le (by omega), List.nil_append, rowsOf_flat (fun x hx => h x (List.mem_cons_of_mem _ hx))]
theorem flat_length {s : Nat} : ∀ {rows : List (List AV)}, (∀ r ∈ rows, r.length = s) → rows.flatten.length = rows.length * s
  | [], _ => by simp
  | r :: rs, h => by
    have hr := h r (List.mem_cons_self ..)
    simp only [List.flatten_cons, List.length_append, List.length_cons, Nat.add_mul, flat_length (fun x hx => h x (List.mem_cons_of_mem _ hx)), hr]
    omega
theorem Rr.len {g : Gh} {s b o : Nat} {rows : List (List AV)} (h : Rr g s b rows o) : ∀ r ∈ rows, r.length = s := fun r hr => by
  obtain ⟨i, hi⟩ := List.mem_iff_getElem?.1 hr
  exact (h.get hi).1
theorem Rr.append {g : Gh} {s b : Nat} : ∀ {rows rs : List (List AV)} {o : Nat}, Rr g s b rows o → Rr g s b rs (o + rows.length * s) → Rr g s b (rows ++ rs) o
  | [], rs, o, _, k => by simpa using k
  | r :: rows, rs, o, h, k => by
    simp only [Rr, List.cons_append] at h ⊢
    refine ⟨h.1, h.2.1, Rr.append h.2.2 ?_⟩
    rw [show o + s + rows.length * s = o + (r :: rows).length * s by simp [Nat.add_mul]; omega]
    exact k
theorem rr_of_flat {g : Gh} {s b : Nat} : ∀ {rows : List (List AV)} {vs : List Value} {o : Nat}, Rl g rows.flatten vs → (∀ r ∈ rows, r.length = s) → (∀ (j : Nat) (u : Value), vs[j]? = some u → g.fz b (o + j) = some u) → Rr g s b rows o
  | [], _, _, _, _, _ => by simp only [Rr]
  | r :: rows, vs, o, h, hl, hz => by
    have hr := hl r (List.mem_cons_self ..)
    simp only [List.flatten_cons] at h
    have hvl := h.length
    simp only [List.length_append] at hvl
    simp only [Rr]
    refine ⟨hr, Rc.of fun i a ha => ?_, rr_of_flat (vs := vs.drop s) (by
      have := h.drop s
      rwa [List.drop_append_of_le_length (by omega), List.drop_of_length_le (by omega), List.nil_append] at this) (fun x hx => hl x (List.mem_cons_of_mem _ hx)) (fun j u hu => ?_)⟩
    · have hi : i < r.length := by
        rcases Nat.lt_or_ge i r.length with q | q
        · exact q
        · rw [List.getElem?_eq_none q] at ha; cases ha
      obtain ⟨v, hv, rv⟩ := h.get (i := i) (a := a) (by rw [List.getElem?_append_left hi]; exact ha)
      exact ⟨v, hz i v hv, rv⟩
    · rw [List.getElem?_drop] at hu
      have := hz _ u hu
      rw [show o + s + j = o + (s + j) by omega]; exact this

/-- What is appended. -/
theorem rowsIn_spec {s : Nat} {y : AV} {rs : List (List AV)} (h : rowsIn s y = some rs) {P : Program} {tx : TypeId} {g : Gh} {base : Nat} {st : St} {w : World} (hw : Rw g base st w) {v : Value} (hv : Rv g y v) (hk : srcOk (P.underlying tx) y = true) :
    ∃ news, Src P s tx v rs.length news w ∧ Rl g rs.flatten news ∧ (∀ r ∈ rs, r.length = s) := by
  have hfit : ∀ e, y = .str e → P.underlying tx = some .string := fun e he => by
    subst he
    cases hu : P.underlying tx with
    | none => rw [hu] at hk; cases hk
    | some d => rw [hu] at hk; cases d <;> first | rfl | cases hk
  have hsl : (∀ e, y ≠ .str e) → ∃ e', P.underlying tx = some (.slice e') := fun hn => by
    cases hu : P.underlying tx with
    | none => rw [hu] at hk; cases hk
    | some d =>
      rw [hu] at hk
      cases d with
      | slice e' => exact ⟨e', rfl⟩
      | string =>
        cases y with
        | str b => exact absurd rfl (hn b)
        | _ => cases hk
      | _ => cases hk
  clear hk
  cases y with
  | nils =>
    simp only [rowsIn] at h; cases h
    simp only [Rv] at hv; subst hv
    obtain ⟨e', he⟩ := hsl (fun e => by simp)
    exact ⟨[], Src.ofNil _ he 0, Rl.nil, fun r hr => by cases hr⟩
  | lst n own rows =>
    simp only [rowsIn] at h
    split at h
    · rename_i hn
      cases h
      have hn := beq hn
      subst hn
      simp only [Rv] at hv
      obtain ⟨b, o, cap, rfl, _, _, hrr⟩ := hv
      obtain ⟨vs, a1, a2, a3⟩ := rr_flat hrr
      obtain ⟨e', he⟩ := hsl (fun e => by simp)
      refine ⟨vs, Src.ofSlice _ he ⟨b, o, none⟩ _ cap vs a2 (fun j u hu => by rw [addr_add]; exact (hw.fz _ _ _ (a3 j u hu)).1) (fun u hu => ?_), a1, hrr.len⟩
      obtain ⟨i, hi⟩ := List.mem_iff_getElem?.1 hu
      exact (hw.fz _ _ _ (a3 i u hi)).2
    · cases h
  | str bs =>
    simp only [rowsIn] at h
    split at h
    · rename_i hn
      cases h
      have hn := beq hn
      subst hn
      simp only [Rv] at hv; subst hv
      have hs := Src.ofString (P := P) w (hfit bs rfl) (⟨⟨bs⟩⟩ : ByteArray)
      refine ⟨byteCells ⟨⟨bs⟩⟩, ?_, ?_, fun r hr => ?_⟩
      · rw [List.length_map]; exact hs
      · unfold byteCells
        clear hs
        induction bs with
        | nil => exact Rl.nil
        | cons c r ih =>
          simp only [List.map_cons, List.flatten_cons, List.singleton_append]
          exact Rl.cons (by simp only [Rv]) (ih (fun e _ => hfit _ rfl) (fun q => absurd rfl (q r)))
      · obtain ⟨c, _, rfl⟩ := List.mem_map.1 hr
        rfl
    · cases h
  | _ => simp [rowsIn] at h

theorem bytes_info {E : Env} {e : TypeId} {i : TypeInfo} (h : E.P.info? e = some i) : bytesOf E e = i.bytes := by unfold bytesOf; rw [h]

theorem Goes.fill {base : Nat} {g : Gh} {st : St} {w : World} {st' : St} {b e t r : Nat} {vs : List Value} {u : Nat} (hb : base ≤ b) (le : g.le (g.fill b e vs t u r)) (hle : st.le st') (h1 : st.next ≤ u) (h2 : u < st'.next) (hs : st.spent.get t = none) (hs' : st'.spent.get t = some ()) : Goes base g st st' w (g.fill b e vs t u r) (w.setCells b e vs) :=
  ⟨le, hle, setCells_below hb _ _ _, fun _ _ q => .inl q, fun x y q => by
    change (if x = u then some (b, e + vs.length, r) else g.room x) = some y at q
    split at q
    · rename_i e; subst e; exact .inr ⟨h1, h2⟩
    · exact .inl q, fun x q => by
    rcases q with q | q
    · subst q; exact .inr ⟨hs, hs'⟩
    · exact .inl q, fun c o v q => by
    change (if c = b ∧ e ≤ o ∧ o < e + vs.length then vs[o - e]? else g.fz c o) = some v at q
    split at q
    · rename_i hh; exact .inr (by rw [hh.1]; exact hb)
    · exact .inl q⟩

theorem evAppend_ok {R : Type} {E : Env} {s : Slots} {st : St} {o : Oper} {c : Call} (ho : o.op = .call c) (hb : c.callee = .builtin .append) {x y : AV} (ha : mapO (look E s) c.args.toList = some [x, y]) {t tx : TypeId} (ht : c.argTypes[0]? = some t) (htx : c.argTypes[1]? = some tx)
    {k : AV → St → Option R} {r : R} (h : evAppend E st t tx x y k = some r) (wf : st.Wf) : ∃ v st', NOk E s st o v st' ∧ k v st' = some r := by
  -- the operation, at its values
  have hrun : ∀ (a : Act), ∃ ox oy, c.args = #[ox, oy] ∧ look E s ox = some x ∧ look E s oy = some y ∧ ∀ w, (execOp a.eval o).run E.P w = ((Builtin.append_ c.argTypes o.type #[a.eval ox, a.eval oy]).run E.P w).andThen fun v w => .ok (.value v) w := by
    intro a
    obtain ⟨l1, l2⟩ := mapO_get ha
    obtain ⟨args⟩ : Nonempty (c.args = c.args) := ⟨rfl⟩
    have hl : c.args.toList.length = 2 := l1
    obtain ⟨ox, oy, e⟩ : ∃ ox oy, c.args.toList = [ox, oy] := by
      match hh : c.args.toList, hl with
      | [p, q], _ => exact ⟨p, q, rfl⟩
    have e2 : c.args = #[ox, oy] := by rw [← Array.toArray_toList (xs := c.args), e]
    obtain ⟨b1, f1, g1⟩ := l2 0 ox (by rw [e]; rfl)
    obtain ⟨b2, f2, g2⟩ := l2 1 oy (by rw [e]; rfl)
    simp at g1 g2
    subst g1; subst g2
    refine ⟨ox, oy, e2, f1, f2, fun w => ?_⟩
    have em : (#[ox, oy] : Array Operand).map a.eval = #[a.eval ox, a.eval oy] := by simp
    simp only [execOp, ho, resolve, hb, e2, em, Sem.run_bind, Sem.run_pure, Result.andThen_ok, invoke, builtin]
  have hops : ∀ {ox oy : Operand}, c.args = #[ox, oy] → ox ∈ o.op.operands ∧ oy ∈ o.op.operands := fun e => by
    rw [ho]; simp [Op.operands, Call.operands, hb, e]
  have hat : ∀ (z : Array TypeId), z = c.argTypes → True := fun _ _ => trivial
  unfold evAppend at h
  split at h
  · rename_i e hu hsrc
    split at h
    · rename_i n z hs hz
      split at h
      · rename_i rs hzl hrs
        have hzl := beq hzl
        obtain ⟨i, hi, hsz⟩ : ∃ i, E.P.info? e = some i ∧ i.size = n + 1 := by
          unfold size at hs
          cases hi : E.P.info? e with
          | none => rw [hi] at hs; cases hs
          | some i => rw [hi] at hs; exact ⟨i, rfl, by simpa using hs⟩
        have hby := bytes_info hi
        -- what both ways of appending need
        have app : ∀ (v1 v2 : Value), Builtin.append_ c.argTypes o.type #[v1, v2] = Builtin.append_ #[t, tx] o.type #[v1, v2] := fun v1 v2 => by
          simp only [Builtin.append_, ht, htx]
          rfl
        -- the arm that grows
        have grow : ∀ {g : Gh} {w : World} {base : Nat} {st2 st' : St} {bo : Option Addr} {len cap : Nat} {rows : List (List AV)} {olds : List Value} {v : Value} {news : List Value} (hw : Rw g base st2 w) (_ : Src E.P (n + 1) tx v rs.length news w) (_ : Rl g rs.flatten news) (_ : ∀ r ∈ rs, r.length = n + 1)
            (_ : rows.length = len) (_ : Rl g rows.flatten olds) (_ : ∀ r ∈ rows, r.length = n + 1) (_ : ∀ v ∈ olds, v.oneCell' = true) (_ : (Builtin.firstCells (n + 1) len (.slice bo len cap)).run E.P w.drew = .ok olds.toArray w.drew)
            (_ : cap < len + rs.length) (_ : len + rs.length ≤ 1073741824) (_ : (len + rs.length) * bytesOf E e ≤ 140737488355328) (_ : g.room st.next = none) (_ : st.le st') (_ : st.next < st'.next),
            ∃ v' w' g', (Builtin.append_ #[t, tx] o.type #[.slice bo len cap, v]).run E.P w = .ok v' w' ∧ Rv g' (.lst (n + 1) (.tok st.next) (rows ++ rs)) v' ∧ Rw g' base st2 w' ∧ Goes base g st st' w g' w' := by
          intro g w base st2 st' bo len cap rows olds v news hw hsr hrn hrl hlen hro hrol holds1 hold hg h30 hbytes hroom hle hnext
          obtain ⟨zv, z1, z1', z2⟩ := zero_run hz g
          have hzi : i.zero = some zv := by rw [hi] at z1'; simpa using z1'
          have hzs : zv.cells.size = n + 1 := by have := z2.length; simp at this; omega
          have hrun := run_append_grow_src (P := E.P) w t tx o.type e i zv hu hi hzi bo len cap olds (by rw [hsz]; exact hold) v rs.length news (by rw [hsz]; exact hsr) hg (by omega) (growslice_fits hg (by rw [← hby]; exact hbytes))
          have hol : olds.length = len * (n + 1) := by rw [← hro.length, flat_length hrol, hlen]
          have hnl := hsr.newsLen
          have hge := grownCap_ge w (len + rs.length) cap e
          obtain ⟨g', a1, a2, a3⟩ := newList (st := st) (st' := st') (own := .tok st.next) (ty := e) (fr := (0, 0)) (len := len + rs.length) (cap := grownCap w (len + rs.length) cap e) (s := n + 1) (cs := (rows ++ rs).flatten)
            (vs0 := olds ++ news ++ (Builtin.zeroCells zv.cells (grownCap w (len + rs.length) cap e - (len + rs.length))).toList) (w1 := w.drew) hw rfl ((Below.refl base w).drew) hroom hle (Nat.le_refl _) hnext (by simp)
            (by
              rw [List.take_append_of_le_length (by simp [hol, hnl, Nat.add_mul]), List.take_of_length_le (by simp [hol, hnl, Nat.add_mul]), List.flatten_append]
              exact hro.append hrn)
            (fun u hu => by
              rw [List.take_append_of_le_length (by simp [hol, hnl, Nat.add_mul]), List.take_of_length_le (by simp [hol, hnl, Nat.add_mul])] at hu
              rcases List.mem_append.1 hu with q | q
              · exact holds1 u q
              · exact hsr.one u q)
            (by rw [flat_length (s := n + 1) (fun r hr => by rcases List.mem_append.1 hr with q | q; exact hrol r q; exact hrl r q), List.length_append, hlen])
            (by
              simp only [List.length_append, hol, hnl, Array.length_toList, size_zeroCells, hzs]
              rw [← Nat.add_mul, ← Nat.add_mul]
              congr 1; omega)
            hge (.inl rfl)
          refine ⟨_, _, g', hrun, ?_, ?_, ?_⟩
          · rw [show (rowsOf (n + 1) (len + rs.length) (rows ++ rs).flatten) = rows ++ rs from by
              have := rowsOf_flat (s := n + 1) (rows := rows ++ rs) (fun r hr => by rcases List.mem_append.1 hr with q | q; exact hrol r q; exact hrl r q)
              rwa [List.length_append, hlen] at this] at a1
            exact a1
          · have : (⟨olds ++ news ++ (Builtin.zeroCells zv.cells (grownCap w (len + rs.length) cap e - (len + rs.length))).toList⟩ : Array Value) = (olds ++ news).toArray ++ Builtin.zeroCells zv.cells (grownCap w (len + rs.length) cap e - (len + rs.length)) := by
              apply Array.ext'; simp
            rw [this] at a2
            exact a2
          · have : (⟨olds ++ news ++ (Builtin.zeroCells zv.cells (grownCap w (len + rs.length) cap e - (len + rs.length))).toList⟩ : Array Value) = (olds ++ news).toArray ++ Builtin.zeroCells zv.cells (grownCap w (len + rs.length) cap e - (len + rs.length)) := by
              apply Array.ext'; simp
            rw [this] at a3
            exact a3
        -- the values, at a frame
        have vals : ∀ (g : Gh) (a : Act), (∀ y ∈ o.op.operands, RelO E g s a y) → ∃ v1 v2, Rv g x v1 ∧ Rv g y v2 ∧ ∀ w, (execOp a.eval o).run E.P w = ((Builtin.append_ #[t, tx] o.type #[v1, v2]).run E.P w).andThen fun v w => .ok (.value v) w := by
          intro g a hop
          obtain ⟨ox, oy, e2, f1, f2, hr⟩ := hrun a
          obtain ⟨m1, m2⟩ := hops e2
          exact ⟨_, _, hop ox m1 x f1, hop oy m2 y f2, fun w => by rw [hr w, app]⟩
        cases x with
        | nils =>
          simp only [] at h
          split at h
          · -- nothing onto nothing
            refine ⟨_, _, NOk.val wf fun g a w base st2 q1 q2 q3 q4 => ?_, h⟩
            obtain ⟨v1, v2, r1, r2, hr⟩ := vals g a q1
            simp only [Rv] at r1; subst r1
            obtain ⟨news, n1, n2, n3⟩ := rowsIn_spec hrs q2 r2 hsrc
            have hn0 : news = [] := List.eq_nil_of_length_eq_zero (by rw [n1.newsLen]; simp)
            subst hn0
            refine ⟨.slice none 0 0, ?_, by simp only [Rv]⟩
            rw [hr w]
            have hk : (match E.P.underlying tx with | some (.int _) => true | _ => false) = false := by
              rcases n1.kind with ⟨e', he⟩ | he <;> rw [he]
            have hlen0 : (Builtin.lenOf v2).run E.P w = .ok 0 w := n1.len w
            have hcells : (Builtin.firstCells (n + 1) 0 v2).run E.P w = .ok #[] w := n1.cells
            rcases n1.kind with ⟨e', he⟩ | he
            · simp [Builtin.append_, und_run hu, und_run he, size_run hs, hlen0, hcells, Sem.run_bind]
            · simp [Builtin.append_, und_run hu, und_run he, size_run hs, hlen0, hcells, Sem.run_bind]
          · -- something onto nothing
            rename_i y1 ys
            split at h
            · rename_i hc
              simp only [Bool.and_eq_true] at hc
              refine ⟨_, _, ⟨next_le, next_wf wf, fun _ _ h => h, fun g a w base st2 _ q1 q2 q3 q4 q5 q6 => ?_⟩, h⟩
              obtain ⟨v1, v2, r1, r2, hr⟩ := vals g a q1
              simp only [Rv] at r1; subst r1
              obtain ⟨news, n1, n2, n3⟩ := rowsIn_spec hrs q2 r2 hsrc
              obtain ⟨v', w', g', a1, a2, a3, a4⟩ := grow (st' := ⟨st.heap, st.next + 1, st.spent⟩) (bo := none) (len := 0) (cap := 0) (rows := []) (olds := []) q2 n1 n2 n3 rfl Rl.nil (fun r hr => by cases hr) (fun r hr => by cases hr) rfl (by simp) (by have := ble hc.2; simpa using this) (by have := ble hc.1; simpa using this) (q5 st.next (Nat.le_refl _) (Nat.lt_succ_self _)).2 next_le (Nat.lt_succ_self _)
              exact .inl ⟨v', w', by rw [hr w, a1]; rfl, g', a2, a3, a4⟩
            · cases h
        | lst m own rows =>
          simp only [] at h
          split at h
          · rename_i hc
            simp only [Bool.and_eq_true] at hc
            have hm := beq hc.1
            have h30 := ble hc.2.1
            have hbb := ble hc.2.2
            subst hm
            split at h
            · -- nothing onto a list
              refine ⟨_, _, NOk.val wf fun g a w base st2 q1 q2 q3 q4 => ?_, h⟩
              obtain ⟨v1, v2, r1, r2, hr⟩ := vals g a q1
              have r1' := r1
              simp only [Rv] at r1
              obtain ⟨b, off, cap, rfl, k1, k2, k3⟩ := r1
              obtain ⟨news, n1, n2, n3⟩ := rowsIn_spec hrs q2 r2 hsrc
              have hn0 : news = [] := List.eq_nil_of_length_eq_zero (by rw [n1.newsLen]; simp)
              subst hn0
              refine ⟨_, ?_, r1'⟩
              rw [hr w, run_append_room_src w t tx o.type e i hu hi b off rows.length cap v2 0 [] (by rw [hsz]; exact n1) (by omega) (fun j hj => by simp at hj) (fun j hj => by simp at hj)]
              rfl
            · rename_i y1 ys
              -- the list's cells, and that they grow
              have lists : ∀ {g : Gh} {w : World} {base : Nat} {st2 : St} {v1 : Value}, Rw g base st2 w → Rv g (.lst (n + 1) own rows) v1 → ∃ b off cap olds, v1 = .slice (some ⟨b, off, none⟩) rows.length cap ∧ rows.length ≤ cap ∧ OwnOk g b (off + rows.length * (n + 1)) (n + 1) rows.length cap own ∧ Rr g (n + 1) b rows off ∧
                  Rl g rows.flatten olds ∧ (∀ r ∈ rows, r.length = n + 1) ∧ (∀ v ∈ olds, v.oneCell' = true) ∧ (Builtin.firstCells (n + 1) rows.length (.slice (some ⟨b, off, none⟩) rows.length cap)).run E.P w.drew = .ok olds.toArray w.drew := by
                intro g w base st2 v1 hw r1
                simp only [Rv] at r1
                obtain ⟨b, off, cap, rfl, k1, k2, k3⟩ := r1
                obtain ⟨vs, a1, a2, a3⟩ := rr_flat k3
                refine ⟨b, off, cap, vs, rfl, k1, k2, k3, a1, k3.len, fun u hu => ?_, run_firstCells_some w.drew (n + 1) rows.length ⟨b, off, none⟩ rows.length cap vs a2 fun j u hu => ?_⟩
                · obtain ⟨j, hj⟩ := List.mem_iff_getElem?.1 hu
                  exact (hw.fz _ _ _ (a3 j u hj)).2
                · rw [addr_add]; exact (hw.fz _ _ _ (a3 j u hu)).1
              split at h
              · -- its capacity is its length
                refine ⟨_, _, ⟨next_le, next_wf wf, fun _ _ h => h, fun g a w base st2 _ q1 q2 q3 q4 q5 q6 => ?_⟩, h⟩
                obtain ⟨v1, v2, r1, r2, hr⟩ := vals g a q1
                obtain ⟨b, off, cap, olds, rfl, k1, k2, k3, k4, k5, k6, k7⟩ := lists q2 r1
                simp only [OwnOk] at k2
                obtain ⟨news, n1, n2, n3⟩ := rowsIn_spec hrs q2 r2 hsrc
                obtain ⟨v', w', g', a1, a2, a3, a4⟩ := grow (st' := ⟨st.heap, st.next + 1, st.spent⟩) q2 n1 n2 n3 rfl k4 k5 k6 k7 (by subst k2; simp) h30 hbb (q5 st.next (Nat.le_refl _) (Nat.lt_succ_self _)).2 next_le (Nat.lt_succ_self _)
                exact .inl ⟨v', w', by rw [hr w, a1]; rfl, g', a2, a3, a4⟩
              · -- a room lies behind it
                rename_i u
                split at h
                · rename_i hsp hul
                  have hul := blt hul
                  rw [Tr.setK_k] at h
                  have hle : st.le ⟨st.heap, st.next + 1, st.spent.set u ()⟩ := ⟨Nat.le_succ _, fun z hz => by
                    show (st.spent.set u ()).get z = some ()
                    rw [Tr.get_set]; split
                    · rfl
                    · exact hz, fun l b hb => ⟨b, hb, Nat.le_refl _, fun _ => rfl⟩⟩
                  refine ⟨_, _, ⟨hle, ?_, fun _ _ h => h, fun g a w base st2 _ q1 q2 q3 q4 q5 q6 => ?_⟩, h⟩
                  · refine ⟨fun l hl => wf.heap l (by have hl : st.next + 1 ≤ l := hl; omega), fun l hl => ?_⟩
                    have hl : st.next + 1 ≤ l := hl
                    show (st.spent.set u ()).get l = none
                    rw [Tr.get_set_ne _ _ (by omega)]
                    exact wf.spent l (by omega)
                  obtain ⟨v1, v2, r1, r2, hr⟩ := vals g a q1
                  obtain ⟨b, off, cap, olds, rfl, k1, k2, k3, k4, k5, k6, k7⟩ := lists q2 r1
                  obtain ⟨news, n1, n2, n3⟩ := rowsIn_spec hrs q2 r2 hsrc
                  have hroom := (q5 st.next (Nat.le_refl _) (Nat.lt_succ_self _)).2
                  by_cases hfit : rows.length + (y1 :: ys).length ≤ cap
                  · simp only [OwnOk] at k2
                    obtain ⟨r0, z1, z2⟩ := k2
                    have hdead : ¬ g.dead u := q6 u hsp (Tr.get_set_same _ _ _)
                    have hnl := n1.newsLen
                    have hmul : rows.length * (n + 1) + (y1 :: ys).length * (n + 1) ≤ cap * (n + 1) := by
                      rw [← Nat.add_mul]; exact Nat.mul_le_mul_right _ hfit
                    obtain ⟨p1, p2, p3, p4⟩ := q2.room u _ _ _ z1 hdead
                    have hr0 : r0 = news.length + (r0 - news.length) := by omega
                    have z1' := z1
                    rw [hr0] at z1'
                    obtain ⟨f1, f2⟩ := q2.fill (t := u) (u := st.next) news n1.one z1' hdead hroom (q3.spent u (Tr.get_set_same _ _ _))
                    refine .inl ⟨_, _, by
                      rw [hr w, run_append_room_src w t tx o.type e i hu hi b off rows.length cap v2 _ news (by rw [hsz]; exact n1) hfit (fun j hj => by rw [hsz]; exact (p4 _ (by omega) (by omega)).1) (fun j hj => by rw [hsz]; exact (p4 _ (by omega) (by omega)).2.1)]
                      rw [hsz]; rfl, _, ?_, f1, Goes.fill p1 f2 hle (Nat.le_refl _) (Nat.lt_succ_self _) hsp (Tr.get_set_same _ _ _)⟩
                    simp only [Rv]
                    refine ⟨b, off, cap, by rw [List.length_append], by rw [List.length_append]; exact hfit, ?_, (k3.mono f2 _ _).append ?_⟩
                    · simp only [OwnOk, List.length_append]
                      refine ⟨r0 - news.length, ?_, ?_⟩
                      · show (if st.next = st.next then some (b, off + rows.length * (n + 1) + news.length, r0 - news.length) else _) = _
                        rw [if_pos rfl, hnl, Nat.add_mul]
                        congr 3
                        omega
                      · rw [Nat.add_mul, z2, ← hnl]; omega
                    · refine rr_of_flat (n2.mono f2 _ _) n3 fun j z hz => ?_
                      show (if b = b ∧ off + rows.length * (n + 1) ≤ off + rows.length * (n + 1) + j ∧ off + rows.length * (n + 1) + j < off + rows.length * (n + 1) + news.length then news[off + rows.length * (n + 1) + j - (off + rows.length * (n + 1))]? else _) = some z
                      have hj : j < news.length := by
                        rcases Nat.lt_or_ge j news.length with q | q
                        · exact q
                        · rw [List.getElem?_eq_none q] at hz; cases hz
                      rw [if_pos (by omega), show off + rows.length * (n + 1) + j - (off + rows.length * (n + 1)) = j by omega]
                      exact hz
                  · obtain ⟨v', w', g', a1, a2, a3, a4⟩ := grow (st' := ⟨st.heap, st.next + 1, st.spent.set u ()⟩) q2 n1 n2 n3 rfl k4 k5 k6 k7 (by omega) h30 hbb hroom hle (Nat.lt_succ_self _)
                    exact .inl ⟨v', w', by rw [hr w, a1]; rfl, g', a2, a3, a4⟩
                · cases h
              · cases h
          · cases h
        | _ => simp at h
      · cases h
    · cases h
  · cases h
end Go.VE
