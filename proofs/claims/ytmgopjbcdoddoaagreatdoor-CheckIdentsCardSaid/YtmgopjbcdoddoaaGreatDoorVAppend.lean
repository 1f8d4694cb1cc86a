/- The evaluation is right: append, make. No Go program is imported. -/
import Derived.Test.YtmgopjbcdoddoaaGreatDoorVList
import Derived.Laws.AppendOwn
set_option linter.unusedSimpArgs false
set_option linter.unusedVariables false
namespace Go.VE
open Go.RowKit

theorem rr_flat {g : Gh} {s b : Nat} : ∀ {rows : List (List AV)} {o : Nat}, Rr g s b rows o → ∃ vs, Rl g rows.flatten vs ∧ vs.length = rows.length * s ∧ ∀ (j : Nat) (u : Value), vs[j]? = some u → g.fz b (o + j) = some u
  | [], o, _ => ⟨[], Rl.nil, by simp, fun j u h => by simp at h⟩
  | r :: rs, o, h => by
    simp only [Rr] at h
    obtain ⟨h1, h2, h3⟩ := h
    obtain ⟨v1, a1, a2⟩ := vals_of (g := g) (fun i v => g.fz b i = some v) r o (fun j c hc => h2.get hc)
    obtain ⟨v2, b1, b2, b3⟩ := rr_flat h3
    have hl := a1.length
    refine ⟨v1 ++ v2, a1.append b1, by simp [b2, Nat.add_mul]; omega, fun j u hu => ?_⟩
    rw [List.getElem?_append] at hu
    split at hu
    · exact a2 j u hu
    · have := b3 _ u hu
      rw [show o + s + (j - v1.length) = o + j by omega] at this
      exact this
theorem rowsOf_flat {s : Nat} : ∀ {rows : List (List AV)}, (∀ r ∈ rows, r.length = s) → rowsOf s rows.length rows.flatten = rows
  | [], _ => rfl
  | r :: rs, h => by
    have hr := h r (List.mem_cons_self ..)
    simp only [List.length_cons, rowsOf, List.flatten_cons]
    rw [List.take_append_of_le_length (by omega), List.take_of_length_le (by omega), List.drop_append_of_le_length (by omega), List.drop_of_length_le (by omega), List.nil_append, rowsOf_flat (fun x hx => h x (List.mem_cons_of_mem _ hx))]
theorem flat_length {s : Nat} : ∀ {rows : List (List AV)}, (∀ r ∈ rows, r.length = s) → rows.flatten.length = rows.length * s
  | [], _ => by simp
  | r :: rs, h => by
    have hr := h r (List.mem_cons_self ..)
    simp only [List.flatten_cons, List.length_append, List.length_cons, Nat.add_mul, flat_length (fun x hx => h x (List.mem_cons_of_mem _ hx)), hr]
    omega
theorem Rr.len {g : Gh} {s b o : Nat} {rows : List (List AV)} (h : Rr g s b rows o) : ∀ r ∈ rows, r.length = s := fun r hr => by
  obtain ⟨i, hi⟩ := List.mem_iff_getElem?.1 hr
  exact (h.get hi).1
theorem Rr.append {g : Gh} {s b : Nat} : ∀ {rows rs : List (List AV)} {o : Nat}, Rr g s b rows o → Rr g s b rs (o + rows.length * s) → Rr g s b (rows ++ rs) o
  | [], rs, o, _, k => by simpa using k
  | r :: rows, rs, o, h, k => by
    simp only [Rr, List.cons_append] at h ⊢
    refine ⟨h.1, h.2.1, Rr.append h.2.2 ?_⟩
    rw [show o + s + rows.length * s = o + (r :: rows).length * s by simp [Nat.add_mul]; omega]
    exact k
theorem rr_of_flat {g : Gh} {s b : Nat} : ∀ {rows : List (List AV)} {vs : List Value} {o : Nat}, Rl g rows.flatten vs → (∀ r ∈ rows, r.length = s) → (∀ (j : Nat) (u : Value), vs[j]? = some u → g.fz b (o + j) = some u) → Rr g s b rows o
  | [], _, _, _, _, _ => by simp only [Rr]
  | r :: rows, vs, o, h, hl, hz => by
    have hr := hl r (List.mem_cons_self ..)
    simp only [List.flatten_cons] at h
    have hvl := h.length
    simp only [List.length_append] at hvl
    simp only [Rr]
    refine ⟨hr, Rc.of fun i a ha => ?_, rr_of_flat (vs := vs.drop s) (by
      have := h.drop s
      rwa [List.drop_append_of_le_length (by omega), List.drop_of_length_le (by omega), List.nil_append] at this) (fun x hx => hl x (List.mem_cons_of_mem _ hx)) (fun j u hu => ?_)⟩
    · have hi : i < r.length := by
        rcases Nat.lt_or_ge i r.length with q | q
        · exact q
        · rw [List.getElem?_eq_none q] at ha; cases ha
      obtain ⟨v, hv, rv⟩ := h.get (i := i) (a := a) (by rw [List.getElem?_append_left hi]; exact ha)
      exact ⟨v, hz i v hv, rv⟩
    · rw [List.getElem?_drop] at hu
      have := hz _ u hu
      rw [show o + s + j = o + (s + j) by omega]; exact this

/-- What is appended. -/
theorem rowsIn_spec {s : Nat} {y : AV} {rs : List (List AV)} (h : rowsIn s y = some rs) {P : Program} {tx : TypeId} {g : Gh} {base : Nat} {st : St} {w : World} (hw : Rw g base st w) {v : Value} (hv : Rv g y v) (hk : srcOk (P.underlying tx) y = true) :
    ∃ news, Src P s tx v rs.length news w ∧ Rl g rs.flatten news ∧ (∀ r ∈ rs, r.length = s) := by
  have hfit : ∀ e, y = .str e → P.underlying tx = some .string := fun e he => by
    subst he
    cases hu : P.underlying tx with
    | none => rw [hu] at hk; cases hk
    | some d => rw [hu] at hk; cases d <;> first | rfl | cases hk
  have hsl : (∀ e, y ≠ .str e) → ∃ e', P.underlying tx = some (.slice e') := fun hn => by
    cases hu : P.underlying tx with
    | none => rw [hu] at hk; cases hk
    | some d =>
      rw [hu] at hk
      cases d with
      | slice e' => exact ⟨e', rfl⟩
      | string =>
        cases y with
        | str b => exact absurd rfl (hn b)
        | _ => cases hk
      | _ => cases hk
  clear hk
  cases y with
  | nils =>
    simp only [rowsIn] at h; cases h
    simp only [Rv] at hv; subst hv
    obtain ⟨e', he⟩ := hsl (fun e => by simp)
    exact ⟨[], Src.ofNil _ he 0, Rl.nil, fun r hr => by cases hr⟩
  | lst n own rows =>
    simp only [rowsIn] at h
    split at h
    · rename_i hn
      cases h
      have hn := beq hn
      subst hn
      simp only [Rv] at hv
      obtain ⟨b, o, cap, rfl, _, _, hrr⟩ := hv
      obtain ⟨vs, a1, a2, a3⟩ := rr_flat hrr
      obtain ⟨e', he⟩ := hsl (fun e => by simp)
      refine ⟨vs, Src.ofSlice _ he ⟨b, o, none⟩ _ cap vs a2 (fun j u hu => by rw [addr_add]; exact (hw.fz _ _ _ (a3 j u hu)).1) (fun u hu => ?_), a1, hrr.len⟩
      obtain ⟨i, hi⟩ := List.mem_iff_getElem?.1 hu
      exact (hw.fz _ _ _ (a3 i u hi)).2
    · cases h
  | str bs =>
    simp only [rowsIn] at h
    split at h
    · rename_i hn
      cases h
      have hn := beq hn
      subst hn
      simp only [Rv] at hv; subst hv
      have hs := Src.ofString (P := P) w (hfit bs rfl) (⟨⟨bs⟩⟩ : ByteArray)
      refine ⟨byteCells ⟨⟨bs⟩⟩, ?_, ?_, fun r hr => ?_⟩
      · rw [List.length_map]; exact hs
      · unfold byteCells
        clear hs
        induction bs with
        | nil => exact Rl.nil
        | cons c r ih =>
          simp only [List.map_cons, List.flatten_cons, List.singleton_append]
          exact Rl.cons (by simp only [Rv]) (ih (fun e _ => hfit _ rfl) (fun q => absurd rfl (q r)))
      · obtain ⟨c, _, rfl⟩ := List.mem_map.1 hr
        rfl
    · cases h
  | _ => simp [rowsIn] at h

theorem bytes_info {E : Env} {e : TypeId} {i : TypeInfo} (h : E.P.info? e = some i) : bytesOf E e = i.bytes := by unfold bytesOf; rw [h]

theorem Goes.fill {base : Nat} {g : Gh} {st : St} {w : World} {st' : St} {b e t r : Nat} {vs : List Value} {u : Nat} (hb : base ≤ b) (le : g.le (g.fill b e vs t u r)) (hle : st.le st') (h1 : st.next ≤ u) (h2 : u < st'.next) (hs : st.spent.get t = none) (hs' : st'.spent.get t = some ()) : Goes base g st st' w (g.fill b e vs t u r) (w.setCells b e vs) :=
  ⟨le, hle, setCells_below hb _ _ _, fun _ _ q => .inl q, fun x y q => by
    change (if x = u then some (b, e + vs.length, r) else g.room x) = some y at q
    split at q
    · rename_i e; subst e; exact .inr ⟨h1, h2⟩
    · exact .inl q, fun x q => by
    rcases q with q | q
    · subst q; exact .inr ⟨hs, hs'⟩
    · exact .inl q, fun c o v q => by
    change (if c = b ∧ e ≤ o ∧ o < e + vs.length then vs[o - e]? else g.fz c o) = some v at q
    split at q
    · rename_i hh; exact .inr (by rw [hh.1]; exact hb)
    · exact .inl q⟩

end Go.VE
