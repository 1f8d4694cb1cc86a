/- Maps of records that the call makes. -/
import Derived.Test.YtcbeibhmjokecaaDoorYText
set_option linter.unusedSimpArgs false
set_option linter.unusedVariables false
namespace Go.Proofs.YtcbeibhmjokecaaDoor
open Go.RowKit M

def updR (R : Recs) (s : ByteArray) (r : Rc) : Recs := fun t => if t = s then some r else R t
def updF (fv : ByteArray → Value) (s : ByteArray) (v : Value) : ByteArray → Value := fun t => if t = s then v else fv t
/-- A map of records that is being made; no record's fields lie in the map's own block. -/
structure RMk (w : World) (b n : Nat) (R : Recs) (fv : ByteArray → Value) : Prop where
  map : SMap w b n (fun s => (R s).map (fun r => rcVal r (fv s)))
  fields : ∀ s r, R s = some r → VarS (fun k => k ≠ b) w (fv s) r.fields
  names : ∀ s r, R s = some r → r.base.size ≤ maxLen ∧ r.name.size ≤ maxLen
  keys : ∃ ks : List ByteArray, ks.length = n ∧ ∀ s, (R s).isSome = true → s ∈ ks
  few : n ≤ 1000000
theorem RMk.rmap {w : World} {b n : Nat} {R : Recs} {fv : ByteArray → Value} (h : RMk w b n R fv) : RMap Any w (.map (some b)) n R fv :=
  ⟨Or.inr ⟨b, trivial, rfl, h.map⟩, fun s r hr => (h.fields s r hr).mono (fun _ _ => trivial), h.names, h.keys, h.few⟩
theorem RMk.go {w w' : World} {b n : Nat} {R : Recs} {fv : ByteArray → Value} (h : RMk w b n R fv) (ho : Only Nil w w') : RMk w' b n R fv :=
  ⟨h.map.kept ho (fun h => h), fun s r hr => (h.fields s r hr).go ho, h.names, h.keys, h.few⟩
theorem RMk.made (w : World) (fv : ByteArray → Value) : RMk (w.alloc (.map #[] 0)) w.heap.size 0 (fun _ => none) fv :=
  ⟨SMap.made w, (fun s r h => by cases h), (fun s r h => by cases h), ⟨[], rfl, (fun s h => by cases h)⟩, Nat.zero_le _⟩
theorem RMk.put {w : World} {b n : Nat} {R : Recs} {fv : ByteArray → Value} (h : RMk w b n R fv) (s : ByteArray) (hs : s.size ≤ maxLen) (r : Rc) (hr : r.base.size ≤ maxLen ∧ r.name.size ≤ maxLen) (v : Value) (hv : VarS (fun k => k ≠ b) w v r.fields) (hn : n < 1000000) :
    ∃ w', (Instr.mapUpdate 31 (.map (some b)) (.string s) (rcVal r v)).run Tryd.prog w = .ok () w' ∧ RMk w' b (if (R s).isSome then n else n + 1) (updR R s r) (updF fv s v) ∧ Only (M.One b) w w' := by
  obtain ⟨w', hrun, hM, ho⟩ := h.map.put Tryd.underlying31 s hs (rcVal r v) hn
  have e1 : upS (fun s => (R s).map (fun r => rcVal r (fv s))) s (rcVal r v) = (fun t => (updR R s r t).map (fun r => rcVal r (updF fv s v t))) := by
    funext t
    unfold upS updR updF
    by_cases ht : t = s
    · simp [ht]
    · simp [ht]
  rw [e1] at hM
  rw [show ((R s).map (fun r => rcVal r (fv s))).isSome = (R s).isSome by cases R s <;> rfl] at hM
  obtain ⟨ks, hk1, hk2⟩ := h.keys
  refine ⟨w', hrun, ⟨hM, fun t q hq => ?_, fun t q hq => ?_, ?_, ?_⟩, ho⟩
  · unfold updR at hq
    unfold updF
    by_cases ht : t = s
    · rw [if_pos ht] at hq ⊢
      injection hq with hq
      subst hq
      exact hv.kept ho (fun k hk h => hk h)
    · rw [if_neg ht] at hq ⊢
      exact (h.fields t q hq).kept ho (fun k hk h => hk h)
  · unfold updR at hq
    by_cases ht : t = s
    · rw [if_pos ht] at hq
      injection hq with hq
      subst hq
      exact hr
    · rw [if_neg ht] at hq
      exact h.names t q hq
  · cases hR : R s with
    | none =>
      refine ⟨s :: ks, by simp [hk1], fun t ht => ?_⟩
      unfold updR at ht
      by_cases hts : t = s
      · subst hts; exact List.mem_cons_self
      · rw [if_neg hts] at ht
        exact List.mem_cons_of_mem _ (hk2 t ht)
    | some q =>
      refine ⟨ks, by simp [hk1], fun t ht => ?_⟩
      unfold updR at ht
      by_cases hts : t = s
      · subst hts; exact hk2 t (by rw [hR]; rfl)
      · rw [if_neg hts] at ht
        exact hk2 t ht
  · split <;> (have := h.few; omega)
/-- One field, in a block of its own. -/
theorem VarS.one {U V : Nat → Prop} {w : World} {b : Nat} {t : TypeId} (x : Vr) (ov : Value) (hB : Blk w b (vrCells x ov).toArray t) (hb : U b) (hT : TyS V w ov x.t.of) (hV : ∀ k, V k → U k) (hx : x.name.size ≤ maxLen ∧ x.t.name.size ≤ maxLen) : VarS U w (.slice (some ⟨b, 0, none⟩) 1 1) [x] := by
  refine VarS.mk [x] _ 1 0 b (fun _ => ov) (fun _ => rfl) (fun h => by cases h) (fun _ => hb) (by show 1 * 80 ≤ _; decide) (fun t ht => by simp only [List.mem_singleton] at ht; subst ht; exact hx) (fun i t hi j u hu => ?_) (fun i t hi => ?_)
  · have hil := (List.getElem?_eq_some_iff.1 hi).1
    have : i = 0 := by simp at hil; omega
    subst this
    simp only [List.getElem?_cons_zero, Option.some.injEq] at hi
    subst hi
    first | rw [show 0 + 0 * 6 + j = j by omega, hB.cell] | rw [hB.cell]
    rw [List.getElem?_toArray]
    exact hu
  · have hil := (List.getElem?_eq_some_iff.1 hi).1
    have : i = 0 := by simp at hil; omega
    subst this
    simp only [List.getElem?_cons_zero, Option.some.injEq] at hi
    subst hi
    exact hT.mono hV
end Go.Proofs.YtcbeibhmjokecaaDoor
