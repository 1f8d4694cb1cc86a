/- What the counting of words forgets of what is known: nothing. No Go. -/
import Derived.Test.YtcbeibhmjokecaaDoorYRecM
set_option linter.unusedSimpArgs false
set_option linter.unusedVariables false
namespace Go.Proofs.YtcbeibhmjokecaaDoor

def Dom (K K' : Kn) : Prop := ∀ o, (K o).isSome = true → (K' o).isSome = true
theorem Dom.refl (K : Kn) : Dom K K := fun _ h => h
theorem Dom.trans {a b c : Kn} (h : Dom a b) (k : Dom b c) : Dom a c := fun o ho => k o (h o ho)
theorem Dom.upd (K : Kn) (s : ByteArray) (v : Option Nat) : Dom K (updK K s v) := fun o ho => by
  by_cases h : o = s
  · subst h; rw [updK_same]; rfl
  · rw [updK_other h]; exact ho
def DomP (pr : Kn → ByteArray → Option (Nat × Kn)) : Prop := ∀ K s x K', pr K s = some (x, K') → Dom K K'
mutual
theorem tyP_dom {pr : Kn → ByteArray → Option (Nat × Kn)} (hp : DomP pr) : ∀ (t : Ty) (K : Kn) (x : Nat) (K' : Kn), tyP pr t K = some (x, K') → Dom K K'
  | .mk f n s l, K, x, K', e => by
    unfold tyP at e
    split at e
    · split at e
      · obtain ⟨⟨y, K2⟩, hq, e2⟩ := Option.bind_eq_some_iff.1 e
        obtain ⟨z, hz, e3⟩ := Option.map_eq_some_iff.1 e2
        injection e3 with e4 e5
        simp only at e5
        subst e5
        exact oneP_dom hp l K y _ hq
      · split at e
        · exact hp K s x K' e
        · injection e with e; injection e with e1 e2
          subst e2
          exact Dom.refl _
    · cases e
theorem oneP_dom {pr : Kn → ByteArray → Option (Nat × Kn)} (hp : DomP pr) : ∀ (l : List Ty) (K : Kn) (x : Nat) (K' : Kn), oneP pr l K = some (x, K') → Dom K K'
  | [], _, _, _, e => by unfold oneP at e; cases e
  | [t], K, x, K', e => by unfold oneP at e; exact tyP_dom hp t K x K' e
  | _ :: _ :: _, _, _, _, e => by unfold oneP at e; cases e
end
theorem sumP_dom {pr : Kn → ByteArray → Option (Nat × Kn)} (hp : DomP pr) : ∀ (l : List Vr) (a : Nat) (K : Kn) (x : Nat) (K' : Kn), sumP (tyP pr) l a K = some (x, K') → Dom K K'
  | [], a, K, x, K', e => by
    unfold sumP at e
    injection e with e; injection e with e1 e2
    subst e2
    exact Dom.refl _
  | v :: l, a, K, x, K', e => by
    unfold sumP at e
    obtain ⟨⟨y, K2⟩, hq, e2⟩ := Option.bind_eq_some_iff.1 e
    split at e2
    · exact (tyP_dom hp v.t K y K2 hq).trans (sumP_dom hp l _ K2 x K' e2)
    · cases e2
theorem recP_dom (R : Recs) : ∀ f, DomP (recP R f)
  | 0, K, s, x, K', e => by
    unfold recP at e
    split at e
    · obtain ⟨z, hz, e3⟩ := Option.map_eq_some_iff.1 e
      injection e3 with e4 e5
      subst e5
      exact Dom.refl _
    · cases e
  | f + 1, K, s, x, K', e => by
    unfold recP at e
    split at e
    · obtain ⟨z, hz, e3⟩ := Option.map_eq_some_iff.1 e
      injection e3 with e4 e5
      subst e5
      exact Dom.refl _
    · cases e
    · obtain ⟨r, hr, e2⟩ := Option.bind_eq_some_iff.1 e
      obtain ⟨⟨a, K2⟩, ha, e3⟩ := Option.bind_eq_some_iff.1 e2
      obtain ⟨⟨y, K3⟩, hy, e4⟩ := Option.map_eq_some_iff.1 e3
      injection e4 with e5 e6
      simp only at e6
      subst e6
      have h1 : Dom (updK K s none) K2 := by
        split at ha
        · injection ha with ha; injection ha with h1 h2
          subst h2
          exact Dom.refl _
        · exact recP_dom R f _ _ _ _ ha
      exact (((Dom.upd K s none).trans h1).trans (sumP_dom (recP_dom R f) _ _ _ _ _ hy)).trans (Dom.upd _ _ _)
/-- How many entries there may be. -/
def Fits9 (ks : List ByteArray) (K : Kn) (m : Nat) : Prop := m + avail ks K ≤ ks.length
theorem Fits9.put {ks : List ByteArray} {K : Kn} {m : Nat} {s : ByteArray} (h : Fits9 ks K m) (hs : s ∈ ks) (v : Option Nat) : Fits9 ks (updK K s v) (if (K s).isSome then m else m + 1) := by
  unfold Fits9 at h ⊢
  cases hk : K s with
  | some o =>
    have := avail_le (ks := ks) (Dom.upd K s v)
    simp only [Option.isSome_some, if_true]
    omega
  | none =>
    have := avail_lt hs hk v
    simp only [Option.isSome_none]
    rw [if_neg (by decide)]
    omega
theorem avail_len (ks : List ByteArray) (K : Kn) : avail ks K ≤ ks.length := List.length_filter_le _ _
end Go.Proofs.YtcbeibhmjokecaaDoor
