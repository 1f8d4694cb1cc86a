/- Records by their names: their fields, which extend which, how many words a type has: no Go. -/
import Derived.Test.YtcbeibhmjokecaaDoorYSameM
set_option linter.unusedSimpArgs false
set_option linter.unusedVariables false
namespace Go.Proofs.YtcbeibhmjokecaaDoor

/-- A field: its name, whether it is exported, its type. -/
structure Vr where
  name : ByteArray
  exp : Bool
  t : Ty
/-- A record: its name, whether it is exported, its base, its own fields. -/
structure Rc where
  name : ByteArray
  exp : Bool
  base : ByteArray
  fields : List Vr
abbrev Recs := ByteArray → Option Rc
/-- The bases, one by one, at most so many. -/
def chainM (R : Recs) : Nat → ByteArray → Option (List Rc)
  | 0, _ => none
  | k + 1, s => (R s).bind fun r => if r.base.toList == [] then some [r] else (chainM R k r.base).map (fun c => r :: c)
def fieldsM (R : Recs) : Nat → ByteArray → Option (List Vr)
  | 0, _ => none
  | k + 1, s => (R s).bind fun r => if r.base.toList == [] then some r.fields else (fieldsM R k r.base).map (fun l => l ++ r.fields)
def flatC : List Rc → List Vr
  | [] => []
  | r :: c => flatC c ++ r.fields
theorem fieldsM_chain (R : Recs) : ∀ (k : Nat) (s : ByteArray), fieldsM R k s = (chainM R k s).map flatC
  | 0, _ => rfl
  | k + 1, s => by
    unfold fieldsM chainM
    cases R s with
    | none => rfl
    | some r =>
      simp only [Option.bind_some]
      rw [fieldsM_chain R k r.base]
      split
      · simp [flatC]
      · cases chainM R k r.base <;> simp [flatC]
theorem flatC_snoc (r : Rc) : ∀ c : List Rc, flatC (c ++ [r]) = r.fields ++ flatC c
  | [] => by simp [flatC]
  | a :: c => by simp [flatC, flatC_snoc r c]
/-- Does a extend b, by at most so many steps? -/
def extM (R : Recs) (b : ByteArray) : Nat → ByteArray → Bool
  | 0, _ => false
  | k + 1, a => if a.toList == b.toList then true else match R a with
    | none => false
    | some r => if r.base.toList == [] then false else extM R b k r.base
/-- May a value of one type come where another is? -/
def fitsM (R : Recs) (n : Nat) (to frm : Ty) : Bool :=
  if to.form = 1 ∨ to.form = 2 ∨ to.form = 3 ∨ to.form = 4 ∨ to.form = 7 ∨ to.form = 8 then sameB to frm
  else if to.form = 9 then (frm.form == 5) || ((frm.form == 9) && extM R to.name (n + 1) frm.name) else false

def limW (x : Nat) : Option Nat := if x ≤ 16384 then some x else none
mutual
/-- A type's words, by what records have. -/
def tyW (g : ByteArray → Option Nat) : Ty → Option Nat
  | .mk f n s l => if rightB (.mk f n s l) then (if f = 7 then (oneW g l).bind (fun k => limW (n.toNat * k)) else if f = 8 then g s else some 1) else none
def oneW (g : ByteArray → Option Nat) : List Ty → Option Nat
  | [t] => tyW g t
  | _ => none
end
def sumW (f : Ty → Option Nat) : Nat → List Vr → Option Nat
  | a, [] => some a
  | a, v :: l => (f v.t).bind (fun k => if a + k ≤ 16384 then sumW f (a + k) l else none)
/-- A record's words: all its fields', in one another at most so often. -/
def recW (R : Recs) (n : Nat) : Nat → ByteArray → Option Nat
  | 0, _ => none
  | k + 1, s => (fieldsM R n s).bind (fun l => sumW (tyW (recW R n k)) 0 l)
def bodyV (R : Recs) (g : ByteArray → Option Nat) (s : ByteArray) : Option Nat :=
  (R s).bind (fun r => (if r.base.toList == [] then some 0 else g r.base).bind (fun a => sumW (tyW g) a r.fields))
def recV (R : Recs) : Nat → ByteArray → Option Nat
  | 0 => fun _ => none
  | k + 1 => bodyV R (recV R k)
def Sub (g h : ByteArray → Option Nat) : Prop := ∀ s x, g s = some x → h s = some x
theorem Sub.trans {f g h : ByteArray → Option Nat} (a : Sub f g) (b : Sub g h) : Sub f h := fun s x e => b s x (a s x e)
mutual
theorem tyW_mono {g h : ByteArray → Option Nat} (H : Sub g h) : ∀ (t : Ty) (x : Nat), tyW g t = some x → tyW h t = some x
  | .mk f n s l, x, e => by
    unfold tyW at e ⊢
    split at e
    · rename_i hr
      rw [if_pos hr]
      split at e
      · rename_i h7
        rw [if_pos h7]
        obtain ⟨k, hk, e2⟩ := Option.bind_eq_some_iff.1 e
        rw [oneW_mono H l k hk]
        exact e2
      · rename_i h7
        rw [if_neg h7]
        split at e
        · rename_i h8
          rw [if_pos h8]
          exact H s x e
        · rename_i h8
          rw [if_neg h8]
          exact e
    · cases e
theorem oneW_mono {g h : ByteArray → Option Nat} (H : Sub g h) : ∀ (l : List Ty) (x : Nat), oneW g l = some x → oneW h l = some x
  | [], x, e => by unfold oneW at e; cases e
  | [t], x, e => by unfold oneW at e ⊢; exact tyW_mono H t x e
  | _ :: _ :: _, x, e => by unfold oneW at e; cases e
end
theorem sumW_mono {f g : Ty → Option Nat} (H : ∀ t x, f t = some x → g t = some x) : ∀ (l : List Vr) (a x : Nat), sumW f a l = some x → sumW g a l = some x
  | [], a, x, e => e
  | v :: l, a, x, e => by
    unfold sumW at e ⊢
    obtain ⟨k, hk, e2⟩ := Option.bind_eq_some_iff.1 e
    rw [H v.t k hk, Option.bind_some]
    split at e2
    · rename_i h; rw [if_pos h]; exact sumW_mono H l _ x e2
    · cases e2
theorem sumW_append (f : Ty → Option Nat) (m : List Vr) : ∀ (l : List Vr) (a : Nat), sumW f a (l ++ m) = (sumW f a l).bind (fun b => sumW f b m)
  | [], a => rfl
  | v :: l, a => by
    simp only [List.cons_append, sumW]
    cases f v.t with
    | none => rfl
    | some k =>
      simp only [Option.bind_some]
      split
      · exact sumW_append f m l _
      · rfl
theorem sumW_le {f : Ty → Option Nat} : ∀ (l : List Vr) (a x : Nat), a ≤ 16384 → sumW f a l = some x → x ≤ 16384
  | [], a, x, h, e => by unfold sumW at e; injection e with e; omega
  | v :: l, a, x, h, e => by
    unfold sumW at e
    obtain ⟨k, hk, e2⟩ := Option.bind_eq_some_iff.1 e
    split at e2
    · rename_i h; exact sumW_le l _ x h e2
    · cases e2
theorem bodyV_mono {R : Recs} {g h : ByteArray → Option Nat} (H : Sub g h) : Sub (bodyV R g) (bodyV R h) := by
  intro s x e
  unfold bodyV at e ⊢
  obtain ⟨r, hr, e2⟩ := Option.bind_eq_some_iff.1 e
  obtain ⟨a, ha, e3⟩ := Option.bind_eq_some_iff.1 e2
  rw [hr, Option.bind_some]
  split at ha
  · rename_i hb
    rw [if_pos hb, show some 0 = some a from ha, Option.bind_some]
    exact sumW_mono (tyW_mono H) _ _ _ e3
  · rename_i hb
    rw [if_neg hb, H _ _ ha, Option.bind_some]
    exact sumW_mono (tyW_mono H) _ _ _ e3
theorem recV_mono (R : Recs) : ∀ k, Sub (recV R k) (recV R (k + 1))
  | 0 => fun s x e => by cases e
  | k + 1 => bodyV_mono (recV_mono R k)
theorem recV_up (R : Recs) {k : Nat} : ∀ {m : Nat}, k ≤ m → Sub (recV R k) (recV R m)
  | 0, h => by have : k = 0 := by omega
               subst this; exact fun _ _ e => e
  | m + 1, h => by
    by_cases h2 : k = m + 1
    · subst h2; exact fun _ _ e => e
    · exact (recV_up R (by omega)).trans (recV_mono R m)
theorem recV_le {R : Recs} : ∀ {k : Nat} {s : ByteArray} {x : Nat}, recV R k s = some x → x ≤ 16384
  | 0, _, _, e => by cases e
  | k + 1, s, x, e => by
    obtain ⟨r, hr, e2⟩ := Option.bind_eq_some_iff.1 e
    obtain ⟨a, ha, e3⟩ := Option.bind_eq_some_iff.1 e2
    split at ha
    · injection ha with ha; exact sumW_le _ _ _ (by omega) e3
    · exact sumW_le _ _ _ (recV_le ha) e3
theorem opt_eq {g h : ByteArray → Option Nat} (a : Sub g h) (b : Sub h g) : g = h := by
  funext s
  cases hg : g s with
  | some x => exact (a s x hg).symm
  | none => cases hh : h s with
    | none => rfl
    | some x => rw [b s x hh] at hg; cases hg
theorem filter_lt {α : Type} {p q : α → Bool} : ∀ {l : List α}, (∀ x ∈ l, p x = true → q x = true) → (∃ x ∈ l, q x = true ∧ p x = false) → (l.filter p).length < (l.filter q).length
  | [], _, h => by obtain ⟨x, h, _⟩ := h; cases h
  | a :: l, hpq, h => by
    have hle : ∀ m : List α, (∀ x ∈ m, p x = true → q x = true) → (m.filter p).length ≤ (m.filter q).length := by
      intro m
      induction m with
      | nil => intro _; exact Nat.le_refl _
      | cons b m ih =>
        intro hm
        have h1 := ih (fun x hx => hm x (List.mem_cons_of_mem _ hx))
        have h2 := hm b List.mem_cons_self
        cases hp : p b <;> cases hq : q b <;> simp [List.filter_cons, hp, hq] <;> first | omega | (rw [h2 hp] at hq; cases hq)
    obtain ⟨x, hx, hq, hp⟩ := h
    have h1 := hle l (fun x hx => hpq x (List.mem_cons_of_mem _ hx))
    have h2 := hpq a List.mem_cons_self
    rcases List.mem_cons.1 hx with rfl | hx
    · simp [List.filter_cons, hp, hq]; omega
    · have h3 := filter_lt (l := l) (fun x hx => hpq x (List.mem_cons_of_mem _ hx)) ⟨x, hx, hq, hp⟩
      cases hpa : p a <;> cases hqa : q a <;> simp [List.filter_cons, hpa, hqa] <;> first | omega | (rw [h2 hpa] at hqa; cases hqa)
theorem recV_key {R : Recs} : ∀ {k : Nat} {s : ByteArray} {x : Nat}, recV R k s = some x → (R s).isSome = true
  | 0, _, _, e => by cases e
  | k + 1, s, x, e => by
    obtain ⟨r, hr, _⟩ := Option.bind_eq_some_iff.1 e
    rw [hr]; rfl
theorem recV_stay {R : Recs} {j : Nat} (h : recV R (j + 1) = recV R j) : ∀ i, recV R (j + i) = recV R j
  | 0 => rfl
  | i + 1 => by
    have := recV_stay h i
    show bodyV R (recV R (j + i)) = _
    rw [this]; exact h
/-- Behind as many steps as there are records nothing more comes. -/
theorem recV_fix {R : Recs} {ks : List ByteArray} (hk : ∀ s, (R s).isSome = true → s ∈ ks) : bodyV R (recV R ks.length) = recV R ks.length := by
  have key : ∀ k, (∃ j, j ≤ k ∧ recV R (j + 1) = recV R j) ∨ k + 1 ≤ (ks.filter (fun s => (recV R (k + 1) s).isSome)).length := by
    have step : ∀ k, recV R (k + 1) ≠ recV R k → (ks.filter (fun s => (recV R k s).isSome)).length < (ks.filter (fun s => (recV R (k + 1) s).isSome)).length := by
      intro k hne
      refine filter_lt (fun x _ hx => ?_) ?_
      · obtain ⟨y, hy⟩ := Option.isSome_iff_exists.1 hx
        rw [recV_mono R k x y hy]; rfl
      · refine Classical.byContradiction fun hno => hne (opt_eq (fun s x e => ?_) (recV_mono R k)) 
        cases h : recV R k s with
        | none => exact absurd ⟨s, hk s (recV_key e), by rw [e]; rfl, by rw [h]; rfl⟩ hno
        | some y => have := recV_mono R k s y h; rw [e] at this; exact this.symm
    intro k
    induction k with
    | zero =>
      by_cases h : recV R 1 = recV R 0
      · exact Or.inl ⟨0, Nat.le_refl _, h⟩
      · have := step 0 h; right; omega
    | succ k ih =>
      rcases ih with ⟨j, hj, h⟩ | ih
      · exact Or.inl ⟨j, by omega, h⟩
      · by_cases h : recV R (k + 1 + 1) = recV R (k + 1)
        · exact Or.inl ⟨k + 1, Nat.le_refl _, h⟩
        · have := step (k + 1) h; right; omega
  rcases key ks.length with ⟨j, hj, h⟩ | h
  · show recV R (ks.length + 1) = _
    have e1 := recV_stay h (ks.length - j)
    have e2 := recV_stay h (ks.length + 1 - j)
    rw [show j + (ks.length - j) = ks.length by omega] at e1
    rw [show j + (ks.length + 1 - j) = ks.length + 1 by omega] at e2
    rw [e1, e2]
  · have := List.length_filter_le (fun s => (recV R (ks.length + 1) s).isSome) ks
    omega
theorem fieldsM_up {R : Recs} : ∀ {k m : Nat} {s : ByteArray} {l : List Vr}, k ≤ m → fieldsM R k s = some l → fieldsM R m s = some l
  | 0, _, _, _, _, e => by cases e
  | k + 1, 0, _, _, h, _ => by omega
  | k + 1, m + 1, s, l, h, e => by
    unfold fieldsM at e ⊢
    obtain ⟨r, hr, e2⟩ := Option.bind_eq_some_iff.1 e
    rw [hr, Option.bind_some]
    split at e2
    · rename_i hb; rw [if_pos hb]; exact e2
    · rename_i hb
      rw [if_neg hb]
      obtain ⟨lb, hl, e3⟩ := Option.map_eq_some_iff.1 e2
      rw [fieldsM_up (by omega) hl, ← e3]; rfl
/-- A record's words are all its fields'. -/
theorem recV_fields {R : Recs} : ∀ {k : Nat} {s : ByteArray} {x : Nat}, recV R (k + 1) s = some x → ∃ l, fieldsM R (k + 1) s = some l ∧ sumW (tyW (recV R k)) 0 l = some x
  | 0, s, x, e => by
    obtain ⟨r, hr, e2⟩ := Option.bind_eq_some_iff.1 e
    obtain ⟨a, ha, e3⟩ := Option.bind_eq_some_iff.1 e2
    split at ha
    · rename_i hb
      injection ha with ha; subst ha
      exact ⟨r.fields, by unfold fieldsM; rw [hr, Option.bind_some, if_pos hb], e3⟩
    · cases ha
  | k + 1, s, x, e => by
    obtain ⟨r, hr, e2⟩ := Option.bind_eq_some_iff.1 e
    obtain ⟨a, ha, e3⟩ := Option.bind_eq_some_iff.1 e2
    split at ha
    · rename_i hb
      injection ha with ha; subst ha
      exact ⟨r.fields, by unfold fieldsM; rw [hr, Option.bind_some, if_pos hb], e3⟩
    · rename_i hb
      obtain ⟨lb, h1, h2⟩ := recV_fields ha
      refine ⟨lb ++ r.fields, by unfold fieldsM; rw [hr, Option.bind_some, if_neg hb, h1]; rfl, ?_⟩
      rw [sumW_append, sumW_mono (tyW_mono (recV_mono R k)) _ _ _ h2]
      exact e3
theorem recV_W {R : Recs} {n : Nat} : ∀ {k : Nat}, k ≤ n → Sub (recV R k) (recW R n k)
  | 0, _ => fun s x e => by cases e
  | k + 1, h => fun s x e => by
    obtain ⟨l, h1, h2⟩ := recV_fields e
    unfold recW
    rw [fieldsM_up h h1, Option.bind_some]
    exact sumW_mono (tyW_mono (recV_W (by omega))) _ _ _ h2
theorem fields_G {R : Recs} {G : ByteArray → Option Nat} (hG : bodyV R G = G) : ∀ {m : Nat} {s : ByteArray} {l : List Vr} {x : Nat}, fieldsM R m s = some l → sumW (tyW G) 0 l = some x → G s = some x
  | 0, _, _, _, e, _ => by cases e
  | m + 1, s, l, x, e, h => by
    unfold fieldsM at e
    obtain ⟨r, hr, e2⟩ := Option.bind_eq_some_iff.1 e
    rw [← hG]
    unfold bodyV
    rw [hr, Option.bind_some]
    split at e2
    · rename_i hb
      injection e2 with e2; subst e2
      rw [if_pos hb]; exact h
    · rename_i hb
      rw [if_neg hb]
      obtain ⟨lb, hl, e3⟩ := Option.map_eq_some_iff.1 e2
      subst e3
      rw [sumW_append] at h
      obtain ⟨a, ha, h2⟩ := Option.bind_eq_some_iff.1 h
      rw [fields_G hG hl ha]
      exact h2
theorem recW_G {R : Recs} {n : Nat} {G : ByteArray → Option Nat} (hG : bodyV R G = G) : ∀ k, Sub (recW R n k) G
  | 0 => fun s x e => by cases e
  | k + 1 => fun s x e => by
    unfold recW at e
    obtain ⟨l, hl, e2⟩ := Option.bind_eq_some_iff.1 e
    exact fields_G hG hl (sumW_mono (tyW_mono (recW_G hG k)) _ _ _ e2)
/-- The document's words, and a record's words as they are. -/
theorem recW_eq {R : Recs} {ks : List ByteArray} (hk : ∀ s, (R s).isSome = true → s ∈ ks) : recW R ks.length ks.length = recV R ks.length :=
  opt_eq (recW_G (recV_fix hk) _) (recV_W (Nat.le_refl _))

/-- What is known of records: that one is being counted, or its words. -/
abbrev Kn := ByteArray → Option (Option Nat)
def updK (K : Kn) (s : ByteArray) (v : Option Nat) : Kn := fun t => if t = s then some v else K t
mutual
def tyP (pr : Kn → ByteArray → Option (Nat × Kn)) : Ty → Kn → Option (Nat × Kn)
  | .mk f n s l, K => if rightB (.mk f n s l) then (if f = 7 then (oneP pr l K).bind (fun q => (limW (n.toNat * q.1)).map (fun x => (x, q.2))) else if f = 8 then pr K s else some (1, K)) else none
def oneP (pr : Kn → ByteArray → Option (Nat × Kn)) : List Ty → Kn → Option (Nat × Kn)
  | [t], K => tyP pr t K
  | _, _ => none
end
def sumP (f : Ty → Kn → Option (Nat × Kn)) : List Vr → Nat → Kn → Option (Nat × Kn)
  | [], a, K => some (a, K)
  | v :: l, a, K => (f v.t K).bind (fun q => if a + q.1 ≤ 16384 then sumP f l (a + q.1) q.2 else none)
/-- A record's words, counted once. -/
def recP (R : Recs) : Nat → Kn → ByteArray → Option (Nat × Kn)
  | 0, K, s => match K s with
    | some (some x) => (limW x).map (fun y => (y, K))
    | _ => none
  | f + 1, K, s => match K s with
    | some (some x) => (limW x).map (fun y => (y, K))
    | some none => none
    | none => (R s).bind fun r => (if r.base.toList == [] then some (0, updK K s none) else recP R f (updK K s none) r.base).bind fun q =>
        (sumP (tyP (recP R f)) r.fields q.1 q.2).map fun p => (p.1, updK p.2 s (some p.1))
theorem limW_some {x y : Nat} (h : limW x = some y) : x = y ∧ y ≤ 16384 := by
  unfold limW at h
  split at h
  · rename_i h1; injection h with h; subst h; exact ⟨rfl, h1⟩
  · cases h
/-- What a run does to what is known: 'good' words, closed ones stay right, the open ones stay, and no one is forgotten. -/
def Closed (G : ByteArray → Option Nat) (K : Kn) : Prop := ∀ s x, K s = some (some x) → G s = some x
def Stays (K K' : Kn) : Prop := (∀ o, K' o = some none ↔ K o = some none) ∧ ∀ o, (K o).isSome = true → (K' o).isSome = true
theorem Stays.refl (K : Kn) : Stays K K := ⟨fun _ => Iff.rfl, fun _ h => h⟩
theorem Stays.trans {a b c : Kn} (h : Stays a b) (k : Stays b c) : Stays a c := ⟨fun o => (k.1 o).trans (h.1 o), fun o ho => k.2 o (h.2 o ho)⟩
def SoundP (G : ByteArray → Option Nat) (pr : Kn → ByteArray → Option (Nat × Kn)) : Prop := ∀ K s x K', Closed G K → pr K s = some (x, K') → G s = some x ∧ Closed G K' ∧ Stays K K'
mutual
theorem tyP_sound {G : ByteArray → Option Nat} {pr : Kn → ByteArray → Option (Nat × Kn)} (hp : SoundP G pr) : ∀ (t : Ty) (K : Kn) (x : Nat) (K' : Kn), Closed G K → tyP pr t K = some (x, K') → tyW G t = some x ∧ Closed G K' ∧ Stays K K'
  | .mk f n s l, K, x, K', hc, e => by
    unfold tyP at e
    unfold tyW
    split at e
    · rename_i hr
      rw [if_pos hr]
      split at e
      · rename_i h7
        rw [if_pos h7]
        obtain ⟨⟨y, K2⟩, hq, e2⟩ := Option.bind_eq_some_iff.1 e
        obtain ⟨z, hz, e3⟩ := Option.map_eq_some_iff.1 e2
        injection e3 with e4 e5
        subst e4; subst e5
        obtain ⟨h1, h2, h3⟩ := oneP_sound hp l K y _ hc hq
        rw [h1]
        exact ⟨hz, h2, h3⟩
      · rename_i h7
        rw [if_neg h7]
        split at e
        · rename_i h8
          rw [if_pos h8]
          exact hp K s x K' hc e
        · rename_i h8
          rw [if_neg h8]
          injection e with e; injection e with e1 e2
          subst e1; subst e2
          exact ⟨rfl, hc, Stays.refl _⟩
    · cases e
theorem oneP_sound {G : ByteArray → Option Nat} {pr : Kn → ByteArray → Option (Nat × Kn)} (hp : SoundP G pr) : ∀ (l : List Ty) (K : Kn) (x : Nat) (K' : Kn), Closed G K → oneP pr l K = some (x, K') → oneW G l = some x ∧ Closed G K' ∧ Stays K K'
  | [], _, _, _, _, e => by unfold oneP at e; cases e
  | [t], K, x, K', hc, e => by unfold oneP at e; unfold oneW; exact tyP_sound hp t K x K' hc e
  | _ :: _ :: _, _, _, _, _, e => by unfold oneP at e; cases e
end
theorem sumP_sound {G : ByteArray → Option Nat} {pr : Kn → ByteArray → Option (Nat × Kn)} (hp : SoundP G pr) : ∀ (l : List Vr) (a : Nat) (K : Kn) (x : Nat) (K' : Kn), Closed G K → sumP (tyP pr) l a K = some (x, K') → sumW (tyW G) a l = some x ∧ Closed G K' ∧ Stays K K'
  | [], a, K, x, K', hc, e => by
    unfold sumP at e
    injection e with e; injection e with e1 e2
    subst e1; subst e2
    exact ⟨rfl, hc, Stays.refl _⟩
  | v :: l, a, K, x, K', hc, e => by
    unfold sumP at e
    obtain ⟨⟨y, K2⟩, hq, e2⟩ := Option.bind_eq_some_iff.1 e
    obtain ⟨h1, h2, h3⟩ := tyP_sound hp v.t K y K2 hc hq
    unfold sumW
    rw [h1, Option.bind_some]
    split at e2
    · rename_i h
      rw [if_pos h]
      obtain ⟨q1, q2, q3⟩ := sumP_sound hp l _ K2 x K' h2 e2
      exact ⟨q1, q2, h3.trans q3⟩
    · cases e2
theorem updK_same (K : Kn) (s : ByteArray) (v : Option Nat) : updK K s v s = some v := by simp [updK]
theorem updK_other {K : Kn} {s t : ByteArray} (h : t ≠ s) (v : Option Nat) : updK K s v t = K t := by simp [updK, h]
theorem closed_open {G : ByteArray → Option Nat} {K : Kn} (h : Closed G K) (s : ByteArray) : Closed G (updK K s none) := by
  intro t x e
  by_cases ht : t = s
  · subst ht; rw [updK_same] at e; cases e
  · rw [updK_other ht] at e; exact h t x e
theorem recP_sound {R : Recs} {G : ByteArray → Option Nat} (hG : bodyV R G = G) : ∀ f, SoundP G (recP R f)
  | 0, K, s, x, K', hc, e => by
    unfold recP at e
    split at e
    · rename_i y hy
      obtain ⟨z, hz, e3⟩ := Option.map_eq_some_iff.1 e
      injection e3 with e4 e5
      subst e4; subst e5
      obtain ⟨rfl, _⟩ := limW_some hz
      exact ⟨hc s _ hy, hc, Stays.refl _⟩
    · cases e
  | f + 1, K, s, x, K', hc, e => by
    unfold recP at e
    split at e
    · rename_i y hy
      obtain ⟨z, hz, e3⟩ := Option.map_eq_some_iff.1 e
      injection e3 with e4 e5
      subst e4; subst e5
      obtain ⟨rfl, _⟩ := limW_some hz
      exact ⟨hc s _ hy, hc, Stays.refl _⟩
    · cases e
    · rename_i hs
      obtain ⟨r, hr, e2⟩ := Option.bind_eq_some_iff.1 e
      obtain ⟨⟨a, K2⟩, ha, e3⟩ := Option.bind_eq_some_iff.1 e2
      obtain ⟨⟨y, K3⟩, hy, e4⟩ := Option.map_eq_some_iff.1 e3
      injection e4 with e5 e6
      simp only at e5 e6
      subst e5; subst e6
      have hb : (if r.base.toList == [] then some 0 else G r.base) = some a ∧ Closed G K2 ∧ Stays (updK K s none) K2 := by
        split at ha
        · rename_i hb
          injection ha with ha; injection ha with h1 h2
          subst h1; subst h2
          rw [if_pos hb]
          exact ⟨rfl, closed_open hc s, Stays.refl _⟩
        · rename_i hb
          rw [if_neg hb]
          exact recP_sound hG f _ _ _ _ (closed_open hc s) ha
      obtain ⟨h1, h2, h3⟩ := hb
      obtain ⟨q1, q2, q3⟩ := sumP_sound (recP_sound hG f) r.fields a K2 y K3 h2 hy
      have hGs : G s = some y := by
        rw [← hG]
        unfold bodyV
        rw [hr, Option.bind_some, h1]
        exact q1
      refine ⟨hGs, fun t z e => ?_, fun o => ?_, fun o ho => ?_⟩
      · by_cases ht : t = s
        · subst ht; rw [updK_same] at e; injection e with e; rw [hGs, e]
        · rw [updK_other ht] at e; exact q2 t z e
      · by_cases ho : o = s
        · subst ho; rw [updK_same, hs]; simp
        · rw [updK_other ho]
          have := ((h3.trans q3).1 o)
          rwa [updK_other ho] at this
      · by_cases h0 : o = s
        · subst h0; rw [updK_same]; rfl
        · rw [updK_other h0]
          exact (h3.trans q3).2 o (by rw [updK_other h0]; exact ho)
/-- How many records aren't met. -/
def avail (ks : List ByteArray) (K : Kn) : Nat := (ks.filter (fun s => (K s).isNone)).length
theorem avail_le {ks : List ByteArray} {K K' : Kn} (h : ∀ o, (K o).isSome = true → (K' o).isSome = true) : avail ks K' ≤ avail ks K := by
  unfold avail
  induction ks with
  | nil => exact Nat.le_refl _
  | cons b m ih =>
    have := h b
    cases h1 : K b <;> cases h2 : K' b <;> simp [List.filter_cons, h1, h2] <;> first | omega | (rw [h1, h2] at this; simp at this)
theorem avail_lt {ks : List ByteArray} {K : Kn} {s : ByteArray} (hs : s ∈ ks) (h : K s = none) (v : Option Nat) : avail ks (updK K s v) < avail ks K := by
  unfold avail
  refine filter_lt (fun x _ hx => ?_) ⟨s, hs, by rw [h]; rfl, by rw [updK_same]; rfl⟩
  by_cases hxs : x = s
  · subst hxs; rw [updK_same] at hx; cases hx
  · rwa [updK_other hxs] at hx
def Fresh (R : Recs) (K : Kn) (k : Nat) : Prop := ∀ o, K o = some none → recV R k o = none
theorem Fresh.down {R : Recs} {K : Kn} {k m : Nat} (h : Fresh R K k) (hm : m ≤ k) : Fresh R K m := fun o ho => by
  cases e : recV R m o with
  | none => rfl
  | some x => have := h o ho; rw [recV_up R hm o x e] at this; cases this
/-- 'whatever has words within k is told'. -/
def CompP (R : Recs) (G : ByteArray → Option Nat) (ks : List ByteArray) (f k : Nat) (pr : Kn → ByteArray → Option (Nat × Kn)) : Prop :=
  ∀ K s x, Closed G K → Fresh R K k → avail ks K ≤ f → recV R k s = some x → ∃ K', pr K s = some (x, K')
mutual
theorem tyP_comp {R : Recs} {G : ByteArray → Option Nat} {ks : List ByteArray} {f k : Nat} {pr : Kn → ByteArray → Option (Nat × Kn)} (hp : CompP R G ks f k pr) : ∀ (t : Ty) (K : Kn) (x : Nat), Closed G K → Fresh R K k → avail ks K ≤ f → tyW (recV R k) t = some x → ∃ K', tyP pr t K = some (x, K')
  | .mk g n s l, K, x, hc, hf, ha, e => by
    unfold tyW at e
    unfold tyP
    split at e
    · rename_i hr
      rw [if_pos hr]
      split at e
      · rename_i h7
        rw [if_pos h7]
        obtain ⟨y, hy, e2⟩ := Option.bind_eq_some_iff.1 e
        obtain ⟨K', hK⟩ := oneP_comp hp l K y hc hf ha hy
        rw [hK, Option.bind_some, e2]
        exact ⟨K', rfl⟩
      · rename_i h7
        rw [if_neg h7]
        split at e
        · rename_i h8
          rw [if_pos h8]
          exact hp K s x hc hf ha e
        · rename_i h8
          rw [if_neg h8]
          injection e with e
          subst e
          exact ⟨K, rfl⟩
    · cases e
theorem oneP_comp {R : Recs} {G : ByteArray → Option Nat} {ks : List ByteArray} {f k : Nat} {pr : Kn → ByteArray → Option (Nat × Kn)} (hp : CompP R G ks f k pr) : ∀ (l : List Ty) (K : Kn) (x : Nat), Closed G K → Fresh R K k → avail ks K ≤ f → oneW (recV R k) l = some x → ∃ K', oneP pr l K = some (x, K')
  | [], _, _, _, _, _, e => by unfold oneW at e; cases e
  | [t], K, x, hc, hf, ha, e => by unfold oneW at e; unfold oneP; exact tyP_comp hp t K x hc hf ha e
  | _ :: _ :: _, _, _, _, _, _, e => by unfold oneW at e; cases e
end
theorem sumP_comp {R : Recs} {G : ByteArray → Option Nat} {ks : List ByteArray} {f k : Nat} {pr : Kn → ByteArray → Option (Nat × Kn)} (hs : SoundP G pr) (hp : CompP R G ks f k pr) : ∀ (l : List Vr) (a : Nat) (K : Kn) (x : Nat), Closed G K → Fresh R K k → avail ks K ≤ f → sumW (tyW (recV R k)) a l = some x → ∃ K', sumP (tyP pr) l a K = some (x, K')
  | [], a, K, x, hc, hf, ha, e => by
    unfold sumW at e
    injection e with e; subst e
    exact ⟨K, rfl⟩
  | v :: l, a, K, x, hc, hf, ha, e => by
    unfold sumW at e
    obtain ⟨y, hy, e2⟩ := Option.bind_eq_some_iff.1 e
    obtain ⟨K2, h2⟩ := tyP_comp hp v.t K y hc hf ha hy
    obtain ⟨_, q2, q3⟩ := tyP_sound hs v.t K y K2 hc h2
    unfold sumP
    rw [h2, Option.bind_some]
    split at e2
    · rename_i h
      rw [if_pos h]
      exact sumP_comp hs hp l _ K2 x q2 (fun o ho => hf o ((q3.1 o).1 ho)) (Nat.le_trans (avail_le q3.2) ha) e2
    · cases e2
theorem recP_comp {R : Recs} {G : ByteArray → Option Nat} {ks : List ByteArray} (hk : ∀ s, (R s).isSome = true → s ∈ ks) (hG : bodyV R G = G) (hV : ∀ k, Sub (recV R k) G) : ∀ (k f : Nat), CompP R G ks f k (recP R f)
  | 0, f => fun K s x _ _ _ e => by cases e
  | k + 1, f => fun K s x hc hf ha e => by
    have hGs := hV (k + 1) s x e
    cases hk0 : recV R k s with
    | some y =>
      have := recV_mono R k s y hk0
      rw [e] at this; injection this with this; subst this
      exact recP_comp hk hG hV k f K s x hc (hf.down (Nat.le_succ k)) ha hk0
    | none =>
      have hx := recV_le e
      cases hKs : K s with
      | some o => cases o with
        | none => rw [hf s hKs] at e; cases e
        | some y =>
          have := hc s y hKs
          rw [hGs] at this; injection this with this; subst this
          refine ⟨K, ?_⟩
          cases f <;> (unfold recP; simp [hKs, limW, hx])
      | none =>
        have hlt := avail_lt (ks := ks) (hk s (recV_key e)) hKs none
        cases f with
        | zero => omega
        | succ f =>
          obtain ⟨r, hr, e2⟩ := Option.bind_eq_some_iff.1 e
          obtain ⟨a, ha2, e3⟩ := Option.bind_eq_some_iff.1 e2
          have hc1 := closed_open hc s
          have hf1 : Fresh R (updK K s none) k := fun o ho => by
            by_cases h0 : o = s
            · subst h0; exact hk0
            · rw [updK_other h0] at ho; exact hf.down (Nat.le_succ k) o ho
          have hs := recP_sound hG f
          have hp := recP_comp hk hG hV k f
          have hb : ∃ K2, (if r.base.toList == [] then some (0, updK K s none) else recP R f (updK K s none) r.base) = some (a, K2) ∧ Closed G K2 ∧ Stays (updK K s none) K2 := by
            split at ha2
            · rename_i hb
              injection ha2 with ha2; subst ha2
              rw [if_pos hb]
              exact ⟨_, rfl, hc1, Stays.refl _⟩
            · rename_i hb
              rw [if_neg hb]
              obtain ⟨K2, h2⟩ := hp _ _ _ hc1 hf1 (by omega) ha2
              exact ⟨K2, h2, (hs _ _ _ _ hc1 h2).2⟩
          obtain ⟨K2, h2, hc2, hst⟩ := hb
          obtain ⟨K3, h3⟩ := sumP_comp hs hp r.fields a K2 x hc2 (fun o ho => hf1 o ((hst.1 o).1 ho)) (Nat.le_trans (avail_le hst.2) (by omega)) e3
          refine ⟨updK K3 s (some x), ?_⟩
          unfold recP
          rw [hKs]
          simp only [hr, Option.bind_some]
          rw [h2, Option.bind_some]
          simp only [h3, Option.map_some]
/-- What the program counts is a type's words. -/
theorem wordsP_eq {R : Recs} {ks : List ByteArray} (hk : ∀ s, (R s).isSome = true → s ∈ ks) (t : Ty) : (tyP (recP R ks.length) t (fun _ => none)).map (·.1) = tyW (recV R ks.length) t := by
  have hG := recV_fix hk
  have hV : ∀ k, Sub (recV R k) (recV R ks.length) := fun k => by
    by_cases h : k ≤ ks.length
    · exact recV_up R h
    · have := recV_stay (R := R) (j := ks.length) hG (k - ks.length)
      rw [show ks.length + (k - ks.length) = k by omega] at this
      rw [this]; exact fun _ _ e => e
  have hc : Closed (recV R ks.length) (fun _ => none) := fun s x e => by cases e
  cases e : tyW (recV R ks.length) t with
  | some x =>
    obtain ⟨K', h⟩ := tyP_comp (recP_comp hk hG hV ks.length ks.length) t _ x hc (fun o ho => by cases ho) (List.length_filter_le _ _) e
    rw [h]; rfl
  | none =>
    cases h : tyP (recP R ks.length) t (fun _ => none) with
    | none => rfl
    | some q =>
      have := (tyP_sound (recP_sound hG ks.length) t _ q.1 q.2 hc h).1
      rw [e] at this; cases this
theorem recP_le {R : Recs} : ∀ {f : Nat} {K : Kn} {s : ByteArray} {x : Nat} {K' : Kn}, recP R f K s = some (x, K') → x ≤ 16384 := by
  have hsum : ∀ (f : Ty → Kn → Option (Nat × Kn)) (l : List Vr) (a : Nat) (K : Kn) (x : Nat) (K' : Kn), a ≤ 16384 → sumP f l a K = some (x, K') → x ≤ 16384 := by
    intro f l
    induction l with
    | nil => intro a K x K' ha e; unfold sumP at e; injection e with e; injection e with e1 e2; omega
    | cons v l ih =>
      intro a K x K' ha e
      unfold sumP at e
      obtain ⟨q, hq, e2⟩ := Option.bind_eq_some_iff.1 e
      split at e2
      · rename_i h; exact ih _ _ _ _ h e2
      · cases e2
  have hclosed : ∀ {K : Kn} {y x : Nat} {K' : Kn}, (limW y).map (fun z => (z, K)) = some (x, K') → x ≤ 16384 := by
    intro K y x K' e
    obtain ⟨z, hz, e3⟩ := Option.map_eq_some_iff.1 e
    injection e3 with e4 e5
    subst e4
    exact (limW_some hz).2
  intro f
  induction f with
  | zero =>
    intro K s x K' e
    unfold recP at e
    split at e
    · exact hclosed e
    · cases e
  | succ f ih =>
    intro K s x K' e
    unfold recP at e
    split at e
    · exact hclosed e
    · cases e
    · obtain ⟨r, hr, e2⟩ := Option.bind_eq_some_iff.1 e
      obtain ⟨⟨a, K2⟩, ha, e3⟩ := Option.bind_eq_some_iff.1 e2
      obtain ⟨⟨y, K3⟩, hy, e4⟩ := Option.map_eq_some_iff.1 e3
      injection e4 with e5 e6
      simp only at e5
      subst e5
      refine hsum _ _ _ _ _ _ ?_ hy
      split at ha
      · injection ha with ha; injection ha with h1 h2; simp only; omega
      · exact ih ha
theorem tyP_le {R : Recs} {f : Nat} {t : Ty} {K : Kn} {x : Nat} {K' : Kn} (e : tyP (recP R f) t K = some (x, K')) : x ≤ 16384 := by
  cases t with
  | mk g n s l =>
    unfold tyP at e
    split at e
    · split at e
      · obtain ⟨q, hq, e2⟩ := Option.bind_eq_some_iff.1 e
        obtain ⟨z, hz, e3⟩ := Option.map_eq_some_iff.1 e2
        injection e3 with e4 e5
        subst e4
        exact (limW_some hz).2
      · split at e
        · exact recP_le e
        · injection e with e; injection e with e1 e2; omega
    · cases e
end Go.Proofs.YtcbeibhmjokecaaDoor
