/- The evaluation is right: rows appended to memory that is written. No Go program is imported. -/
import Derived.Test.YtmgopjbcdoddoaaGreatDoorVAll
set_option linter.unusedSimpArgs false
set_option linter.unusedVariables false
namespace Go.VE
open Go.RowKit

/-- No name from n on stands for anything. -/
def FreshN (g : Gh) (n : Nat) : Prop := ∀ l, n ≤ l → g.rho l = none ∧ g.room l = none

/-- A name for a new block, of so many cells. -/
def Gh.layW (g : Gh) (l b n : Nat) : Gh := { g with rho := fun m => if m = l then some b else g.rho m, wide := fun c => if c = b then n else g.wide c }
theorem Gh.le_layW {g : Gh} {l b n : Nat} (h : g.rho l = none) (hb : ∀ m, g.rho m ≠ some b) : g.le (g.layW l b n) :=
  ⟨fun m c q => by
    show (if m = l then some b else g.rho m) = some c
    rw [if_neg (fun e => by rw [e, h] at q; cases q)]; exact q, fun _ _ _ q => q, fun _ _ q => q, rfl, fun m c q => by
    show (if c = b then n else g.wide c) = g.wide c
    rw [if_neg (fun e => hb m (by rw [← e]; exact q))]⟩

/-- New memory of so many cells. -/
theorem Rw.allocW {g : Gh} {base : Nat} {st : St} {w : World} (h : Rw g base st w) {l : Nat} {cs : Array Value} {ty : TypeId} {ab : AB} (hl : g.rho l = none) (hs : st.heap.get l = some ab)
    (hb : RB (g.layW l w.heap.size cs.size) (w.alloc (.cells cs ty)) w.heap.size ab) : Rw (g.layW l w.heap.size cs.size) base st (w.alloc (.cells cs ty)) := by
  have hnob : ∀ m, g.rho m ≠ some w.heap.size := fun m q => by have := (h.lab m _ q).2.1; omega
  have le := Gh.le_layW (n := cs.size) hl hnob
  have hrho : ∀ m c, (g.layW l w.heap.size cs.size).rho m = some c → (m = l ∧ c = w.heap.size) ∨ (m ≠ l ∧ g.rho m = some c) := fun m c q => by
    change (if m = l then some w.heap.size else g.rho m) = some c at q
    split at q
    · cases q; exact .inl ⟨‹_›, rfl⟩
    · exact .inr ⟨‹_›, q⟩
  refine ⟨fun b o' v q => ?_, fun m c q => ?_, fun m m' c q q' y y' => ?_, fun m c o' q => ?_, fun t b e r q d => ?_, h.disj, h.spent, h.dead, by simp; have := h.base; omega, fun m c q i hi => ?_, fun b hb => ?_⟩
  · have := h.fz b o' v q
    rw [old_cell (cell_lt this.1)]; exact this
  · rcases hrho m c q with ⟨rfl, rfl⟩ | ⟨_, q⟩
    · exact ⟨h.base, by simp, ab, hs, hb⟩
    · obtain ⟨k1, k2, ab', k3, k4⟩ := h.lab m c q
      exact ⟨k1, by simp; omega, ab', k3, (RB.alloc k2 k4).mono le⟩
  · rcases hrho m c q with ⟨p1, p2⟩ | ⟨_, p⟩ <;> rcases hrho m' c q' with ⟨p3, p4⟩ | ⟨_, p'⟩
    · exact p1.trans p3.symm
    · have := (h.lab m' _ p').2.1; omega
    · have := (h.lab m _ p).2.1; omega
    · exact h.inj m m' c p p' y y'
  · rcases hrho m c q with ⟨rfl, rfl⟩ | ⟨_, q⟩
    · show g.fz _ _ = none
      cases hz : g.fz w.heap.size o' with
      | none => rfl
      | some v => have := cell_lt (h.fz _ _ v hz).1; omega
    · exact h.labfz m c o' q
  · obtain ⟨k1, k2, k3, k4⟩ := h.room t b e r q d
    refine ⟨k1, by simp; omega, fun m q => ?_, fun o' a c => ?_⟩
    · rcases hrho m b q with ⟨rfl, rfl⟩ | ⟨_, q⟩
      · omega
      · exact k3 m q
    · rw [old_cell k2, old_frozen k2]; exact k4 o' a c
  · change i < (if c = w.heap.size then cs.size else g.wide c) at hi
    rcases hrho m c q with ⟨rfl, rfl⟩ | ⟨_, q⟩
    · rw [if_pos rfl] at hi
      rw [World.frozen?_alloc_new, World.cell?_alloc_new]
      exact ⟨by simp [hi], rfl⟩
    · obtain ⟨_, k2, _⟩ := h.lab m c q
      rw [if_neg (by omega)] at hi
      rw [old_cell k2, old_frozen k2]; exact h.wide m c q i hi
  · simp at hb
    show (if b = w.heap.size then cs.size else g.wide b) = 0
    rw [if_neg (by omega)]; exact h.wide0 b (by omega)

/-- A name is nobody's any more. -/
theorem Rw.gone {g : Gh} {base : Nat} {st st' : St} {w : World} (h : Rw g base st w) {l ve : Nat} (hst : ∀ m b, g.rho m = some b → st'.heap.get m = if m = l then some (.gone ve) else st.heap.get m) (hsp : ∀ t, st.spent.get t = some () → st'.spent.get t = some ()) : Rw g base st' w := by
  have hlv : ∀ m b, g.rho m = some b → Live st' m → Live st m ∧ m ≠ l := fun m b q y => by
    have := hst m b q
    by_cases e : m = l
    · rw [if_pos e] at this; exact absurd this (y ve)
    · rw [if_neg e] at this; exact ⟨fun v z => y v (this.trans z), e⟩
  refine ⟨h.fz, fun m b q => ?_, fun m m' b q q' y y' => h.inj m m' b q q' (hlv m b q y).1 (hlv m' b q' y').1, h.labfz, h.room, h.disj, fun t q => hsp t (h.spent t q), h.dead, h.base, h.wide, h.wide0⟩
  obtain ⟨k1, k2, ab, k3, k4⟩ := h.lab m b q
  have := hst m b q
  by_cases e : m = l
  · rw [if_pos e] at this; exact ⟨k1, k2, _, this, trivial⟩
  · rw [if_neg e] at this; exact ⟨k1, k2, ab, this.trans k3, k4⟩

/-- Memory that has no name any more is written. -/
theorem Rw.over {g : Gh} {base : Nat} {st : St} {w : World} (h : Rw g base st w) {b l : Nat} (hl : g.rho l = some b) (hd : ∀ m, g.rho m = some b → ¬ Live st m) (o : Nat) (vs : List Value) : Rw g base st (w.setCells b o vs) := by
  refine ⟨fun c i v q => ?_, fun m c q => ?_, h.inj, h.labfz, fun u c e r q d => ?_, h.disj, h.spent, h.dead, by rw [setCells_size]; exact h.base, fun m c q i hi => ⟨isSome_setCells (h.wide m c q i hi).1, by rw [World.frozen?_setCells]; exact (h.wide m c q i hi).2⟩, fun b hb => h.wide0 b (by rw [setCells_size] at hb; exact hb)⟩
  · rw [setCells_out (.inl fun e => by subst e; rw [h.labfz l c i hl] at q; cases q)]; exact h.fz c i v q
  · obtain ⟨q1, q2, ab, q3, q4⟩ := h.lab m c q
    refine ⟨q1, by rw [setCells_size]; exact q2, ab, q3, ?_⟩
    have hne : Live st m → c ≠ b := fun y e => hd m (e ▸ q) y
    cases ab with
    | gone _ => trivial
    | cells n' t2 _ =>
      have hne := hne (fun v q => by rw [q3] at q; cases q)
      intro i hi
      obtain ⟨a, v, p1, p2, p3, p4⟩ := q4 i hi
      exact ⟨a, v, p1, by rw [setCells_out (.inl hne)]; exact p2, by rw [World.frozen?_setCells]; exact p3, p4⟩
    | map es _ =>
      have hne := hne (fun v q => by rw [q3] at q; cases q)
      obtain ⟨ents, clock, p1, p2⟩ := q4
      exact ⟨ents, clock, by rw [setCells_obj _ _ _ _ _ (.inl hne)]; exact p1, p2⟩
  · obtain ⟨q1, q2, q3, q4⟩ := h.room u c e r q d
    refine ⟨q1, by rw [setCells_size]; exact q2, q3, fun i a e' => ?_⟩
    rw [setCells_out (.inl fun e' : c = b => q3 l (e' ▸ hl)), World.frozen?_setCells]
    exact q4 i a e'

/-- A new name for memory that has none any more. -/
theorem Rw.name {g : Gh} {base : Nat} {st : St} {w : World} (h : Rw g base st w) {l m0 b : Nat} {ab : AB} (hl : g.rho l = none) (hs : st.heap.get l = some ab) (hm : g.rho m0 = some b) (hd : ∀ m, g.rho m = some b → ¬ Live st m) (hb : RB (g.lay l b) w b ab) : Rw (g.lay l b) base st w := by
  have le := Gh.le_lay (b := b) hl
  have hrho : ∀ m c, (g.lay l b).rho m = some c → (m = l ∧ c = b) ∨ (m ≠ l ∧ g.rho m = some c) := fun m c q => by
    change (if m = l then some b else g.rho m) = some c at q
    split at q
    · cases q; exact .inl ⟨‹_›, rfl⟩
    · exact .inr ⟨‹_›, q⟩
  have hc : ∀ m c, (g.lay l b).rho m = some c → ∃ m', g.rho m' = some c := fun m c q => by
    rcases hrho m c q with ⟨rfl, rfl⟩ | ⟨_, q⟩
    · exact ⟨m0, hm⟩
    · exact ⟨m, q⟩
  refine ⟨h.fz, fun m c q => ?_, fun m m' c q q' y y' => ?_, fun m c o q => ?_, fun t c e r q d => ?_, h.disj, h.spent, h.dead, h.base, fun m c q i hi => ?_, h.wide0⟩
  · rcases hrho m c q with ⟨rfl, rfl⟩ | ⟨_, q⟩
    · obtain ⟨k1, k2, _⟩ := h.lab m0 c hm
      exact ⟨k1, k2, ab, hs, hb⟩
    · obtain ⟨k1, k2, ab', k3, k4⟩ := h.lab m c q
      exact ⟨k1, k2, ab', k3, k4.mono le⟩
  · rcases hrho m c q with ⟨p1, p2⟩ | ⟨_, p⟩ <;> rcases hrho m' c q' with ⟨p3, p4⟩ | ⟨_, p'⟩
    · exact p1.trans p3.symm
    · subst p2; exact absurd y' (hd m' p')
    · subst p4; exact absurd y (hd m p)
    · exact h.inj m m' c p p' y y'
  · obtain ⟨m', q⟩ := hc m c q
    exact h.labfz m' c o q
  · obtain ⟨k1, k2, k3, k4⟩ := h.room t c e r q d
    exact ⟨k1, k2, fun m q => by obtain ⟨m', q⟩ := hc m c q; exact k3 m' q, k4⟩
  · obtain ⟨m', q⟩ := hc m c q
    exact h.wide m' c q i hi

theorem rowsOf_flatten (s : Nat) : ∀ (n : Nat) (l : List AV), l.length = n * s → (rowsOf s n l).flatten = l ∧ ∀ r ∈ rowsOf s n l, r.length = s
  | 0, l, h => by
    have : l = [] := List.eq_nil_of_length_eq_zero (by simpa using h)
    subst this
    exact ⟨rfl, fun r hr => by cases hr⟩
  | n + 1, l, h => by
    rw [Nat.add_mul, Nat.one_mul] at h
    obtain ⟨h1, h2⟩ := rowsOf_flatten s n (l.drop s) (by simp; omega)
    refine ⟨by simp only [rowsOf, List.flatten_cons, h1, List.take_append_drop], fun r hr => ?_⟩
    simp only [rowsOf] at hr
    rcases List.mem_cons.1 hr with q | q
    · rw [q]; simp; omega
    · exact h2 r q

theorem srcOk_slice {d : Option TypeDesc} {y : AV} (hk : srcOk d y = true) (hn : ∀ e, y ≠ .str e) : ∃ e', d = some (.slice e') := by
  cases d with
  | none => cases hk
  | some d =>
    cases d with
    | slice e' => exact ⟨e', rfl⟩
    | string =>
      cases y with
      | str b => exact absurd rfl (hn b)
      | _ => cases hk
    | _ => cases hk

/-- Cells of a name, as a run of values. -/
theorem cells_src {g : Gh} {base : Nat} {st : St} {w : World} (hw : Rw g base st w) {l b m : Nat} {t : Tr AV} {ve : Nat} (hb : g.rho l = some b) (hl : st.heap.get l = some (.cells m t ve)) {n o : Nat} {cs : List AV} (hr : row t n o = some cs) (hle : o + n ≤ m) :
    ∃ vs, Rl g cs vs ∧ vs.length = n ∧ ∀ (j : Nat) (u : Value), vs[j]? = some u → w.cell? ⟨b, o + j, none⟩ = some u := by
  obtain ⟨_, _, ab, hab, hrb⟩ := hw.lab l b hb
  rw [hl] at hab; cases hab
  obtain ⟨h1, h2⟩ := row_spec hr
  obtain ⟨vs, r1, r2⟩ := vals_of (g := g) (fun i v => w.cell? ⟨b, i, none⟩ = some v) cs o (fun j c hc => by
    have hj : j < n := by
      rcases Nat.lt_or_ge j n with q | q
      · exact q
      · rw [List.getElem?_eq_none (by omega)] at hc; cases hc
    obtain ⟨a, v, q1, q2, _, q4⟩ := hrb (o + j) (by omega)
    rw [h2 j hj, hc] at q1; cases q1
    exact ⟨v, q2, q4⟩)
  exact ⟨vs, r1, by rw [← r1.length, h1], r2⟩

/-- What is appended, where it may lie in memory that is written. -/
theorem rowsM_spec {s : Nat} {y : AV} {rs : List (List AV)} {st : St} (h : rowsM st s y = some rs) {P : Program} {tx : TypeId} {g : Gh} {base : Nat} {w : World} (hw : Rw g base st w) {v : Value} (hv : Rv g y v) (hk : srcOk (P.underlying tx) y = true) :
    ∃ news, Src P s tx v rs.length news w ∧ Rl g rs.flatten news ∧ (∀ r ∈ rs, r.length = s) := by
  unfold rowsM at h
  split at h
  · rename_i l o n c
    split at h
    · rename_i m t ve hl
      split at h
      · rename_i hle
        have hle := ble hle
        cases hr : row t (n * s) o with
        | none => rw [hr] at h; cases h
        | some cs =>
          rw [hr] at h
          simp only [Option.bind_some] at h
          split at h
          rotate_left
          · cases h
          rename_i h1
          cases h
          simp only [Rv] at hv
          obtain ⟨b, hb, rfl⟩ := hv
          obtain ⟨vs, q1, q2, q3⟩ := cells_src hw hb hl hr hle
          obtain ⟨e', he⟩ := srcOk_slice hk (fun e => by simp)
          obtain ⟨f1, f2⟩ := rowsOf_flatten s n cs (row_spec hr).1
          rw [f1, rowsOf_length]
          exact ⟨vs, Src.ofSlice _ he ⟨b, o, none⟩ _ _ vs q2 (fun j u hu => by rw [addr_add]; exact q3 j u hu) (all_cells h1 q1), q1, f2⟩
      · cases h
    · cases h
  · rename_i l o n
    split at h
    · rename_i m t ve hl
      split at h
      · rename_i hle
        have hle := ble hle
        cases hr : row t (n * s) o with
        | none => rw [hr] at h; cases h
        | some cs =>
          rw [hr] at h
          simp only [Option.bind_some] at h
          split at h
          rotate_left
          · cases h
          rename_i h1
          cases h
          simp only [Rv] at hv
          obtain ⟨b, c, hb, rfl, _⟩ := hv
          obtain ⟨vs, q1, q2, q3⟩ := cells_src hw hb hl hr hle
          obtain ⟨e', he⟩ := srcOk_slice hk (fun e => by simp)
          obtain ⟨f1, f2⟩ := rowsOf_flatten s n cs (row_spec hr).1
          rw [f1, rowsOf_length]
          exact ⟨vs, Src.ofSlice _ he ⟨b, o, none⟩ _ _ vs q2 (fun j u hu => by rw [addr_add]; exact q3 j u hu) (all_cells h1 q1), q1, f2⟩
      · cases h
    · cases h
  · rename_i l z n top
    split at h
    · rename_i m t ve hl
      split at h
      · rename_i hc
        simp only [Bool.and_eq_true] at hc
        have hle := ble hc.2
        cases hr : row t (n * s) 0 with
        | none => rw [hr] at h; cases h
        | some cs =>
          rw [hr] at h
          simp only [Option.bind_some] at h
          split at h
          rotate_left
          · cases h
          rename_i h1
          cases h
          simp only [Rv] at hv
          obtain ⟨b, c, hb, rfl, _, _⟩ := hv
          obtain ⟨vs, q1, q2, q3⟩ := cells_src hw hb hl hr (by omega)
          obtain ⟨e', he⟩ := srcOk_slice hk (fun e => by simp)
          obtain ⟨f1, f2⟩ := rowsOf_flatten s n cs (row_spec hr).1
          rw [f1, rowsOf_length]
          exact ⟨vs, Src.ofSlice _ he ⟨b, 0, none⟩ _ _ vs q2 (fun j u hu => by rw [addr_add]; exact q3 j u hu) (all_cells h1 q1), q1, f2⟩
      · cases h
    · cases h
  · exact rowsIn_spec h hw hv hk

/-- The cells of what is appended or copied. -/
theorem rowsM_cells {s : Nat} {y : AV} {rs : List (List AV)} {st : St} (h : rowsM st s y = some rs) {e : TypeId} (hk : srcOk (some (.slice e)) y = true) {g : Gh} {base : Nat} {w : World} (hw : Rw g base st w) {v : Value} (hv : Rv g y v) :
    (∀ r ∈ rs, r.length = s) ∧ ((v = .slice none 0 0 ∧ rs = []) ∨ ∃ b o c vs, v = .slice (some ⟨b, o, none⟩) rs.length c ∧ Rl g rs.flatten vs ∧ (∀ (j : Nat) (u : Value), vs[j]? = some u → w.cell? ⟨b, o + j, none⟩ = some u) ∧ ∀ u ∈ vs, u.oneCell' = true) := by
  have mem : ∀ {l b m o n : Nat} {t : Tr AV} {ve : Nat} {cs : List AV}, g.rho l = some b → st.heap.get l = some (.cells m t ve) → row t (n * s) o = some cs → o + n * s ≤ m → allOne cs = true → rs = rowsOf s n cs →
      (∀ r ∈ rs, r.length = s) ∧ rs.length = n ∧ ∃ vs, Rl g rs.flatten vs ∧ (∀ (j : Nat) (u : Value), vs[j]? = some u → w.cell? ⟨b, o + j, none⟩ = some u) ∧ ∀ u ∈ vs, u.oneCell' = true := fun {l b m o n t ve cs} hb hl hr hle h1 he => by
    obtain ⟨vs, q1, q2, q3⟩ := cells_src hw hb hl hr hle
    obtain ⟨f1, f2⟩ := rowsOf_flatten s n cs (row_spec hr).1
    subst he
    exact ⟨f2, rowsOf_length _ _ _, vs, by rw [f1]; exact q1, q3, all_cells h1 q1⟩
  unfold rowsM at h
  split at h
  · rename_i l o n c
    split at h
    · rename_i m t ve hl
      split at h
      · rename_i hle
        cases hr : row t (n * s) o with
        | none => rw [hr] at h; cases h
        | some cs =>
          rw [hr] at h
          simp only [Option.bind_some] at h
          split at h
          · rename_i h1
            simp only [Rv] at hv
            obtain ⟨b, hb, rfl⟩ := hv
            obtain ⟨z1, z2, vs, z3⟩ := mem hb hl hr (ble hle) h1 (Option.some.inj h).symm
            exact ⟨z1, .inr ⟨b, o, c, vs, by rw [z2], z3⟩⟩
          · cases h
      · cases h
    · cases h
  · rename_i l o n
    split at h
    · rename_i m t ve hl
      split at h
      · rename_i hle
        cases hr : row t (n * s) o with
        | none => rw [hr] at h; cases h
        | some cs =>
          rw [hr] at h
          simp only [Option.bind_some] at h
          split at h
          · rename_i h1
            simp only [Rv] at hv
            obtain ⟨b, c, hb, rfl, _⟩ := hv
            obtain ⟨z1, z2, vs, z3⟩ := mem hb hl hr (ble hle) h1 (Option.some.inj h).symm
            exact ⟨z1, .inr ⟨b, o, c, vs, by rw [z2], z3⟩⟩
          · cases h
      · cases h
    · cases h
  · rename_i l z n top
    split at h
    · rename_i m t ve hl
      split at h
      · rename_i hc
        simp only [Bool.and_eq_true] at hc
        have hle := ble hc.2
        cases hr : row t (n * s) 0 with
        | none => rw [hr] at h; cases h
        | some cs =>
          rw [hr] at h
          simp only [Option.bind_some] at h
          split at h
          · rename_i h1
            simp only [Rv] at hv
            obtain ⟨b, c, hb, rfl, _⟩ := hv
            obtain ⟨z1, z2, vs, z3⟩ := mem hb hl hr (by omega) h1 (Option.some.inj h).symm
            exact ⟨z1, .inr ⟨b, 0, c, vs, by rw [z2], z3⟩⟩
          · cases h
      · cases h
    · cases h
  · cases y with
    | nils =>
      simp only [rowsIn] at h; cases h
      simp only [Rv] at hv
      exact ⟨fun r hr => (by cases hr), .inl ⟨hv, rfl⟩⟩
    | lst n own rows =>
      simp only [rowsIn] at h
      split at h
      · rename_i hn
        cases h
        have hn := beq hn
        subst hn
        simp only [Rv] at hv
        obtain ⟨b, o, cap, rfl, _, _, hrr⟩ := hv
        obtain ⟨vs, a1, a2, a3⟩ := rr_flat hrr
        exact ⟨hrr.len, .inr ⟨b, o, cap, vs, rfl, a1, fun j u hu => (hw.fz _ _ _ (a3 j u hu)).1, fun u hu => by
          obtain ⟨i, hi⟩ := List.mem_iff_getElem?.1 hu
          exact (hw.fz _ _ _ (a3 i u hi)).2⟩⟩
      · cases h
    | str bs => simp [srcOk] at hk
    | _ => simp [rowsIn] at h

theorem take_flatten {s : Nat} : ∀ (rs : List (List AV)) (k : Nat), (∀ r ∈ rs, r.length = s) → (rs.take k).flatten = rs.flatten.take ((rs.take k).length * s)
  | [], k, _ => by simp
  | r :: rs, 0, _ => by simp
  | r :: rs, k + 1, h => by
    have hr := h r (List.mem_cons_self ..)
    simp only [List.take_succ_cons, List.flatten_cons, List.length_cons, Nat.add_mul, Nat.one_mul]
    rw [take_flatten rs k (fun x hx => h x (List.mem_cons_of_mem _ hx))]
    generalize (rs.take k).length * s = m
    rw [List.take_append, List.take_of_length_le (l := r) (by omega)]
    congr 2
    omega

theorem evAppend_run {R : Type} {E : Env} {st : St} {t tx : TypeId} {x y : AV} {k : AV → St → Option R} {r : R} (h : evAppend E st t tx x y k = some r) (wf : st.Wf) {g : Gh} {base : Nat} {w : World} (hw : Rw g base st w) (hfr : FreshN g st.next) {v1 v2 : Value} (h1 : Rv g x v1) (h2 : Rv g y v2) (ty : TypeId) :
    ∃ v v' st' g' w', (Builtin.append_ #[t, tx] ty #[v1, v2]).run E.P w = .ok v' w' ∧ Rv g' v v' ∧ Rw g' base st' w' ∧ Goes base g st st' w g' w' ∧ st'.Wf ∧ k v st' = some r := by
  unfold evAppend at h
  split at h
  · rename_i e hu hsrc
    split at h
    · rename_i n z hs hz
      split at h
      · rename_i rs hzl hrs
        have hzl := beq hzl
        obtain ⟨i, hi, hsz⟩ : ∃ i, E.P.info? e = some i ∧ i.size = n + 1 := by
          unfold size at hs
          cases hi : E.P.info? e with
          | none => rw [hi] at hs; cases hs
          | some i => rw [hi] at hs; exact ⟨i, rfl, by simpa using hs⟩
        have hby := bytes_info hi
        obtain ⟨news, n1, n2, n3⟩ := rowsM_spec hrs hw h2 hsrc
        have grow : ∀ {st' : St} {bo : Option Addr} {len cap : Nat} {rows : List (List AV)} {olds : List Value} (_ : rows.length = len) (_ : Rl g rows.flatten olds) (_ : ∀ r ∈ rows, r.length = n + 1) (_ : ∀ v ∈ olds, v.oneCell' = true)
            (_ : (Builtin.firstCells (n + 1) len (.slice bo len cap)).run E.P w.drew = .ok olds.toArray w.drew) (_ : cap < len + rs.length) (_ : len + rs.length ≤ 1073741824) (_ : (len + rs.length) * bytesOf E e ≤ 140737488355328) (_ : Rw g base st' w) (_ : st.le st') (_ : st.next < st'.next),
            ∃ v' w' g', (Builtin.append_ #[t, tx] ty #[.slice bo len cap, v2]).run E.P w = .ok v' w' ∧ Rv g' (.lst (n + 1) (.tok st.next) (rows ++ rs)) v' ∧ Rw g' base st' w' ∧ Goes base g st st' w g' w' := by
          intro st' bo len cap rows olds hlen hro hrol holds1 hold hg h30 hbytes hw' hle hnext
          obtain ⟨zv, z1, z1', z2⟩ := zero_run hz g
          have hzi : i.zero = some zv := by rw [hi] at z1'; simpa using z1'
          have hzs : zv.cells.size = n + 1 := by have := z2.length; simp at this; omega
          have hrun := run_append_grow_src (P := E.P) w t tx ty e i zv hu hi hzi bo len cap olds (by rw [hsz]; exact hold) v2 rs.length news (by rw [hsz]; exact n1) hg (by omega) (growslice_fits hg (by rw [← hby]; exact hbytes))
          have hol : olds.length = len * (n + 1) := by rw [← hro.length, flat_length hrol, hlen]
          have hnl := n1.newsLen
          have hge := grownCap_ge w (len + rs.length) cap e
          obtain ⟨g', a1, a2, a3⟩ := newList (st := st) (st' := st') (own := .tok st.next) (ty := e) (fr := (0, 0)) (len := len + rs.length) (cap := grownCap w (len + rs.length) cap e) (s := n + 1) (cs := (rows ++ rs).flatten)
            (vs0 := olds ++ news ++ (Builtin.zeroCells zv.cells (grownCap w (len + rs.length) cap e - (len + rs.length))).toList) (w1 := w.drew) hw' rfl ((Below.refl base w).drew) (hfr st.next (Nat.le_refl _)).2 hle (Nat.le_refl _) hnext (by simp)
            (by
              rw [List.take_append_of_le_length (by simp [hol, hnl, Nat.add_mul]), List.take_of_length_le (by simp [hol, hnl, Nat.add_mul]), List.flatten_append]
              exact hro.append n2)
            (fun u hu => by
              rw [List.take_append_of_le_length (by simp [hol, hnl, Nat.add_mul]), List.take_of_length_le (by simp [hol, hnl, Nat.add_mul])] at hu
              rcases List.mem_append.1 hu with q | q
              · exact holds1 u q
              · exact n1.one u q)
            (by rw [flat_length (s := n + 1) (fun r hr => by rcases List.mem_append.1 hr with q | q; exact hrol r q; exact n3 r q), List.length_append, hlen])
            (by
              simp only [List.length_append, hol, hnl, Array.length_toList, size_zeroCells, hzs]
              rw [← Nat.add_mul, ← Nat.add_mul]
              congr 1; omega)
            hge (.inl rfl)
          have harr : (⟨olds ++ news ++ (Builtin.zeroCells zv.cells (grownCap w (len + rs.length) cap e - (len + rs.length))).toList⟩ : Array Value) = (olds ++ news).toArray ++ Builtin.zeroCells zv.cells (grownCap w (len + rs.length) cap e - (len + rs.length)) := by
            apply Array.ext'; simp
          rw [harr] at a2 a3
          refine ⟨_, _, g', hrun, ?_, a2, a3⟩
          rw [show (rowsOf (n + 1) (len + rs.length) (rows ++ rs).flatten) = rows ++ rs from by
            have := rowsOf_flat (s := n + 1) (rows := rows ++ rs) (fun r hr => by rcases List.mem_append.1 hr with q | q; exact hrol r q; exact n3 r q)
            rwa [List.length_append, hlen] at this] at a1
          exact a1
        cases x with
        | nils =>
          simp only [] at h
          simp only [Rv] at h1; subst h1
          split at h
          · -- nothing onto nothing
            have hn0 : news = [] := List.eq_nil_of_length_eq_zero (by rw [n1.newsLen]; simp)
            subst hn0
            refine ⟨_, .slice none 0 0, st, g, w, ?_, by simp only [Rv], hw, Goes.refl base g st w, wf, h⟩
            have hlen0 : (Builtin.lenOf v2).run E.P w = .ok 0 w := n1.len w
            have hcells : (Builtin.firstCells (n + 1) 0 v2).run E.P w = .ok #[] w := n1.cells
            rcases n1.kind with ⟨e', he⟩ | he
            · simp [Builtin.append_, und_run hu, und_run he, size_run hs, hlen0, hcells, Sem.run_bind]
            · simp [Builtin.append_, und_run hu, und_run he, size_run hs, hlen0, hcells, Sem.run_bind]
          · rename_i y1 ys
            split at h
            · rename_i hc
              simp only [Bool.and_eq_true] at hc
              obtain ⟨v', w', g', a1, a2, a3, a4⟩ := grow (st' := ⟨st.heap, st.next + 1, st.spent⟩) (bo := none) (len := 0) (cap := 0) (rows := []) (olds := []) rfl Rl.nil (fun r hr => by cases hr) (fun r hr => by cases hr) rfl (by simp) (by have := ble hc.2; simpa using this) (by have := ble hc.1; simpa using this)
                (hw.st (fun _ _ _ => rfl) (fun _ q => q)) next_le (Nat.lt_succ_self _)
              exact ⟨_, v', _, g', w', a1, a2, a3, a4, next_wf wf, h⟩
            · cases h
        | lst m own rows =>
          simp only [] at h
          split at h
          · rename_i hc
            simp only [Bool.and_eq_true] at hc
            have hm := beq hc.1
            have h30 := ble hc.2.1
            have hbb := ble hc.2.2
            subst hm
            have h1' := h1
            simp only [Rv] at h1
            obtain ⟨b, off, cap, rfl, k1, k2, k3⟩ := h1
            split at h
            · -- nothing onto a list
              have hn0 : news = [] := List.eq_nil_of_length_eq_zero (by rw [n1.newsLen]; simp)
              subst hn0
              refine ⟨_, _, st, g, w, ?_, h1', hw, Goes.refl base g st w, wf, h⟩
              rw [run_append_room_src w t tx ty e i hu hi b off rows.length cap v2 0 [] (by rw [hsz]; exact n1) (by omega) (fun j hj => by simp at hj) (fun j hj => by simp at hj)]
              rfl
            · rename_i y1 ys
              obtain ⟨olds, o1, o2, o3⟩ := rr_flat k3
              have o4 : ∀ v ∈ olds, v.oneCell' = true := fun u hu => by
                obtain ⟨j, hj⟩ := List.mem_iff_getElem?.1 hu
                exact (hw.fz _ _ _ (o3 j u hj)).2
              have o5 := run_firstCells_some (P := E.P) w.drew (n + 1) rows.length ⟨b, off, none⟩ rows.length cap olds o2 fun j u hu => by rw [addr_add]; exact (hw.fz _ _ _ (o3 j u hu)).1
              split at h
              · -- its capacity is its length
                simp only [OwnOk] at k2
                obtain ⟨v', w', g', a1, a2, a3, a4⟩ := grow (st' := ⟨st.heap, st.next + 1, st.spent⟩) rfl o1 k3.len o4 o5 (by subst k2; simp) h30 hbb (hw.st (fun _ _ _ => rfl) (fun _ q => q)) next_le (Nat.lt_succ_self _)
                exact ⟨_, v', _, g', w', a1, a2, a3, a4, next_wf wf, h⟩
              · -- a room lies behind it
                rename_i u
                split at h
                · rename_i hsp hul
                  have hul := blt hul
                  rw [Tr.setK_k] at h
                  have hle : st.le ⟨st.heap, st.next + 1, st.spent.set u ()⟩ := ⟨Nat.le_succ _, fun z hz => by
                    show (st.spent.set u ()).get z = some ()
                    rw [Tr.get_set]; split
                    · rfl
                    · exact hz, fun l b hb => ⟨b, hb, Nat.le_refl _, fun _ => rfl⟩⟩
                  have hwf : St.Wf ⟨st.heap, st.next + 1, st.spent.set u ()⟩ := by
                    refine ⟨fun l hl => wf.heap l (by have hl : st.next + 1 ≤ l := hl; omega), fun l hl => ?_⟩
                    have hl : st.next + 1 ≤ l := hl
                    show (st.spent.set u ()).get l = none
                    rw [Tr.get_set_ne _ _ (by omega)]
                    exact wf.spent l (by omega)
                  have hw' : Rw g base ⟨st.heap, st.next + 1, st.spent.set u ()⟩ w := hw.st (fun _ _ _ => rfl) hle.spent
                  have hroom := (hfr st.next (Nat.le_refl _)).2
                  by_cases hfit : rows.length + (y1 :: ys).length ≤ cap
                  · simp only [OwnOk] at k2
                    obtain ⟨r0, z1, z2⟩ := k2
                    have hdead : ¬ g.dead u := fun q => by rw [hw.spent u q] at hsp; cases hsp
                    have hnl := n1.newsLen
                    have hmul : rows.length * (n + 1) + (y1 :: ys).length * (n + 1) ≤ cap * (n + 1) := by
                      rw [← Nat.add_mul]; exact Nat.mul_le_mul_right _ hfit
                    obtain ⟨p1, p2, p3, p4⟩ := hw.room u _ _ _ z1 hdead
                    have hr0 : r0 = news.length + (r0 - news.length) := by omega
                    have z1' := z1
                    rw [hr0] at z1'
                    obtain ⟨f1, f2⟩ := hw'.fill (t := u) (u := st.next) news n1.one z1' hdead hroom (Tr.get_set_same _ _ _)
                    have hrun := run_append_room_src w t tx ty e i hu hi b off rows.length cap v2 _ news (by rw [hsz]; exact n1) hfit (fun j hj => by rw [hsz]; exact (p4 _ (by omega) (by omega)).1) (fun j hj => by rw [hsz]; exact (p4 _ (by omega) (by omega)).2.1)
                    rw [hsz] at hrun
                    refine ⟨_, _, _, _, _, hrun, ?_, f1, Goes.fill p1 f2 hle (Nat.le_refl _) (Nat.lt_succ_self _) hsp (Tr.get_set_same _ _ _), hwf, h⟩
                    simp only [Rv]
                    refine ⟨b, off, cap, by rw [List.length_append], by rw [List.length_append]; exact hfit, ?_, (k3.mono f2 _ _).append ?_⟩
                    · simp only [OwnOk, List.length_append]
                      refine ⟨r0 - news.length, ?_, ?_⟩
                      · show (if st.next = st.next then some (b, off + rows.length * (n + 1) + news.length, r0 - news.length) else _) = _
                        rw [if_pos rfl, hnl, Nat.add_mul]
                        congr 3
                        omega
                      · rw [Nat.add_mul, z2, ← hnl]; omega
                    · refine rr_of_flat (n2.mono f2 _ _) n3 fun j z hz => ?_
                      show (if b = b ∧ off + rows.length * (n + 1) ≤ off + rows.length * (n + 1) + j ∧ off + rows.length * (n + 1) + j < off + rows.length * (n + 1) + news.length then news[off + rows.length * (n + 1) + j - (off + rows.length * (n + 1))]? else _) = some z
                      have hj : j < news.length := by
                        rcases Nat.lt_or_ge j news.length with q | q
                        · exact q
                        · rw [List.getElem?_eq_none q] at hz; cases hz
                      rw [if_pos (by omega), show off + rows.length * (n + 1) + j - (off + rows.length * (n + 1)) = j by omega]
                      exact hz
                  · obtain ⟨v', w', g', a1, a2, a3, a4⟩ := grow (st' := ⟨st.heap, st.next + 1, st.spent.set u ()⟩) rfl o1 k3.len o4 o5 (by omega) h30 hbb hw' hle (Nat.lt_succ_self _)
                    exact ⟨_, v', _, g', w', a1, a2, a3, a4, hwf, h⟩
                · cases h
              · cases h
          · cases h
        | _ => simp at h
      · cases h
    · cases h
  · cases h

theorem evMore_run {R : Type} {E : Env} {st : St} {t tx : TypeId} {x y : AV} {k : AV → St → Option R} {r : R} (h : evMore E st t tx x y k = some r) (wf : st.Wf) {g : Gh} {base : Nat} {w : World} (hw : Rw g base st w) (hfr : g.rho st.next = none) {v1 v2 : Value} (h1 : Rv g x v1) (h2 : Rv g y v2) (ty : TypeId) :
    ∃ v v' st' g' w', (Builtin.append_ #[t, tx] ty #[v1, v2]).run E.P w = .ok v' w' ∧ Rv g' v v' ∧ Rw g' base st' w' ∧ Goes base g st st' w g' w' ∧ st'.Wf ∧ k v st' = some r := by
  have hold_ne : ∀ m b, g.rho m = some b → m ≠ st.next := fun m b q e => by rw [e, hfr] at q; cases q
  unfold evMore at h
  split at h
  · rename_i e hu hsrc
    split at h
    · rename_i n z hs hz
      split at h
      · rename_i r0 rs hzl hrs
        have hzl := beq hzl
        obtain ⟨i, hi, hsz⟩ : ∃ i, E.P.info? e = some i ∧ i.size = n + 1 := by
          unfold size at hs
          cases hi : E.P.info? e with
          | none => rw [hi] at hs; cases hs
          | some i => rw [hi] at hs; exact ⟨i, rfl, by simpa using hs⟩
        have hby := bytes_info hi
        -- a new row
        have grow : ∀ {st' : St} {T : Tr AV} {bo : Option Addr} {len cap : Nat} {cs0 : List AV} {olds news : List Value} (_ : Src E.P (n + 1) tx v2 (r0 :: rs).length news w) (_ : Rl g (r0 :: rs).flatten news)
            (_ : Rl g cs0 olds) (_ : cs0.length = len * (n + 1)) (_ : (Builtin.firstCells (n + 1) len (.slice bo len cap)).run E.P w.drew = .ok olds.toArray w.drew)
            (_ : cap < len + (r0 :: rs).length) (_ : len + (r0 :: rs).length ≤ 1073741824) (_ : (len + (r0 :: rs).length) * bytesOf E e ≤ 140737488355328)
            (_ : Rw g base st' w) (_ : st.le st') (_ : st'.next = st.next + 1) (_ : st'.heap.get st.next = some (.cells (len * (n + 1) + (r0 :: rs).flatten.length) T 0)) (_ : ∀ j, j < len * (n + 1) + (r0 :: rs).flatten.length → T.get j = (cs0 ++ (r0 :: rs).flatten)[j]?),
            ∃ v' g' w', (Builtin.append_ #[t, tx] ty #[.slice bo len cap, v2]).run E.P w = .ok v' w' ∧ Rv g' (.vec st.next (n + 1) (len + (r0 :: rs).length) (len + (r0 :: rs).length)) v' ∧ Rw g' base st' w' ∧ Goes base g st st' w g' w' := by
          intro st' T bo len cap cs0 olds news hsr hrn hro hlen hold hg h30 hbytes hw' hle hnext hget hT
          obtain ⟨zv, z1, z1', z2⟩ := zero_run hz g
          have hzi : i.zero = some zv := by rw [hi] at z1'; simpa using z1'
          have hzs : zv.cells.size = n + 1 := by have := z2.length; simp at this; omega
          have hrun := run_append_grow_src (P := E.P) w t tx ty e i zv hu hi hzi bo len cap olds (by rw [hsz]; exact hold) v2 (r0 :: rs).length news (by rw [hsz]; exact hsr) hg (by omega) (growslice_fits hg (by rw [← hby]; exact hbytes))
          have hol : olds.length = len * (n + 1) := by rw [← hro.length, hlen]
          have hnl := hsr.newsLen
          have hfl : (r0 :: rs).flatten.length = news.length := hrn.length
          have hge := grownCap_ge w (len + (r0 :: rs).length) cap e
          have hall : Rl g (cs0 ++ (r0 :: rs).flatten) (olds ++ news) := hro.append hrn
          have hcs : ((olds ++ news).toArray ++ Builtin.zeroCells zv.cells (grownCap w (len + (r0 :: rs).length) cap e - (len + (r0 :: rs).length))).size = grownCap w (len + (r0 :: rs).length) cap e * (n + 1) := by
            simp only [Array.size_append, List.size_toArray, List.length_append, hol, hnl, size_zeroCells, hzs]
            rw [← Nat.add_mul, ← Nat.add_mul]
            congr 1; omega
          have hwd := hw'.same (w' := w.drew) rfl
          have hnob : ∀ m, g.rho m ≠ some w.heap.size := fun m q => by have := (hw.lab m _ q).2.1; omega
          have le := Gh.le_layW (n := ((olds ++ news).toArray ++ Builtin.zeroCells zv.cells (grownCap w (len + (r0 :: rs).length) cap e - (len + (r0 :: rs).length))).size) hfr hnob
          refine ⟨_, g.layW st.next w.heap.size ((olds ++ news).toArray ++ Builtin.zeroCells zv.cells (grownCap w (len + (r0 :: rs).length) cap e - (len + (r0 :: rs).length))).size, _, hrun, ?_, ?_, ⟨le, hle, ((Below.refl base w).drew).alloc (by show base ≤ w.heap.size; exact hw.base) _, fun l b q => ?_, fun _ _ q => .inl q, fun _ q => .inl q, fun _ _ _ q => .inl q⟩⟩
          · simp only [Rv]
            refine ⟨w.heap.size, grownCap w (len + (r0 :: rs).length) cap e, by show (if st.next = st.next then some w.heap.size else _) = _; rw [if_pos rfl], rfl, Nat.le_refl _, hge, ?_⟩
            show (if w.heap.size = w.heap.size then _ else _) = _
            rw [if_pos rfl, hcs]
          · refine hwd.allocW (l := st.next) hfr hget fun j hj => ?_
            have hj' : j < (cs0 ++ (r0 :: rs).flatten).length := by rw [List.length_append, hlen]; exact hj
            obtain ⟨u, hu', ru⟩ := hall.get (List.getElem?_eq_getElem hj')
            have hju : j < (olds ++ news).length := by rw [← hall.length]; exact hj'
            refine ⟨_, u, (hT j hj).trans (List.getElem?_eq_getElem hj'), ?_, World.frozen?_alloc_new _ _ _ _, ru.mono le _ _⟩
            rw [World.cell?_alloc_new, Array.getElem?_append_left (by simpa using hju)]
            simpa using hu'
          · change (if l = st.next then some w.heap.size else g.rho l) = some b at q
            split at q
            · exact .inr (by omega)
            · exact .inl q
        split at h
        · -- onto nothing
          split at h
          · rename_i hc
            simp only [Bool.and_eq_true] at hc
            unfold evVec at h
            split at h
            · rename_i hone
              rw [lay_k, Tr.setK_k] at h
              simp only [Rv] at h1; subst h1
              obtain ⟨news, s1, s2, s3⟩ := rowsM_spec hrs hw h2 hsrc
              obtain ⟨v', g', w', a1, a2, a3, a4⟩ := grow (bo := none) (len := 0) (cap := 0) (cs0 := []) (olds := []) (T := layT .e 0 (r0 :: rs).flatten) (st' := ⟨st.heap.set st.next (.cells (r0 :: rs).flatten.length (layT .e 0 (r0 :: rs).flatten) 0), st.next + 1, st.spent⟩)
                s1 s2 Rl.nil (by simp) rfl (by simp) (by have := ble hc.1; simpa using this) (by have := ble hc.2; simpa using this)
                (hw.st (fun l b q => Tr.get_set_ne _ _ (hold_ne l b q)) (fun _ q => q)) (new_le wf _) rfl (by rw [Nat.zero_mul, Nat.zero_add]; exact Tr.get_set_same _ _ _)
                (fun j hj => by
                  rw [Nat.zero_mul, Nat.zero_add] at hj
                  rw [layT_get, if_pos ⟨Nat.zero_le _, by omega⟩, List.nil_append, Nat.sub_zero])
              rw [Nat.zero_add] at a2
              exact ⟨_, v', _, g', w', a1, a2, a3, a4, new_wf wf _, h⟩
            · cases h
          · cases h
        · -- onto memory
          rename_i l s' m top
          split at h
          · rename_i hc
            simp only [Bool.and_eq_true] at hc
            have hs' := beq hc.1
            subst hs'
            split at h
            · -- there is room
              rename_i hroom
              have hroom := ble hroom
              unfold evPut at h
              split at h
              · rename_i mm T ve hl
                split at h
                · rename_i hc2
                  simp only [Bool.and_eq_true] at hc2
                  have hmm := ble hc2.1
                  have hone := hc2.2
                  rw [lay_k, Tr.setK_k] at h
                  have h1' := h1
                  simp only [Rv] at h1
                  obtain ⟨b, cap, hb, rfl, hnt, htc, hwide⟩ := h1
                  obtain ⟨news, s1, s2, s3⟩ := rowsM_spec hrs hw h2 hsrc
                  obtain ⟨k1, k2, ab, k3, k4⟩ := hw.lab l b hb
                  rw [hl] at k3; cases k3
                  have hnl := s1.newsLen
                  have hfl : (r0 :: rs).flatten.length = news.length := s2.length
                  have hrun := run_append_room_src w t tx ty e i hu hi b 0 m cap v2 _ news (by rw [hsz]; exact s1) (by omega) (fun j hj => by
                    rw [hsz, Nat.zero_add]
                    obtain ⟨_, _, _, q2, _⟩ := k4 (m * (n + 1) + j) (by omega)
                    rw [q2]; rfl) (fun j hj => by
                    rw [hsz, Nat.zero_add]
                    obtain ⟨_, _, _, _, q3, _⟩ := k4 (m * (n + 1) + j) (by omega)
                    exact q3)
                  rw [hsz, Nat.zero_add] at hrun
                  have hst : ∀ z, (⟨st.heap.set l (.cells mm (layT T (m * (n + 1)) (r0 :: rs).flatten) (ve + 1)), st.next, st.spent⟩ : St).heap.get z = if z = l then some (.cells mm (layT T (m * (n + 1)) (r0 :: rs).flatten) (ve + 1)) else st.heap.get z := fun z => Tr.get_set _ _ _ _
                  have hrw := hw.store hb hl (m * (n + 1)) (r0 :: rs).flatten news s2 (by omega) (t' := layT T (m * (n + 1)) (r0 :: rs).flatten) (st' := ⟨st.heap.set l (.cells mm (layT T (m * (n + 1)) (r0 :: rs).flatten) (ve + 1)), st.next, st.spent⟩) (vf := ve + 1) (fun i => by rw [layT_get]) hst (fun _ h => h)
                  refine ⟨_, _, _, g, _, hrun, ?_, hrw, ⟨.refl g, ⟨Nat.le_refl _, fun _ h => h, fun z ab hz => ?_⟩, setCells_below k1 _ _ _, fun _ _ q => .inl q, fun _ _ q => .inl q, fun _ q => .inl q, fun _ _ _ q => .inl q⟩, ⟨fun z hz => ?_, wf.spent⟩, h⟩
                  · simp only [Rv]; exact ⟨b, cap, hb, rfl, hroom, htc, hwide⟩
                  · rw [hst]
                    by_cases e : z = l
                    · subst e
                      rw [hl] at hz; cases hz
                      exact ⟨_, if_pos rfl, by simp [AB.ver], fun q => by simp [AB.ver] at q⟩
                    · rw [if_neg e]; exact ⟨ab, hz, Nat.le_refl _, fun _ => rfl⟩
                  · rw [hst, if_neg (fun e => by rw [e] at hz; have := wf.heap l hz; rw [hl] at this; cases this)]
                    exact wf.heap z hz
                · cases h
              · cases h
            split at h
            rotate_left
            · cases h
            rename_i hmt
            have hmt := beq hmt
            subst hmt
            unfold evGrow at h
            split at h
            · rename_i mm T ve hl
              split at h
              · rename_i hc2
                simp only [Bool.and_eq_true] at hc2
                have hmm := beq hc2.1
                have hone := hc2.2.1
                have hlt := blt hc2.2.2
                rw [lay_k, Tr.setK_k, Tr.setK_k] at h
                simp only [Rv] at h1
                obtain ⟨b, cap, hb, rfl, _, hcap, hwide⟩ := h1
                obtain ⟨news, s1, s2, s3⟩ := rowsM_spec hrs hw h2 hsrc
                obtain ⟨k1, k2, ab, k3, k4⟩ := hw.lab l b hb
                rw [hl] at k3; cases k3
                subst hmm
                have hlive : Live st l := fun v q => by rw [hl] at q; cases q
                have hne : l ≠ st.next := hold_ne l b hb
                have hst : ∀ q, q ≠ st.next → ((st.heap.set l (.gone (ve + 1))).set st.next (.cells (m * (n + 1) + (r0 :: rs).flatten.length) (layT T (m * (n + 1)) (r0 :: rs).flatten) 0)).get q = if q = l then some (.gone (ve + 1)) else st.heap.get q := fun q hq => by
                  rw [Tr.get_set_ne _ _ hq, Tr.get_set]
                have hle : st.le ⟨(st.heap.set l (.gone (ve + 1))).set st.next (.cells (m * (n + 1) + (r0 :: rs).flatten.length) (layT T (m * (n + 1)) (r0 :: rs).flatten) 0), st.next + 1, st.spent⟩ := ⟨Nat.le_succ _, fun _ q => q, fun q ab hq => by
                  have hqn : q ≠ st.next := fun e => by rw [e, wf.heap _ (Nat.le_refl _)] at hq; cases hq
                  by_cases e : q = l
                  · subst e
                    rw [hl] at hq; cases hq
                    exact ⟨_, (hst q hqn).trans (if_pos rfl), by simp [AB.ver], fun z => by simp [AB.ver] at z⟩
                  · exact ⟨ab, ((hst q hqn).trans (if_neg e)).trans hq, Nat.le_refl _, fun _ => rfl⟩⟩
                have hwf : St.Wf ⟨(st.heap.set l (.gone (ve + 1))).set st.next (.cells (m * (n + 1) + (r0 :: rs).flatten.length) (layT T (m * (n + 1)) (r0 :: rs).flatten) 0), st.next + 1, st.spent⟩ := ⟨fun q hq => by
                  have hq : st.next + 1 ≤ q := hq
                  exact ((hst q (by omega)).trans (if_neg (by omega))).trans (wf.heap q (by omega)), fun q hq => wf.spent q (by have hq : st.next + 1 ≤ q := hq; omega)⟩
                have hw' : Rw g base ⟨(st.heap.set l (.gone (ve + 1))).set st.next (.cells (m * (n + 1) + (r0 :: rs).flatten.length) (layT T (m * (n + 1)) (r0 :: rs).flatten) 0), st.next + 1, st.spent⟩ w := hw.gone (l := l) (ve := ve + 1) (fun q c hq => hst q (hold_ne q c hq)) (fun _ q => q)
                have hget : ∀ j, j < m * (n + 1) + (r0 :: rs).flatten.length → (layT T (m * (n + 1)) (r0 :: rs).flatten).get j = if j < m * (n + 1) then T.get j else (r0 :: rs).flatten[j - m * (n + 1)]? := fun j hj => by
                  rw [layT_get]
                  by_cases e : j < m * (n + 1)
                  · rw [if_pos e, if_neg (by omega)]
                  · rw [if_neg e, if_pos (by omega)]
                have hfl : (r0 :: rs).flatten.length = news.length := s2.length
                have hnl := s1.newsLen
                by_cases hfit : m + (r0 :: rs).length ≤ cap
                · -- in its place
                  have hmul : m * (n + 1) + news.length ≤ cap * (n + 1) := by rw [hnl, ← Nat.add_mul]; exact Nat.mul_le_mul_right _ hfit
                  have hroom : ∀ j, j < news.length → (w.cell? ⟨b, m * (n + 1) + j, none⟩).isSome = true ∧ w.frozen? ⟨b, m * (n + 1) + j, none⟩ = false := fun j hj => hw.wide l b hb _ (by rw [hwide]; omega)
                  have hdead : ∀ q, g.rho q = some b → ¬ Live ⟨(st.heap.set l (.gone (ve + 1))).set st.next (.cells (m * (n + 1) + (r0 :: rs).flatten.length) (layT T (m * (n + 1)) (r0 :: rs).flatten) 0), st.next + 1, st.spent⟩ q := fun q hq y => by
                    have hqn := hold_ne q b hq
                    by_cases e : q = l
                    · exact y (ve + 1) ((hst q hqn).trans (if_pos e))
                    · exact e (hw.inj q l b hq hb (fun v z => y v (((hst q hqn).trans (if_neg e)).trans z)) hlive)
                  have hov := hw'.over hb hdead (m * (n + 1)) news
                  have hrun := run_append_room_src w t tx ty e i hu hi b 0 m cap v2 _ news (by rw [hsz]; exact s1) hfit (fun j hj => by rw [hsz, Nat.zero_add]; exact (hroom j hj).1) (fun j hj => by rw [hsz, Nat.zero_add]; exact (hroom j hj).2)
                  rw [hsz, Nat.zero_add] at hrun
                  have le := Gh.le_lay (b := b) hfr
                  refine ⟨_, _, _, g.lay st.next b, _, hrun, ?_, hov.name hfr (Tr.get_set_same _ _ _) hb hdead fun j hj => ?_, ⟨le, hle, setCells_below k1 _ _ _, fun q c hq => ?_, fun _ _ q => .inl q, fun _ q => .inl q, fun _ _ _ q => .inl q⟩, hwf, h⟩
                  · simp only [Rv]
                    exact ⟨b, cap, by show (if st.next = st.next then some b else _) = _; rw [if_pos rfl], rfl, Nat.le_refl _, hfit, hwide⟩
                  · rw [hget j hj, World.frozen?_setCells]
                    by_cases e : j < m * (n + 1)
                    · rw [if_pos e]
                      obtain ⟨a, u, q1, q2, q3, q4⟩ := k4 j e
                      exact ⟨a, u, q1, by rw [setCells_out (.inr (.inl e))]; exact q2, q3, q4.mono le _ _⟩
                    · rw [if_neg e]
                      have hj2 : j - m * (n + 1) < (r0 :: rs).flatten.length := by omega
                      obtain ⟨u, q1, q2⟩ := s2.get (List.getElem?_eq_getElem hj2)
                      have hcell := World.cell?_setCells_in b news (m * (n + 1)) w (fun j hj => (hroom j hj).1) (j - m * (n + 1)) (by omega)
                      rw [show m * (n + 1) + (j - m * (n + 1)) = j by omega] at hcell
                      refine ⟨_, u, List.getElem?_eq_getElem hj2, ?_, ?_, q2.mono le _ _⟩
                      · rw [hcell, ← List.getElem?_eq_getElem]; exact q1
                      · have := (hroom (j - m * (n + 1)) (by omega)).2
                        rwa [show m * (n + 1) + (j - m * (n + 1)) = j by omega] at this
                  · change (if q = st.next then some b else g.rho q) = some c at hq
                    split at hq
                    · rename_i e; exact .inr ⟨by omega, by rw [e]; exact Nat.lt_succ_self _⟩
                    · exact .inl hq
                · -- in a new one
                  have hex : ∃ cs, row T (m * (n + 1)) 0 = some cs := by
                    have : ∀ (c o : Nat), o + c ≤ m * (n + 1) → ∃ cs, row T c o = some cs := by
                      intro c
                      induction c with
                      | zero => exact fun o _ => ⟨[], rfl⟩
                      | succ c ih =>
                        intro o ho
                        obtain ⟨a, u, q1, _⟩ := k4 o (by omega)
                        obtain ⟨cs, q2⟩ := ih (o + 1) (by omega)
                        exact ⟨a :: cs, by simp only [row, q1, q2]⟩
                    exact this _ 0 (by omega)
                  obtain ⟨cs, hcs⟩ := hex
                  obtain ⟨olds, o1, o2, o3⟩ := cells_src hw hb hl hcs (by omega)
                  obtain ⟨v', g', w', a1, a2, a3, a4⟩ := grow (bo := some ⟨b, 0, none⟩) (len := m) (cap := cap) (cs0 := cs) (olds := olds) (T := layT T (m * (n + 1)) (r0 :: rs).flatten) s1 s2 o1 (row_spec hcs).1
                    (run_firstCells_some w.drew (n + 1) m ⟨b, 0, none⟩ m cap olds o2 (fun j u hu => by rw [addr_add]; exact o3 j u hu)) (by omega) (ble hc.2.1) (ble hc.2.2) hw' hle rfl (Tr.get_set_same _ _ _)
                    (fun j hj => by
                      rw [hget j hj]
                      obtain ⟨c1, c2⟩ := row_spec hcs
                      by_cases e : j < m * (n + 1)
                      · rw [if_pos e, List.getElem?_append_left (by omega), ← c2 j e, Nat.zero_add]
                      · rw [if_neg e, List.getElem?_append_right (by omega), c1])
                  exact ⟨_, v', _, g', w', a1, a2, a3, a4, hwf, h⟩
              · cases h
            · cases h
          · cases h
        · cases h
      · -- nothing is appended
        rename_i hzl hrs
        have hzl := beq hzl
        obtain ⟨i, hi, hsz⟩ : ∃ i, E.P.info? e = some i ∧ i.size = n + 1 := by
          unfold size at hs
          cases hi : E.P.info? e with
          | none => rw [hi] at hs; cases hs
          | some i => rw [hi] at hs; exact ⟨i, rfl, by simpa using hs⟩
        obtain ⟨news, n1, n2, n3⟩ := rowsM_spec hrs hw h2 hsrc
        have hn0 : news = [] := List.eq_nil_of_length_eq_zero (by rw [n1.newsLen]; simp)
        subst hn0
        split at h
        · simp only [Rv] at h1; subst h1
          refine ⟨_, .slice none 0 0, st, g, w, ?_, by simp only [Rv], hw, Goes.refl base g st w, wf, h⟩
          have hlen0 : (Builtin.lenOf v2).run E.P w = .ok 0 w := n1.len w
          have hcells : (Builtin.firstCells (n + 1) 0 v2).run E.P w = .ok #[] w := n1.cells
          rcases n1.kind with ⟨e', he⟩ | he
          · simp [Builtin.append_, und_run hu, und_run he, size_run hs, hlen0, hcells, Sem.run_bind]
          · simp [Builtin.append_, und_run hu, und_run he, size_run hs, hlen0, hcells, Sem.run_bind]
        · rename_i l s' m top
          have h1' := h1
          simp only [Rv] at h1
          obtain ⟨b, cap, hb, rfl, hnt, htc, hwide⟩ := h1
          refine ⟨_, _, st, g, w, ?_, h1', hw, Goes.refl base g st w, wf, h⟩
          rw [run_append_room_src w t tx ty e i hu hi b 0 m cap v2 0 [] (by rw [hsz]; exact n1) (by omega) (fun j hj => by simp at hj) (fun j hj => by simp at hj)]
          rfl
        · cases h
      · cases h
    · cases h
  · cases h
end Go.VE
