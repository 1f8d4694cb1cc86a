/- The memory of an evaluation, and the worlds that it stands for. No Go program is imported. -/
import Derived.Test.YtmgopjbcdoddoaaGreatDoorVVal
import Derived.Laws.World
import Derived.Laws.IdiomCopy
import Derived.Laws.Sem
set_option linter.unusedSimpArgs false
set_option linter.unusedVariables false
namespace Go.VE
open Go.RowKit

/-- What a name of memory stands for: cells, a map's entries. -/
inductive AB where
  | cells (n : Nat) (t : Tr AV) (v : Nat)
  | map (es : List (AV × AV)) (v : Nat)
  | gone (v : Nat)
/-- How often it has been written to. -/
def AB.ver : AB → Nat
  | .cells _ _ v => v
  | .map _ v => v
  | .gone v => v

structure St where
  heap : Tr AB
  next : Nat
  spent : Tr Unit

def Rm (g : Gh) : List (AV × AV) → List MapEntry → Prop
  | [], es => es = []
  | (k, v) :: r, es => ∃ e rest, es = e :: rest ∧ Rv g k e.key ∧ Rv g v e.val ∧ Rm g r rest

def RB (g : Gh) (w : World) (b : Nat) : AB → Prop
  | .cells n t _ => ∀ i, i < n → ∃ a v, t.get i = some a ∧ w.cell? ⟨b, i, none⟩ = some v ∧ w.frozen? ⟨b, i, none⟩ = false ∧ Rv g a v
  | .map es _ => ∃ ents clock, w.heap[b]? = some (.map ents clock) ∧ Rm g es ents.toList
  | .gone _ => True

/-- Somebody's name. -/
def Live (st : St) (l : Nat) : Prop := ∀ v, st.heap.get l ≠ some (.gone v)

structure Rw (g : Gh) (base : Nat) (st : St) (w : World) : Prop where
  fz : ∀ b o v, g.fz b o = some v → w.cell? ⟨b, o, none⟩ = some v ∧ v.oneCell' = true
  lab : ∀ l b, g.rho l = some b → base ≤ b ∧ b < w.heap.size ∧ ∃ ab, st.heap.get l = some ab ∧ RB g w b ab
  inj : ∀ l m b, g.rho l = some b → g.rho m = some b → Live st l → Live st m → l = m
  labfz : ∀ l b o, g.rho l = some b → g.fz b o = none
  room : ∀ t b e r, g.room t = some (b, e, r) → ¬ g.dead t → base ≤ b ∧ b < w.heap.size ∧ (∀ l, g.rho l ≠ some b) ∧ ∀ o, e ≤ o → o < e + r → (w.cell? ⟨b, o, none⟩).isSome = true ∧ w.frozen? ⟨b, o, none⟩ = false ∧ g.fz b o = none
  disj : ∀ t u b e r e' r', g.room t = some (b, e, r) → g.room u = some (b, e', r') → ¬ g.dead t → ¬ g.dead u → t ≠ u → e + r ≤ e' ∨ e' + r' ≤ e
  spent : ∀ t, g.dead t → st.spent.get t = some ()
  dead : ∀ t, g.dead t → ∃ x, g.room t = some x
  base : base ≤ w.heap.size
  wide : ∀ l b, g.rho l = some b → ∀ i, i < g.wide b → (w.cell? ⟨b, i, none⟩).isSome = true ∧ w.frozen? ⟨b, i, none⟩ = false
  wide0 : ∀ b, w.heap.size ≤ b → g.wide b = 0

/-- What an evaluation does to what it is told: more names, memory that it made itself. -/
structure St.le (st st' : St) : Prop where
  next : st.next ≤ st'.next
  spent : ∀ t, st.spent.get t = some () → st'.spent.get t = some ()
  heap : ∀ l ab, st.heap.get l = some ab → ∃ ab', st'.heap.get l = some ab' ∧ ab.ver ≤ ab'.ver ∧ (ab'.ver = ab.ver → ab' = ab)

theorem St.le.refl (st : St) : st.le st := ⟨Nat.le_refl _, fun _ h => h, fun _ ab h => ⟨ab, h, Nat.le_refl _, fun _ => rfl⟩⟩
theorem St.le.trans {a b c : St} (h : a.le b) (k : b.le c) : a.le c := ⟨Nat.le_trans h.next k.next, fun t q => k.spent t (h.spent t q), fun l ab q => by
  obtain ⟨b1, p1, p2, p3⟩ := h.heap l ab q
  obtain ⟨b2, q1, q2, q3⟩ := k.heap l b1 p1
  refine ⟨b2, q1, Nat.le_trans p2 q2, fun e => ?_⟩
  have e1 : b1.ver = ab.ver := by omega
  rw [← p3 e1]; exact q3 (by omega)⟩

structure Goes (base : Nat) (g : Gh) (st st' : St) (w : World) (g' : Gh) (w' : World) : Prop where
  le : g.le g'
  mono : st.le st'
  below : Below base w w'
  rho : ∀ l b, g'.rho l = some b → g.rho l = some b ∨ (st.next ≤ l ∧ l < st'.next)
  room : ∀ t x, g'.room t = some x → g.room t = some x ∨ (st.next ≤ t ∧ t < st'.next)
  dead : ∀ t, g'.dead t → g.dead t ∨ (st.spent.get t = none ∧ st'.spent.get t = some ())
  fzb : ∀ b o v, g'.fz b o = some v → g.fz b o = some v ∨ base ≤ b

theorem Goes.refl (base : Nat) (g : Gh) (st : St) (w : World) : Goes base g st st w g w :=
  ⟨.refl g, .refl st, .refl base w, fun _ _ h => .inl h, fun _ _ h => .inl h, fun _ h => .inl h, fun _ _ _ h => .inl h⟩
theorem unit_none {x : Option Unit} (h : x ≠ some ()) : x = none := by cases x with | none => rfl | some u => cases u; exact absurd rfl h
theorem Goes.trans {base : Nat} {g g1 g2 : Gh} {st st1 st2 : St} {w w1 w2 : World} (h : Goes base g st st1 w g1 w1) (k : Goes base g1 st1 st2 w1 g2 w2) : Goes base g st st2 w g2 w2 where
  le := h.le.trans k.le
  mono := h.mono.trans k.mono
  below := h.below.trans k.below
  rho := fun l b q => by
    rcases k.rho l b q with q | ⟨q1, q2⟩
    · rcases h.rho l b q with q | ⟨q1, q2⟩
      · exact .inl q
      · exact .inr ⟨q1, Nat.lt_of_lt_of_le q2 k.mono.next⟩
    · exact .inr ⟨Nat.le_trans h.mono.next q1, q2⟩
  room := fun l b q => by
    rcases k.room l b q with q | ⟨q1, q2⟩
    · rcases h.room l b q with q | ⟨q1, q2⟩
      · exact .inl q
      · exact .inr ⟨q1, Nat.lt_of_lt_of_le q2 k.mono.next⟩
    · exact .inr ⟨Nat.le_trans h.mono.next q1, q2⟩
  dead := fun t q => by
    rcases k.dead t q with q | ⟨q1, q2⟩
    · rcases h.dead t q with q | ⟨q1, q2⟩
      · exact .inl q
      · exact .inr ⟨q1, k.mono.spent t q2⟩
    · refine .inr ⟨unit_none fun q => ?_, q2⟩
      rw [h.mono.spent t q] at q1; cases q1
  fzb := fun b o v q => (k.fzb b o v q).elim (fun q => h.fzb b o v q) .inr

/-- No name from n on stands for anything yet. -/
def Fresh (g : Gh) (n m : Nat) : Prop := ∀ l, n ≤ l → l < m → g.rho l = none ∧ g.room l = none

/-- Memory and rooms bear names below the next one alone. -/
structure St.Wf (st : St) : Prop where
  heap : ∀ l, st.next ≤ l → st.heap.get l = none
  spent : ∀ l, st.next ≤ l → st.spent.get l = none

theorem Rm.mono {g h : Gh} (le : g.le h) : ∀ (a : List (AV × AV)) (es : List MapEntry), Rm g a es → Rm h a es
  | [], _, k => k
  | (x, y) :: r, es, ⟨e, rest, k1, k2, k3, k4⟩ => ⟨e, rest, k1, k2.mono le _ _, k3.mono le _ _, Rm.mono le r rest k4⟩
theorem RB.mono {g h : Gh} (le : g.le h) {w : World} {b : Nat} : ∀ {ab : AB}, RB g w b ab → RB h w b ab
  | .cells n t _, k => fun i hi => let ⟨a, v, k1, k2, k3, k4⟩ := k i hi; ⟨a, v, k1, k2, k3, k4.mono le _ _⟩
  | .map es _, ⟨ents, clock, k1, k2⟩ => ⟨ents, clock, k1, Rm.mono le _ _ k2⟩
  | .gone _, _ => trivial

/-- Where a world reads alike, it stands for the same. -/
theorem Rw.same {g : Gh} {base : Nat} {st : St} {w w' : World} (h : Rw g base st w) (e : w'.heap = w.heap) : Rw g base st w' := by
  have hc : ∀ a, w'.cell? a = w.cell? a := fun a => by unfold World.cell?; rw [e]
  have hf : ∀ a, w'.frozen? a = w.frozen? a := fun a => by unfold World.frozen?; rw [e]
  refine ⟨fun b o v q => ⟨(hc _).trans (h.fz b o v q).1, (h.fz b o v q).2⟩, fun l b q => ?_, h.inj, h.labfz, fun t b e' r q d => ?_, h.disj, h.spent, h.dead, by rw [e]; exact h.base, fun l b q i hi => by rw [hc, hf]; exact h.wide l b q i hi, fun b hb => h.wide0 b (by rw [← e]; exact hb)⟩
  · obtain ⟨k1, k2, ab, k3, k4⟩ := h.lab l b q
    refine ⟨k1, by rw [e]; exact k2, ab, k3, ?_⟩
    cases ab with
    | cells n t _ => intro i hi; obtain ⟨a, v, q1, q2, q3, q4⟩ := k4 i hi; exact ⟨a, v, q1, (hc _).trans q2, (hf _).trans q3, q4⟩
    | map es _ => obtain ⟨a, b, q1, q2⟩ := k4; exact ⟨a, b, by rw [e]; exact q1, q2⟩
    | gone _ => trivial
  · obtain ⟨k1, k2, k3, k4⟩ := h.room t b e' r q d
    exact ⟨k1, by rw [e]; exact k2, k3, fun o a b => by rw [hc, hf]; exact k4 o a b⟩

/-- Where the memory of the names that stand for something is the same. -/
theorem Rw.st {g : Gh} {base : Nat} {st st' : St} {w : World} (h : Rw g base st w) (hh : ∀ l b, g.rho l = some b → st'.heap.get l = st.heap.get l) (hs : ∀ t, st.spent.get t = some () → st'.spent.get t = some ()) : Rw g base st' w := by
  refine ⟨h.fz, fun l b q => ?_, fun l m b q q' y y' => h.inj l m b q q' (fun v => by rw [← hh l b q]; exact y v) (fun v => by rw [← hh m b q']; exact y' v), h.labfz, h.room, h.disj, fun t q => hs t (h.spent t q), h.dead, h.base, h.wide, h.wide0⟩
  obtain ⟨k1, k2, ab, k3, k4⟩ := h.lab l b q
  exact ⟨k1, k2, ab, (hh l b q).trans k3, k4⟩

/-- A name for a block. -/
def Gh.lay (g : Gh) (l b : Nat) : Gh := { g with rho := fun m => if m = l then some b else g.rho m }
theorem Gh.le_lay {g : Gh} {l b : Nat} (h : g.rho l = none) : g.le (g.lay l b) :=
  ⟨fun m c q => by
    show (if m = l then some b else g.rho m) = some c
    rw [if_neg (fun e => by rw [e, h] at q; cases q)]; exact q, fun _ _ _ q => q, fun _ _ q => q, rfl, fun _ _ _ => rfl⟩

theorem old_cell {w : World} {o : Obj} {b i : Nat} (h : b < w.heap.size) : (w.alloc o).cell? ⟨b, i, none⟩ = w.cell? ⟨b, i, none⟩ :=
  World.cell?_alloc_old _ _ _ (Nat.ne_of_lt h)
theorem old_frozen {w : World} {o : Obj} {b i : Nat} (h : b < w.heap.size) : (w.alloc o).frozen? ⟨b, i, none⟩ = w.frozen? ⟨b, i, none⟩ :=
  World.frozen?_alloc_old _ _ _ (Nat.ne_of_lt h)
theorem old_obj {w : World} {o : Obj} {b : Nat} (h : b < w.heap.size) : (w.alloc o).heap[b]? = w.heap[b]? := by
  show (w.heap.push o)[b]? = w.heap[b]?
  rw [Array.getElem?_push, if_neg (by omega)]
theorem new_obj {w : World} {o : Obj} : (w.alloc o).heap[w.heap.size]? = some o := by
  show (w.heap.push o)[w.heap.size]? = some o
  simp
theorem cell_lt {w : World} {b i : Nat} {v : Value} (h : w.cell? ⟨b, i, none⟩ = some v) : b < w.heap.size := World.block_lt_of_cell? _ _ h

theorem RB.alloc {g : Gh} {w : World} {b : Nat} {o : Obj} (hb : b < w.heap.size) : ∀ {ab : AB}, RB g w b ab → RB g (w.alloc o) b ab
  | .cells n t _, k => fun i hi => by
    obtain ⟨a, v, q1, q2, q3, q4⟩ := k i hi
    exact ⟨a, v, q1, by rw [old_cell hb]; exact q2, by rw [old_frozen hb]; exact q3, q4⟩
  | .map es _, ⟨a, c, q1, q2⟩ => ⟨a, c, by rw [old_obj hb]; exact q1, q2⟩
  | .gone _, _ => trivial

/-- New memory under a name of its own. -/
theorem Rw.alloc {g : Gh} {base : Nat} {st : St} {w : World} (h : Rw g base st w) {l : Nat} {o : Obj} {ab : AB} (hl : g.rho l = none) (hs : st.heap.get l = some ab)
    (hb : RB (g.lay l w.heap.size) (w.alloc o) w.heap.size ab) : Rw (g.lay l w.heap.size) base st (w.alloc o) := by
  have le := Gh.le_lay (b := w.heap.size) hl
  have hrho : ∀ m c, (g.lay l w.heap.size).rho m = some c → (m = l ∧ c = w.heap.size) ∨ (m ≠ l ∧ g.rho m = some c) := fun m c q => by
    change (if m = l then some w.heap.size else g.rho m) = some c at q
    split at q
    · cases q; exact .inl ⟨‹_›, rfl⟩
    · exact .inr ⟨‹_›, q⟩
  refine ⟨fun b o' v q => ?_, fun m c q => ?_, fun m m' c q q' y y' => ?_, fun m c o' q => ?_, fun t b e r q d => ?_, h.disj, h.spent, h.dead, by simp; have := h.base; omega, fun m c q i hi => ?_, fun b hb => h.wide0 b (by simp at hb; omega)⟩
  · have := h.fz b o' v q
    rw [old_cell (cell_lt this.1)]; exact this
  · rcases hrho m c q with ⟨rfl, rfl⟩ | ⟨_, q⟩
    · exact ⟨h.base, by simp, ab, hs, hb⟩
    · obtain ⟨k1, k2, ab', k3, k4⟩ := h.lab m c q
      exact ⟨k1, by simp; omega, ab', k3, (RB.alloc k2 k4).mono le⟩
  · rcases hrho m c q with ⟨p1, p2⟩ | ⟨_, p⟩ <;> rcases hrho m' c q' with ⟨p3, p4⟩ | ⟨_, p'⟩
    · exact p1.trans p3.symm
    · have := (h.lab m' _ p').2.1; omega
    · have := (h.lab m _ p).2.1; omega
    · exact h.inj m m' c p p' y y'
  · rcases hrho m c q with ⟨rfl, rfl⟩ | ⟨_, q⟩
    · show g.fz _ _ = none
      cases hz : g.fz w.heap.size o' with
      | none => rfl
      | some v => have := cell_lt (h.fz _ _ v hz).1; omega
    · exact h.labfz m c o' q
  · obtain ⟨k1, k2, k3, k4⟩ := h.room t b e r q d
    refine ⟨k1, by simp; omega, fun m q => ?_, fun o' a c => ?_⟩
    · rcases hrho m b q with ⟨rfl, rfl⟩ | ⟨_, q⟩
      · omega
      · exact k3 m q
    · rw [old_cell k2, old_frozen k2]; exact k4 o' a c
  · rcases hrho m c q with ⟨rfl, rfl⟩ | ⟨_, q⟩
    · have hi : i < g.wide w.heap.size := hi
      rw [h.wide0 _ (Nat.le_refl _)] at hi; omega
    · obtain ⟨_, k2, _⟩ := h.lab m c q
      rw [old_cell k2, old_frozen k2]; exact h.wide m c q i hi

/-- Cells of new memory that nobody writes again, and a room behind them. -/
def Gh.set (g : Gh) (b : Nat) (vs : List Value) (t : Nat) (r : Nat) : Gh :=
  { g with fz := fun c o => if c = b then vs[o]? else g.fz c o, room := fun u => if u = t then some (b, vs.length, r) else g.room u }

theorem new_cell {w : World} {cs : Array Value} {ty : TypeId} {fr : Nat × Nat} (i : Nat) : (w.alloc (.cells cs ty fr)).cell? ⟨w.heap.size, i, none⟩ = cs[i]? := by
  unfold World.cell?
  simp only [new_obj]
  rfl
theorem new_frozen {w : World} {cs : Array Value} {ty : TypeId} {fr : Nat × Nat} {i : Nat} (h : ¬(fr.1 ≤ i ∧ i < fr.2)) : (w.alloc (.cells cs ty fr)).frozen? ⟨w.heap.size, i, none⟩ = false := by
  unfold World.frozen?
  simp only [new_obj]
  simpa using h
theorem Rw.freeze {g : Gh} {base : Nat} {st : St} {w : World} (h : Rw g base st w) {t : Nat} {cs : Array Value} {ty : TypeId} {fr : Nat × Nat} (hfr : ∀ o, o < cs.size → ¬(fr.1 ≤ o ∧ o < fr.2)) (vs : List Value) (r : Nat) (h1 : ∀ v ∈ vs, v.oneCell' = true) (ht : g.room t = none) (hv : cs.toList.take vs.length = vs) (hr : vs.length + r ≤ cs.size) :
    Rw (g.set w.heap.size vs t r) base st (w.alloc (.cells cs ty fr)) ∧ g.le (g.set w.heap.size vs t r) := by
  have nofz : ∀ o, g.fz w.heap.size o = none := fun o => by
    cases hz : g.fz w.heap.size o with
    | none => rfl
    | some v => have := cell_lt (h.fz _ _ v hz).1; omega
  have le : g.le (g.set w.heap.size vs t r) := ⟨fun _ _ q => q, fun b o v q => by
    show (if b = w.heap.size then vs[o]? else g.fz b o) = some v
    rw [if_neg (fun e => by rw [e, nofz] at q; cases q)]; exact q, fun u x q => by
    show (if u = t then some (w.heap.size, vs.length, r) else g.room u) = some x
    rw [if_neg (fun e => by rw [e, ht] at q; cases q)]; exact q, rfl, fun _ _ _ => rfl⟩
  have hroom : ∀ u x, (g.set w.heap.size vs t r).room u = some x → (u = t ∧ x = (w.heap.size, vs.length, r)) ∨ (u ≠ t ∧ g.room u = some x) := fun u x q => by
    change (if u = t then some (w.heap.size, vs.length, r) else g.room u) = some x at q
    split at q
    · cases q; exact .inl ⟨‹_›, rfl⟩
    · exact .inr ⟨‹_›, q⟩
  refine ⟨⟨fun b o v q => ?_, fun m c q => ?_, h.inj, fun m c o q => ?_, fun u b e r' q d => ?_, fun u u' b e r1 e' r2 q q' d d' ne => ?_, h.spent, fun u q => (h.dead u q).elim fun x hx => ⟨x, le.room u x hx⟩, by simp; have := h.base; omega, fun m c q i hi => by
    obtain ⟨_, k2, _⟩ := h.lab m c q
    rw [old_cell k2, old_frozen k2]; exact h.wide m c q i hi, fun b hb => h.wide0 b (by simp at hb; omega)⟩, le⟩
  · change (if b = w.heap.size then vs[o]? else g.fz b o) = some v at q
    split at q
    · rename_i hb
      subst hb
      refine ⟨?_, h1 v (List.mem_of_getElem? q)⟩
      rw [new_cell]
      rw [← hv, List.getElem?_take] at q
      split at q
      · simpa using q
      · cases q
    · have := h.fz b o v q
      rw [old_cell (cell_lt this.1)]; exact this
  · obtain ⟨k1, k2, ab, k3, k4⟩ := h.lab m c q
    exact ⟨k1, by simp; omega, ab, k3, (RB.alloc k2 k4).mono le⟩
  · show (if c = w.heap.size then vs[o]? else g.fz c o) = none
    rw [if_neg (by have := (h.lab m c q).2.1; omega)]
    exact h.labfz m c o q
  · rcases hroom u _ q with ⟨rfl, e1⟩ | ⟨_, q⟩
    · cases e1
      refine ⟨h.base, by simp, fun m q => by have := (h.lab m _ q).2.1; omega, fun o a c => ⟨?_, ?_, ?_⟩⟩
      · rw [new_cell]; simp; omega
      · rw [new_frozen (hfr o (by omega))]
      · show (if w.heap.size = w.heap.size then vs[o]? else g.fz w.heap.size o) = none
        rw [if_pos rfl]; simp; omega
    · obtain ⟨k1, k2, k3, k4⟩ := h.room u b e r' q d
      refine ⟨k1, by simp; omega, k3, fun o a c => ?_⟩
      rw [old_cell k2, old_frozen k2]
      obtain ⟨x, y, z⟩ := k4 o a c
      refine ⟨x, y, ?_⟩
      show (if b = w.heap.size then vs[o]? else g.fz b o) = none
      rw [if_neg (by omega)]; exact z
  · rcases hroom u _ q with ⟨p1, e1⟩ | ⟨_, p⟩ <;> rcases hroom u' _ q' with ⟨p2, e2⟩ | ⟨_, p'⟩
    · exact absurd (p1.trans p2.symm) ne
    · cases e1; have := (h.room u' _ _ _ p' d').2.1; omega
    · cases e2; have := (h.room u _ _ _ p d).2.1; omega
    · exact h.disj u u' b e r1 e' r2 p p' d d' ne

theorem setCells_obj (b : Nat) : ∀ (vs : List Value) (o : Nat) (w : World) (c : Nat), (c ≠ b ∨ ∃ es k, w.heap[c]? = some (.map es k)) → (w.setCells b o vs).heap[c]? = w.heap[c]?
  | [], _, _, _, _ => rfl
  | v :: r, o, w, c, h => by
    have h1 : (w.setCell ⟨b, o, none⟩ v).heap[c]? = w.heap[c]? := by
      simp only [World.setCell, Array.getElem?_modify]
      by_cases hb : b = c
      · rw [if_pos hb]
        rcases h with h | ⟨es, k, h⟩
        · exact absurd hb.symm h
        · rw [h]; rfl
      · rw [if_neg hb]
    rw [World.setCells, setCells_obj b r (o + 1) _ c (by rw [h1]; exact h), h1]
theorem setCells_size (b : Nat) : ∀ (vs : List Value) (o : Nat) (w : World), (w.setCells b o vs).heap.size = w.heap.size
  | [], _, _ => rfl
  | v :: r, o, w => by rw [World.setCells, setCells_size b r]; simp
theorem setCells_below {base b : Nat} (hb : base ≤ b) : ∀ (vs : List Value) (o : Nat) (w : World), Below base w (w.setCells b o vs)
  | [], _, w => .refl base w
  | v :: r, o, w => ((Below.refl base w).setCell (p := ⟨b, o, none⟩) hb v).trans (setCells_below hb r (o + 1) _)
theorem setCells_out {b : Nat} {vs : List Value} {o : Nat} {w : World} {c i : Nat} (h : c ≠ b ∨ i < o ∨ o + vs.length ≤ i) : (w.setCells b o vs).cell? ⟨c, i, none⟩ = w.cell? ⟨c, i, none⟩ :=
  World.cell?_setCells_out b vs o w _ (fun h1 _ => by rcases h with h | h; exact absurd h1 h; exact h)

theorem isSome_setCells {b : Nat} {a : Addr} : ∀ {vs : List Value} {o : Nat} {w : World}, (w.cell? a).isSome = true → ((w.setCells b o vs).cell? a).isSome = true
  | [], _, _, h => h
  | v :: r, o, w, h => by
    rw [World.setCells]
    refine isSome_setCells (vs := r) ?_
    by_cases e : (⟨b, o, none⟩ : Addr) = a
    · subst e
      obtain ⟨x, hx⟩ := Option.isSome_iff_exists.1 h
      rw [World.cell?_setCell_same _ _ _ hx]; rfl
    · rw [World.cell?_setCell_other _ _ _ _ e]; exact h

/-- Cells of a name are written. -/
theorem Rw.store {g : Gh} {base : Nat} {st st' : St} {w : World} (h : Rw g base st w) {l b n ve vf : Nat} {t t' : Tr AV} (hl : g.rho l = some b) (hs : st.heap.get l = some (.cells n t ve)) (o : Nat) (as : List AV) (vs : List Value) (hr : Rl g as vs) (hn : o + vs.length ≤ n)
    (ht : ∀ i, t'.get i = if o ≤ i ∧ i < o + as.length then as[i - o]? else t.get i) (hst : ∀ m, st'.heap.get m = if m = l then some (.cells n t' vf) else st.heap.get m) (hsp : ∀ t, st.spent.get t = some () → st'.spent.get t = some ()) :
    Rw g base st' (w.setCells b o vs) := by
  obtain ⟨k1, k2, ab, k3, k4⟩ := h.lab l b hl
  rw [hs] at k3; cases k3
  have hlive : Live st l := fun v q => by rw [hs] at q; cases q
  refine ⟨fun c i v q => ?_, fun m c q => ?_, fun m m' c q q' y y' => ?_, h.labfz, fun u c e r q d => ?_, h.disj, fun t q => hsp t (h.spent t q), h.dead, by rw [setCells_size]; exact h.base, fun m c q i hi => ?_, fun b hb => h.wide0 b (by rw [setCells_size] at hb; exact hb)⟩
  · rw [setCells_out (.inl fun e => by subst e; rw [h.labfz l c i hl] at q; cases q)]; exact h.fz c i v q
  · obtain ⟨q1, q2, ab', q3, q4⟩ := h.lab m c q
    refine ⟨q1, by rw [setCells_size]; exact q2, ?_⟩
    by_cases hm : m = l
    · subst hm
      rw [hl] at q; cases q
      refine ⟨.cells n t' vf, by rw [hst, if_pos rfl], fun i hi => ?_⟩
      by_cases hin : o ≤ i ∧ i < o + as.length
      · have hlen := hr.length
        obtain ⟨a, ha⟩ : ∃ a, as[i - o]? = some a := ⟨_, List.getElem?_eq_getElem (by omega)⟩
        obtain ⟨v, hv, rv⟩ := hr.get ha
        have hc := World.cell?_setCells_in b vs o w (fun j hj => by
          obtain ⟨_, x, _, hx, _⟩ := k4 (o + j) (by omega); rw [hx]; rfl) (i - o) (by omega)
        rw [show o + (i - o) = i by omega] at hc
        refine ⟨a, v, by rw [ht, if_pos hin]; exact ha, ?_, ?_, rv⟩
        · rw [hc, ← List.getElem?_eq_getElem]; exact hv
        · rw [World.frozen?_setCells]; obtain ⟨_, _, _, _, hf, _⟩ := k4 i hi; exact hf
      · obtain ⟨a, v, p1, p2, p3, p4⟩ := k4 i hi
        have hlen := hr.length
        exact ⟨a, v, by rw [ht, if_neg hin]; exact p1, by rw [setCells_out (.inr (by omega))]; exact p2, by rw [World.frozen?_setCells]; exact p3, p4⟩
    · refine ⟨ab', by rw [hst, if_neg hm]; exact q3, ?_⟩
      have hne : Live st m → c ≠ b := fun y e => hm (h.inj m l b (e ▸ q) hl y hlive)
      cases ab' with
      | gone _ => trivial
      | cells n' t2 _ =>
        have hne := hne (fun v q => by rw [q3] at q; cases q)
        intro i hi
        obtain ⟨a, v, p1, p2, p3, p4⟩ := q4 i hi
        exact ⟨a, v, p1, by rw [setCells_out (.inl hne)]; exact p2, by rw [World.frozen?_setCells]; exact p3, p4⟩
      | map es _ =>
        have hne := hne (fun v q => by rw [q3] at q; cases q)
        obtain ⟨ents, clock, p1, p2⟩ := q4
        exact ⟨ents, clock, by rw [setCells_obj _ _ _ _ _ (.inl hne)]; exact p1, p2⟩
  · have hh : ∀ z, Live st' z → Live st z := fun z y v q => by
      have := hst z
      split at this
      · rename_i e; rw [e, hs] at q; cases q
      · exact y v (this.trans q)
    exact h.inj m m' c q q' (hh m y) (hh m' y')
  · obtain ⟨q1, q2, q3, q4⟩ := h.room u c e r q d
    refine ⟨q1, by rw [setCells_size]; exact q2, q3, fun i a e' => ?_⟩
    rw [setCells_out (.inl fun e' : c = b => q3 l (e' ▸ hl)), World.frozen?_setCells]
    exact q4 i a e'
  · obtain ⟨p1, p2⟩ := h.wide m c q i hi
    refine ⟨?_, by rw [World.frozen?_setCells]; exact p2⟩
    exact isSome_setCells p1

/-- A room is filled from its beginning: what is written there is never written again; the rest is another room. -/
def Gh.fill (g : Gh) (b e : Nat) (vs : List Value) (t u r : Nat) : Gh :=
  { g with fz := fun c o => if c = b ∧ e ≤ o ∧ o < e + vs.length then vs[o - e]? else g.fz c o, room := fun x => if x = u then some (b, e + vs.length, r) else g.room x, dead := fun x => x = t ∨ g.dead x }

theorem Rw.fill {g : Gh} {base : Nat} {st : St} {w : World} (h : Rw g base st w) {t u b e r : Nat} (vs : List Value) (h1 : ∀ v ∈ vs, v.oneCell' = true) (ht : g.room t = some (b, e, vs.length + r)) (hd : ¬ g.dead t) (hu : g.room u = none) (hst : st.spent.get t = some ()) :
    Rw (g.fill b e vs t u r) base st (w.setCells b e vs) ∧ g.le (g.fill b e vs t u r) := by
  obtain ⟨k1, k2, k3, k4⟩ := h.room t b e _ ht hd
  have htu : t ≠ u := fun e => by rw [e, hu] at ht; cases ht
  have le : g.le (g.fill b e vs t u r) := ⟨fun _ _ q => q, fun c o v q => by
    show (if c = b ∧ e ≤ o ∧ o < e + vs.length then vs[o - e]? else g.fz c o) = some v
    rw [if_neg (fun hh => by obtain ⟨rfl, a, b'⟩ := hh; rw [(k4 o a (by omega)).2.2] at q; cases q)]; exact q, fun x y q => by
    show (if x = u then some (b, e + vs.length, r) else g.room x) = some y
    rw [if_neg (fun e => by rw [e, hu] at q; cases q)]; exact q, rfl, fun _ _ _ => rfl⟩
  have hroom : ∀ x y, (g.fill b e vs t u r).room x = some y → (x = u ∧ y = (b, e + vs.length, r)) ∨ (x ≠ u ∧ g.room x = some y) := fun x y q => by
    change (if x = u then some (b, e + vs.length, r) else g.room x) = some y at q
    split at q
    · cases q; exact .inl ⟨‹_›, rfl⟩
    · exact .inr ⟨‹_›, q⟩
  have hdead : ∀ x, ¬ (g.fill b e vs t u r).dead x → x ≠ t ∧ ¬ g.dead x := fun x q => ⟨fun e => q (.inl e), fun e => q (.inr e)⟩
  refine ⟨⟨fun c o v q => ?_, fun m c q => ?_, h.inj, fun m c o q => ?_, fun x c e' r' q d => ?_, fun x x' c e1 r1 e2 r2 q q' d d' ne => ?_, fun x q => ?_, fun x q => ?_, by rw [setCells_size]; exact h.base, fun m c q i hi => ⟨isSome_setCells (h.wide m c q i hi).1, by rw [World.frozen?_setCells]; exact (h.wide m c q i hi).2⟩, fun b hb => h.wide0 b (by rw [setCells_size] at hb; exact hb)⟩, le⟩
  · change (if c = b ∧ e ≤ o ∧ o < e + vs.length then vs[o - e]? else g.fz c o) = some v at q
    split at q
    · rename_i hh
      obtain ⟨rfl, p1, p2⟩ := hh
      have hc := World.cell?_setCells_in c vs e w (fun j hj => (k4 (e + j) (by omega) (by omega)).1) (o - e) (by omega)
      rw [show e + (o - e) = o by omega] at hc
      exact ⟨by rw [hc, ← List.getElem?_eq_getElem]; exact q, h1 v (List.mem_of_getElem? q)⟩
    · rename_i hh
      rw [setCells_out (by omega)]; exact h.fz c o v q
  · obtain ⟨q1, q2, ab, q3, q4⟩ := h.lab m c q
    have hne : c ≠ b := fun e => k3 m (e ▸ q)
    refine ⟨q1, by rw [setCells_size]; exact q2, ab, q3, ?_⟩
    refine RB.mono le ?_
    cases ab with
    | cells n' t2 _ =>
      intro i hi
      obtain ⟨a, v, p1, p2, p3, p4⟩ := q4 i hi
      exact ⟨a, v, p1, by rw [setCells_out (.inl hne)]; exact p2, by rw [World.frozen?_setCells]; exact p3, p4⟩
    | gone _ => trivial
    | map es _ =>
      obtain ⟨ents, clock, p1, p2⟩ := q4
      exact ⟨ents, clock, by rw [setCells_obj _ _ _ _ _ (.inl hne)]; exact p1, p2⟩
  · show (if c = b ∧ e ≤ o ∧ o < e + vs.length then vs[o - e]? else g.fz c o) = none
    rw [if_neg (fun hh : c = b ∧ e ≤ o ∧ o < e + vs.length => k3 m (hh.1 ▸ q))]; exact h.labfz m c o q
  · obtain ⟨d1, d2⟩ := hdead x d
    rcases hroom x _ q with ⟨p1, p2⟩ | ⟨p1, p2⟩
    · cases p2
      refine ⟨k1, by rw [setCells_size]; exact k2, k3, fun o a c => ?_⟩
      obtain ⟨z1, z2, z3⟩ := k4 o (by omega) (by omega)
      rw [setCells_out (.inr (by omega)), World.frozen?_setCells]
      refine ⟨z1, z2, ?_⟩
      show (if b = b ∧ e ≤ o ∧ o < e + vs.length then vs[o - e]? else g.fz b o) = none
      rw [if_neg (by omega)]; exact z3
    · obtain ⟨q1, q2, q3, q4⟩ := h.room x c e' r' p2 d2
      refine ⟨q1, by rw [setCells_size]; exact q2, q3, fun o a c' => ?_⟩
      obtain ⟨z1, z2, z3⟩ := q4 o a c'
      have hout : c ≠ b ∨ o < e ∨ e + vs.length ≤ o := by
        by_cases hcb : c = b
        · subst hcb
          have := h.disj x t c e' r' e (vs.length + r) p2 ht d2 hd d1
          omega
        · exact .inl hcb
      rw [setCells_out hout, World.frozen?_setCells]
      refine ⟨z1, z2, ?_⟩
      show (if c = b ∧ e ≤ o ∧ o < e + vs.length then vs[o - e]? else g.fz c o) = none
      rw [if_neg (by omega)]; exact z3
  · obtain ⟨d1, d2⟩ := hdead x d
    obtain ⟨d3, d4⟩ := hdead x' d'
    rcases hroom x _ q with ⟨p1, p2⟩ | ⟨p1, p2⟩ <;> rcases hroom x' _ q' with ⟨p3, p4⟩ | ⟨p3, p4⟩
    · exact absurd (p1.trans p3.symm) ne
    · cases p2; have := h.disj t x' b e (vs.length + r) e2 r2 ht p4 hd d4 (Ne.symm d3); omega
    · cases p4; have := h.disj x t b e1 r1 e (vs.length + r) p2 ht d2 hd d1; omega
    · exact h.disj x x' c e1 r1 e2 r2 p2 p4 d2 d4 ne
  · rcases q with q | q
    · rw [q]; exact hst
    · exact h.spent x q
  · rcases q with q | q
    · rw [q]; exact ⟨_, le.room t _ ht⟩
    · exact (h.dead x q).elim fun y hy => ⟨y, le.room x y hy⟩

/-- A map's entries turn. -/
theorem Rw.mapset {g : Gh} {base : Nat} {st st' : St} {w : World} (h : Rw g base st w) {l b vf : Nat} (hlive : Live st l) {ents : Array MapEntry} {clock : Nat} {es : List (AV × AV)} (hl : g.rho l = some b) (hr : Rm g es ents.toList) (hm : ∃ e c, w.heap[b]? = some (.map e c))
    (hst : ∀ m, st'.heap.get m = if m = l then some (.map es vf) else st.heap.get m) (hsp : ∀ t, st.spent.get t = some () → st'.spent.get t = some ()) :
    Rw g base st' { w with heap := w.heap.setIfInBounds b (.map ents clock) } := by
  obtain ⟨me, mc, hm⟩ := hm
  obtain ⟨k1, k2, ab, k3, k4⟩ := h.lab l b hl
  have ho : ∀ c, c ≠ b → (w.heap.setIfInBounds b (.map ents clock))[c]? = w.heap[c]? := fun c hc => by
    rw [Array.getElem?_setIfInBounds]; rw [if_neg (Ne.symm hc)]
  have hs : (w.heap.setIfInBounds b (.map ents clock))[b]? = some (.map ents clock) := by
    rw [Array.getElem?_setIfInBounds, if_pos rfl, if_pos k2]
  have hc : ∀ c i, ({ w with heap := w.heap.setIfInBounds b (.map ents clock) } : World).cell? ⟨c, i, none⟩ = w.cell? ⟨c, i, none⟩ := fun c i => by
    unfold World.cell?
    by_cases e : c = b
    · subst e; simp only [hs, hm]
    · simp only [ho c e]
  have hf : ∀ c i, ({ w with heap := w.heap.setIfInBounds b (.map ents clock) } : World).frozen? ⟨c, i, none⟩ = w.frozen? ⟨c, i, none⟩ := fun c i => by
    unfold World.frozen?
    by_cases e : c = b
    · subst e; simp only [hs, hm]
    · simp only [ho c e]
  refine ⟨fun c o v q => ⟨(hc c o).trans (h.fz c o v q).1, (h.fz c o v q).2⟩, fun m c q => ?_, fun m m' c q q' y y' => ?_, h.labfz, fun t c e r q d => ?_, h.disj, fun t q => hsp t (h.spent t q), h.dead, by simpa using h.base, fun m c q i hi => by rw [hc, hf]; exact h.wide m c q i hi, fun b hb => h.wide0 b (by simpa using hb)⟩
  · obtain ⟨q1, q2, ab', q3, q4⟩ := h.lab m c q
    refine ⟨q1, by simpa using q2, ?_⟩
    by_cases e : m = l
    · subst e
      rw [hl] at q; cases q
      exact ⟨.map es vf, by rw [hst, if_pos rfl], ents, clock, hs, hr⟩
    · refine ⟨ab', by rw [hst, if_neg e]; exact q3, ?_⟩
      have hne : Live st m → c ≠ b := fun y e' => e (h.inj m l b (e' ▸ q) hl y hlive)
      cases ab' with
      | gone _ => trivial
      | cells n t _ => intro i hi; obtain ⟨a, v, p1, p2, p3, p4⟩ := q4 i hi; exact ⟨a, v, p1, (hc c i).trans p2, (hf c i).trans p3, p4⟩
      | map es' _ => obtain ⟨x, y, p1, p2⟩ := q4; exact ⟨x, y, (ho c (hne fun v q => by rw [q3] at q; cases q)).trans p1, p2⟩
  · have hh : ∀ z, Live st' z → Live st z := fun z y v q => by
      have := hst z
      split at this
      · rename_i e; rw [e] at q; exact hlive v q
      · exact y v (this.trans q)
    exact h.inj m m' c q q' (hh m y) (hh m' y')
  · obtain ⟨q1, q2, q3, q4⟩ := h.room t c e r q d
    exact ⟨q1, by simpa using q2, q3, fun o a b' => by rw [hc, hf]; exact q4 o a b'⟩
end Go.VE
