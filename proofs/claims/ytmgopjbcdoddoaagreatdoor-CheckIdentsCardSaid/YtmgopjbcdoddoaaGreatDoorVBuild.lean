/- The evaluation is right: structs, arrays and slices made of parts. No Go program is imported. -/
import Derived.Test.YtmgopjbcdoddoaaGreatDoorVVals
set_option linter.unusedSimpArgs false
set_option linter.unusedVariables false
namespace Go.VE
open Go.RowKit

theorem foldl_set (off : Nat) : ∀ (xs : List Value) (k : Nat) (cs : List Value), off + k + xs.length ≤ cs.length →
    ((xs.zipIdx k).foldl (fun (cs : Array Value) (p : Value × Nat) => cs.setIfInBounds (off + p.2) p.1) ⟨cs⟩).toList = cs.take (off + k) ++ xs ++ cs.drop (off + k + xs.length)
  | [], k, cs, h => by simp
  | x :: r, k, cs, h => by
    simp only [List.zipIdx_cons, List.foldl_cons]
    have e : (⟨cs⟩ : Array Value).setIfInBounds (off + k) x = ⟨cs.set (off + k) x⟩ := by simp
    have h : off + k + (r.length + 1) ≤ cs.length := h
    rw [e, foldl_set off r (k + 1) (cs.set (off + k) x) (by simp; omega)]
    have t1 : (cs.set (off + k) x).take (off + (k + 1)) = cs.take (off + k) ++ [x] := by
      apply List.ext_getElem?
      intro i
      rw [List.getElem?_take, List.getElem?_append, List.getElem?_set, List.getElem?_take]
      simp only [List.length_take, Nat.min_eq_left (show off + k ≤ cs.length by omega)]
      by_cases h1 : i < off + k
      · rw [if_pos (by omega), if_neg (by omega), if_pos h1, if_pos h1]
      · by_cases h2 : i = off + k
        · subst h2; simp; omega
        · rw [if_neg (by omega), if_neg h1]; simp; omega
    have t2 : (cs.set (off + k) x).drop (off + (k + 1) + r.length) = cs.drop (off + k + (r.length + 1)) := by
      rw [List.drop_set, if_pos (by omega)]
      congr 1
      omega
    rw [t1, t2]
    simp

theorem fill_one {g : Gh} {cs : List AV} {vs : List Value} {a : AV} {v : Value} (hc : Rl g cs vs) (hv : Rv g a v) {off : Nat} (h : off + a.cells.length ≤ cs.length) :
    ∃ us, v.cells.zipIdx.foldl (fun (cs : Array Value) (p : Value × Nat) => cs.setIfInBounds (off + p.2) p.1) ⟨vs⟩ = ⟨us⟩ ∧ Rl g (cs.take off ++ a.cells ++ cs.drop (off + a.cells.length)) us := by
  have r := cells_rl hv
  have hl := r.length
  have hl2 := hc.length
  have := foldl_set off v.cells.toList 0 vs (by omega)
  refine ⟨vs.take (off + 0) ++ v.cells.toList ++ vs.drop (off + 0 + v.cells.toList.length), ?_, ?_⟩
  · rw [← Array.foldl_toList, Array.toList_zipIdx]
    exact Array.ext' this
  · rw [Nat.add_zero, ← hl]
    exact ((hc.take off).append r).append (hc.drop _)

/-- Parts and their values. -/
def Rp (g : Gh) : List (Nat × AV) → List (Nat × Value) → Prop
  | [], l => l = []
  | (i, a) :: r, l => ∃ v rest, l = (i, v) :: rest ∧ Rv g a v ∧ Rp g r rest

theorem fill_run {g : Gh} {place : Nat → Option (Nat × Nat)} : ∀ {parts : List (Nat × AV)} {pv : List (Nat × Value)} {cs rs : List AV} {vs : List Value}, fillA place cs parts = some rs → Rp g parts pv → Rl g cs vs →
    ∃ us, Instr.fill place ⟨vs⟩ pv = some ⟨us⟩ ∧ Rl g rs us
  | [], pv, cs, rs, vs, h, hp, hc => by
    simp only [fillA] at h; cases h
    simp only [Rp] at hp; subst hp
    exact ⟨vs, rfl, hc⟩
  | (i, a) :: r, pv, cs, rs, vs, h, hp, hc => by
    simp only [fillA] at h
    simp only [Rp] at hp
    obtain ⟨v, rest, rfl, hv, hp⟩ := hp
    cases hpl : place i with
    | none => rw [hpl] at h; cases h
    | some os =>
      obtain ⟨off, size⟩ := os
      rw [hpl] at h
      simp only [] at h
      split at h
      · rename_i hcond
        simp only [Bool.and_eq_true] at hcond
        have c1 := beq hcond.1
        have c2 := ble hcond.2
        obtain ⟨us, e1, e2⟩ := fill_one hc hv c2
        obtain ⟨us', f1, f2⟩ := fill_run h hp e2
        refine ⟨us', ?_, f2⟩
        have hl := (cells_rl hv).length
        have hl2 := hc.length
        simp only [Instr.fill, hpl]
        rw [if_neg (by simp only [Bool.or_eq_true, decide_eq_true_eq, ne_eq, List.size_toArray]; simp only [Array.length_toList] at hl; omega)]
        exact (congrArg (fun z => Instr.fill place z rest) e1).trans f1
      · cases h

theorem mapO_map {α β γ : Type} {f : α → Option β} {h : β → γ} : ∀ {l : List α} {m : List β}, mapO f l = some m → ∀ {k : α → γ}, (∀ a b, f a = some b → k a = h b) → l.map k = m.map h
  | [], m, e, k, _ => by simp only [mapO] at e; cases e; rfl
  | a :: r, m, e, k, hk => by
    simp only [mapO] at e
    cases hf : f a with
    | none => rw [hf] at e; cases e
    | some b =>
      rw [hf] at e
      cases hr : mapO f r with
      | none => rw [hr] at e; cases e
      | some bs => rw [hr] at e; cases e; simp only [List.map_cons, hk a b hf, mapO_map hr hk]

/-- The places of a struct's fields, by the model. -/
theorem places_run {E : Env} : ∀ {fs : List Field} {pl : List (Nat × Nat)}, mapO (fun (f : Field) => (size E f.type).map fun n => (f.offset, n)) fs = some pl → ∀ w, (fs.mapM fun f => do pure (f.offset, ← sizeOf f.type) : Sem (List (Nat × Nat))).run E.P w = .ok pl w
  | [], pl, h, w => by simp only [mapO] at h; cases h; rfl
  | f :: fs, pl, h, w => by
    simp only [mapO] at h
    cases hf : size E f.type with
    | none => rw [hf] at h; cases h
    | some n =>
      rw [hf] at h
      simp only [Option.map_some] at h
      cases hr : mapO (fun (f : Field) => (size E f.type).map fun n => (f.offset, n)) fs with
      | none => rw [hr] at h; cases h
      | some bs =>
        rw [hr] at h; cases h
        simp only [List.mapM_cons, Sem.run_bind, size_run hf, Result.andThen_ok, Sem.run_pure, places_run hr w]

theorem build_run {E : Env} {t : TypeId} {parts : List (Nat × AV)} {x : AV} (h : evBuild E t parts = some x) {g : Gh} {pv : Array (Nat × Value)} (hp : Rp g parts pv.toList) (w : World) : ∃ u, (Instr.build t pv).run E.P w = .ok u w ∧ Rv g x u := by
  unfold evBuild at h
  split at h
  · rename_i z fs hz hu
    split at h
    · rename_i places hpl
      obtain ⟨zv, z1, _, z2⟩ := zero_run hz g
      cases hf : fillA (places[·]?) z parts with
      | none => rw [hf] at h; cases h
      | some rs =>
        rw [hf] at h; cases h
        obtain ⟨us, f1, f2⟩ := fill_run hf hp z2
        refine ⟨.agg ⟨us⟩, ?_, by simp only [Rv]; exact ⟨us, rfl, f2⟩⟩
        have hm := places_run hpl w
        have hma : (fs.mapM fun f => do pure (f.offset, ← sizeOf f.type) : Sem (Array (Nat × Nat))).run E.P w = .ok ⟨places⟩ w := by
          rw [← Array.toArray_toList (xs := fs), List.mapM_toArray, Sem.run_map]
          have : fs.toList.toArray.toList = fs.toList := by simp
          simp only [hm, Result.andThen_ok]
        simp only [Instr.build, Sem.run_bind, z1, Result.andThen_ok, und_run hu, hma]
        have f1' : Instr.fill (fun x => (⟨places⟩ : Array (Nat × Nat))[x]?) zv.cells pv.toList = some ⟨us⟩ := by
          have : (fun x => (⟨places⟩ : Array (Nat × Nat))[x]?) = (fun x : Nat => places[x]?) := by funext i; simp
          rw [this, ← f1]
        simp only [f1', Sem.run_pure]
    · cases h
  · rename_i z n e hz hu
    split at h
    · rename_i m hs
      obtain ⟨zv, z1, _, z2⟩ := zero_run hz g
      cases hf : fillA (fun i => some (i * m, m)) z parts with
      | none => rw [hf] at h; cases h
      | some rs =>
        rw [hf] at h; cases h
        obtain ⟨us, f1, f2⟩ := fill_run hf hp z2
        refine ⟨.agg ⟨us⟩, ?_, by simp only [Rv]; exact ⟨us, rfl, f2⟩⟩
        have f1' : Instr.fill (fun i => some (i * m, m)) zv.cells pv.toList = some ⟨us⟩ := f1
        simp only [Instr.build, Sem.run_bind, z1, Result.andThen_ok, und_run hu, size_run hs, f1', Sem.run_pure]
    · cases h
  · cases h
end Go.VE
