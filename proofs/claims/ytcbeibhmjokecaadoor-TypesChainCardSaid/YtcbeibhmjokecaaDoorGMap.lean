/- A map by strings that the call has made, as a function: of values of whatever type. -/
import Derived.Test.YtcbeibhmjokecaaDoorProg
import Derived.Test.YtcbeibhmjokecaaDoorMem
import Derived.Maps.OwnOps
import Derived.Maps.OwnSet
import Derived.Maps.Views
import Derived.StringKeys
import Derived.WalkKit
set_option linter.unusedSimpArgs false
set_option linter.unusedVariables false
namespace Go.Proofs.YtcbeibhmjokecaaDoor
open Go.RowKit M Go.Maps

theorem keyStr : Keyed Tryd.prog 9 := Keyed.of_law (Go.WideMaps.string_law Tryd.underlying9)
/-- How an element reads: as itself. -/
def anyElem (v : Value) : Option (DataW Value × List MemPlace) := some (.held v, [])
def upS (K : ByteArray → Option Value) (s : ByteArray) (v : Value) : ByteArray → Option Value := fun t => if t = s then some v else K t
/-- A map of n entries. -/
def SMap (w : World) (b n : Nat) (K : ByteArray → Option Value) : Prop :=
  ∃ D : DataW Value, w.ownsMap Tryd.prog 9 anyElem b n D ∧ Maps.size D = n ∧ ∀ s : ByteArray, s.size ≤ maxLen → Maps.has D (.string s.data.toList) = (K s).isSome ∧ ∀ z, D.atKey (.string s.data.toList) (.held z) = .held ((K s).getD z)

theorem keyOf_str {s : ByteArray} (hs : s.size ≤ maxLen) : keyOf Tryd.prog 9 (.string s) = some (.string s.data.toList) := Go.WideMaps.keyOf_string_mk Tryd.underlying9 hs
theorem lit_str_ne {s t : ByteArray} (h : t ≠ s) : Lit.string t.data.toList ≠ Lit.string s.data.toList := fun e => by
  injection e with e
  obtain ⟨⟨x⟩⟩ := t
  obtain ⟨⟨y⟩⟩ := s
  simp only at e
  subst e
  exact h rfl
theorem SMap.lt {w : World} {b n : Nat} {K : ByteArray → Option Value} (h : SMap w b n K) : b < w.heap.size := by
  obtain ⟨D, h, _⟩ := h; exact h.lt
theorem SMap.kept {S : Nat → Prop} {w w' : World} {b n : Nat} {K : ByteArray → Option Value} (h : SMap w b n K) (ho : Only S w w') (hb : ¬ S b) : SMap w' b n K := by
  obtain ⟨D, h, hk⟩ := h
  obtain ⟨es, clock, h1, h2⟩ := h
  exact ⟨D, ⟨es, clock, (ho.block b (Array.getElem?_eq_some_iff.1 h1).1 hb).trans h1, h2⟩, hk⟩
theorem SMap.look {w : World} {b n : Nat} {K : ByteArray → Option Value} (h : SMap w b n K) {mt et : TypeId} {z : Value} (hmt : Tryd.prog.underlying mt = some (.map 9 et)) (hz : (zeroValue et).run Tryd.prog w = .ok z w) (s : ByteArray) (hs : s.size ≤ maxLen) :
    (Instr.lookup mt (.map (some b)) (.string s) false).run Tryd.prog w = .ok ((K s).getD z) w := by
  obtain ⟨D, h, _, hk⟩ := h
  obtain ⟨v, ps, hrun, hv⟩ := h.lookup keyStr hmt hz (zd := .held z) (zp := []) rfl (keyOf_str hs)
  rw [(hk s hs).2 z] at hv
  simp only [anyElem, Option.some.injEq, Prod.mk.injEq, DataW.held.injEq] at hv
  rw [hrun, hv.1]
theorem SMap.look2 {w : World} {b n : Nat} {K : ByteArray → Option Value} (h : SMap w b n K) {mt et : TypeId} {z : Value} (hmt : Tryd.prog.underlying mt = some (.map 9 et)) (hz : (zeroValue et).run Tryd.prog w = .ok z w) (s : ByteArray) (hs : s.size ≤ maxLen) :
    (Instr.lookup mt (.map (some b)) (.string s) true).run Tryd.prog w = .ok (.tuple #[(K s).getD z, .bool (K s).isSome]) w := by
  obtain ⟨D, h, _, hk⟩ := h
  obtain ⟨v, ps, hrun, hv⟩ := h.look_ok keyStr hmt hz (zd := .held z) (zp := []) rfl (keyOf_str hs)
  rw [(hk s hs).2 z] at hv
  simp only [anyElem, Option.some.injEq, Prod.mk.injEq, DataW.held.injEq] at hv
  rw [hrun, hv.1, (hk s hs).1]
theorem ownsMap_exact {w : World} {k : TypeId} {R : Value → Option (DataW Value × List MemPlace)} {b n : Nat} {D : DataW Value} (h : w.ownsMap Tryd.prog k R b n D) : w.ownsMap Tryd.prog k R b (Maps.size D) D := by
  obtain ⟨es, clock, hb, F, hs, rfl⟩ := h
  refine ⟨es, clock, hb, F, ?_, rfl⟩
  simp [Maps.size, Go.length_sorted]
theorem SMap.put {w : World} {b n : Nat} {K : ByteArray → Option Value} (h : SMap w b n K) {mt et : TypeId} (hmt : Tryd.prog.underlying mt = some (.map 9 et)) (s : ByteArray) (hs : s.size ≤ maxLen) (v : Value) (hn : n < 1000000) :
    ∃ w', (Instr.mapUpdate mt (.map (some b)) (.string s) v).run Tryd.prog w = .ok () w' ∧ SMap w' b (if (K s).isSome then n else n + 1) (upS K s v) ∧ Only (One b) w w' := by
  obtain ⟨D, h, hsz, hk⟩ := h
  obtain ⟨w', hrun, h2, hg⟩ := h.update keyStr hmt (by unfold maxLen; omega) (keyOf_str hs) (d := .held v) (ps := []) rfl
  have hT := h.tidy keyStr
  have hsz2 := size_put (k := .string s.data.toList) hT (.held v)
  rw [(hk s hs).1, hsz] at hsz2
  have h3 := ownsMap_exact h2
  rw [hsz2] at h3
  refine ⟨w', hrun, ⟨_, h3, hsz2, fun t ht => ?_⟩, (Only.of_grown hg).mono (fun k hk => by unfold Own at hk; injection hk)⟩
  unfold upS
  by_cases hts : t = s
  · subst hts
    rw [if_pos rfl]
    exact ⟨has_put_same (k := .string t.data.toList) h.isMap trivial _, fun z => atKey_put_same (k := .string t.data.toList) h.isMap trivial _ _⟩
  · rw [if_neg hts]
    rw [has_put_other (lit_str_ne hts)]
    exact ⟨(hk t ht).1, fun z => by rw [atKey_put_other (lit_str_ne hts)]; exact (hk t ht).2 z⟩
theorem SMap.made (w : World) : SMap (w.alloc (.map #[] 0)) w.heap.size 0 (fun _ => none) :=
  ⟨_, World.ownsMap_made _ _ _ _, rfl, fun s hs => ⟨rfl, fun z => rfl⟩⟩
theorem SMap.len {w : World} {b n : Nat} {K : ByteArray → Option Value} (h : SMap w b n K) {mt et : TypeId} (hmt : Tryd.prog.underlying mt = some (.map 9 et)) (ty : TypeId) :
    (Builtin.len_ #[mt] ty #[.map (some b)]).run Tryd.prog w = .ok (.int .i64 n) w := by
  obtain ⟨D, h, hsz, hk⟩ := h
  rw [h.len hmt ty, hsz]
end Go.Proofs.YtcbeibhmjokecaaDoor
