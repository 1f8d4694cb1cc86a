/- Variables and records in memory, and maps of records by their names. -/
import Derived.Test.YtcbeibhmjokecaaDoorYRecM
import Derived.Test.YtcbeibhmjokecaaDoorGMap
import Derived.Test.YtcbeibhmjokecaaDoorGInts
import Derived.Test.YtcbeibhmjokecaaDoorQTree
set_option linter.unusedSimpArgs false
set_option linter.unusedVariables false
namespace Go.Proofs.YtcbeibhmjokecaaDoor
open Go.RowKit M

def vrCells (v : Vr) (ov : Value) : List Value := [.string v.name, .bool v.exp, .int .i64 v.t.form, .int .i64 v.t.n, .string v.t.name, ov]
theorem vrCells_len (v : Vr) (ov : Value) : (vrCells v ov).length = 6 := rfl
def vrVal (v : Vr) (ov : Value) : Value := .agg #[.string v.name, .bool v.exp, .int .i64 v.t.form, .int .i64 v.t.n, .string v.t.name, ov]
def rcVal (r : Rc) (fv : Value) : Value := .agg #[.string r.name, .bool r.exp, .string r.base, fv]
/-- A slice that reads as variables; all its blocks are in U. -/
inductive VarS (U : Nat → Prop) (w : World) : Value → List Vr → Prop
  | mk (l : List Vr) (ao : Option Addr) (cap off b : Nat) (ovs : Nat → Value) (h0 : 0 < l.length → ao = some ⟨b, off, none⟩) (h1 : ao = none → cap = 0) (hb : 0 < l.length → U b)
      (hn : l.length * 80 ≤ 140737488355328) (hs : ∀ v ∈ l, v.name.size ≤ maxLen ∧ v.t.name.size ≤ maxLen)
      (hc : ∀ i v, l[i]? = some v → At w b (off + i * 6) (vrCells v (ovs i))) (hr : ∀ i v, l[i]? = some v → TyS U w (ovs i) v.t.of) : VarS U w (.slice ao l.length cap) l
theorem VarS.nil (U : Nat → Prop) (w : World) : VarS U w (.slice none 0 0) [] :=
  VarS.mk [] none 0 0 0 (fun _ => .slice none 0 0) (fun h => absurd h (by simp)) (fun _ => rfl) (fun h => absurd h (by simp)) (by simp) (fun _ h => by simp at h) (fun _ _ h => by simp at h) (fun _ _ h => by simp at h)
theorem VarS.kept {U S : Nat → Prop} {w w' : World} {v : Value} {l : List Vr} (h : VarS U w v l) (ho : Only S w w') (hS : ∀ k, U k → ¬ S k) : VarS U w' v l := by
  obtain ⟨l, ao, cap, off, b, ovs, h0, h1, hb, hn, hs, hc, hr⟩ := h
  exact VarS.mk l ao cap off b ovs h0 h1 hb hn hs (fun i t hi => (hc i t hi).kept ho (fun _ => hS b (hb (pos_of_get hi)))) (fun i t hi => (hr i t hi).kept ho hS)
theorem VarS.go {U : Nat → Prop} {w w' : World} {v : Value} {l : List Vr} (h : VarS U w v l) (ho : Only Nil w w') : VarS U w' v l := h.kept ho (fun _ _ h => h)
theorem VarS.mono {U V : Nat → Prop} {w : World} {v : Value} {l : List Vr} (h : VarS U w v l) (hV : ∀ k, U k → V k) : VarS V w v l := by
  obtain ⟨l, ao, cap, off, b, ovs, h0, h1, hb, hn, hs, hc, hr⟩ := h
  exact VarS.mk l ao cap off b ovs h0 h1 (fun h => hV b (hb h)) hn hs hc (fun i t hi => (hr i t hi).mono hV)
theorem VarS.slice {U : Nat → Prop} {w : World} {v : Value} {l : List Vr} (h : VarS U w v l) : ∃ ao cap, v = .slice ao l.length cap := by
  cases h with
  | mk l ao cap => exact ⟨ao, cap, rfl⟩

theorem VarS.inv {U : Nat → Prop} {w : World} {v : Value} {l : List Vr} (h : VarS U w v l) : ∃ (ao : Option Addr) (cap off b : Nat) (ovs : Nat → Value), v = .slice ao l.length cap ∧ (0 < l.length → ao = some ⟨b, off, none⟩) ∧ (0 < l.length → U b) ∧
    l.length * 80 ≤ 140737488355328 ∧ (∀ v ∈ l, v.name.size ≤ maxLen ∧ v.t.name.size ≤ maxLen) ∧ (∀ i v, l[i]? = some v → At w b (off + i * 6) (vrCells v (ovs i))) ∧ ∀ i v, l[i]? = some v → TyS U w (ovs i) v.t.of := by
  obtain ⟨l, ao, cap, off, b, ovs, h0, h1, hb, hn, hs, hc, hr⟩ := h
  exact ⟨ao, cap, off, b, ovs, rfl, h0, hb, hn, hs, hc, hr⟩

theorem zeroRec (w : World) : (zeroValue 49).run Tryd.prog w = .ok (.agg #[.string ⟨#[]⟩, .bool false, .string ⟨#[]⟩, .slice none 0 0]) w := by kernel_rfl
/-- A map of records by their names (or none), and what each is. -/
structure RMap (U : Nat → Prop) (w : World) (v : Value) (n : Nat) (R : Recs) (fv : ByteArray → Value) : Prop where
  map : (v = .map none ∧ n = 0 ∧ ∀ s, R s = none) ∨ ∃ b, U b ∧ v = .map (some b) ∧ SMap w b n (fun s => (R s).map (fun r => rcVal r (fv s)))
  fields : ∀ s r, R s = some r → VarS U w (fv s) r.fields
  names : ∀ s r, R s = some r → r.base.size ≤ maxLen ∧ r.name.size ≤ maxLen
  keys : ∃ ks : List ByteArray, ks.length = n ∧ ∀ s, (R s).isSome = true → s ∈ ks
  few : n ≤ 1000000
theorem RMap.kept {U S : Nat → Prop} {w w' : World} {v : Value} {n : Nat} {R : Recs} {fv : ByteArray → Value} (h : RMap U w v n R fv) (ho : Only S w w') (hS : ∀ k, U k → ¬ S k) : RMap U w' v n R fv :=
  ⟨h.map.imp id (fun ⟨b, hb, e, hm⟩ => ⟨b, hb, e, hm.kept ho (hS b hb)⟩), fun s r hr => (h.fields s r hr).kept ho hS, h.names, h.keys, h.few⟩
theorem RMap.go {U : Nat → Prop} {w w' : World} {v : Value} {n : Nat} {R : Recs} {fv : ByteArray → Value} (h : RMap U w v n R fv) (ho : Only Nil w w') : RMap U w' v n R fv := h.kept ho (fun _ _ h => h)
theorem RMap.mono {U V : Nat → Prop} {w : World} {v : Value} {n : Nat} {R : Recs} {fv : ByteArray → Value} (h : RMap U w v n R fv) (hV : ∀ k, U k → V k) : RMap V w v n R fv :=
  ⟨h.map.imp id (fun ⟨b, hb, e, hm⟩ => ⟨b, hV b hb, e, hm⟩), fun s r hr => (h.fields s r hr).mono hV, h.names, h.keys, h.few⟩
theorem RMap.look2 {U : Nat → Prop} {w : World} {v : Value} {n : Nat} {R : Recs} {fv : ByteArray → Value} (h : RMap U w v n R fv) (s : ByteArray) (hs : s.size ≤ maxLen) :
    (Instr.lookup 31 v (.string s) true).run Tryd.prog w = .ok (.tuple #[((R s).map (fun r => rcVal r (fv s))).getD (.agg #[.string ⟨#[]⟩, .bool false, .string ⟨#[]⟩, .slice none 0 0]), .bool (R s).isSome]) w := by
  rcases h.map with ⟨rfl, _, hn⟩ | ⟨b, _, rfl, hm⟩
  · rw [hn s]
    exact Maps.look_nil true keyStr Tryd.underlying31 (zeroRec w) (keyOf_str hs)
  · rw [hm.look2 Tryd.underlying31 (zeroRec w) s hs]
    simp
theorem RMap.len {U : Nat → Prop} {w : World} {v : Value} {n : Nat} {R : Recs} {fv : ByteArray → Value} (h : RMap U w v n R fv) (ty : TypeId) :
    (Builtin.len_ #[31] ty #[v]).run Tryd.prog w = .ok (.int .i64 n) w := by
  rcases h.map with ⟨rfl, rfl, hn⟩ | ⟨b, _, rfl, hm⟩
  · exact Maps.len_nil Tryd.underlying31 ty
  · exact hm.len Tryd.underlying31 ty
end Go.Proofs.YtcbeibhmjokecaaDoor
