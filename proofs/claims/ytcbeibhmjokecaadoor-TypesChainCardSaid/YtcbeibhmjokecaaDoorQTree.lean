/- Trees of types and of expressions, as they lie in memory. -/
import Derived.Test.YtcbeibhmjokecaaDoorMem
set_option linter.unusedSimpArgs false
set_option linter.unusedVariables false
namespace Go.Proofs.YtcbeibhmjokecaaDoor
open Go.RowKit M

/-- A type: its form, how many, its name, of what. -/
inductive Ty where
  | mk (form n : Int) (name : ByteArray) (of : List Ty)
def Ty.form : Ty → Int | .mk f _ _ _ => f
def Ty.n : Ty → Int | .mk _ n _ _ => n
def Ty.name : Ty → ByteArray | .mk _ _ s _ => s
def Ty.of : Ty → List Ty | .mk _ _ _ l => l
/-- An expression. -/
inductive Ex where
  | mk (op : Int) (t : Ty) (i : Int) (s : ByteArray) (x : List Ex)
def Ex.op : Ex → Int | .mk o _ _ _ _ => o
def Ex.t : Ex → Ty | .mk _ t _ _ _ => t
def Ex.i : Ex → Int | .mk _ _ i _ _ => i
def Ex.s : Ex → ByteArray | .mk _ _ _ s _ => s
def Ex.x : Ex → List Ex | .mk _ _ _ _ x => x
theorem Ty.ext {a b : Ty} (h1 : a.form = b.form) (h2 : a.n = b.n) (h3 : a.name = b.name) (h4 : a.of = b.of) : a = b := by
  cases a; cases b; simp only [Ty.form, Ty.n, Ty.name, Ty.of] at h1 h2 h3 h4; subst h1; subst h2; subst h3; subst h4; rfl
theorem Ex.ext {a b : Ex} (h1 : a.op = b.op) (h2 : a.t = b.t) (h3 : a.i = b.i) (h4 : a.s = b.s) (h5 : a.x = b.x) : a = b := by
  cases a; cases b; simp only [Ex.op, Ex.t, Ex.i, Ex.s, Ex.x] at h1 h2 h3 h4 h5; subst h1; subst h2; subst h3; subst h4; subst h5; rfl

def tyCells (t : Ty) (ov : Value) : List Value := [.int .i64 t.form, .int .i64 t.n, .string t.name, ov]
def exCells (e : Ex) (ov xv : Value) : List Value := [.int .i64 e.op, .int .i64 e.t.form, .int .i64 e.t.n, .string e.t.name, ov, .int .i32 e.i, .string e.s, xv]
theorem tyCells_len (t : Ty) (ov : Value) : (tyCells t ov).length = 4 := rfl
theorem exCells_len (e : Ex) (ov xv : Value) : (exCells e ov xv).length = 8 := rfl
/-- 'a has the cells cs at b, o'. -/
def At (w : World) (b o : Nat) (cs : List Value) : Prop := ∀ j u, cs[j]? = some u → w.cell? ⟨b, o + j, none⟩ = some u
theorem At.kept {S : Nat → Prop} {w w' : World} {b o : Nat} {cs : List Value} (h : At w b o cs) (ho : Only S w w') (hn : 0 < cs.length → ¬ S b) : At w' b o cs :=
  fun j u hu => ho.cell (h j u hu) (hn (by have := (List.getElem?_eq_some_iff.1 hu).1; omega))
theorem At.get {w : World} {b o : Nat} {cs : List Value} (h : At w b o cs) (j : Nat) {u : Value} (hu : cs[j]? = some u) : w.cell? ⟨b, o + j, none⟩ = some u := h j u hu
theorem At.get0 {w : World} {b o : Nat} {u : Value} {cs : List Value} (h : At w b o (u :: cs)) : w.cell? ⟨b, o, none⟩ = some u := h 0 u rfl

/-- A slice that reads as types; all its blocks are in U. -/
inductive TyS (U : Nat → Prop) (w : World) : Value → List Ty → Prop
  | mk (l : List Ty) (ao : Option Addr) (cap off b : Nat) (ovs : Nat → Value) (h0 : 0 < l.length → ao = some ⟨b, off, none⟩) (h1 : ao = none → cap = 0) (hb : 0 < l.length → U b)
      (hn : l.length * 56 ≤ 140737488355328) (hs : ∀ t ∈ l, t.name.size ≤ maxLen)
      (hc : ∀ i t, l[i]? = some t → At w b (off + i * 4) (tyCells t (ovs i))) (hr : ∀ i t, l[i]? = some t → TyS U w (ovs i) t.of) : TyS U w (.slice ao l.length cap) l
/-- A slice that reads as expressions. -/
inductive ExS (U : Nat → Prop) (w : World) : Value → List Ex → Prop
  | mk (l : List Ex) (ao : Option Addr) (cap off b : Nat) (ovs xvs : Nat → Value) (h0 : 0 < l.length → ao = some ⟨b, off, none⟩) (h1 : ao = none → cap = 0) (hb : 0 < l.length → U b)
      (hn : l.length * 112 ≤ 140737488355328) (hs : ∀ e ∈ l, e.t.name.size ≤ maxLen ∧ e.s.size ≤ maxLen ∧ (-2147483648 ≤ e.i ∧ e.i ≤ 2147483647))
      (hc : ∀ i e, l[i]? = some e → At w b (off + i * 8) (exCells e (ovs i) (xvs i))) (ht : ∀ i e, l[i]? = some e → TyS U w (ovs i) e.t.of)
      (hr : ∀ i e, l[i]? = some e → ExS U w (xvs i) e.x) : ExS U w (.slice ao l.length cap) l

theorem TyS.nil (U : Nat → Prop) (w : World) : TyS U w (.slice none 0 0) [] :=
  TyS.mk [] none 0 0 0 (fun _ => .slice none 0 0) (fun h => absurd h (by simp)) (fun _ => rfl) (fun h => absurd h (by simp)) (by simp) (fun _ h => by simp at h) (fun _ _ h => by simp at h) (fun _ _ h => by simp at h)
theorem ExS.nil (U : Nat → Prop) (w : World) : ExS U w (.slice none 0 0) [] :=
  ExS.mk [] none 0 0 0 (fun _ => .slice none 0 0) (fun _ => .slice none 0 0) (fun h => absurd h (by simp)) (fun _ => rfl) (fun h => absurd h (by simp)) (by simp) (fun _ h => by simp at h) (fun _ _ h => by simp at h) (fun _ _ h => by simp at h) (fun _ _ h => by simp at h)
theorem pos_of_get {α : Type} {l : List α} {i : Nat} {x : α} (h : l[i]? = some x) : 0 < l.length := by have := (List.getElem?_eq_some_iff.1 h).1; omega
theorem TyS.kept {U S : Nat → Prop} {w w' : World} {v : Value} {l : List Ty} (h : TyS U w v l) (ho : Only S w w') (hS : ∀ k, U k → ¬ S k) : TyS U w' v l := by
  induction h with
  | mk l ao cap off b ovs h0 h1 hb hn hs hc hr ih =>
    exact TyS.mk l ao cap off b ovs h0 h1 hb hn hs (fun i t hi => (hc i t hi).kept ho (fun _ => hS b (hb (pos_of_get hi)))) (fun i t hi => ih i t hi)
theorem ExS.kept {U S : Nat → Prop} {w w' : World} {v : Value} {l : List Ex} (h : ExS U w v l) (ho : Only S w w') (hS : ∀ k, U k → ¬ S k) : ExS U w' v l := by
  induction h with
  | mk l ao cap off b ovs xvs h0 h1 hb hn hs hc ht hr ih =>
    exact ExS.mk l ao cap off b ovs xvs h0 h1 hb hn hs (fun i t hi => (hc i t hi).kept ho (fun _ => hS b (hb (pos_of_get hi)))) (fun i t hi => (ht i t hi).kept ho hS) (fun i t hi => ih i t hi)
theorem TyS.go {U : Nat → Prop} {w w' : World} {v : Value} {l : List Ty} (h : TyS U w v l) (ho : Only Nil w w') : TyS U w' v l := h.kept ho (fun _ _ h => h)
theorem ExS.go {U : Nat → Prop} {w w' : World} {v : Value} {l : List Ex} (h : ExS U w v l) (ho : Only Nil w w') : ExS U w' v l := h.kept ho (fun _ _ h => h)
theorem TyS.mono {U V : Nat → Prop} {w : World} {v : Value} {l : List Ty} (h : TyS U w v l) (hV : ∀ k, U k → V k) : TyS V w v l := by
  induction h with
  | mk l ao cap off b ovs h0 h1 hb hn hs hc hr ih =>
    exact TyS.mk l ao cap off b ovs h0 h1 (fun h => hV b (hb h)) hn hs hc (fun i t hi => ih i t hi)
theorem ExS.mono {U V : Nat → Prop} {w : World} {v : Value} {l : List Ex} (h : ExS U w v l) (hV : ∀ k, U k → V k) : ExS V w v l := by
  induction h with
  | mk l ao cap off b ovs xvs h0 h1 hb hn hs hc ht hr ih =>
    exact ExS.mk l ao cap off b ovs xvs h0 h1 (fun h => hV b (hb h)) hn hs hc (fun i t hi => (ht i t hi).mono hV) (fun i t hi => ih i t hi)
theorem TyS.slice {U : Nat → Prop} {w : World} {v : Value} {l : List Ty} (h : TyS U w v l) : ∃ ao cap, v = .slice ao l.length cap := by
  cases h with
  | mk l ao cap => exact ⟨ao, cap, rfl⟩
theorem ExS.slice {U : Nat → Prop} {w : World} {v : Value} {l : List Ex} (h : ExS U w v l) : ∃ ao cap, v = .slice ao l.length cap := by
  cases h with
  | mk l ao cap => exact ⟨ao, cap, rfl⟩
/-- New blocks. -/
def New (lo hi : Nat) : Nat → Prop := fun k => lo ≤ k ∧ k < hi
/-- Whatever block. -/
def Any : Nat → Prop := fun _ => True
theorem TyS.any {U : Nat → Prop} {w : World} {v : Value} {l : List Ty} (h : TyS U w v l) : TyS Any w v l := h.mono (fun _ _ => trivial)
theorem ExS.any {U : Nat → Prop} {w : World} {v : Value} {l : List Ex} (h : ExS U w v l) : ExS Any w v l := h.mono (fun _ _ => trivial)
end Go.Proofs.YtcbeibhmjokecaaDoor
