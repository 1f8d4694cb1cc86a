/- Slices of ints: new ones, two held against one another. -/
import Derived.Test.YtbpdhpfcknaaiaaDoorProg
import Derived.Test.YtbpdhpfcknaaiaaDoorSrc
import Derived.Deep.LoopGhost
import Derived.Deep.DeepCutAuto
import Derived.Deep.RegionHeld3
import Derived.StillTailTactics
import Derived.Deep.Quiet
import Derived.Deep.QuietTactic
import Derived.Handy
import Derived.Outline
import Derived.KernelRfl
import Derived.Lib.Hide
set_option linter.unusedSimpArgs false
set_option linter.unusedVariables false
namespace Go.Proofs.YtbpdhpfcknaaiaaDoor
open Go.RowKit M

theorem not_beq {a b : Int} (h : ¬ a = b) : (a == b) = false := by simpa using h
theorem toList_inj' {a b : ByteArray} (h : a.toList = b.toList) : a = b := by
  rw [ByteArray.toList_eq, ByteArray.toList_eq] at h
  exact ByteArray.ext (Array.ext' h)
theorem bytes_ne {a b : ByteArray} (h : a ≠ b) : (a.toList == b.toList) = false := by
  rw [beq_eq_false_iff_ne]
  exact fun e => h (toList_inj' e)
theorem bytes_ne' {a b : ByteArray} (h : a ≠ b) : (a.toList != b.toList) = true := by
  rw [bne, bytes_ne h]; rfl
def Ints (l : List Int) : List Value := l.map (Value.int .i64)
theorem Ints_len (l : List Int) : (Ints l).length = l.length := by simp [Ints]
theorem Ints_append (l m : List Int) : Ints (l ++ m) = Ints l ++ Ints m := by simp [Ints]
theorem Ints_one (l : List Int) : ∀ u ∈ Ints l, u.oneCell' = true := by
  intro u hu
  simp only [Ints, List.mem_map] at hu
  obtain ⟨x, _, rfl⟩ := hu
  rfl
theorem Tryd.info3 : (Tryd.prog.info? 3).map (fun i => (i.zero, i.size, i.bytes)) = some (some (.int .i64 0), 1, 8) := by kernel_rfl
theorem made_ints (n : Nat) : madeCells #[Value.int .i64 0] n = (Ints (List.replicate n 0)).toArray := by
  unfold madeCells Ints
  apply Array.ext
  · simp
  · intro i h1 h2
    simp [Nat.mod_one]
theorem own_blk {w : World} {b base : Nat} {t : TypeId} {l : List Value} (h : Blk w b l.toArray t) (hb : base ≤ b) (hl : l.length ≤ maxLen) : w.ownsRow base t 1 (.slice (some ⟨b, 0, none⟩) l.length l.length) l.length l := by
  refine ⟨by rw [Nat.mul_one], Or.inr ⟨b, _, l.toArray, rfl, hb, h, Nat.le_refl _, hl, by simp, List.take_of_length_le (by simp)⟩⟩
theorem Ints_set (X : List Int) (k : Nat) (x : Int) : ((Ints X).toArray.setIfInBounds k (.int .i64 x)) = (Ints (X.set k x)).toArray := by
  simp [Ints, List.map_set]
theorem Ints_get {X : List Int} {k : Nat} (h : k < X.length) : (Ints X).toArray[k]? = some (.int .i64 (X.getD k 0)) := by
  simp [Ints, List.getD, h]
theorem Ints_at {X : List Int} {k : Nat} (h : k < X.length) : (Ints X)[k]? = some (.int .i64 (X.getD k 0)) := by
  simp [Ints, List.getD, h]
theorem sl_of_own {w : World} {base : Nat} {e : TypeId} {size : Nat} {v : Value} {n : Nat} {xs : List Value} (h : w.ownsRow base e size v n xs) : ∃ ao cap, v = .slice ao n cap := by
  rcases h.2 with ⟨rfl, h0⟩ | ⟨g, cap, cur, rfl, _⟩
  · exact ⟨_, _, by rw [h0]⟩
  · exact ⟨_, _, rfl⟩
theorem src_of_blk {w : World} {b : Nat} {t : TypeId} {l : List Value} (h : Blk w b l.toArray t) : Src w b (.slice (some ⟨b, 0, none⟩) l.length l.length) l :=
  ⟨_, _, 0, rfl, fun _ => rfl, nofun, fun i u hu => by rw [Nat.zero_add, h.cell i]; simpa using hu⟩
theorem M.Only.drewN {S : Nat → Prop} {a w : World} (h : Only S a w) (q : Nat) : Only S a (w.drewN q) := ⟨h.os, h.tape, h.output, h.size, h.block⟩
theorem not_same_at {X Y : List Int} {k : Nat} (hk : k < X.length) (h : X.getD k 0 ≠ Y.getD k 0) : ¬ X = Y := fun e => h (by rw [e])
theorem same_all {X Y : List Int} (hl : X.length = Y.length) (h : ∀ j, j < X.length → X.getD j 0 = Y.getD j 0) : X = Y := by
  apply List.ext_getElem hl
  intro i p q
  have := h i p
  simpa [List.getD, p, q] using this

theorem M.Src.takeK {w : World} {b : Nat} {ao : Option Addr} {n cap : Nat} {xs : List Value} (h : Src w b (.slice ao n cap) xs) (k : Nat) (hk : k ≤ n) : Src w b (.slice ao k cap) (xs.take k) := by
  obtain ⟨a', c', off, e, h2, h3, h4⟩ := h
  simp only [Value.slice.injEq] at e
  obtain ⟨rfl, rfl, rfl⟩ := e
  have hl : (xs.take k).length = k := by rw [List.length_take]; omega
  refine ⟨ao, cap, off, by rw [hl], fun h0 => h2 (by omega), h3, fun i u hu => h4 i u ?_⟩
  have hi := (List.getElem?_eq_some_iff.1 hu).1
  rw [hl] at hi
  rw [← hu, List.getElem?_take_of_lt hi]
/-- A slice's end: from a place on. -/
theorem M.Src.dropK {w : World} {b off : Nat} {n cap : Nat} {xs : List Value} (hn : xs.length = n) (h : ∀ i u, xs[i]? = some u → w.cell? ⟨b, off + i, none⟩ = some u) (hc : n ≤ cap) (k : Nat) (hk : k ≤ n) {ap : Option Addr} (hap : (if cap = k then some (⟨b, off, none⟩ : Addr) else some ⟨b, off + k, none⟩) = ap) : Src w b (.slice ap (n - k) (cap - k)) (xs.drop k) := by
  have hl : (xs.drop k).length = n - k := by rw [List.length_drop]; omega
  subst hap
  by_cases e : cap = k
  · rw [if_pos e]
    exact ⟨some ⟨b, off, none⟩, _, off, by rw [hl], fun h0 => rfl, fun h => by simp at h, fun i u hu => by
      have := (List.getElem?_eq_some_iff.1 hu).1; omega⟩
  · rw [if_neg e]
    exact ⟨some ⟨b, off + k, none⟩, _, off + k, by rw [hl], fun h0 => rfl, fun h => by simp at h, fun i u hu => by
      rw [List.getElem?_drop] at hu
      rw [Nat.add_assoc]
      exact h _ u hu⟩

/-- 'append(s, x)' of one element of one cell; where its block lies is said beside. -/
theorem M.wpList_append_oneA {P : Program} {w : World} {ops : Array Oper} {rest : List Oper} {o : Oper} {a : Act} {Q : Exit → Act → World → Prop} (hgd : o.guard = none) (s x : Operand) (t : TypeId)
    (ho : o.op = .call { callee := .builtin .append, args := #[s, x], argTypes := #[t, t] })
    (base : Nat) (e : TypeId) (i : TypeInfo) (z : Value) (bytes : Nat) (ht : P.underlying t = some (.slice e)) (hi : P.info? e = some i) (hz : i.zero = some z)
    (hsize : i.size = 1) (hby : i.bytes = bytes) (hzs : z.cells.size = 1)
    (v : Value) (n : Nat) (xs : List Value) (hs : a.eval s = v) (hown : w.ownsRow base e 1 v n xs) (x0 : Value) (h1 : x0.oneCell' = true) (A : Nat)
    (hx : a.eval x = .slice (some ⟨A, 0, none⟩) 1 1) (hA : A = w.heap.size) (h63 : n + 1 ≤ maxLen) (hbytes : (n + 1) * bytes ≤ 140737488355328) (hbase : base ≤ w.heap.size)
    (h : ∀ g cap w', w'.ownsRow base e 1 (.slice (some ⟨g, 0, none⟩) (n + 1) cap) (n + 1) (xs ++ [x0]) → n + 1 ≤ cap → cap ≤ maxLen →
      (some g = v.ownBlock ∨ w.heap.size ≤ g) → Only (Own v.ownBlock) w w' → wpList P ops Q rest (a.put o.dst (.slice (some ⟨g, 0, none⟩) (n + 1) cap)) w') :
    wpList P ops Q (o :: rest) a (w.alloc (.cells #[x0] e)) := by
  subst hA
  exact wpList_append_one hgd s x t ho base e i z bytes ht hi hz hsize hby hzs v n xs hs hown x0 h1 hx h63 hbytes hbase h
end Go.Proofs.YtbpdhpfcknaaiaaDoor
