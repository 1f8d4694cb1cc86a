/- Symbols: rows of them; one appended. -/
import Derived.Test.YtbpdhpfcknaaiaaDoorZSym
import Derived.Test.YtbpdhpfcknaaiaaDoorZKeys
set_option linter.unusedSimpArgs false
set_option linter.unusedVariables false
namespace Go.Proofs.YtbpdhpfcknaaiaaDoor
open Go.RowKit M

/-- The cells of symbols. -/
def tokCells (s : ByteArray) (L : List Tk) : List Value := L.flatMap fun x => (tokC s x).toList
theorem tokCells_len (s : ByteArray) (L : List Tk) : (tokCells s L).length = L.length * 5 := by
  induction L with
  | nil => rfl
  | cons c L ih => unfold tokCells at ih ⊢; rw [List.flatMap_cons, List.length_append, ih, List.length_cons]; show 5 + _ = _; omega
theorem tokCells_append (s : ByteArray) (L M : List Tk) : tokCells s (L ++ M) = tokCells s L ++ tokCells s M := by simp [tokCells]
theorem Tryd.info35 : (Tryd.prog.info? 35).map (fun i => (i.zero, i.size, i.bytes)) = some (some (.agg #[.int .i64 0, .int .i64 0, .int .i64 0, .string ⟨#[]⟩, .int .i32 0]), 5, 48) := by kernel_rfl

section
variable {P : Program} {w : World}
/-- 'append(s, x)' of one element of five cells, which the translation lays into a new block of its own first. -/
theorem wpList_append_five {ops : Array Oper} {rest : List Oper} {o : Oper} {a : Act} {Q : Exit → Act → World → Prop} (hgd : o.guard = none) (s x : Operand) (t : TypeId)
    (ho : o.op = .call { callee := .builtin .append, args := #[s, x], argTypes := #[t, t] })
    (base : Nat) (e : TypeId) (i : TypeInfo) (z : Value) (bytes : Nat) (ht : P.underlying t = some (.slice e)) (hi : P.info? e = some i) (hz : i.zero = some z)
    (hsize : i.size = 5) (hby : i.bytes = bytes) (hzs : z.cells.size = 5)
    (v : Value) (n : Nat) (xs : List Value) (hs : a.eval s = v) (hown : w.ownsRow base e 5 v n xs) (x0 x1 x2 x3 x4 : Value) (h0 : x0.oneCell' = true) (h1 : x1.oneCell' = true) (h2 : x2.oneCell' = true) (h3 : x3.oneCell' = true) (h4 : x4.oneCell' = true)
    (bk : Nat) (hbk : w.heap.size = bk) (hx : a.eval x = .slice (some ⟨bk, 0, none⟩) 1 1) (h63 : n + 1 ≤ maxLen) (hbytes : (n + 1) * bytes ≤ 140737488355328) (hbase : base ≤ w.heap.size)
    (h : ∀ g cap w', w'.ownsRow base e 5 (.slice (some ⟨g, 0, none⟩) (n + 1) cap) (n + 1) (xs ++ [x0, x1, x2, x3, x4]) → n + 1 ≤ cap → cap ≤ maxLen →
      (some g = v.ownBlock ∨ w.heap.size ≤ g) → Only (Own v.ownBlock) w w' → wpList P ops Q rest (a.put o.dst (.slice (some ⟨g, 0, none⟩) (n + 1) cap)) w') :
    wpList P ops Q (o :: rest) a (w.alloc (.cells #[x0, x1, x2, x3, x4] e)) := by
  subst hbk
  refine wpList_append_row hgd s x t ho base e i z 5 bytes ht hi hz hsize hby hzs (by decide) v n xs hs (hown.alloc _) ⟨w.heap.size, 0, none⟩ 1 1 [x0, x1, x2, x3, x4] hx rfl ?_ ?_ (by decide) h63 hbytes (by simp; omega) ?_
  · intro j u hj
    match j, hj with
    | 0, hj => simp at hj; subst hj; simp [Addr.add]
    | 1, hj => simp at hj; subst hj; simp [Addr.add]
    | 2, hj => simp at hj; subst hj; simp [Addr.add]
    | 3, hj => simp at hj; subst hj; simp [Addr.add]
    | 4, hj => simp at hj; subst hj; simp [Addr.add]
  · intro u hu
    simp only [List.mem_cons, List.not_mem_nil, or_false] at hu
    rcases hu with rfl | rfl | rfl | rfl | rfl
    · exact h0
    · exact h1
    · exact h2
    · exact h3
    · exact h4
  · intro g cap w' h2 h3 h4 h5 h6
    refine h g cap w' h2 h3 h4 (h5.imp id fun h => by simp at h; omega) ?_
    exact ((Only.refl (Own v.ownBlock) w).alloc _).trans h6 (fun _ _ h => h)
end

/-- What All tells, and where: symbols in a new row, or one fault. -/
def AllOk (s : ByteArray) (w : World) (e : Ending) (w' : World) : Except (Nat × Nat) (List Tk) → Prop
  | .ok L => ∃ v, e = .returned (.tuple #[v, .slice none 0 0]) ∧ w'.ownsRow w.heap.size 35 5 v L.length (tokCells s L)
  | .error (p, k) => ∃ b, e = .returned (.tuple #[.slice none 0 0, .slice (some ⟨b, 0, none⟩) 1 1]) ∧ w'.cell? ⟨b, 0, none⟩ = some (.int .i64 (p : Nat)) ∧ w'.cell? ⟨b, 1, none⟩ = some (.int .i64 (k : Nat))
/-- What is told of any source. -/
def allS (s : ByteArray) : Except (Nat × Nat) (List Tk) := if 20000 < s.size then .error (20000, 34) else scanE (tx s) (fun a b => kwB (s.extract a b)) 0
end Go.Proofs.YtbpdhpfcknaaiaaDoor
