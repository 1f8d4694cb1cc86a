/- Put and PutVar: a number behind others. -/
import Derived.Test.YtmgopjbcdoddoaaGreatDoorVBase
set_option linter.unusedSimpArgs false
set_option linter.unusedVariables false
namespace Go.Proofs.YtmgopjbcdoddoaaGreatDoor
open Go.RowKit M

theorem part_last (v : Nat) (h : v < 128) : IntKind.u8.wrap (v : Int) = (v : Int) := by rw [wrap_u8, Nat.mod_eq_of_lt (by omega)]
theorem part_more (v : Nat) : bits .or .u8 ((v : Int) % 256) 128 = ((v % 128 + 128 : Nat) : Int) := by
  rw [show (v : Int) % 256 = ((v % 256 : Nat) : Int) by omega, or_128 _ (Nat.mod_lt _ (by decide))]; congr 2; omega

/-- What may be appended to, so that new memory is made: a row of one's own, or any slice without spare room. -/
def AppRow (w0 wr : World) (s : Value) (B : List Nat) : Prop :=
  wr.ownsRow w0.heap.size 5 1 s B.length (U8s B) ∨ ∃ x, s = .slice (some x) B.length B.length ∧ ∀ j u, (U8s B)[j]? = some u → wr.cell? (x.add j) = some u

section
variable {P : Program} {w : World}
theorem wpList_append_app {ops : Array Oper} {rest : List Oper} {o : Oper} {a : Act} {Q : Exit → Act → World → Prop} (hgd : o.guard = none) (s x : Operand) (t : TypeId)
    (ho : o.op = .call { callee := .builtin .append, args := #[s, x], argTypes := #[t, t] })
    (w0 : World) (i : TypeInfo) (z : Value) (ht : P.underlying t = some (.slice 5)) (hi : P.info? 5 = some i) (hz : i.zero = some z)
    (hsize : i.size = 1) (hby : i.bytes = 1) (hzs : z.cells.size = 1)
    (v : Value) (B : List Nat) (hs : a.eval s = v) (happ : AppRow w0 w v B) (x0 : Value) (c : Nat) (hx0 : x0 = .int .u8 c)
    (hx : a.eval x = .slice (some ⟨w.heap.size, 0, none⟩) 1 1) (h63 : B.length + 1 ≤ 1099511627776) (hbase : Only Nil w0 w)
    (h : ∀ v' w', w'.ownsRow w0.heap.size 5 1 v' (B ++ [c]).length (U8s (B ++ [c])) → Only Nil w0 w' → wpList P ops Q rest (a.put o.dst v') w') :
    wpList P ops Q (o :: rest) a (w.alloc (.cells #[x0] 5)) := by
  have hb := hbase.size
  have e1 : U8s (B ++ [c]) = U8s B ++ [x0] := by rw [U8s_append, hx0]; rfl
  have e2 : (B ++ [c]).length = B.length + 1 := by simp
  rcases happ with hown | ⟨y, rfl, hc⟩
  · refine wpList_append_one hgd s x t ho w0.heap.size 5 i z 1 ht hi hz hsize hby hzs v B.length (U8s B) hs hown x0 (by rw [hx0]; rfl) hx (by simp [maxLen]; omega) (by omega) hb ?_
    intro g cap w' h2 h3 h4 h5 h6
    refine h _ w' (by rw [e1, e2]; exact h2) (hbase.nil_own hown h6)
  · refine wpList_plain hgd fun K hK => ?_
    have hr := run_append_grow (P := P) (w.alloc (.cells #[x0] 5)) t o.type 5 i z ht hi hz y B.length B.length (U8s B) (by rw [hsize, U8s_len]; omega)
      (fun j u hj => by
        have := hc j u hj
        exact ((Only.refl Nil w).alloc (.cells #[x0] 5)).cell this (fun h => h))
      ⟨w.heap.size, 0, none⟩ 1 1 [x0] (by rw [hsize]; rfl)
      (by
        intro j u hj
        match j, hj with
        | 0, hj => simp at hj; subst hj; simp [Addr.add]) (by omega) (by omega) (growslice_fits (by omega) (by rw [hby]; omega))
    unfold Oper.wp execOp
    simp only [ho, resolve, invoke, builtin, Sem.run_bind, Sem.run_pure, Result.andThen_ok, List.map_toArray, List.map_cons, List.map_nil, hs, hx, hr]
    have hge := grownCap_ge (w.alloc (.cells #[x0] 5)) (B.length + 1) B.length 5
    have hcm : grownCap (w.alloc (.cells #[x0] 5)) (B.length + 1) B.length 5 ≤ maxLen := grownCap_le_maxLen _ (B.length + 1) B.length 5 (by simp [maxLen]; omega)
    refine hK _ _ (h _ _ ?_ ?_)
    · rw [e1, e2]
      refine ⟨by simp [U8s_len], .inr ⟨_, _, _, rfl, ?_, heap_alloc_new (w.alloc (.cells #[x0] 5)).drew _, hge, hcm, ?_, ?_⟩⟩
      · simp; omega
      · simp only [Array.size_append, List.size_toArray, size_zeroCells, hzs, U8s_len, List.length_singleton]
        omega
      · simp only [Array.toList_append, List.append_assoc]
        rw [← List.append_assoc]
        refine List.take_left' ?_
        simp [U8s_len]
    · exact ((hbase.alloc _).drew).alloc _
end

end Go.Proofs.YtmgopjbcdoddoaaGreatDoor
