/- The document's stack machine does one instruction: cells that are written. -/
import Derived.Test.YtpnhjjihdcopnaaTDoA
import Derived.Test.YtpnhjjihdcopnaaSEnter
import Derived.Test.YtpnhjjihdcopnaaSDo
import Derived.Deep.AppendLies
set_option linter.unusedSimpArgs false
set_option linter.unusedVariables false
namespace Go.Proofs.Ytpnhjjihdcopnaa
open Go.RowKit M
variable {Q : Nat → Prop}

theorem flip_t {P : Program} {f : Nat} {args : Array Value} {v : Value} {w : World} (h : Calls P f args w fun e w' => e = .returned v ∧ w = w') : Calls P f args w fun e w' => e = .returned v ∧ w' = w := h.mono fun _ _ h => ⟨h.1, h.2.symm⟩
theorem TAt.one {w w' : World} {db vb : Nat} {code : List Cod} {s s' : SS} {lv pv kv iv ov : Value} (h : TAt Q w db vb code s lv pv kv iv ov) (ho : Only (M.One db) w w')
    (hB : Blk w' db (tcells lv (.slice (some ⟨vb, 0, none⟩) s.mem.length s.mem.length) pv kv iv ov s') 66) (hm : s'.mem = s.mem) (hu : s'.out = s.out) (hp : s'.ops = s.ops) (hk : s'.calls = s.calls) (hi : s'.inp = s.inp) : TAt Q w' db vb code s' lv pv kv iv ov := by
  have q : ∀ k, M.One db k → OwnTQ Q db vb ov.ownBlock k := fun k hk => Or.inl (Or.inl hk)
  refine h.own ho hB hm hu ?_ ?_ ?_
  · rw [hp]; exact h.ops.kept ho q (ops_nil s)
  · rw [hk]; exact h.cls.kept ho q (cls_nil s)
  · rw [hi]; exact h.inp.kept ho q
/-- It has ended. -/
theorem TAt.halted {w : World} {db vb : Nat} {code : List Cod} {s : SS} {lv pv kv iv ov : Value} (h : TAt Q w db vb code s lv pv kv iv ov) (x : Nat) : TAt Q (w.setCell ⟨db, 9, none⟩ (.int .i64 x)) db vb code { s with fin := x } lv pv kv iv ov ∧ TGone w (w.setCell ⟨db, 9, none⟩ (.int .i64 x)) db vb ov ov := by
  have ho : Only (M.One db) w (w.setCell ⟨db, 9, none⟩ (.int .i64 x)) := Only.setOne (Only.refl _ _) _ _
  have hB := h.blk.setCell 9 (.int .i64 x)
  rw [tcells_fin] at hB
  exact ⟨h.one ho hB rfl rfl rfl rfl rfl, TGone.of_one ho⟩
theorem TAt.trapped {w : World} {db vb : Nat} {code : List Cod} {s : SS} {lv pv kv iv ov : Value} (h : TAt Q w db vb code s lv pv kv iv ov) (x y : Nat) : TAt Q ((w.setCell ⟨db, 9, none⟩ (.int .i64 x)).setCell ⟨db, 10, none⟩ (.int .i64 y)) db vb code { s with fin := x, trap := y } lv pv kv iv ov ∧ TGone w ((w.setCell ⟨db, 9, none⟩ (.int .i64 x)).setCell ⟨db, 10, none⟩ (.int .i64 y)) db vb ov ov := by
  have ho : Only (M.One db) w ((w.setCell ⟨db, 9, none⟩ (.int .i64 x)).setCell ⟨db, 10, none⟩ (.int .i64 y)) := Only.setOne (Only.setOne (Only.refl _ _) _ _) _ _
  have hB := (h.blk.setCell 9 (.int .i64 x)).setCell 10 (.int .i64 y)
  rw [tcells_fin, tcells_trap] at hB
  exact ⟨h.one ho hB rfl rfl rfl rfl rfl, TGone.of_one ho⟩
/-- The input that is left. -/
theorem TAt.newIn {w : World} {db vb : Nat} {code : List Cod} {s : SS} {lv pv kv iv ov : Value} (h : TAt Q w db vb code s lv pv kv iv ov) (x : Value) (l : List Nat) (hi : BytRow (OwnTQ Q db vb ov.ownBlock) w x l) : TAt Q (w.setCell ⟨db, 7, none⟩ x) db vb code { s with inp := l } lv pv kv x ov ∧ TGone w (w.setCell ⟨db, 7, none⟩ x) db vb ov ov := by
  have ho : Only (M.One db) w (w.setCell ⟨db, 7, none⟩ x) := Only.setOne (Only.refl _ _) _ _
  have q : ∀ k, M.One db k → OwnTQ Q db vb ov.ownBlock k := fun k hk => Or.inl (Or.inl hk)
  have hB := h.blk.setCell 7 x
  rw [tcells_iv] at hB
  exact ⟨h.own ho hB rfl rfl (h.ops.kept ho q (ops_nil s)) (h.cls.kept ho q (cls_nil s)) (hi.kept ho q), TGone.of_one ho⟩
/-- The calls that are kept. -/
theorem TAt.newCls {w w' : World} {db vb : Nat} {code : List Cod} {s : SS} {lv pv kv iv ov : Value} (h : TAt Q w db vb code s lv pv kv iv ov) (ho : Only Nil w w') (x : Value) (l : List (Nat × Nat)) (hR : RdRow (OwnTQ Q db vb ov.ownBlock) w' x l.length (kCells l)) : TAt Q (w'.setCell ⟨db, 6, none⟩ x) db vb code { s with calls := l } lv pv x iv ov ∧ TGone w (w'.setCell ⟨db, 6, none⟩ x) db vb ov ov := by
  have h1 := h.quiet ho
  have ho1 : Only (M.One db) w' (w'.setCell ⟨db, 6, none⟩ x) := Only.setOne (Only.refl _ _) _ _
  have q : ∀ k, M.One db k → OwnTQ Q db vb ov.ownBlock k := fun k hk => Or.inl (Or.inl hk)
  have hB := h1.blk.setCell 6 x
  rw [tcells_kv] at hB
  refine ⟨h1.own ho1 hB rfl rfl (h1.ops.kept ho1 q (ops_nil s)) (hR.kept ho1 q (fun h0 => ?_)) (h1.inp.kept ho1 q), (TGone.of_nil ho).trans (TGone.of_one ho1)⟩
  rw [List.eq_nil_of_length_eq_zero h0]; rfl
/-- Frame and top, and the next instruction. -/
theorem TAt.newFrame {w w' : World} {db vb : Nat} {code : List Cod} {s s' : SS} {lv pv kv iv ov : Value} (h : TAt Q w db vb code s lv pv kv iv ov) (ho : Only (M.One db) w w') (hB : Blk w' db (tcells lv (.slice (some ⟨vb, 0, none⟩) s.mem.length s.mem.length) pv kv iv ov s') 66) (hm : s'.mem = s.mem) (hu : s'.out = s.out) (hp : s'.ops = s.ops) (hk : s'.calls = s.calls) (hi : s'.inp = s.inp) : TAt Q w' db vb code s' lv pv kv iv ov ∧ TGone w w' db vb ov ov := ⟨h.one ho hB hm hu hp hk hi, TGone.of_one ho⟩
/-- The operands that are left lie where they lay. -/
theorem cells_own {S T : Nat → Prop} {w w' : World} {b off r : Nat} {O : List Int} (h : CellsAt w b off (I32s O)) (hr : O.length = r) (ho : Only T w w') (hs : ∀ k, T k → S k) (hb : 0 < r → ¬ S b) : CellsAt w' b off (I32s O) :=
  h.kept ho (fun hl ht => hb (by rw [I32s_len] at hl; omega) (hs _ ht))
/-- A word is written. -/
theorem TAt.store {w : World} {db vb : Nat} {code : List Cod} {s : SS} {lv pv kv iv ov : Value} (h : TAt Q w db vb code s lv pv kv iv ov) (A : Nat) (x : Int) : TAt Q (w.setCell ⟨vb, A, none⟩ (.int .i32 x)) db vb code { s with mem := s.mem.set A x } lv pv kv iv ov ∧ TGone w (w.setCell ⟨vb, A, none⟩ (.int .i32 x)) db vb ov ov := by
  have hB := h.wrd.setCell A (.int .i32 x)
  rw [show ((I32s s.mem).toArray.setIfInBounds A (.int .i32 x)) = (I32s (s.mem.set A x)).toArray by simp [I32s, List.map_set]] at hB
  exact h.words hB (Only.setOne (Only.refl _ _) _ _) (by simp)
section
variable {P : Program} {w : World}
/-- append onto a slice without spare room, as one step of a region that draws. -/
theorem step_append_capped {ops : Array Oper} {o : Oper} {a : Act} {K : Act → World → Prop} {Q : Exit → Act → World → Prop} {E : Prop} (hgd : o.guard = none) (s x : Operand) (t : TypeId)
    (ho : o.op = .call { callee := .builtin .append, args := #[s, x], argTypes := #[t, t] })
    (e : TypeId) (i : TypeInfo) (z : Value) (size bytes : Nat) (ht : P.underlying t = some (.slice e)) (hi : P.info? e = some i) (hz : i.zero = some z)
    (hsize : i.size = size) (hby : i.bytes = bytes) (hzs : z.cells.size = size) (hsz : 0 < size)
    (S : Nat → Prop) (hSn : ∀ k, S k → k < w.heap.size) (n : Nat) (xs : List Value) (ao : Option Addr) (b off : Nat) (hs : a.eval s = .slice ao n n) (hl : xs.length = n * size) (hao : ao = some ⟨b, off, none⟩ ∨ (ao = none ∧ n = 0)) (hc : CellsAt w b off xs) (hb : 0 < n → ¬ S b ∧ b < w.heap.size)
    (xb xo : Nat) (xa : Option Addr) (m c : Nat) (news : List Value) (hx : a.eval x = .slice xa m c) (hlm : news.length = m * size) (hxa : 0 < m → xa = some ⟨xb, xo, none⟩) (hxc : CellsAt w xb xo news) (hcap : xa = none → c = 0) (h1 : ∀ u ∈ news, u.oneCell' = true)
    (h63 : n + m ≤ maxLen) (hbytes : (n + m) * bytes ≤ 140737488355328)
    (h : ∀ v' w', RdRow S w' v' (n + m) (xs ++ news) → Only Nil w w' → K (a.put o.dst v') w') :
    if Region.wanted o (yielded ops a.tmps) = true then Oper.wp P o a w K Q else E := by
  have hw : Region.wanted o (yielded ops a.tmps) = true := by simp [Region.wanted, hgd]
  rw [if_pos hw]
  obtain ⟨v', w', hr, h2, h3⟩ := run_append_capped (P := P) t o.type e i z size bytes ht hi hz hsize hby hzs hsz b off ao n xs hl hao hc (fun h => (hb h).2) S (fun h => (hb h).1) hSn xb xo xa m c news hlm hxa hxc hcap h1 h63 hbytes
  unfold Oper.wp execOp
  simp only [ho, resolve, invoke, builtin, Sem.run_bind, Sem.run_pure, Result.andThen_ok, List.map_toArray, List.map_cons, List.map_nil, hs, hx, hr]
  exact h v' w' h2 h3
end
end Go.Proofs.Ytpnhjjihdcopnaa
