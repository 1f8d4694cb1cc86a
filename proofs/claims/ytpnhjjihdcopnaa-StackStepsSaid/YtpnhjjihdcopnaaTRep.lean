/- The document's stack machine in memory. -/
import Derived.Test.YtpnhjjihdcopnaaSNew
import Derived.ArgAppend
import Derived.Test.YtpnhjjihdcopnaaACalls
set_option linter.unusedSimpArgs false
set_option linter.unusedVariables false
namespace Go.Proofs.Ytpnhjjihdcopnaa
open Go.RowKit M
variable {Q : Nat → Prop}

/-- The cells of the document's machine. -/
def tcells (lv mv pv kv iv ov : Value) (s : SS) : Array Value :=
  #[lv, mv, pv, .int .i64 s.fp, .int .i64 s.top, .int .i64 s.pc, kv, iv, ov, .int .i64 s.fin, .int .i64 s.trap]
/-- A row that is read, in a block outside of what S names. -/
def RdRow (S : Nat → Prop) (w : World) (v : Value) (n : Nat) (xs : List Value) : Prop :=
  ∃ b ao cap off, v = .slice ao n cap ∧ n ≤ cap ∧ cap ≤ maxLen ∧ (ao = some ⟨b, off, none⟩ ∨ (ao = none ∧ cap = 0)) ∧ CellsAt w b off xs ∧ (0 < n → ¬ S b ∧ b < w.heap.size)
theorem RdRow.kept {S T : Nat → Prop} {w w' : World} {v : Value} {n : Nat} {xs : List Value} (h : RdRow S w v n xs) (ho : Only T w w') (hs : ∀ k, T k → S k) (hl : n = 0 → xs = []) : RdRow S w' v n xs := by
  obtain ⟨b, ao, cap, off, h1, h2, h3, h4, h6, h7⟩ := h
  refine ⟨b, ao, cap, off, h1, h2, h3, h4, ?_, fun h0 => ⟨(h7 h0).1, Nat.lt_of_lt_of_le (h7 h0).2 ho.size⟩⟩
  by_cases h0 : n = 0
  · rw [hl h0]; intro i u hu; simp at hu
  · exact h6.kept ho (fun _ ht => (h7 (by omega)).1 (hs _ ht))
theorem RdRow.less {S T : Nat → Prop} {w : World} {v : Value} {n : Nat} {xs : List Value} (h : RdRow S w v n xs) (hs : ∀ k, k < w.heap.size → T k → S k) : RdRow T w v n xs := by
  obtain ⟨b, ao, cap, off, h1, h2, h3, h4, h6, h7⟩ := h
  exact ⟨b, ao, cap, off, h1, h2, h3, h4, h6, fun hl => ⟨fun ht => (h7 hl).1 (hs _ (h7 hl).2 ht), (h7 hl).2⟩⟩

/-- The blocks that the document's machine writes to. -/
def OwnT (db vb : Nat) (ob : Option Nat) : Nat → Prop := fun k => k = db ∨ k = vb ∨ some k = ob
def OwnTQ (Q : Nat → Prop) (db vb : Nat) (ob : Option Nat) : Nat → Prop := fun k => OwnT db vb ob k ∨ Q k
/-- The document's machine at db, its words at vb. -/
structure TAt (Q : Nat → Prop) (w : World) (db vb : Nat) (code : List Cod) (s : SS) (lv pv kv iv ov : Value) : Prop where
  blk : Blk w db (tcells lv (.slice (some ⟨vb, 0, none⟩) s.mem.length s.mem.length) pv kv iv ov s) 66
  wrd : Blk w vb (I32s s.mem).toArray 21
  ops : RdRow (OwnTQ Q db vb ov.ownBlock) w pv s.ops.length (I32s s.ops)
  cls : RdRow (OwnTQ Q db vb ov.ownBlock) w kv s.calls.length (kCells s.calls)
  out : w.ownsRow 0 5 1 ov s.out.length (U8s s.out)
  cod : CodRow (OwnTQ Q db vb ov.ownBlock) w lv code
  inp : BytRow (OwnTQ Q db vb ov.ownBlock) w iv s.inp
  dv : db ≠ vb
  od : ov.ownBlock ≠ some db
  ow : ov.ownBlock ≠ some vb
structure TGone (w w' : World) (db vb : Nat) (ov ov' : Value) : Prop where
  only : Only (OwnT db vb ov.ownBlock) w w'
  o : ov'.ownBlock = ov.ownBlock ∨ ∃ k, ov'.ownBlock = some k ∧ w.heap.size ≤ k
theorem TGone.of_nil {w w' : World} {db vb : Nat} {ov : Value} (h : Only Nil w w') : TGone w w' db vb ov ov := ⟨h.mono (fun _ h => h.elim), Or.inl rfl⟩
theorem TGone.of_one {w w' : World} {db vb : Nat} {ov : Value} (h : Only (M.One db) w w') : TGone w w' db vb ov ov := ⟨h.mono (fun _ h => Or.inl h), Or.inl rfl⟩
theorem TGone.trans {w1 w2 w3 : World} {db vb : Nat} {o1 o2 o3 : Value} (h : TGone w1 w2 db vb o1 o2) (k : TGone w2 w3 db vb o2 o3) : TGone w1 w3 db vb o1 o3 := by
  refine ⟨h.only.trans k.only (fun i hi hs => ?_), ?_⟩
  · rcases hs with hs | hs | hs
    · exact Or.inl hs
    · exact Or.inr (Or.inl hs)
    · refine Or.inr (Or.inr ?_)
      rcases h.o with h1 | ⟨j, h1, h3⟩
      · rw [← h1]; exact hs
      · rw [h1] at hs; injection hs with hs; omega
  · rcases k.o with h2 | ⟨j, h2, h3⟩
    · rw [h2]; exact h.o
    · exact Or.inr ⟨j, h2, Nat.le_trans h.only.size h3⟩
theorem ops_nil (s : SS) : s.ops.length = 0 → I32s s.ops = [] := fun h => by rw [List.eq_nil_of_length_eq_zero h]; rfl
theorem cls_nil (s : SS) : s.calls.length = 0 → kCells s.calls = [] := fun h => by rw [List.eq_nil_of_length_eq_zero h]; rfl
theorem TAt.quiet {w w' : World} {db vb : Nat} {code : List Cod} {s : SS} {lv pv kv iv ov : Value} (h : TAt Q w db vb code s lv pv kv iv ov) (ho : Only Nil w w') : TAt Q w' db vb code s lv pv kv iv ov :=
  ⟨h.blk.kept ho (fun h => h), h.wrd.kept ho (fun h => h), h.ops.kept ho (fun _ h => h.elim) (ops_nil s), h.cls.kept ho (fun _ h => h.elim) (cls_nil s), ownsRow_only h.out ho (fun _ _ h => h),
    h.cod.kept ho (fun _ h => h.elim), h.inp.kept ho (fun _ h => h.elim), h.dv, h.od, h.ow⟩
/-- Its own block is written: operands, calls, numbers are others. -/
theorem TAt.own {w w' : World} {db vb : Nat} {code : List Cod} {s s' : SS} {lv pv kv iv ov pv' kv' iv' : Value} (h : TAt Q w db vb code s lv pv kv iv ov) (ho : Only (M.One db) w w')
    (hB : Blk w' db (tcells lv (.slice (some ⟨vb, 0, none⟩) s.mem.length s.mem.length) pv' kv' iv' ov s') 66) (hm : s'.mem = s.mem) (hu : s'.out = s.out)
    (hp : RdRow (OwnTQ Q db vb ov.ownBlock) w' pv' s'.ops.length (I32s s'.ops)) (hk : RdRow (OwnTQ Q db vb ov.ownBlock) w' kv' s'.calls.length (kCells s'.calls)) (hi : BytRow (OwnTQ Q db vb ov.ownBlock) w' iv' s'.inp) : TAt Q w' db vb code s' lv pv' kv' iv' ov := by
  have q : ∀ k, M.One db k → OwnTQ Q db vb ov.ownBlock k := fun k hk => Or.inl (Or.inl hk)
  exact ⟨by rw [hm]; exact hB, by rw [hm]; exact h.wrd.kept ho (fun e => h.dv e.symm), hp, hk, by rw [hu]; exact ownsRow_only h.out ho (fun k hk h1 => h.od (by rw [hk, show k = db from h1])), h.cod.kept ho q, hi, h.dv, h.od, h.ow⟩
/-- The machine's words are others, as many. -/
theorem TAt.words {w w' : World} {db vb : Nat} {code : List Cod} {s : SS} {lv pv kv iv ov : Value} {m : List Int} (h : TAt Q w db vb code s lv pv kv iv ov) (hB : Blk w' vb (I32s m).toArray 21) (ho : Only (M.One vb) w w') (hl : m.length = s.mem.length) :
    TAt Q w' db vb code { s with mem := m } lv pv kv iv ov ∧ TGone w w' db vb ov ov := by
  have q : ∀ k, M.One vb k → OwnTQ Q db vb ov.ownBlock k := fun k hk => Or.inl (Or.inr (Or.inl hk))
  have hB2 := h.blk.kept ho (fun e => h.dv e)
  refine ⟨⟨?_, hB, h.ops.kept ho q (ops_nil s), h.cls.kept ho q (cls_nil s), ownsRow_only h.out ho (fun k hk h1 => h.ow (by rw [hk, show k = vb from h1])), h.cod.kept ho q, h.inp.kept ho q, h.dv, h.od, h.ow⟩, ⟨ho.mono (fun _ h => Or.inr (Or.inl h)), Or.inl rfl⟩⟩
  show Blk _ db (tcells lv (.slice (some ⟨vb, 0, none⟩) m.length m.length) pv kv iv ov _) _
  rw [hl]
  exact hB2
/-- What is written is made longer, or anew, and kept in its field. -/
theorem TAt.newOut {w w2 : World} {db vb : Nat} {code : List Cod} {s : SS} {lv pv kv iv ov x : Value} {l : List Nat} (h : TAt Q w db vb code s lv pv kv iv ov) (ho : Only (Own ov.ownBlock) w w2)
    (hown : w2.ownsRow 0 5 1 x l.length (U8s l)) (hv : x.ownBlock = ov.ownBlock ∨ ∃ k, x.ownBlock = some k ∧ w.heap.size ≤ k) :
    TAt Q (w2.setCell ⟨db, 8, none⟩ x) db vb code { s with out := l } lv pv kv iv x ∧ TGone w (w2.setCell ⟨db, 8, none⟩ x) db vb ov x := by
  have hlm := h.blk.lt
  have hlw := h.wrd.lt
  have hxd : x.ownBlock ≠ some db := fun e => by
    rcases hv with h1 | ⟨k, h1, h2⟩
    · exact h.od (by rw [← h1, e])
    · rw [h1] at e; injection e with e; omega
  have hxw : x.ownBlock ≠ some vb := fun e => by
    rcases hv with h1 | ⟨k, h1, h2⟩
    · exact h.ow (by rw [← h1, e])
    · rw [h1] at e; injection e with e; omega
  have ho2 : Only (M.One db) w2 (w2.setCell ⟨db, 8, none⟩ x) := (Only.refl _ w2).setCell' (M.One db) rfl x
  have q1 : ∀ k, Own ov.ownBlock k → OwnTQ Q db vb ov.ownBlock k := fun k hk => Or.inl (Or.inr (Or.inr hk))
  have q2 : ∀ k, M.One db k → OwnTQ Q db vb ov.ownBlock k := fun k hk => Or.inl (Or.inl hk)
  have q3 : ∀ k, k < w.heap.size → OwnTQ Q db vb x.ownBlock k → OwnTQ Q db vb ov.ownBlock k := fun k hk hh => by
    rcases hh with (h1 | h1 | h1) | h1
    · exact Or.inl (Or.inl h1)
    · exact Or.inl (Or.inr (Or.inl h1))
    · exact Or.inl (Or.inr (Or.inr (by rcases hv with h2 | ⟨j, h2, h3⟩; (· rw [← h2]; exact h1); (· rw [h2] at h1; injection h1 with h1; omega))))
    · exact Or.inr h1
  let S2 : Nat → Prop := fun k => OwnTQ Q db vb x.ownBlock k ∨ OwnTQ Q db vb ov.ownBlock k
  have r1 : ∀ k, Own ov.ownBlock k → S2 k := fun k hk => Or.inr (q1 k hk)
  have r2 : ∀ k, M.One db k → S2 k := fun k hk => Or.inr (q2 k hk)
  have hB := (h.blk.kept ho (fun e => h.od (show ov.ownBlock = some db from e.symm))).setCell 8 x
  refine ⟨⟨hB, (h.wrd.kept ho (fun e => h.ow (show ov.ownBlock = some vb from e.symm))).kept ho2 (fun e => h.dv e.symm), ?_, ?_, ownsRow_only hown ho2 (fun k hk h1 => hxd (by rw [hk, show k = db from h1])), ?_, ?_, h.dv, hxd, hxw⟩, ⟨(ho.mono (fun k hk => Or.inr (Or.inr hk))).trans ho2 (fun k _ hk => Or.inl hk), hv⟩⟩
  · exact (((h.ops.less (T := S2) (fun k hk hh => hh.elim (q3 k hk) id)).kept ho r1 (ops_nil s)).kept ho2 r2 (ops_nil s)).less (fun k _ hh => Or.inl hh)
  · exact (((h.cls.less (T := S2) (fun k hk hh => hh.elim (q3 k hk) id)).kept ho r1 (cls_nil s)).kept ho2 r2 (cls_nil s)).less (fun k _ hh => Or.inl hh)
  · exact (((h.cod.less (T := S2) (fun k hk hh => hh.elim (q3 k hk) id)).kept ho r1).kept ho2 r2).less (fun k _ hh => Or.inl hh)
  · exact (((h.inp.less (T := S2) (fun k hk hh => hh.elim (q3 k hk) id)).kept ho r1).kept ho2 r2).less (fun k _ hh => Or.inl hh)

theorem tcells_pv (lv mv pv kv iv ov x : Value) (s : SS) : (tcells lv mv pv kv iv ov s).setIfInBounds 2 x = tcells lv mv x kv iv ov s := rfl
theorem tcells_fp (lv mv pv kv iv ov : Value) (s : SS) (x : Nat) : (tcells lv mv pv kv iv ov s).setIfInBounds 3 (.int .i64 x) = tcells lv mv pv kv iv ov { s with fp := x } := rfl
theorem tcells_top (lv mv pv kv iv ov : Value) (s : SS) (x : Nat) : (tcells lv mv pv kv iv ov s).setIfInBounds 4 (.int .i64 x) = tcells lv mv pv kv iv ov { s with top := x } := rfl
theorem tcells_pc (lv mv pv kv iv ov : Value) (s : SS) (x : Int) : (tcells lv mv pv kv iv ov s).setIfInBounds 5 (.int .i64 x) = tcells lv mv pv kv iv ov { s with pc := x } := rfl
theorem tcells_kv (lv mv pv kv iv ov x : Value) (s : SS) : (tcells lv mv pv kv iv ov s).setIfInBounds 6 x = tcells lv mv pv x iv ov s := rfl
theorem tcells_iv (lv mv pv kv iv ov x : Value) (s : SS) : (tcells lv mv pv kv iv ov s).setIfInBounds 7 x = tcells lv mv pv kv x ov s := rfl
theorem tcells_fin (lv mv pv kv iv ov : Value) (s : SS) (x : Nat) : (tcells lv mv pv kv iv ov s).setIfInBounds 9 (.int .i64 x) = tcells lv mv pv kv iv ov { s with fin := x } := rfl
theorem tcells_trap (lv mv pv kv iv ov : Value) (s : SS) (x : Nat) : (tcells lv mv pv kv iv ov s).setIfInBounds 10 (.int .i64 x) = tcells lv mv pv kv iv ov { s with trap := x } := rfl

section
variable {P : Program} {w : World}
/-- append onto a slice that has no spare room: what is told lies in memory that is read. -/
theorem run_append_capped (t ty e : TypeId) (i : TypeInfo) (z : Value) (size bytes : Nat) (ht : P.underlying t = some (.slice e)) (hi : P.info? e = some i) (hz : i.zero = some z)
    (hsize : i.size = size) (hby : i.bytes = bytes) (hzs : z.cells.size = size) (hsz : 0 < size)
    (b off : Nat) (ao : Option Addr) (n : Nat) (xs : List Value) (hl : xs.length = n * size) (hao : ao = some ⟨b, off, none⟩ ∨ (ao = none ∧ n = 0)) (hc : CellsAt w b off xs) (hb : 0 < n → b < w.heap.size)
    (S : Nat → Prop) (hS : 0 < n → ¬ S b) (hSn : ∀ k, S k → k < w.heap.size)
    (xb xo : Nat) (xa : Option Addr) (m c : Nat) (news : List Value) (hlm : news.length = m * size) (hxa : 0 < m → xa = some ⟨xb, xo, none⟩) (hxc : CellsAt w xb xo news) (hcap : xa = none → c = 0) (h1 : ∀ u ∈ news, u.oneCell' = true)
    (h63 : n + m ≤ maxLen) (hbytes : (n + m) * bytes ≤ 140737488355328) :
    ∃ v' w', (Builtin.append_ #[t, t] ty #[.slice ao n n, .slice xa m c]).run P w = .ok v' w' ∧ RdRow S w' v' (n + m) (xs ++ news) ∧ Only Nil w w' := by
  by_cases hm0 : m = 0
  · subst hm0
    have hn0 : news = [] := List.eq_nil_of_length_eq_zero (by rw [hlm, Nat.zero_mul])
    subst hn0
    have hR : RdRow S w (.slice ao n n) (n + 0) (xs ++ []) := by
      rw [List.append_nil, Nat.add_zero]
      exact ⟨b, ao, n, off, rfl, Nat.le_refl _, by omega, hao, hc, fun h0 => ⟨hS h0, hb h0⟩⟩
    cases xa with
    | none =>
      have := hcap rfl
      subst this
      refine ⟨.slice ao n n, w, ?_, hR, Only.refl _ _⟩
      cases ao <;> simp [Builtin.append_, run_underlying ht, sizeOf, typeInfo, hi, Builtin.lenOf, Builtin.firstCells, storeCells]
    | some ad =>
      cases ao with
      | none =>
        have h0 : n = 0 := by
          rcases hao with h | h
          · cases h
          · exact h.2
        subst h0
        have hx0 : xs = [] := List.eq_nil_of_length_eq_zero (by rw [hl, Nat.zero_mul])
        subst hx0
        obtain ⟨v', w', hr, h2, h3, h4⟩ := run_append_row (P := P) w.heap.size t ty e i z size bytes ht hi hz hsize hby hzs hsz (.slice none 0 0) 0 [] (World.ownsRow_nil _ _ _ _) ad 0 c [] (by simp) (by simp) (by simp) h63 hbytes (Nat.le_refl _)
        refine ⟨v', w', hr, ?_, (Only.of_grown h3).mono (fun k h => by cases h)⟩
        have hCN : CellsAt w' 0 0 ([] ++ [] : List Value) := fun i u hu => by simp at hu
        rcases h2.2 with ⟨rfl, _⟩ | ⟨g, cap, cur, rfl, hg, hh, h5, h6, h7, h8⟩
        · exact ⟨0, none, 0, 0, rfl, Nat.le_refl _, Nat.zero_le _, Or.inr ⟨rfl, rfl⟩, hCN, fun h => absurd h (Nat.lt_irrefl 0)⟩
        · exact ⟨g, _, cap, 0, rfl, h5, h6, Or.inl rfl, fun i u hu => by simp at hu, fun h => absurd h (Nat.lt_irrefl 0)⟩
      | some ad2 =>
        refine ⟨.slice (some ad2) n n, w, ?_, hR, Only.refl _ _⟩
        have hfc := run_firstCells_some (P := P) w i.size 0 ad 0 c [] (by simp) (by simp)
        simp [Builtin.append_, run_underlying ht, sizeOf, typeInfo, hi, Builtin.lenOf, hfc, storeCells]
  · have ea := hxa (by omega)
    subst ea
    have hx : ∀ j u, news[j]? = some u → w.cell? ((⟨xb, xo, none⟩ : Addr).add j) = some u := fun j u hj => by rw [addr_add]; exact hxc j u hj
    have fin : ∀ v' w', w'.ownsRow w.heap.size e size v' (n + m) (xs ++ news) → Only Nil w w' → RdRow S w' v' (n + m) (xs ++ news) := by
      intro v' w' ho hO
      rcases ho.2 with ⟨_, h0⟩ | ⟨g, cap, cur, rfl, hg, hh, h5, h6, h7, h8⟩
      · omega
      · refine ⟨g, _, cap, 0, rfl, h5, h6, Or.inl rfl, fun j u hj => ?_, fun _ => ⟨fun hs => by have := hSn g hs; omega, (Array.getElem?_eq_some_iff.1 hh).1⟩⟩
        have hjl := (List.getElem?_eq_some_iff.1 hj).1
        have := World.ownsRow.cellAt ho j (by rw [ho.1] at hjl; exact hjl)
        rw [Nat.zero_add, this]
        exact hj
    cases ao with
    | none =>
      have h0 : n = 0 := by
        rcases hao with h | h
        · cases h
        · exact h.2
      subst h0
      have hx0 : xs = [] := List.eq_nil_of_length_eq_zero (by rw [hl, Nat.zero_mul])
      subst hx0
      obtain ⟨v', w', hr, h2, h3, h4⟩ := run_append_row (P := P) w.heap.size t ty e i z size bytes ht hi hz hsize hby hzs hsz (.slice none 0 0) 0 [] (World.ownsRow_nil _ _ _ _) ⟨xb, xo, none⟩ m c news hlm hx h1 h63 hbytes (Nat.le_refl _)
      have hO : Only Nil w w' := (Only.of_grown h3).mono (fun k h => by cases h)
      exact ⟨v', w', hr, fin v' w' h2 hO, hO⟩
    | some ad =>
      have hcc : ∀ j u, xs[j]? = some u → w.cell? (ad.add j) = some u := fun j u hj => by
        have hjl := (List.getElem?_eq_some_iff.1 hj).1
        have hn0 : 0 < n := by
          refine Nat.pos_of_ne_zero fun h => ?_
          rw [hl, h, Nat.zero_mul] at hjl
          omega
        rcases hao with e1 | ⟨_, h0⟩
        · injection e1 with e1
          rw [e1, addr_add]
          exact hc j u hj
        · omega
      obtain ⟨v', w', hr, h2, h3⟩ := run_append_arg_grows (P := P) w t ty e i z size bytes ht hi hz hsize hby hzs hsz ad n n xs hl hcc ⟨xb, xo, none⟩ m c news hlm hx (by omega) h63 hbytes
      have hO : Only Nil w w' := (Only.of_grown h3).mono (fun k h => by cases h)
      exact ⟨v', w', hr, fin v' w' h2 hO, hO⟩
end
end Go.Proofs.Ytpnhjjihdcopnaa

/- Small calls of the document's machine. -/
namespace Go.Proofs.Ytpnhjjihdcopnaa
open Go.RowKit M
variable {Q : Nat → Prop}
section
variable {P : Program} {w : World}
theorem wpList_append_capped {ops : Array Oper} {rest : List Oper} {o : Oper} {a : Act} {Q : Exit → Act → World → Prop} (hgd : o.guard = none) (s x : Operand) (t : TypeId)
    (ho : o.op = .call { callee := .builtin .append, args := #[s, x], argTypes := #[t, t] })
    (e : TypeId) (i : TypeInfo) (z : Value) (size bytes : Nat) (ht : P.underlying t = some (.slice e)) (hi : P.info? e = some i) (hz : i.zero = some z)
    (hsize : i.size = size) (hby : i.bytes = bytes) (hzs : z.cells.size = size) (hsz : 0 < size)
    (S : Nat → Prop) (hSn : ∀ k, S k → k < w.heap.size) (n : Nat) (xs : List Value) (ao : Option Addr) (b off : Nat) (hs : a.eval s = .slice ao n n) (hl : xs.length = n * size) (hao : ao = some ⟨b, off, none⟩ ∨ (ao = none ∧ n = 0)) (hc : CellsAt w b off xs) (hb : 0 < n → ¬ S b ∧ b < w.heap.size)
    (xb xo : Nat) (xa : Option Addr) (m c : Nat) (news : List Value) (hx : a.eval x = .slice xa m c) (hlm : news.length = m * size) (hxa : 0 < m → xa = some ⟨xb, xo, none⟩) (hxc : CellsAt w xb xo news) (hcap : xa = none → c = 0) (h1 : ∀ u ∈ news, u.oneCell' = true)
    (h63 : n + m ≤ maxLen) (hbytes : (n + m) * bytes ≤ 140737488355328)
    (h : ∀ v' w', RdRow S w' v' (n + m) (xs ++ news) → Only Nil w w' → wpList P ops Q rest (a.put o.dst v') w') :
    wpList P ops Q (o :: rest) a w := by
  refine wpList_plain hgd fun K hK => ?_
  obtain ⟨v', w', hr, h2, h3⟩ := run_append_capped (P := P) t o.type e i z size bytes ht hi hz hsize hby hzs hsz b off ao n xs hl hao hc (fun h => (hb h).2) S (fun h => (hb h).1) hSn xb xo xa m c news hlm hxa hxc hcap h1 h63 hbytes
  unfold Oper.wp execOp
  simp only [ho, resolve, invoke, builtin, Sem.run_bind, Sem.run_pure, Result.andThen_ok, List.map_toArray, List.map_cons, List.map_nil, hs, hx, hr]
  exact hK _ _ (h v' w' h2 h3)
end
theorem rd_shape {S : Nat → Prop} {w : World} {v : Value} {n : Nat} {xs : List Value} (h : RdRow S w v n xs) : ∃ ao cap, v = .slice ao n cap := by
  obtain ⟨b, ao, cap, off, h1, _⟩ := h
  exact ⟨ao, cap, h1⟩

theorem bit5_any (b : Bool) (w : World) : Calls Try.prog 51 #[.bool b] w fun e w' => e = .returned (.int .u32 (M.one b)) ∧ w = w' := by
  cases b
  all_goals
    go_enter Try.func51, Try.ntmps51
    go_wp2
    go_ret
    exact ⟨rfl, rfl⟩
/-- Whether a span of words is there. -/
def placeOk (len : Nat) (p k : Int) : Bool := decide (0 ≤ p ∧ 0 ≤ k ∧ p + k ≤ len)
set_option maxHeartbeats 1600000 in
theorem place5_any (db vb : Nat) (p k : Int) (code : List Cod) (s : SS) (lv pv kv iv ov : Value) (w : World) (hM : TAt Q w db vb code s lv pv kv iv ov) (hp : I32 p) (hk : I32 k) (hl : s.mem.length ≤ 1048576) :
    Calls Try.prog 50 #[.pointer (some ⟨db, 0, none⟩), .int .i32 p, .int .i64 k] w fun e w' => e = .returned (.bool (placeOk s.mem.length p k)) ∧ Only Nil w w' := by
  have c1 : w.cell? ⟨db, 1, none⟩ = some (.slice (some ⟨vb, 0, none⟩) s.mem.length s.mem.length) := hM.blk.cell 1
  have hlt := hM.blk.lt
  unfold I32 at hp hk
  obtain ⟨n, hn⟩ : ∃ n, s.mem.length = n := ⟨_, rfl⟩
  rw [hn] at c1 hl ⊢
  have w1 : IntKind.i64.wrap p = p := by rw [IntKind.wrap_i64]; omega
  have w2 : IntKind.i64.wrap (p + k) = p + k := by rw [IntKind.wrap_i64]; omega
  unfold placeOk
  clear hM hn
  by_cases h1 : 0 ≤ p
  · by_cases h2 : 0 ≤ k
    · by_cases h3 : p + k ≤ n
      · rw [decide_eq_true ⟨h1, h2, h3⟩]
        go_enter Try.func50, Try.ntmps50
        go_wp2_with fail
        go_ret
        exact ⟨by simp, by (repeat with_reducible first | exact Only.refl _ _ | refine M.Only.drewN ?_ _ | refine Only.drew ?_)⟩
      · have h4 : decide (p + k ≤ (n : Int)) = false := by simp; omega
        rw [decide_eq_false (fun h => h3 h.2.2)]
        clear h3
        go_enter Try.func50, Try.ntmps50
        go_wp2_with fail
        go_ret
        exact ⟨by simp, by (repeat with_reducible first | exact Only.refl _ _ | refine M.Only.drewN ?_ _ | refine Only.drew ?_)⟩
    · have h4 : decide (0 ≤ k) = false := by simp; omega
      rw [decide_eq_false (fun h => h2 h.2.1)]
      clear h2
      go_enter Try.func50, Try.ntmps50
      go_wp2_with fail
      go_ret
      exact ⟨by simp, by (repeat with_reducible first | exact Only.refl _ _ | refine M.Only.drewN ?_ _ | refine Only.drew ?_)⟩
  · have h4 : decide (0 ≤ p) = false := by simp; omega
    rw [decide_eq_false (fun h => h1 h.1)]
    clear h1
    go_enter Try.func50, Try.ntmps50
    go_wp2_with fail
    go_ret
    exact ⟨by simp, by (repeat with_reducible first | exact Only.refl _ _ | refine M.Only.drewN ?_ _ | refine Only.drew ?_)⟩
end Go.Proofs.Ytpnhjjihdcopnaa

/- The document's operations of two operands. -/
set_option linter.unusedSimpArgs false
set_option linter.unusedVariables false
namespace Go.Proofs.Ytpnhjjihdcopnaa
open Go.RowKit M

theorem one_wrap (b : Bool) : IntKind.i32.wrap (M.one b) = M.one b := by cases b <;> decide
set_option maxHeartbeats 6400000 in
theorem two5_any (op a b : Int) (ha : I32 a) (hb : I32 b) (h1 : 9 ≤ op) (h2 : op ≤ 24) (h14 : op ≠ 14) (h18 : op ≠ 18) (w : World) : Calls Try.prog 52 #[.int .i64 op, .int .i32 a, .int .i32 b] w fun e w' => RTells (reck op a b) e ∧ w = w' := by
  have ho : op = 9 ∨ op = 10 ∨ op = 11 ∨ op = 12 ∨ op = 13 ∨ op = 15 ∨ op = 16 ∨ op = 17 ∨ op = 19 ∨ op = 20 ∨ op = 21 ∨ op = 22 ∨ op = 23 ∨ op = 24 := by omega
  rcases ho with rfl | rfl | rfl | rfl | rfl | rfl | rfl | rfl | rfl | rfl | rfl | rfl | rfl | rfl
  · have e0 : reck 9 a b = some (wrap32 (a + b)) := rfl
    rw [e0]
    clear ha hb e0 h1 h2 h14 h18
    go_enter Try.func52, Try.ntmps52
    go_wp2_with fail
    go_ret2
    exact ⟨by first | rfl | (simp only [RTells]; rfl), rfl⟩
  · have e0 : reck 10 a b = some (wrap32 (a - b)) := rfl
    rw [e0]
    clear ha hb e0 h1 h2 h14 h18
    go_enter Try.func52, Try.ntmps52
    go_wp2_with fail
    go_ret2
    exact ⟨by first | rfl | (simp only [RTells]; rfl), rfl⟩
  · have e0 : reck 11 a b = some (wrap32 (a * b)) := rfl
    rw [e0]
    clear ha hb e0 h1 h2 h14 h18
    go_enter Try.func52, Try.ntmps52
    go_wp2_with fail
    go_ret2
    exact ⟨by first | rfl | (simp only [RTells]; rfl), rfl⟩
  · have e0 : reck 12 a b = (if b < 1 then none else some (a / b)) := rfl
    rw [e0]
    by_cases hb1 : b < 1
    · rw [if_pos hb1]
      have c := div_no1 a b w hb1
      clear ha hb e0 hb1 h1 h2 h14 h18
      go_enter Try.func52, Try.ntmps52
      go_wp2_with fail
      refine c.mono ?_
      rintro e w1 ⟨rfl, rfl⟩
      go_wp2_with fail
      go_ret2
      exact ⟨rfl, rfl⟩
    · rw [if_neg hb1]
      have c := div_any1 a b w ha (by omega) hb.2
      clear ha hb e0 hb1 h1 h2 h14 h18
      go_enter Try.func52, Try.ntmps52
      go_wp2_with fail
      refine c.mono ?_
      rintro e w1 ⟨rfl, rfl⟩
      go_wp2_with fail
      go_ret2
      exact ⟨rfl, rfl⟩
  · have e0 : reck 13 a b = (if b < 1 then none else some (a % b)) := rfl
    rw [e0]
    by_cases hb1 : b < 1
    · rw [if_pos hb1]
      have c := mod_no1 a b w hb1
      clear ha hb e0 hb1 h1 h2 h14 h18
      go_enter Try.func52, Try.ntmps52
      go_wp2_with fail
      refine c.mono ?_
      rintro e w1 ⟨rfl, rfl⟩
      go_wp2_with fail
      go_ret2
      exact ⟨rfl, rfl⟩
    · rw [if_neg hb1]
      have c := mod_any1 a b w ha (by omega) hb.2
      clear ha hb e0 hb1 h1 h2 h14 h18
      go_enter Try.func52, Try.ntmps52
      go_wp2_with fail
      refine c.mono ?_
      rintro e w1 ⟨rfl, rfl⟩
      go_wp2_with fail
      go_ret2
      exact ⟨rfl, rfl⟩
  · have e0 : reck 15 a b = some (bits .and .i32 a b) := rfl
    rw [e0]
    clear ha hb e0 h1 h2 h14 h18
    go_enter Try.func52, Try.ntmps52
    go_wp2_with fail
    go_ret2
    exact ⟨by first | rfl | (simp only [RTells]; rfl), rfl⟩
  · have e0 : reck 16 a b = some (bits .or .i32 a b) := rfl
    rw [e0]
    clear ha hb e0 h1 h2 h14 h18
    go_enter Try.func52, Try.ntmps52
    go_wp2_with fail
    go_ret2
    exact ⟨by first | rfl | (simp only [RTells]; rfl), rfl⟩
  · have e0 : reck 17 a b = some (bits .xor .i32 a b) := rfl
    rw [e0]
    clear ha hb e0 h1 h2 h14 h18
    go_enter Try.func52, Try.ntmps52
    go_wp2_with fail
    go_ret2
    exact ⟨by first | rfl | (simp only [RTells]; rfl), rfl⟩
  · have e0 : reck 19 a b = some (wrap32 (a % 4294967296 * 2 ^ sK b % 4294967296)) := rfl
    rw [e0]
    have c := lsl_any1 a b w
    clear ha hb e0 h1 h2 h14 h18
    go_enter Try.func52, Try.ntmps52
    go_wp2_with fail
    refine c.mono ?_
    rintro e w1 ⟨rfl, rfl⟩
    go_wp2_with fail
    go_ret2
    exact ⟨rfl, rfl⟩
  · have e0 : reck 20 a b = some (a / 2 ^ sK b) := rfl
    rw [e0]
    have c := asr_any1 a b w
    clear ha hb e0 h1 h2 h14 h18
    go_enter Try.func52, Try.ntmps52
    go_wp2_with fail
    refine c.mono ?_
    rintro e w1 ⟨rfl, rfl⟩
    go_wp2_with fail
    go_ret2
    exact ⟨rfl, rfl⟩
  · have e0 : reck 21 a b = some (S (rorN (U a) (sK b))) := rfl
    rw [e0]
    have c := ror_any1 a b w
    clear ha hb e0 h1 h2 h14 h18
    go_enter Try.func52, Try.ntmps52
    go_wp2_with fail
    refine c.mono ?_
    rintro e w1 ⟨rfl, rfl⟩
    go_wp2_with fail
    go_ret2
    exact ⟨rfl, rfl⟩
  · have e0 : reck 22 a b = some (M.one (a == b)) := rfl
    rw [e0]
    obtain ⟨t, ht⟩ : ∃ t, (a == b) = t := ⟨_, rfl⟩
    have c := bit5_any t w
    have cw := one_wrap t
    rw [ht]
    clear ha hb e0 h1 h2 h14 h18
    go_enter Try.func52, Try.ntmps52
    go_wp2_with fail
    refine c.mono ?_
    rintro e w1 ⟨rfl, rfl⟩
    go_wp2_with fail
    go_ret2
    exact ⟨rfl, rfl⟩
  · have e0 : reck 23 a b = some (M.one (decide (a < b))) := rfl
    rw [e0]
    obtain ⟨t, ht⟩ : ∃ t, (decide (a < b)) = t := ⟨_, rfl⟩
    have c := bit5_any t w
    have cw := one_wrap t
    rw [ht]
    clear ha hb e0 h1 h2 h14 h18
    go_enter Try.func52, Try.ntmps52
    go_wp2_with fail
    refine c.mono ?_
    rintro e w1 ⟨rfl, rfl⟩
    go_wp2_with fail
    go_ret2
    exact ⟨rfl, rfl⟩
  · have e0 : reck 24 a b = some (M.one (decide (a ≤ b))) := rfl
    rw [e0]
    obtain ⟨t, ht⟩ : ∃ t, (decide (a ≤ b)) = t := ⟨_, rfl⟩
    have c := bit5_any t w
    have cw := one_wrap t
    rw [ht]
    clear ha hb e0 h1 h2 h14 h18
    go_enter Try.func52, Try.ntmps52
    go_wp2_with fail
    refine c.mono ?_
    rintro e w1 ⟨rfl, rfl⟩
    go_wp2_with fail
    go_ret2
    exact ⟨rfl, rfl⟩
end Go.Proofs.Ytpnhjjihdcopnaa

