/- The program's stack machine in memory. -/
import Derived.Test.YtpnhjjihdcopnaaProg
import Derived.Test.YtpnhjjihdcopnaaCMath
import Derived.Test.YtpnhjjihdcopnaaCPut
import Derived.Test.YtpnhjjihdcopnaaNum
import Derived.Test.YtpnhjjihdcopnaaVNum
set_option linter.unusedSimpArgs false
set_option linter.unusedVariables false
namespace Go.Proofs.Ytpnhjjihdcopnaa
open Go.RowKit M

def I32s (l : List Int) : List Value := l.map (Value.int .i32)
theorem I32s_len (l : List Int) : (I32s l).length = l.length := by simp [I32s]
theorem I32s_append (l m : List Int) : I32s (l ++ m) = I32s l ++ I32s m := by simp [I32s]
theorem I32s_take (l : List Int) (k : Nat) : (I32s l).take k = I32s (l.take k) := by simp [I32s]
theorem I32s_one (l : List Int) : ∀ u ∈ I32s l, u.oneCell' = true := by intro u hu; obtain ⟨x, _, rfl⟩ := List.mem_map.1 hu; rfl
theorem I32s_get {l : List Int} {k : Nat} (h : k < l.length) : (I32s l)[k]? = some (.int .i32 (l.getD k 0)) := by simp [I32s, List.getD, h]
/-- What calls keep. -/
def kCells (l : List (Nat × Nat)) : List Value := l.flatMap fun c => [.int .i64 c.1, .int .i64 c.2]
theorem kCells_len (l : List (Nat × Nat)) : (kCells l).length = l.length * 2 := by
  induction l with
  | nil => rfl
  | cons c l ih => unfold kCells at ih ⊢; rw [List.flatMap_cons, List.length_append, ih, List.length_cons, List.length_cons, List.length_cons, List.length_nil]; omega
theorem kCells_append (l m : List (Nat × Nat)) : kCells (l ++ m) = kCells l ++ kCells m := by simp [kCells]
theorem kCells_get (l : List (Nat × Nat)) : ∀ (k : Nat) (c : Nat × Nat), l[k]? = some c → (kCells l)[k * 2]? = some (.int .i64 c.1) ∧ (kCells l)[k * 2 + 1]? = some (.int .i64 c.2) := by
  induction l with
  | nil => intro k c h; simp at h
  | cons x l ih =>
    intro k c h
    have e : kCells (x :: l) = [.int .i64 x.1, .int .i64 x.2] ++ kCells l := rfl
    rw [e]
    cases k with
    | zero => simp only [List.getElem?_cons_zero, Option.some.injEq] at h; subst h; exact ⟨rfl, rfl⟩
    | succ k =>
      have := ih k c (by simpa using h)
      rw [List.getElem?_append_right (by simp; omega), List.getElem?_append_right (by simp; omega)]
      rw [show (k + 1) * 2 - [Value.int IntKind.i64 x.1, Value.int IntKind.i64 x.2].length = k * 2 by simp; omega, show (k + 1) * 2 + 1 - [Value.int IntKind.i64 x.1, Value.int IntKind.i64 x.2].length = k * 2 + 1 by simp; omega]
      exact this
theorem kCells_take (l : List (Nat × Nat)) : ∀ k, (kCells l).take (k * 2) = kCells (l.take k) := by
  induction l with
  | nil => intro k; simp [kCells]
  | cons x l ih =>
    intro k
    cases k with
    | zero => simp [kCells]
    | succ k =>
      have e : kCells (x :: l) = .int .i64 x.1 :: .int .i64 x.2 :: kCells l := rfl
      rw [e, show (k + 1) * 2 = k * 2 + 1 + 1 by omega, List.take_succ_cons, List.take_succ_cons, ih k, List.take_succ_cons]
      rfl

/-- The cells of the program's machine. -/
def scells (cv wv sv kv iv ov : Value) (s : SS) : Array Value :=
  #[cv, wv, sv, kv, iv, ov, .int .i64 s.fp, .int .i64 s.top, .int .i64 s.pc, .int .i64 s.fin, .int .i64 s.trap]

/-- Instructions that are read, in a block outside of what S names. -/
def CodRow (S : Nat → Prop) (w : World) (v : Value) (L : List Cod) : Prop :=
  ∃ b ao cap off, v = .slice ao L.length cap ∧ L.length ≤ cap ∧ cap ≤ maxLen ∧ (0 < L.length → ao = some ⟨b, off, none⟩) ∧ CAt w b off L ∧ (0 < L.length → ¬ S b ∧ b < w.heap.size)
/-- Bytes that are read, in a block outside of what S names. -/
def BytRow (S : Nat → Prop) (w : World) (v : Value) (B : List Nat) : Prop :=
  ∃ b ao cap off, v = .slice ao B.length cap ∧ B.length ≤ cap ∧ cap ≤ maxLen ∧ (0 < B.length → ao = some ⟨b, off, none⟩) ∧ (ao = none → cap = 0) ∧ CellsAt w b off (U8s B) ∧ (0 < B.length → ¬ S b ∧ b < w.heap.size)
theorem CodRow.kept {S T : Nat → Prop} {w w' : World} {v : Value} {l : List Cod} (h : CodRow S w v l) (ho : Only T w w') (hs : ∀ k, T k → S k) : CodRow S w' v l := by
  obtain ⟨b, ao, cap, off, h1, h2, h3, h4, h5, h6⟩ := h
  refine ⟨b, ao, cap, off, h1, h2, h3, h4, ?_, fun hl => ⟨(h6 hl).1, Nat.lt_of_lt_of_le (h6 hl).2 ho.size⟩⟩
  intro k c hk
  have hl : 0 < l.length := by have := (List.getElem?_eq_some_iff.1 hk).1; omega
  exact (h5.kept ho (fun ht => (h6 hl).1 (hs _ ht))) k c hk
theorem BytRow.kept {S T : Nat → Prop} {w w' : World} {v : Value} {l : List Nat} (h : BytRow S w v l) (ho : Only T w w') (hs : ∀ k, T k → S k) : BytRow S w' v l := by
  obtain ⟨b, ao, cap, off, h1, h2, h3, h4, h5, h6, h7⟩ := h
  refine ⟨b, ao, cap, off, h1, h2, h3, h4, h5, ?_, fun hl => ⟨(h7 hl).1, Nat.lt_of_lt_of_le (h7 hl).2 ho.size⟩⟩
  exact h6.kept ho (fun hl ht => (h7 (by simpa [U8s] using hl)).1 (hs _ ht))
/-- Other blocks that aren't to be touched: fewer, or newer ones. -/
theorem CodRow.less {S T : Nat → Prop} {w : World} {v : Value} {l : List Cod} (h : CodRow S w v l) (hs : ∀ k, k < w.heap.size → T k → S k) : CodRow T w v l := by
  obtain ⟨b, ao, cap, off, h1, h2, h3, h4, h5, h6⟩ := h
  exact ⟨b, ao, cap, off, h1, h2, h3, h4, h5, fun hl => ⟨fun ht => (h6 hl).1 (hs _ (h6 hl).2 ht), (h6 hl).2⟩⟩
theorem BytRow.less {S T : Nat → Prop} {w : World} {v : Value} {l : List Nat} (h : BytRow S w v l) (hs : ∀ k, k < w.heap.size → T k → S k) : BytRow T w v l := by
  obtain ⟨b, ao, cap, off, h1, h2, h3, h4, h5, h6, h7⟩ := h
  exact ⟨b, ao, cap, off, h1, h2, h3, h4, h5, h6, fun hl => ⟨fun ht => (h7 hl).1 (hs _ (h7 hl).2 ht), (h7 hl).2⟩⟩

/-- No two of a machine's own blocks are one. -/
structure Five (mb wb : Nat) (sb kb ob : Option Nat) : Prop where
  mw : mb ≠ wb
  sm : sb ≠ some mb
  sw : sb ≠ some wb
  km : kb ≠ some mb
  kw : kb ≠ some wb
  om : ob ≠ some mb
  ow : ob ≠ some wb
  sk : ∀ k, sb = some k → kb ≠ some k
  so : ∀ k, sb = some k → ob ≠ some k
  ko : ∀ k, kb = some k → ob ≠ some k

/-- The blocks that a machine writes to. -/
def OwnS (mb wb : Nat) (sb kb ob : Option Nat) : Nat → Prop := fun k => k = mb ∨ k = wb ∨ some k = sb ∨ some k = kb ∨ some k = ob
/-- .. and those in which what it reads may not lie besides. -/
def OwnQ (Q : Nat → Prop) (mb wb : Nat) (sb kb ob : Option Nat) : Nat → Prop := fun k => OwnS mb wb sb kb ob k ∨ Q k

/-- The program's machine at mb, its words at wb. -/
structure SAt (Q : Nat → Prop) (w : World) (mb wb : Nat) (code : List Cod) (s : SS) (cv sv kv iv ov : Value) : Prop where
  blk : Blk w mb (scells cv (.slice (some ⟨wb, 0, none⟩) s.mem.length s.mem.length) sv kv iv ov s) 62
  wrd : Blk w wb (I32s s.mem).toArray 21
  ops : w.ownsRow 0 21 1 sv s.ops.length (I32s s.ops)
  cls : w.ownsRow 0 104 2 kv s.calls.length (kCells s.calls)
  out : w.ownsRow 0 5 1 ov s.out.length (U8s s.out)
  cod : CodRow (OwnQ Q mb wb sv.ownBlock kv.ownBlock ov.ownBlock) w cv code
  inp : BytRow (OwnQ Q mb wb sv.ownBlock kv.ownBlock ov.ownBlock) w iv s.inp
  five : Five mb wb sv.ownBlock kv.ownBlock ov.ownBlock

/-- What a machine's blocks come to: what is written lies in its own blocks, and those that are new lie behind. -/
structure Gone (w w' : World) (mb wb : Nat) (sv kv ov sv' kv' ov' : Value) : Prop where
  only : Only (OwnS mb wb sv.ownBlock kv.ownBlock ov.ownBlock) w w'
  s : sv'.ownBlock = sv.ownBlock ∨ ∃ k, sv'.ownBlock = some k ∧ w.heap.size ≤ k
  k : kv'.ownBlock = kv.ownBlock ∨ ∃ k, kv'.ownBlock = some k ∧ w.heap.size ≤ k
  o : ov'.ownBlock = ov.ownBlock ∨ ∃ k, ov'.ownBlock = some k ∧ w.heap.size ≤ k

theorem Gone.of_one {w w' : World} {mb wb : Nat} {sv kv ov : Value} (h : Only (M.One mb) w w') : Gone w w' mb wb sv kv ov sv kv ov := ⟨h.mono (fun _ h => Or.inl h), Or.inl rfl, Or.inl rfl, Or.inl rfl⟩
theorem Gone.of_nil {w w' : World} {mb wb : Nat} {sv kv ov : Value} (h : Only Nil w w') : Gone w w' mb wb sv kv ov sv kv ov := ⟨h.mono (fun _ h => h.elim), Or.inl rfl, Or.inl rfl, Or.inl rfl⟩
theorem Gone.trans {w1 w2 w3 : World} {mb wb : Nat} {a1 b1 c1 a2 b2 c2 a3 b3 c3 : Value} (h : Gone w1 w2 mb wb a1 b1 c1 a2 b2 c2) (k : Gone w2 w3 mb wb a2 b2 c2 a3 b3 c3) : Gone w1 w3 mb wb a1 b1 c1 a3 b3 c3 := by
  have two : ∀ {x y z : Option Nat}, (y = x ∨ ∃ k, y = some k ∧ w1.heap.size ≤ k) → (z = y ∨ ∃ k, z = some k ∧ w2.heap.size ≤ k) → (z = x ∨ ∃ k, z = some k ∧ w1.heap.size ≤ k) := by
    intro x y z h1 h2
    rcases h2 with h2 | ⟨j, h2, h3⟩
    · rw [h2]; exact h1
    · exact Or.inr ⟨j, h2, Nat.le_trans h.only.size h3⟩
  refine ⟨h.only.trans k.only (fun i hi hs => ?_), two h.s k.s, two h.k k.k, two h.o k.o⟩
  have back : ∀ {x y : Option Nat}, (y = x ∨ ∃ k, y = some k ∧ w1.heap.size ≤ k) → some i = y → some i = x := by
    intro x y h1 h2
    rcases h1 with h1 | ⟨j, h1, h3⟩
    · rw [← h1]; exact h2
    · rw [h1] at h2; injection h2 with h2; omega
  rcases hs with hs | hs | hs | hs | hs
  · exact Or.inl hs
  · exact Or.inr (Or.inl hs)
  · exact Or.inr (Or.inr (Or.inl (back h.s hs)))
  · exact Or.inr (Or.inr (Or.inr (Or.inl (back h.k hs))))
  · exact Or.inr (Or.inr (Or.inr (Or.inr (back h.o hs))))

theorem SAt.quiet {Q : Nat → Prop} {w w' : World} {mb wb : Nat} {code : List Cod} {s : SS} {cv sv kv iv ov : Value} (h : SAt Q w mb wb code s cv sv kv iv ov) (ho : Only Nil w w') : SAt Q w' mb wb code s cv sv kv iv ov :=
  ⟨h.blk.kept ho (fun h => h), h.wrd.kept ho (fun h => h), ownsRow_only h.ops ho (fun _ _ h => h), ownsRow_only h.cls ho (fun _ _ h => h), ownsRow_only h.out ho (fun _ _ h => h),
    h.cod.kept ho (fun _ h => h.elim), h.inp.kept ho (fun _ h => h.elim), h.five⟩
/-- Its own block alone is written. -/
theorem SAt.own {Q : Nat → Prop} {w w' : World} {mb wb : Nat} {code : List Cod} {s s' : SS} {cv sv kv iv ov : Value} (h : SAt Q w mb wb code s cv sv kv iv ov) (ho : Only (M.One mb) w w')
    (hB : Blk w' mb (scells cv (.slice (some ⟨wb, 0, none⟩) s.mem.length s.mem.length) sv kv iv ov s') 62) (hm : s'.mem = s.mem) (hp : s'.ops = s.ops) (hc : s'.calls = s.calls) (hi : s'.inp = s.inp) (hu : s'.out = s.out) : SAt Q w' mb wb code s' cv sv kv iv ov := by
  have q : ∀ k, M.One mb k → OwnQ Q mb wb sv.ownBlock kv.ownBlock ov.ownBlock k := fun k hk => Or.inl (Or.inl hk)
  have f : ∀ {x : Option Nat}, x ≠ some mb → ∀ k, x = some k → ¬ M.One mb k := fun hx k hk h1 => hx (by rw [hk, show k = mb from h1])
  refine ⟨by rw [hm]; exact hB, by rw [hm]; exact h.wrd.kept ho (fun e => h.five.mw e.symm), ?_, ?_, ?_, h.cod.kept ho q, by rw [hi]; exact h.inp.kept ho q, h.five⟩
  · rw [hp]; exact ownsRow_only h.ops ho (fun k hk => f h.five.sm k hk)
  · rw [hc]; exact ownsRow_only h.cls ho (fun k hk => f h.five.km k hk)
  · rw [hu]; exact ownsRow_only h.out ho (fun k hk => f h.five.om k hk)
/-- The operands is made longer, or anew, and kept in its field. -/
theorem SAt.newOps {Q : Nat → Prop} {w w2 : World} {mb wb : Nat} {code : List Cod} {s : SS} {cv sv kv iv ov x : Value} {l : List Int} (h : SAt Q w mb wb code s cv sv kv iv ov) (ho : Only (Own sv.ownBlock) w w2)
    (hown : w2.ownsRow 0 21 1 x l.length (I32s l)) (hv : x.ownBlock = sv.ownBlock ∨ ∃ k, x.ownBlock = some k ∧ w.heap.size ≤ k) :
    SAt Q (w2.setCell ⟨mb, 2, none⟩ x) mb wb code { s with ops := l } cv x kv iv ov ∧ Gone w (w2.setCell ⟨mb, 2, none⟩ x) mb wb sv kv ov x kv ov := by
  have hlm := h.blk.lt
  have hlw := h.wrd.lt
  have hxm : x.ownBlock ≠ some mb := fun e => by
    rcases hv with h1 | ⟨k, h1, h2⟩
    · exact h.five.sm (by rw [← h1, e])
    · rw [h1] at e; injection e with e; omega
  have hxw : x.ownBlock ≠ some wb := fun e => by
    rcases hv with h1 | ⟨k, h1, h2⟩
    · exact h.five.sw (by rw [← h1, e])
    · rw [h1] at e; injection e with e; omega
  have hxo : ∀ y : Option Nat, (∀ j, y = some j → j < w.heap.size) → (∀ j, sv.ownBlock = some j → y ≠ some j) → ∀ k, x.ownBlock = some k → y ≠ some k := fun y hy hne k hk e => by
    rcases hv with h1 | ⟨j, h1, h2⟩
    · exact hne k (by rw [← h1, hk]) e
    · rw [h1] at hk; injection hk with hk
      have := hy k e
      omega
  have ho2 : Only (M.One mb) w2 (w2.setCell ⟨mb, 2, none⟩ x) := (Only.refl _ w2).setCell' (M.One mb) rfl x
  have q1 : ∀ k, Own sv.ownBlock k → OwnQ Q mb wb sv.ownBlock kv.ownBlock ov.ownBlock k := fun k hk => Or.inl (Or.inr (Or.inr (Or.inl hk)))
  have q2 : ∀ k, M.One mb k → OwnQ Q mb wb sv.ownBlock kv.ownBlock ov.ownBlock k := fun k hk => Or.inl (Or.inl hk)
  have q3 : ∀ k, k < w.heap.size → OwnQ Q mb wb x.ownBlock kv.ownBlock ov.ownBlock k → OwnQ Q mb wb sv.ownBlock kv.ownBlock ov.ownBlock k := fun k hk hh => by
    rcases hh with (h1 | h1 | h1 | h1 | h1) | h1
    · exact Or.inl (Or.inl h1)
    · exact Or.inl (Or.inr (Or.inl h1))
    · exact Or.inl (Or.inr (Or.inr (Or.inl (by rcases hv with h2 | ⟨j, h2, h3⟩; (· rw [← h2]; exact h1); (· rw [h2] at h1; injection h1 with h1; omega)))))
    · exact Or.inl (Or.inr (Or.inr (Or.inr (Or.inl h1))))
    · exact Or.inl (Or.inr (Or.inr (Or.inr (Or.inr h1))))
    · exact Or.inr h1
  have hB := (h.blk.kept ho (fun e => h.five.sm (show sv.ownBlock = some mb from e.symm))).setCell 2 x
  refine ⟨⟨hB, (h.wrd.kept ho (fun e => h.five.sw (show sv.ownBlock = some wb from e.symm))).kept ho2 (fun e => h.five.mw e.symm), ownsRow_only hown ho2 (fun k hk h1 => hxm (by rw [hk, show k = mb from h1])), ownsRow_only (ownsRow_only h.cls ho (fun k hk h1 => h.five.sk k (show sv.ownBlock = some k from h1.symm) hk)) ho2 (fun k hk h1 => h.five.km (by rw [hk, show k = mb from h1])), ownsRow_only (ownsRow_only h.out ho (fun k hk h1 => h.five.so k (show sv.ownBlock = some k from h1.symm) hk)) ho2 (fun k hk h1 => h.five.om (by rw [hk, show k = mb from h1])),
    (((h.cod.less (T := fun k => OwnQ Q mb wb x.ownBlock kv.ownBlock ov.ownBlock k ∨ OwnQ Q mb wb sv.ownBlock kv.ownBlock ov.ownBlock k) (fun k hk hh => hh.elim (q3 k hk) id)).kept ho (fun k hk => Or.inr (q1 k hk))).kept ho2 (fun k hk => Or.inl (Or.inl (Or.inl hk)))).less (fun k _ hh => Or.inl hh), (((h.inp.less (T := fun k => OwnQ Q mb wb x.ownBlock kv.ownBlock ov.ownBlock k ∨ OwnQ Q mb wb sv.ownBlock kv.ownBlock ov.ownBlock k) (fun k hk hh => hh.elim (q3 k hk) id)).kept ho (fun k hk => Or.inr (q1 k hk))).kept ho2 (fun k hk => Or.inl (Or.inl (Or.inl hk)))).less (fun k _ hh => Or.inl hh), ⟨h.five.mw, hxm, hxw, h.five.km, h.five.kw, h.five.om, h.five.ow, fun k hk hh => hxo kv.ownBlock (fun j hj => (h.cls.lt j hj).2) (fun j hj => h.five.sk j hj) k hk hh, fun k hk hh => hxo ov.ownBlock (fun j hj => (h.out.lt j hj).2) (fun j hj => h.five.so j hj) k hk hh, h.five.ko⟩⟩, ⟨(ho.mono (fun k hk => Or.inr (Or.inr (Or.inl hk)))).trans ho2 (fun k _ hk => Or.inl hk), hv, Or.inl rfl, Or.inl rfl⟩⟩

/-- What calls keep is made longer, or anew, and kept in its field. -/
theorem SAt.newCalls {Q : Nat → Prop} {w w2 : World} {mb wb : Nat} {code : List Cod} {s : SS} {cv sv kv iv ov x : Value} {l : List (Nat × Nat)} (h : SAt Q w mb wb code s cv sv kv iv ov) (ho : Only (Own kv.ownBlock) w w2)
    (hown : w2.ownsRow 0 104 2 x l.length (kCells l)) (hv : x.ownBlock = kv.ownBlock ∨ ∃ k, x.ownBlock = some k ∧ w.heap.size ≤ k) :
    SAt Q (w2.setCell ⟨mb, 3, none⟩ x) mb wb code { s with calls := l } cv sv x iv ov ∧ Gone w (w2.setCell ⟨mb, 3, none⟩ x) mb wb sv kv ov sv x ov := by
  have hlm := h.blk.lt
  have hlw := h.wrd.lt
  have hxm : x.ownBlock ≠ some mb := fun e => by
    rcases hv with h1 | ⟨k, h1, h2⟩
    · exact h.five.km (by rw [← h1, e])
    · rw [h1] at e; injection e with e; omega
  have hxw : x.ownBlock ≠ some wb := fun e => by
    rcases hv with h1 | ⟨k, h1, h2⟩
    · exact h.five.kw (by rw [← h1, e])
    · rw [h1] at e; injection e with e; omega
  have hxo : ∀ y : Option Nat, (∀ j, y = some j → j < w.heap.size) → (∀ j, kv.ownBlock = some j → y ≠ some j) → ∀ k, x.ownBlock = some k → y ≠ some k := fun y hy hne k hk e => by
    rcases hv with h1 | ⟨j, h1, h2⟩
    · exact hne k (by rw [← h1, hk]) e
    · rw [h1] at hk; injection hk with hk
      have := hy k e
      omega
  have ho2 : Only (M.One mb) w2 (w2.setCell ⟨mb, 3, none⟩ x) := (Only.refl _ w2).setCell' (M.One mb) rfl x
  have q1 : ∀ k, Own kv.ownBlock k → OwnQ Q mb wb sv.ownBlock kv.ownBlock ov.ownBlock k := fun k hk => Or.inl (Or.inr (Or.inr (Or.inr (Or.inl hk))))
  have q2 : ∀ k, M.One mb k → OwnQ Q mb wb sv.ownBlock kv.ownBlock ov.ownBlock k := fun k hk => Or.inl (Or.inl hk)
  have q3 : ∀ k, k < w.heap.size → OwnQ Q mb wb sv.ownBlock x.ownBlock ov.ownBlock k → OwnQ Q mb wb sv.ownBlock kv.ownBlock ov.ownBlock k := fun k hk hh => by
    rcases hh with (h1 | h1 | h1 | h1 | h1) | h1
    · exact Or.inl (Or.inl h1)
    · exact Or.inl (Or.inr (Or.inl h1))
    · exact Or.inl (Or.inr (Or.inr (Or.inl h1)))
    · exact Or.inl (Or.inr (Or.inr (Or.inr (Or.inl (by rcases hv with h2 | ⟨j, h2, h3⟩; (· rw [← h2]; exact h1); (· rw [h2] at h1; injection h1 with h1; omega))))))
    · exact Or.inl (Or.inr (Or.inr (Or.inr (Or.inr h1))))
    · exact Or.inr h1
  have hB := (h.blk.kept ho (fun e => h.five.km (show kv.ownBlock = some mb from e.symm))).setCell 3 x
  refine ⟨⟨hB, (h.wrd.kept ho (fun e => h.five.kw (show kv.ownBlock = some wb from e.symm))).kept ho2 (fun e => h.five.mw e.symm), ownsRow_only (ownsRow_only h.ops ho (fun k hk h1 => h.five.sk k hk (show kv.ownBlock = some k from h1.symm))) ho2 (fun k hk h1 => h.five.sm (by rw [hk, show k = mb from h1])), ownsRow_only hown ho2 (fun k hk h1 => hxm (by rw [hk, show k = mb from h1])), ownsRow_only (ownsRow_only h.out ho (fun k hk h1 => h.five.ko k (show kv.ownBlock = some k from h1.symm) hk)) ho2 (fun k hk h1 => h.five.om (by rw [hk, show k = mb from h1])),
    (((h.cod.less (T := fun k => OwnQ Q mb wb sv.ownBlock x.ownBlock ov.ownBlock k ∨ OwnQ Q mb wb sv.ownBlock kv.ownBlock ov.ownBlock k) (fun k hk hh => hh.elim (q3 k hk) id)).kept ho (fun k hk => Or.inr (q1 k hk))).kept ho2 (fun k hk => Or.inl (Or.inl (Or.inl hk)))).less (fun k _ hh => Or.inl hh), (((h.inp.less (T := fun k => OwnQ Q mb wb sv.ownBlock x.ownBlock ov.ownBlock k ∨ OwnQ Q mb wb sv.ownBlock kv.ownBlock ov.ownBlock k) (fun k hk hh => hh.elim (q3 k hk) id)).kept ho (fun k hk => Or.inr (q1 k hk))).kept ho2 (fun k hk => Or.inl (Or.inl (Or.inl hk)))).less (fun k _ hh => Or.inl hh), ⟨h.five.mw, h.five.sm, h.five.sw, hxm, hxw, h.five.om, h.five.ow, fun k hk hh => hxo sv.ownBlock (fun j hj => (h.ops.lt j hj).2) (fun j hj hh2 => h.five.sk j hh2 hj) k hh hk, h.five.so, fun k hk hh => hxo ov.ownBlock (fun j hj => (h.out.lt j hj).2) (fun j hj => h.five.ko j hj) k hk hh⟩⟩, ⟨(ho.mono (fun k hk => Or.inr (Or.inr (Or.inr (Or.inl hk))))).trans ho2 (fun k _ hk => Or.inl hk), Or.inl rfl, hv, Or.inl rfl⟩⟩

/-- What is written is made longer, or anew, and kept in its field. -/
theorem SAt.newOut {Q : Nat → Prop} {w w2 : World} {mb wb : Nat} {code : List Cod} {s : SS} {cv sv kv iv ov x : Value} {l : List Nat} (h : SAt Q w mb wb code s cv sv kv iv ov) (ho : Only (Own ov.ownBlock) w w2)
    (hown : w2.ownsRow 0 5 1 x l.length (U8s l)) (hv : x.ownBlock = ov.ownBlock ∨ ∃ k, x.ownBlock = some k ∧ w.heap.size ≤ k) :
    SAt Q (w2.setCell ⟨mb, 5, none⟩ x) mb wb code { s with out := l } cv sv kv iv x ∧ Gone w (w2.setCell ⟨mb, 5, none⟩ x) mb wb sv kv ov sv kv x := by
  have hlm := h.blk.lt
  have hlw := h.wrd.lt
  have hxm : x.ownBlock ≠ some mb := fun e => by
    rcases hv with h1 | ⟨k, h1, h2⟩
    · exact h.five.om (by rw [← h1, e])
    · rw [h1] at e; injection e with e; omega
  have hxw : x.ownBlock ≠ some wb := fun e => by
    rcases hv with h1 | ⟨k, h1, h2⟩
    · exact h.five.ow (by rw [← h1, e])
    · rw [h1] at e; injection e with e; omega
  have hxo : ∀ y : Option Nat, (∀ j, y = some j → j < w.heap.size) → (∀ j, ov.ownBlock = some j → y ≠ some j) → ∀ k, x.ownBlock = some k → y ≠ some k := fun y hy hne k hk e => by
    rcases hv with h1 | ⟨j, h1, h2⟩
    · exact hne k (by rw [← h1, hk]) e
    · rw [h1] at hk; injection hk with hk
      have := hy k e
      omega
  have ho2 : Only (M.One mb) w2 (w2.setCell ⟨mb, 5, none⟩ x) := (Only.refl _ w2).setCell' (M.One mb) rfl x
  have q1 : ∀ k, Own ov.ownBlock k → OwnQ Q mb wb sv.ownBlock kv.ownBlock ov.ownBlock k := fun k hk => Or.inl (Or.inr (Or.inr (Or.inr (Or.inr hk))))
  have q2 : ∀ k, M.One mb k → OwnQ Q mb wb sv.ownBlock kv.ownBlock ov.ownBlock k := fun k hk => Or.inl (Or.inl hk)
  have q3 : ∀ k, k < w.heap.size → OwnQ Q mb wb sv.ownBlock kv.ownBlock x.ownBlock k → OwnQ Q mb wb sv.ownBlock kv.ownBlock ov.ownBlock k := fun k hk hh => by
    rcases hh with (h1 | h1 | h1 | h1 | h1) | h1
    · exact Or.inl (Or.inl h1)
    · exact Or.inl (Or.inr (Or.inl h1))
    · exact Or.inl (Or.inr (Or.inr (Or.inl h1)))
    · exact Or.inl (Or.inr (Or.inr (Or.inr (Or.inl h1))))
    · exact Or.inl (Or.inr (Or.inr (Or.inr (Or.inr (by rcases hv with h2 | ⟨j, h2, h3⟩; (· rw [← h2]; exact h1); (· rw [h2] at h1; injection h1 with h1; omega))))))
    · exact Or.inr h1
  have hB := (h.blk.kept ho (fun e => h.five.om (show ov.ownBlock = some mb from e.symm))).setCell 5 x
  refine ⟨⟨hB, (h.wrd.kept ho (fun e => h.five.ow (show ov.ownBlock = some wb from e.symm))).kept ho2 (fun e => h.five.mw e.symm), ownsRow_only (ownsRow_only h.ops ho (fun k hk h1 => h.five.so k hk (show ov.ownBlock = some k from h1.symm))) ho2 (fun k hk h1 => h.five.sm (by rw [hk, show k = mb from h1])), ownsRow_only (ownsRow_only h.cls ho (fun k hk h1 => h.five.ko k hk (show ov.ownBlock = some k from h1.symm))) ho2 (fun k hk h1 => h.five.km (by rw [hk, show k = mb from h1])), ownsRow_only hown ho2 (fun k hk h1 => hxm (by rw [hk, show k = mb from h1])),
    (((h.cod.less (T := fun k => OwnQ Q mb wb sv.ownBlock kv.ownBlock x.ownBlock k ∨ OwnQ Q mb wb sv.ownBlock kv.ownBlock ov.ownBlock k) (fun k hk hh => hh.elim (q3 k hk) id)).kept ho (fun k hk => Or.inr (q1 k hk))).kept ho2 (fun k hk => Or.inl (Or.inl (Or.inl hk)))).less (fun k _ hh => Or.inl hh), (((h.inp.less (T := fun k => OwnQ Q mb wb sv.ownBlock kv.ownBlock x.ownBlock k ∨ OwnQ Q mb wb sv.ownBlock kv.ownBlock ov.ownBlock k) (fun k hk hh => hh.elim (q3 k hk) id)).kept ho (fun k hk => Or.inr (q1 k hk))).kept ho2 (fun k hk => Or.inl (Or.inl (Or.inl hk)))).less (fun k _ hh => Or.inl hh), ⟨h.five.mw, h.five.sm, h.five.sw, h.five.km, h.five.kw, hxm, hxw, h.five.sk, fun k hk hh => hxo sv.ownBlock (fun j hj => (h.ops.lt j hj).2) (fun j hj hh2 => h.five.so j hh2 hj) k hh hk, fun k hk hh => hxo kv.ownBlock (fun j hj => (h.cls.lt j hj).2) (fun j hj hh2 => h.five.ko j hh2 hj) k hh hk⟩⟩, ⟨(ho.mono (fun k hk => Or.inr (Or.inr (Or.inr (Or.inr hk))))).trans ho2 (fun k _ hk => Or.inl hk), Or.inl rfl, Or.inl rfl, hv⟩⟩
/-- What is done, and what it answers. -/
def SDoes (Q : Nat → Prop) (w : World) (mb wb : Nat) (code : List Cod) (s : SS) (cv sv kv iv ov : Value) (X : Option SS) (e : Ending) (w' : World) : Prop :=
  ∃ sv' kv' iv' ov', e = .returned (.bool X.isSome) ∧ Gone w w' mb wb sv kv ov sv' kv' ov' ∧ SAt Q w' mb wb code (X.getD s) cv sv' kv' iv' ov'
end Go.Proofs.Ytpnhjjihdcopnaa
