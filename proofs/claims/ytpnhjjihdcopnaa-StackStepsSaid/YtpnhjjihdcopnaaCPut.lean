/- PutVar onto a row of one's own; PutInt, ReadInt. -/
import Derived.Test.YtpnhjjihdcopnaaVNum
import Derived.Test.YtpnhjjihdcopnaaCMath
import Derived.Deep.RegionHeld3
import Derived.Outline
import Derived.StillTailTactics
set_option linter.unusedSimpArgs false
set_option linter.unusedVariables false
namespace Go.Proofs.Ytpnhjjihdcopnaa
open Go.RowKit M

def Ge (b : Nat) : Nat → Prop := fun k => b ≤ k
theorem M.Only.ge {w w' : World} (h : Only Nil w w') (b : Nat) : Only (Ge b) w w' := h.mono (fun _ h => h.elim)
theorem M.Only.ge_own {base : Nat} {w wr w' : World} {e : TypeId} {size n : Nat} {v : Value} {xs : List Value} (h : Only (Ge base) w wr) (hown : wr.ownsRow base e size v n xs) (h2 : Only (Own v.ownBlock) wr w') : Only (Ge base) w w' :=
  h.trans h2 (fun i _ ht => (hown.lt i (Eq.symm ht)).1)
theorem M.Only.ge_nil {w w1 w2 : World} (h : Only Nil w w1) (h2 : Only (Ge w.heap.size) w1 w2) : Only Nil w w2 :=
  h.trans h2 (fun i hi ht => by unfold Ge at ht; omega)

end Go.Proofs.Ytpnhjjihdcopnaa

/- The small functions of the stack machine's code, by contracts; rows of instructions. -/
set_option linter.unusedSimpArgs false
set_option linter.unusedVariables false
namespace Go.Proofs.Ytpnhjjihdcopnaa
open Go.RowKit M

theorem hasK_not {op : Int} (h1 : ¬ op = 1) (h5 : ¬ op = 5) (h8 : ¬ op = 8) (h25 : ¬ op = 25) (h26 : ¬ op = 26) (h27 : ¬ op = 27) (h28 : ¬ op = 28) (h30 : ¬ op = 30) : hasK op = false := by
  unfold hasK; simp [h1, h5, h8, h25, h26, h27, h28, h30]
theorem not_beq {a b : Int} (h : ¬ a = b) : (a == b) = false := by simpa using h

set_option maxHeartbeats 1600000 in
theorem has_any (op : Int) (w : World) : Calls Try.prog 45 #[.int .i64 op] w fun e w' => e = .returned (.bool (hasK op)) ∧ w = w' := by
  by_cases h : op = 1 ∨ op = 5 ∨ op = 8 ∨ op = 25 ∨ op = 26 ∨ op = 27 ∨ op = 28 ∨ op = 30
  · rcases h with rfl | rfl | rfl | rfl | rfl | rfl | rfl | rfl
    all_goals
      go_enter Try.func45, Try.ntmps45
      go_wp2
      go_ret
      exact ⟨rfl, rfl⟩
  · have e : hasK op = false := hasK_not (by omega) (by omega) (by omega) (by omega) (by omega) (by omega) (by omega) (by omega)
    rw [e]
    have h1 : (op == 1) = false := not_beq (by omega)
    have h5 : (op == 5) = false := not_beq (by omega)
    have h8 : (op == 8) = false := not_beq (by omega)
    have h25 : (op == 25) = false := not_beq (by omega)
    have h26 : (op == 26) = false := not_beq (by omega)
    have h27 : (op == 27) = false := not_beq (by omega)
    have h28 : (op == 28) = false := not_beq (by omega)
    have h30 : (op == 30) = false := not_beq (by omega)
    clear h e
    go_enter Try.func45, Try.ntmps45
    go_wp2
    go_ret
    exact ⟨rfl, rfl⟩

set_option maxHeartbeats 1600000 in
theorem hasK_any (op : Int) (w : World) : Calls Try.prog 30 #[.int .i64 op] w fun e w' => e = .returned (.bool (hasK op)) ∧ w = w' := by
  by_cases h : op = 1 ∨ op = 5 ∨ op = 8 ∨ op = 25 ∨ op = 26 ∨ op = 27 ∨ op = 28 ∨ op = 30
  · rcases h with rfl | rfl | rfl | rfl | rfl | rfl | rfl | rfl
    all_goals
      go_enter Try.func30, Try.ntmps30
      go_wp2
      go_ret
      exact ⟨rfl, rfl⟩
  · have e : hasK op = false := hasK_not (by omega) (by omega) (by omega) (by omega) (by omega) (by omega) (by omega) (by omega)
    rw [e]
    have h1 : (op == 1) = false := not_beq (by omega)
    have h5 : (op == 5) = false := not_beq (by omega)
    have h8 : (op == 8) = false := not_beq (by omega)
    have h25 : (op == 25) = false := not_beq (by omega)
    have h26 : (op == 26) = false := not_beq (by omega)
    have h27 : (op == 27) = false := not_beq (by omega)
    have h28 : (op == 28) = false := not_beq (by omega)
    have h30 : (op == 30) = false := not_beq (by omega)
    clear h e
    go_enter Try.func30, Try.ntmps30
    go_wp2
    go_ret
    exact ⟨rfl, rfl⟩

def _root_.Go.Proofs.Ytpnhjjihdcopnaa.M.Cod.val (c : Cod) : Value := .agg #[.int .i64 c.op, .int .i32 c.k]

theorem M.Only.drewN {S : Nat → Prop} {a w : World} (h : Only S a w) (q : Nat) : Only S a (w.drewN q) := ⟨h.os, h.tape, h.output, h.size, h.block⟩
theorem ret_eq {a b : Value} (h : a = b) : Ending.returned a = .returned b := by rw [h]
theorem ret_bool {a b : Bool} (h : a = b) : Ending.returned (.bool a) = .returned (.bool b) := by rw [h]

set_option maxHeartbeats 1600000 in
theorem in_any (n a b : Int) (w : World) : Calls Try.prog 48 #[.int .i64 n, .int .i64 a, .int .i64 b] w fun e w' => e = .returned (.bool (decide (a ≤ n) && decide (n ≤ b))) ∧ w = w' := by
  by_cases h1 : a ≤ n
  · by_cases h2 : n ≤ b
    · go_enter Try.func48, Try.ntmps48
      go_wp2
      go_ret
      exact ⟨ret_bool (by simp [h1, h2]), rfl⟩
    · go_enter Try.func48, Try.ntmps48
      go_wp2
      go_ret
      exact ⟨ret_bool (by simp [h1, h2]), rfl⟩
  · go_enter Try.func48, Try.ntmps48
    go_wp2
    go_ret
    exact ⟨ret_bool (by simp; omega), rfl⟩

set_option maxHeartbeats 1600000 in
theorem good_any (op k : Int) (w : World) : Calls Try.prog 34 #[.agg #[.int .i64 op, .int .i32 k]] w fun e w' => e = .returned (.bool (decide (Cod.mk op k).Good)) ∧ Only Nil w w' := by
  obtain ⟨h, hh⟩ : ∃ h, hasK op = h := ⟨_, rfl⟩
  have cH := fun w => hasK_any op w
  rw [hh] at cH
  obtain ⟨i, hi⟩ : ∃ i, (decide (0 ≤ op) && decide (op ≤ 33)) = i := ⟨_, rfl⟩
  have cI := fun w => in_any op 0 33 w
  rw [hi] at cI
  have hG : decide (Cod.mk op k).Good = (i && (h || k == 0)) := by
    rw [← hi]
    unfold Cod.Good
    simp only [hh]
    by_cases h1 : 0 ≤ op <;> by_cases h2 : op ≤ 33 <;> by_cases h3 : k = 0 <;> cases h <;> simp [h1, h2, h3, show (op < 34) = (op ≤ 33) from propext ⟨fun h => by omega, fun h => by omega⟩]
  have HG := Lib.hid hG
  clear hG hh hi
  cases i
  · go_enter Try.func34, Try.ntmps34
    go_wp2_with (go_at_call 48; refine (cI _).mono ?_; rintro e w1 ⟨rfl, rfl⟩)
    go_ret
    exact ⟨ret_bool (by rw [HG.out]; simp), (Only.refl Nil w).alloc _⟩
  · cases h
    · go_enter Try.func34, Try.ntmps34
      go_wp2_with (first | (go_at_call 48; refine (cI _).mono ?_; rintro e w1 ⟨rfl, rfl⟩) | (go_at_call 30; refine (cH _).mono ?_; rintro e w1 ⟨rfl, rfl⟩))
      go_ret
      exact ⟨ret_bool (by rw [HG.out]; simp), (Only.refl Nil w).alloc _⟩
    · go_enter Try.func34, Try.ntmps34
      go_wp2_with (first | (go_at_call 48; refine (cI _).mono ?_; rintro e w1 ⟨rfl, rfl⟩) | (go_at_call 30; refine (cH _).mono ?_; rintro e w1 ⟨rfl, rfl⟩))
      go_ret
      exact ⟨ret_bool (by rw [HG.out]; simp), (Only.refl Nil w).alloc _⟩

/-- What Place tells. -/
def placeV (k n : Int) : Int := if k.tmod n < 0 then k.tmod n + n else k.tmod n
end Go.Proofs.Ytpnhjjihdcopnaa

/- Rows of instructions: read, wherever they lie; appended to. -/
set_option linter.unusedSimpArgs false
set_option linter.unusedVariables false
namespace Go.Proofs.Ytpnhjjihdcopnaa
open Go.RowKit M

/-- The cells of instructions. -/
def codCells (L : List Cod) : List Value := L.flatMap fun c => [.int .i64 c.op, .int .i32 c.k]
theorem codCells_len (L : List Cod) : (codCells L).length = L.length * 2 := by
  induction L with
  | nil => rfl
  | cons c L ih => unfold codCells at ih ⊢; rw [List.flatMap_cons, List.length_append, ih, List.length_cons, List.length_cons, List.length_cons, List.length_nil]; omega
theorem codCells_append (L M : List Cod) : codCells (L ++ M) = codCells L ++ codCells M := by simp [codCells]
theorem codCells_get (L : List Cod) : ∀ (k : Nat) (c : Cod), L[k]? = some c → (codCells L)[k * 2]? = some (.int .i64 c.op) ∧ (codCells L)[k * 2 + 1]? = some (.int .i32 c.k) := by
  induction L with
  | nil => intro k c h; simp at h
  | cons x L ih =>
    intro k c h
    have e : codCells (x :: L) = [.int .i64 x.op, .int .i32 x.k] ++ codCells L := rfl
    rw [e]
    cases k with
    | zero => simp only [List.getElem?_cons_zero, Option.some.injEq] at h; subst h; exact ⟨rfl, rfl⟩
    | succ k =>
      have := ih k c (by simpa using h)
      rw [List.getElem?_append_right (by simp; omega), List.getElem?_append_right (by simp; omega)]
      rw [show (k + 1) * 2 - [Value.int IntKind.i64 x.op, Value.int IntKind.i32 x.k].length = k * 2 by simp; omega, show (k + 1) * 2 + 1 - [Value.int IntKind.i64 x.op, Value.int IntKind.i32 x.k].length = k * 2 + 1 by simp; omega]
      exact this

/-- Instructions that are read. -/
def CAt (w : World) (b off : Nat) (L : List Cod) : Prop := ∀ (k : Nat) (c : Cod), L[k]? = some c → w.cell? ⟨b, off + k * 2, none⟩ = some (.int .i64 c.op) ∧ w.cell? ⟨b, off + k * 2 + 1, none⟩ = some (.int .i32 c.k)
def CSrc (w : World) (b : Nat) (s : Value) (L : List Cod) : Prop :=
  ∃ ao cap off, s = .slice ao L.length cap ∧ L.length ≤ cap ∧ cap ≤ maxLen ∧ (0 < L.length → ao = some ⟨b, off, none⟩) ∧ CAt w b off L
theorem CAt.kept {S : Nat → Prop} {w w' : World} {b off : Nat} {L : List Cod} (h : CAt w b off L) (ho : Only S w w') (hb : ¬ S b) : CAt w' b off L :=
  fun k c hk => ⟨ho.cell (h k c hk).1 hb, ho.cell (h k c hk).2 hb⟩
theorem CSrc.kept {w w' : World} {b : Nat} {s : Value} {L : List Cod} (h : CSrc w b s L) (ho : Only Nil w w') : CSrc w' b s L := by
  obtain ⟨ao, cap, off, h1, h2, h3, h4, h5⟩ := h
  exact ⟨ao, cap, off, h1, h2, h3, h4, h5.kept ho (fun h => h)⟩
theorem cAt_new (w : World) (L : List Cod) (t : TypeId) {S : Nat → Prop} {w' : World} (cs : Array Value) (hc : cs.toList = codCells L) (ho : Only S (w.alloc (.cells cs t)) w') (hS : ¬ S w.heap.size) : CAt w' w.heap.size 0 L := by
  intro k c hk
  have hB := (Blk.new w cs t).kept ho hS
  have h := codCells_get L k c hk
  rw [← hc, Array.getElem?_toList, Array.getElem?_toList] at h
  rw [Nat.zero_add, hB.cell, hB.cell]
  exact h
theorem CSrc.of_own {w : World} {base : Nat} {e : TypeId} {v : Value} {n : Nat} {L : List Cod} (h : w.ownsRow base e 2 v n (codCells L)) : CSrc w (v.ownBlock.getD 0) v L := by
  have hl : L.length = n := by have := h.1; rw [codCells_len] at this; omega
  rcases h.2 with ⟨rfl, h0⟩ | ⟨g, cap, cur, rfl, hb, hg, hnc, hcm, hcs, ht⟩
  · have hL : L = [] := List.eq_nil_of_length_eq_zero (by omega)
    subst hL
    exact ⟨none, 0, 0, rfl, Nat.le_refl _, Nat.zero_le _, fun h => by simp at h, fun k c hk => by simp at hk⟩
  · refine ⟨some ⟨g, 0, none⟩, cap, 0, by rw [hl], by omega, hcm, fun _ => rfl, fun k c hk => ?_⟩
    have hk2 := (List.getElem?_eq_some_iff.1 hk).1
    have h2 := codCells_get L k c hk
    have hc := fun i hi => World.ownsRow.cellAt (w := w) (base := base) (e := e) (size := 2) (g := g) (n := n) (cap := cap) (xs := codCells L) h i hi
    simp only [Value.ownBlock, Option.getD_some, Nat.zero_add]
    rw [hc (k * 2) (by omega), hc (k * 2 + 1) (by omega)]
    exact h2

theorem Try.info55 : (Try.prog.info? 55).map (fun i => (i.zero, i.size, i.bytes)) = some (some (.agg #[.int .i64 0, .int .i32 0]), 2, 16) := by kernel_rfl

section
variable {P : Program} {w : World}
/-- 'append(s, x)' of one element of two cells, which the translation lays into a new block of its own first. -/
theorem wpList_append_two {ops : Array Oper} {rest : List Oper} {o : Oper} {a : Act} {Q : Exit → Act → World → Prop} (hgd : o.guard = none) (s x : Operand) (t : TypeId)
    (ho : o.op = .call { callee := .builtin .append, args := #[s, x], argTypes := #[t, t] })
    (base : Nat) (e : TypeId) (i : TypeInfo) (z : Value) (bytes : Nat) (ht : P.underlying t = some (.slice e)) (hi : P.info? e = some i) (hz : i.zero = some z)
    (hsize : i.size = 2) (hby : i.bytes = bytes) (hzs : z.cells.size = 2)
    (v : Value) (n : Nat) (xs : List Value) (hs : a.eval s = v) (hown : w.ownsRow base e 2 v n xs) (x0 x1 : Value) (h0 : x0.oneCell' = true) (h1 : x1.oneCell' = true)
    (hx : a.eval x = .slice (some ⟨w.heap.size, 0, none⟩) 1 1) (h63 : n + 1 ≤ maxLen) (hbytes : (n + 1) * bytes ≤ 140737488355328) (hbase : base ≤ w.heap.size)
    (h : ∀ g cap w', w'.ownsRow base e 2 (.slice (some ⟨g, 0, none⟩) (n + 1) cap) (n + 1) (xs ++ [x0, x1]) → n + 1 ≤ cap → cap ≤ maxLen →
      (some g = v.ownBlock ∨ w.heap.size ≤ g) → Only (Own v.ownBlock) w w' → wpList P ops Q rest (a.put o.dst (.slice (some ⟨g, 0, none⟩) (n + 1) cap)) w') :
    wpList P ops Q (o :: rest) a (w.alloc (.cells #[x0, x1] e)) := by
  refine wpList_append_row hgd s x t ho base e i z 2 bytes ht hi hz hsize hby hzs (by decide) v n xs hs (hown.alloc _) ⟨w.heap.size, 0, none⟩ 1 1 [x0, x1] hx rfl ?_ ?_ (by decide) h63 hbytes (by simp; omega) ?_
  · intro j u hj
    match j, hj with
    | 0, hj => simp at hj; subst hj; simp [Addr.add]
    | 1, hj => simp at hj; subst hj; simp [Addr.add]
  · intro u hu
    simp only [List.mem_cons, List.not_mem_nil, or_false] at hu
    rcases hu with rfl | rfl
    · exact h0
    · exact h1
  · intro g cap w' h2 h3 h4 h5 h6
    refine h g cap w' h2 h3 h4 (h5.imp id fun h => by simp at h; omega) ?_
    exact ((Only.refl (Own v.ownBlock) w).alloc _).trans h6 (fun _ _ h => h)
end

theorem u8_op (op : Int) (h1 : 0 ≤ op) (h2 : op < 34) : IntKind.u8.wrap op = op := by
  obtain ⟨n, rfl⟩ := Int.eq_ofNat_of_zero_le h1
  rw [wrap_u8, Nat.mod_eq_of_lt (by omega)]

/-- What Encode tells. -/
def EncOk (w : World) (L : List Cod) (sv : Value) (w' : World) : Prop := w'.ownsRow w.heap.size 5 1 sv (encL L).length (U8s (encL L))
end Go.Proofs.Ytpnhjjihdcopnaa

/- Encode, the program's. -/
set_option linter.unusedSimpArgs false
set_option linter.unusedVariables false
namespace Go.Proofs.Ytpnhjjihdcopnaa
open Go.RowKit M

end Go.Proofs.Ytpnhjjihdcopnaa

