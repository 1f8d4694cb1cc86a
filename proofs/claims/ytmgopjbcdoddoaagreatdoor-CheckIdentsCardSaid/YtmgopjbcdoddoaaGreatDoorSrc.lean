/- A slice that is only read, wherever it lies; append of one onto an owned row. -/
import Derived.Test.YtmgopjbcdoddoaaGreatDoorApp
set_option linter.unusedSimpArgs false
set_option linter.unusedVariables false
namespace Go.Proofs.YtmgopjbcdoddoaaGreatDoor.M
open Go.RowKit

/-- s is a slice whose elements are the cells xs, in block b (of an empty one nothing is asked). -/
def Src (w : World) (b : Nat) (s : Value) (xs : List Value) : Prop :=
  ∃ ao cap off, s = .slice ao xs.length cap ∧ (0 < xs.length → ao = some ⟨b, off, none⟩) ∧ (ao = none → cap = 0) ∧ ∀ i u, xs[i]? = some u → w.cell? ⟨b, off + i, none⟩ = some u

theorem Src.kept {S : Nat → Prop} {w w' : World} {b : Nat} {s : Value} {xs : List Value} (h : Src w b s xs) (ho : Only S w w') (hb : 0 < xs.length → ¬ S b) : Src w' b s xs := by
  obtain ⟨ao, cap, off, h1, h2, h3, h4⟩ := h
  exact ⟨ao, cap, off, h1, h2, h3, fun i u hi => ho.cell (h4 i u hi) (hb (by have := (List.getElem?_eq_some_iff.1 hi).1; omega))⟩

theorem Src.of_own {w : World} {base : Nat} {e : TypeId} {v : Value} {n : Nat} {xs : List Value} (h : w.ownsRow base e 1 v n xs) : Src w (v.ownBlock.getD 0) v xs := by
  have hl : xs.length = n := by simpa using h.1
  rcases h.2 with ⟨rfl, h0⟩ | ⟨g, cap, cur, rfl, _, hg, hnc, hcm, hcs, ht⟩
  · refine ⟨none, 0, 0, by simp [hl, h0], fun hx => by omega, fun _ => rfl, fun i u hi => by have := (List.getElem?_eq_some_iff.1 hi).1; omega⟩
  · refine ⟨some ⟨g, 0, none⟩, cap, 0, by rw [hl], fun _ => rfl, fun hx => by simp at hx, fun i u hu => ?_⟩
    have hi := (List.getElem?_eq_some_iff.1 hu).1
    have := World.ownsRow.cellAt (w := w) (base := base) (e := e) (size := 1) (g := g) (n := n) (cap := cap) (xs := xs) ⟨h.1, .inr ⟨g, cap, cur, rfl, by assumption, hg, hnc, hcm, hcs, ht⟩⟩ i (by omega)
    simp only [Value.ownBlock, Option.getD_some, Nat.zero_add]
    rw [this, hu]

theorem Src.ofLt {w : World} {b : Nat} {s : Value} {xs : List Value} (h : Src w b s xs) (hx : 0 < xs.length) : b < w.heap.size := by
  obtain ⟨ao, cap, off, h1, h2, h3, h4⟩ := h
  exact World.block_lt_of_cell? w _ (h4 0 xs[0] (List.getElem?_eq_getElem hx))

theorem Src.opened {w : World} {b : Nat} {s : Value} {xs : List Value} {n : Nat} (h : Src w b s xs) (hn : xs.length = n) :
    ∃ ao cap off, s = .slice ao n cap ∧ (0 < n → ao = some ⟨b, off, none⟩) ∧ (ao = none → cap = 0) ∧ ∀ i u, xs[i]? = some u → w.cell? ⟨b, off + i, none⟩ = some u := by
  subst hn; exact h

theorem addr_add (b off i : Nat) : (⟨b, off, none⟩ : Addr).add i = ⟨b, off + i, none⟩ := by
  unfold Addr.add; split <;> simp_all

section
variable {P : Program} {w : World}
theorem wpList_append_src {ops : Array Oper} {rest : List Oper} {o : Oper} {a : Act} {Q : Exit → Act → World → Prop} (hgd : o.guard = none) (s x : Operand) (t : TypeId)
    (ho : o.op = .call { callee := .builtin .append, args := #[s, x], argTypes := #[t, t] })
    (base : Nat) (e : TypeId) (i : TypeInfo) (z : Value) (bytes : Nat) (ht : P.underlying t = some (.slice e)) (hi : P.info? e = some i) (hz : i.zero = some z)
    (hsize : i.size = 1) (hby : i.bytes = bytes) (hzs : z.cells.size = 1)
    (v : Value) (n : Nat) (xs : List Value) (hs : a.eval s = v) (hown : w.ownsRow base e 1 v n xs)
    (b : Nat) (sv : Value) (news : List Value) (hx : a.eval x = sv) (hsrc : Src w b sv news) (h1 : ∀ u ∈ news, u.oneCell' = true)
    (h63 : n + news.length ≤ maxLen) (hbytes : (n + news.length) * bytes ≤ 140737488355328) (hbase : base ≤ w.heap.size)
    (h : ∀ v' w', w'.ownsRow base e 1 v' (n + news.length) (xs ++ news) → (v'.ownBlock = v.ownBlock ∨ ∃ k, v'.ownBlock = some k ∧ w.heap.size ≤ k) → Only (Own v.ownBlock) w w' → wpList P ops Q rest (a.put o.dst v') w') :
    wpList P ops Q (o :: rest) a w := by
  obtain ⟨ao, cap, off, rfl, hs2, hs3, hs4⟩ := hsrc
  cases ao with
  | none =>
    have hn : news = [] := by
      cases news with
      | nil => rfl
      | cons y t => have := hs2 (by simp); simp at this
    subst hn
    have hc := hs3 rfl
    subst hc
    refine wpList_append_own_none hgd s x t ho base e i 1 ht hi v n xs hs hown hx (h v w ?_ (Or.inl rfl) (Only.refl _ _))
    simpa using hown
  | some ad =>
    refine wpList_plain hgd fun K hK => ?_
    obtain ⟨v', w', hr, h2, h3, h4⟩ := run_append_row (P := P) base t o.type e i z 1 bytes ht hi hz hsize hby hzs (by decide) v n xs hown ad news.length cap news (by simp)
      (by
        intro j u hj
        have hjl : j < news.length := (List.getElem?_eq_some_iff.1 hj).1
        have e1 := hs2 (by omega)
        injection e1 with e1
        rw [e1, addr_add, hs4 j u hj]) h1 h63 hbytes hbase
    unfold Oper.wp execOp
    simp only [ho, resolve, invoke, builtin, Sem.run_bind, Sem.run_pure, Result.andThen_ok, List.map_toArray, List.map_cons, List.map_nil, hs, hx, hr]
    exact hK _ _ (h v' w' h2 h4 (Only.of_grown h3))
end

theorem Only.nil_own {w wr w' : World} {e : TypeId} {size n : Nat} {v : Value} {xs : List Value} (h : Only Nil w wr) (hown : wr.ownsRow w.heap.size e size v n xs) (h2 : Only (Own v.ownBlock) wr w') : Only Nil w w' :=
  h.trans h2 (fun i hi ht => by have := (hown.lt i (Eq.symm ht)).1; omega)

theorem bit_test (v m : Nat) (hv : v < 18446744073709551616) : (bits BinOp.and IntKind.u64 ((v : Int) / 2 ^ m) 1 == 1) = v.testBit m := by
  have e : (v : Int) / 2 ^ m = ((v / 2 ^ m : Nat) : Int) := by simp
  have h : v / 2 ^ m < 2 ^ IntKind.u64.bits := Nat.lt_of_le_of_lt (Nat.div_le_self _ _) hv
  have := bits_and_nat .u64 rfl (v / 2 ^ m) 1 h (by decide)
  rw [e]
  rw [show ((1 : Nat) : Int) = 1 from rfl] at this
  rw [this, Nat.and_one_is_mod, Nat.testBit_eq_decide_div_mod_eq]
  rcases Nat.mod_two_eq_zero_or_one (v / 2 ^ m) with h | h <;> simp [h]
end Go.Proofs.YtmgopjbcdoddoaaGreatDoor.M
