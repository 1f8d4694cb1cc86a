/- A struct of eight one-cell fields by value: api.Instr as an argument. -/
import Derived.Test.YthimhbfglgnohaaDoorRTabs
import Derived.Lib.SmallJoins
namespace Go.Proofs.YthimhbfglgnohaaDoor
open Go.Joins Go.ChangeShapes Go.WideShapes Go.RowKit Go.Deep M
section
variable {H : Type} {enc : TypeId × Value → H} {P : Program} {w : World} {base : Nat} {spare : Nat → Bool} {held : Bool}
theorem open_agg8 {r : Reach} {b0 : Nat} {t : TypeId} {f0 f1 f2 f3 f4 f5 f6 f7 : Field} {v : Value} {d : DataW H} {p : List MemPlace} (hs : P.underlying t = some (.struct #[f0, f1, f2, f3, f4, f5, f6, f7])) (hone : oneCellFields P #[f0, f1, f2, f3, f4, f5, f6, f7] = true) (hC : P.cellsOf t = 8)
    (hv : Value.okWide P w r b0 t v) (h : DataW.Trod enc P w base spare held t v d p) :
    ∃ (v0 v1 v2 v3 v4 v5 v6 v7 : Value) (y0 y1 y2 y3 y4 y5 y6 y7 : DataW H × List MemPlace) (n : Nat), v = .agg #[v0, v1, v2, v3, v4, v5, v6, v7] ∧ d = .agg [y0.1, y1.1, y2.1, y3.1, y4.1, y5.1, y6.1, y7.1] ∧ p = y0.2 ++ (y1.2 ++ (y2.2 ++ (y3.2 ++ (y4.2 ++ (y5.2 ++ (y6.2 ++ (y7.2))))))) ∧
      DataW.trod enc P w base spare held n f0.type [v0] = some y0 ∧ DataW.trod enc P w base spare held n f1.type [v1] = some y1 ∧ DataW.trod enc P w base spare held n f2.type [v2] = some y2 ∧ DataW.trod enc P w base spare held n f3.type [v3] = some y3 ∧ DataW.trod enc P w base spare held n f4.type [v4] = some y4 ∧ DataW.trod enc P w base spare held n f5.type [v5] = some y5 ∧ DataW.trod enc P w base spare held n f6.type [v6] = some y6 ∧ DataW.trod enc P w base spare held n f7.type [v7] = some y7 := by
  obtain ⟨cs, rfl, hsz⟩ := okWide_struct hs hv
  obtain ⟨l⟩ := cs
  match l, hsz.trans hC with
  | [c0, c1, c2, c3, c4, c5, c6, c7], _ =>
    obtain ⟨fuel, hf⟩ := h
    obtain ⟨xs, n, _, hx, _, hlen, hg⟩ := DataW.trod_struct hs hf
    obtain ⟨o0, k0⟩ := hone_of hone 0 f0 rfl
    obtain ⟨o1, k1⟩ := hone_of hone 1 f1 rfl
    obtain ⟨o2, k2⟩ := hone_of hone 2 f2 rfl
    obtain ⟨o3, k3⟩ := hone_of hone 3 f3 rfl
    obtain ⟨o4, k4⟩ := hone_of hone 4 f4 rfl
    obtain ⟨o5, k5⟩ := hone_of hone 5 f5 rfl
    obtain ⟨o6, k6⟩ := hone_of hone 6 f6 rfl
    obtain ⟨o7, k7⟩ := hone_of hone 7 f7 rfl
    match xs, hlen with
    | [y0, y1, y2, y3, y4, y5, y6, y7], _ =>
      simp only [Prod.mk.injEq] at hx
      exact ⟨c0, c1, c2, c3, c4, c5, c6, c7, y0, y1, y2, y3, y4, y5, y6, y7, n, rfl, by simpa using hx.1, by simpa using hx.2, by simpa [Value.cells, o0, k0] using hg 0 f0 rfl, by simpa [Value.cells, o1, k1] using hg 1 f1 rfl, by simpa [Value.cells, o2, k2] using hg 2 f2 rfl, by simpa [Value.cells, o3, k3] using hg 3 f3 rfl, by simpa [Value.cells, o4, k4] using hg 4 f4 rfl, by simpa [Value.cells, o5, k5] using hg 5 f5 rfl, by simpa [Value.cells, o6, k6] using hg 6 f6 rfl, by simpa [Value.cells, o7, k7] using hg 7 f7 rfl⟩
theorem shut_agg8 {t : TypeId} {f0 f1 f2 f3 f4 f5 f6 f7 : Field} {v0 v1 v2 v3 v4 v5 v6 v7 : Value} {y0 y1 y2 y3 y4 y5 y6 y7 : DataW H × List MemPlace} (hs : P.underlying t = some (.struct #[f0, f1, f2, f3, f4, f5, f6, f7])) (hone : oneCellFields P #[f0, f1, f2, f3, f4, f5, f6, f7] = true) (hC : P.cellsOf t = 8)
    (t0 : ∃ n, DataW.trod enc P w base spare held n f0.type [v0] = some y0) (t1 : ∃ n, DataW.trod enc P w base spare held n f1.type [v1] = some y1) (t2 : ∃ n, DataW.trod enc P w base spare held n f2.type [v2] = some y2) (t3 : ∃ n, DataW.trod enc P w base spare held n f3.type [v3] = some y3) (t4 : ∃ n, DataW.trod enc P w base spare held n f4.type [v4] = some y4) (t5 : ∃ n, DataW.trod enc P w base spare held n f5.type [v5] = some y5) (t6 : ∃ n, DataW.trod enc P w base spare held n f6.type [v6] = some y6) (t7 : ∃ n, DataW.trod enc P w base spare held n f7.type [v7] = some y7) :
    DataW.Trod enc P w base spare held t (.agg #[v0, v1, v2, v3, v4, v5, v6, v7]) (.agg [y0.1, y1.1, y2.1, y3.1, y4.1, y5.1, y6.1, y7.1]) (y0.2 ++ (y1.2 ++ (y2.2 ++ (y3.2 ++ (y4.2 ++ (y5.2 ++ (y6.2 ++ (y7.2)))))))) := by
  obtain ⟨n0, t0⟩ := t0
  obtain ⟨n1, t1⟩ := t1
  obtain ⟨n2, t2⟩ := t2
  obtain ⟨n3, t3⟩ := t3
  obtain ⟨n4, t4⟩ := t4
  obtain ⟨n5, t5⟩ := t5
  obtain ⟨n6, t6⟩ := t6
  obtain ⟨n7, t7⟩ := t7
  obtain ⟨o0, k0⟩ := hone_of hone 0 f0 rfl
  obtain ⟨o1, k1⟩ := hone_of hone 1 f1 rfl
  obtain ⟨o2, k2⟩ := hone_of hone 2 f2 rfl
  obtain ⟨o3, k3⟩ := hone_of hone 3 f3 rfl
  obtain ⟨o4, k4⟩ := hone_of hone 4 f4 rfl
  obtain ⟨o5, k5⟩ := hone_of hone 5 f5 rfl
  obtain ⟨o6, k6⟩ := hone_of hone 6 f6 rfl
  obtain ⟨o7, k7⟩ := hone_of hone 7 f7 rfl
  obtain ⟨N, hN⟩ : ∃ N, N = n0 + n1 + n2 + n3 + n4 + n5 + n6 + n7 := ⟨_, rfl⟩
  have s0 := DataW.trod_le (show n0 ≤ N by omega) t0
  have s1 := DataW.trod_le (show n1 ≤ N by omega) t1
  have s2 := DataW.trod_le (show n2 ≤ N by omega) t2
  have s3 := DataW.trod_le (show n3 ≤ N by omega) t3
  have s4 := DataW.trod_le (show n4 ≤ N by omega) t4
  have s5 := DataW.trod_le (show n5 ≤ N by omega) t5
  have s6 := DataW.trod_le (show n6 ≤ N by omega) t6
  have s7 := DataW.trod_le (show n7 ≤ N by omega) t7
  have ts := trod_struct_mk (enc := enc) (w := w) (base := base) (spare := spare) (held := held) (n := N) (cs := [v0, v1, v2, v3, v4, v5, v6, v7]) (xs := [y0, y1, y2, y3, y4, y5, y6, y7]) hs (by simp [hC])
    (by simp [o0, k0, s0, o1, k1, s1, o2, k2, s2, o3, k3, s3, o4, k4, s4, o5, k5, s5, o6, k6, s6, o7, k7, s7])
  exact ⟨_, by simpa [Value.cells] using ts⟩
end

theorem bool_of_trod {H : Type} {enc : TypeId × Value → H} {P : Program} {w : World} {base : Nat} {sp : Nat → Bool} {held : Bool} {fuel : Nat} {t : TypeId} {c : Value} {y : DataW H × List MemPlace}
    (ht : P.underlying t = some .bool) (h : DataW.trod enc P w base sp held fuel t [c] = some y) : ∃ b, c = .bool b ∧ y = (.lit (.bool b), []) := by
  cases fuel with
  | zero => simp [DataW.trod] at h
  | succ fuel =>
    cases c <;> simp [DataW.trod, ht] at h
    exact ⟨_, rfl, h.symm⟩

def insD {H : Type} (F : Int) (u v : Bool) (A B C Op m : Int) : DataW H :=
  .agg [.lit (.int .i64 F), .lit (.bool u), .lit (.bool v), .lit (.int .i64 A), .lit (.int .i64 B), .lit (.int .i64 C), .lit (.int .i64 Op), .lit (.int .i32 m)]
def insWf (F A B C Op m : Int) : Prop :=
  (Lit.int .i64 F).wf = true ∧ (Lit.int .i64 A).wf = true ∧ (Lit.int .i64 B).wf = true ∧ (Lit.int .i64 C).wf = true ∧ (Lit.int .i64 Op).wf = true ∧ (Lit.int .i32 m).wf = true
/-- The argument, opened. -/
theorem open_instr {H : Type} {enc : TypeId × Value → H} {W : World} {r : Reach} {b0 base : Nat} {sp : Nat → Bool} {held : Bool} {v : Value} {d : DataW H} {p : List MemPlace}
    (hv : Value.okWide Tryd.prog W r b0 26 v) (h : DataW.Trod enc Tryd.prog W base sp held 26 v d p) :
    ∃ (F : Int) (u v' : Bool) (A B C Op m : Int), v = .agg #[.int .i64 F, .bool u, .bool v', .int .i64 A, .int .i64 B, .int .i64 C, .int .i64 Op, .int .i32 m] ∧ d = insD F u v' A B C Op m ∧ p = [] ∧ insWf F A B C Op m := by
  obtain ⟨v0, v1, v2, v3, v4, v5, v6, v7, y0, y1, y2, y3, y4, y5, y6, y7, n, rfl, rfl, rfl, t0, t1, t2, t3, t4, t5, t6, t7⟩ := open_agg8 Tryd.underlying26 (by kernel_rfl) (by kernel_rfl) hv h
  obtain ⟨F, e0, rfl, w0⟩ := DataW.trod_int Tryd.underlying3 t0
  obtain ⟨u, rfl, rfl⟩ := bool_of_trod Tryd.underlying4 t1
  obtain ⟨v', rfl, rfl⟩ := bool_of_trod Tryd.underlying4 t2
  obtain ⟨A, e3, rfl, w3⟩ := DataW.trod_int Tryd.underlying3 t3
  obtain ⟨B, e4, rfl, w4⟩ := DataW.trod_int Tryd.underlying3 t4
  obtain ⟨C, e5, rfl, w5⟩ := DataW.trod_int Tryd.underlying3 t5
  obtain ⟨O, e6, rfl, w6⟩ := DataW.trod_int Tryd.underlying3 t6
  obtain ⟨m, e7, rfl, w7⟩ := DataW.trod_int Tryd.underlying21 t7
  simp only [List.cons.injEq, and_true] at e0 e3 e4 e5 e6 e7
  subst e0 e3 e4 e5 e6 e7
  exact ⟨F, u, v', A, B, C, O, m, rfl, rfl, rfl, w0, w3, w4, w5, w6, w7⟩
theorem shut_instr {H : Type} {enc : TypeId × Value → H} {W : World} {base : Nat} {sp : Nat → Bool} {held : Bool} {F : Int} {u v : Bool} {A B C Op m : Int} (h : insWf F A B C Op m) :
    DataW.Trod enc Tryd.prog W base sp held 26 (.agg #[.int .i64 F, .bool u, .bool v, .int .i64 A, .int .i64 B, .int .i64 C, .int .i64 Op, .int .i32 m]) (insD F u v A B C Op m) [] := by
  obtain ⟨w0, w3, w4, w5, w6, w7⟩ := h
  exact shut_agg8 (y0 := (.lit (.int .i64 F), [])) (y1 := (.lit (.bool u), [])) (y2 := (.lit (.bool v), [])) (y3 := (.lit (.int .i64 A), [])) (y4 := (.lit (.int .i64 B), [])) (y5 := (.lit (.int .i64 C), [])) (y6 := (.lit (.int .i64 Op), [])) (y7 := (.lit (.int .i32 m), []))
    Tryd.underlying26 (by kernel_rfl) (by kernel_rfl) ⟨1, by simp [DataW.trod, Tryd.underlying3, w0]⟩ ⟨1, by simp [DataW.trod, Tryd.underlying4]⟩ ⟨1, by simp [DataW.trod, Tryd.underlying4]⟩ ⟨1, by simp [DataW.trod, Tryd.underlying3, w3]⟩
    ⟨1, by simp [DataW.trod, Tryd.underlying3, w4]⟩ ⟨1, by simp [DataW.trod, Tryd.underlying3, w5]⟩ ⟨1, by simp [DataW.trod, Tryd.underlying3, w6]⟩ ⟨1, by simp [DataW.trod, Tryd.underlying21, w7]⟩
end Go.Proofs.YthimhbfglgnohaaDoor
