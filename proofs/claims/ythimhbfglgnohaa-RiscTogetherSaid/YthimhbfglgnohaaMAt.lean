/- The machine in memory, opened. -/
import Derived.Test.YthimhbfglgnohaaMNext
import Derived.Test.YthimhbfglgnohaaApp
set_option linter.unusedSimpArgs false
set_option linter.unusedVariables false
namespace Go.Proofs.Ythimhbfglgnohaa
open Go.RowKit M
variable {Q : Nat → Prop}

/-- The blocks in which what a machine reads may not lie: its own, and those of Q. -/
def Own4 (Q : Nat → Prop) (mb wb : Nat) (ob : Option Nat) : Nat → Prop := fun k => Own3 mb wb ob k ∨ Q k

/-- The program's machine, by its four lists. -/
def MAt (Q : Nat → Prop) (w : World) (mb wb : Nat) (ob : Option Nat) (code : List Nat) (s : St) (cv iv ov : Value) : Prop :=
  Blk w mb (icells cv (.slice (some ⟨wb, 0, none⟩) s.mem.length s.mem.length) iv ov s) 65 ∧ Blk w wb (U32s s.mem).toArray 26 ∧ mb ≠ wb ∧
    CRow (Own4 Q mb wb ob) w cv code ∧ BRow (Own4 Q mb wb ob) w iv s.inp ∧ w.ownsRow 0 5 1 ov s.out.length (U8s s.out) ∧ ov.ownBlock = ob ∧ ob ≠ some mb ∧ ob ≠ some wb
theorem MAt.quiet {w w' : World} {mb wb : Nat} {ob : Option Nat} {code : List Nat} {s : St} {cv iv ov : Value} (h : MAt Q w mb wb ob code s cv iv ov) (ho : Only Nil w w') : MAt Q w' mb wb ob code s cv iv ov := by
  obtain ⟨h1, h2, h3, h4, h5, h6, h7, h8, h9⟩ := h
  exact ⟨h1.kept ho (fun h => h), h2.kept ho (fun h => h), h3, h4.kept ho (fun _ h => h.elim), h5.kept ho (fun _ h => h.elim), ownsRow_only h6 ho (fun _ _ h => h), h7, h8, h9⟩
theorem own3_one {mb wb : Nat} {ob : Option Nat} : ∀ k, M.One mb k → Own4 Q mb wb ob k := fun _ h => Or.inl (Or.inl h)
theorem MAt.own {w w' : World} {mb wb : Nat} {ob : Option Nat} {code : List Nat} {s s' : St} {cv iv ov : Value} (h : MAt Q w mb wb ob code s cv iv ov) (ho : Only (M.One mb) w w')
    (hB : Blk w' mb (icells cv (.slice (some ⟨wb, 0, none⟩) s.mem.length s.mem.length) iv ov s') 65) (hm : s'.mem = s.mem) (hi : s'.inp = s.inp) (hu : s'.out = s.out) : MAt Q w' mb wb ob code s' cv iv ov := by
  obtain ⟨h1, h2, h3, h4, h5, h6, h7, h8, h9⟩ := h
  refine ⟨by rw [hm]; exact hB, by rw [hm]; exact h2.kept ho (fun h => h3 h.symm), h3, h4.kept ho own3_one, by rw [hi]; exact h5.kept ho own3_one, ?_, h7, h8, h9⟩
  rw [hu]
  exact ownsRow_only h6 ho (fun k hk h => h8 (by rw [← h7, hk, show k = mb from h]))
theorem MAt.in_ {w w' : World} {mb wb : Nat} {ob : Option Nat} {code : List Nat} {s s' : St} {cv iv iv' ov : Value} (h : MAt Q w mb wb ob code s cv iv ov) (ho : Only (M.One mb) w w')
    (hB : Blk w' mb (icells cv (.slice (some ⟨wb, 0, none⟩) s.mem.length s.mem.length) iv' ov s') 65) (hm : s'.mem = s.mem) (hi : BRow (Own4 Q mb wb ob) w' iv' s'.inp) (hu : s'.out = s.out) : MAt Q w' mb wb ob code s' cv iv' ov := by
  obtain ⟨h1, h2, h3, h4, h5, h6, h7, h8, h9⟩ := h
  refine ⟨by rw [hm]; exact hB, by rw [hm]; exact h2.kept ho (fun h => h3 h.symm), h3, h4.kept ho own3_one, hi, ?_, h7, h8, h9⟩
  rw [hu]
  exact ownsRow_only h6 ho (fun k hk h => h8 (by rw [← h7, hk, show k = mb from h]))

/-- The cells of an instruction that lies in memory. -/
def icz (F : Int) (u v : Bool) (a b c : Nat) (o : Nat) (m : Int) : Array Value := #[.int .i64 F, .bool u, .bool v, .int .i64 a, .int .i64 b, .int .i64 c, .int .i64 o, .int .i32 m]
def InsAt (w : World) (bk : Nat) (F : Int) (u v : Bool) (a b c : Nat) (o : Nat) (m : Int) : Prop :=
  w.cell? ⟨bk, 0, none⟩ = some (.int .i64 F) ∧ w.cell? ⟨bk, 1, none⟩ = some (.bool u) ∧ w.cell? ⟨bk, 2, none⟩ = some (.bool v) ∧ w.cell? ⟨bk, 3, none⟩ = some (.int .i64 a) ∧
  w.cell? ⟨bk, 4, none⟩ = some (.int .i64 b) ∧ w.cell? ⟨bk, 5, none⟩ = some (.int .i64 c) ∧ w.cell? ⟨bk, 6, none⟩ = some (.int .i64 o) ∧ w.cell? ⟨bk, 7, none⟩ = some (.int .i32 m) ∧ bk < w.heap.size
theorem insAt {w w' : World} {F : Int} {u v : Bool} {a b c o : Nat} {m : Int} {t : TypeId} (ho : Only Nil (w.alloc (.cells (icz F u v a b c o m) t)) w') : InsAt w' w.heap.size F u v a b c o m := by
  have h := (Blk.new w (icz F u v a b c o m) t).kept ho (fun h => h)
  exact ⟨h.cell 0, h.cell 1, h.cell 2, h.cell 3, h.cell 4, h.cell 5, h.cell 6, h.cell 7, h.lt⟩

set_option maxHeartbeats 800000 in
theorem load_v (mb wb : Nat) (ob : Option Nat) (code : List Nat) (a b c o : Nat) (m : Int) (h1 : -2147483648 ≤ m) (h2 : m ≤ 2147483647) (hb : b < 16) (cv iv ov : Value) (s : St) (w : World) (hl : s.mem.length ≤ 1048576) (hM : MAt Q w mb wb ob code s cv iv ov) :
    Calls Try.prog 44 #[.pointer (some ⟨mb, 0, none⟩), ic 2 false true a b c o m] w fun e w' => e = .returned (.bool false) ∧ Only Nil w w' := by
  have cP := fun (w' : World) (ho : Only Nil w w') => place_any mb 2 false true a b c o m hb h1 h2 cv _ iv ov s w' (hM.1.kept ho (fun h => h))
  obtain ⟨p, hp⟩ : ∃ p, (s.R b + U m) % 4294967296 = p := ⟨_, rfl⟩
  have hp1 : p < 4294967296 := by omega
  have cW := fun (w' : World) (ho : Only Nil w w') => wordAt_any mb wb p hp1 cv iv ov s w' hl (hM.1.kept ho (fun h => h))
  rw [hp] at cP
  clear hM hp
  obtain ⟨ok, hok⟩ : ∃ ok, decide (p % 4 = 0 ∧ p / 4 < s.mem.length) = ok := ⟨_, rfl⟩
  rw [hok] at cW
  unfold ic at cP ⊢
  go_enter Try.func44, Try.ntmps44
  go_wp2_with fail
  refine (cP _ ((Only.refl _ _).alloc _)).mono ?_
  rintro e w1 ⟨rfl, ho1⟩
  have i1 := insAt (ho1)
  have ho1' : Only Nil w w1 := ((Only.refl Nil w).alloc _).trans ho1 (fun _ _ h => h)
  obtain ⟨ib, hib⟩ : ∃ b, w.heap.size = b := ⟨_, rfl⟩
  rw [hib] at i1 ⊢
  go_wp2_with fail
  refine (cW _ ho1').mono ?_
  rintro e w2 ⟨rfl, ho2⟩
  have ho2' : Only Nil w w2 := ho1'.trans ho2 (fun _ _ h => h)
  obtain ⟨x0, x1, x2, x3, x4, x5, x6, x7, x8⟩ := i1
  have y2 := ho2.cell x2 (fun h => h)
  go_wp2_with fail
  go_ret
  exact ⟨rfl, ho2'⟩
end Go.Proofs.Ythimhbfglgnohaa
