/- The program's machine in memory. -/
import Derived.Test.YthimhbfglgnohaaProg
import Derived.Test.YthimhbfglgnohaaMSt
import Derived.Test.YthimhbfglgnohaaVBase
import Derived.Test.YthimhbfglgnohaaRowIn
set_option linter.unusedSimpArgs false
set_option linter.unusedVariables false
namespace Go.Proofs.Ythimhbfglgnohaa
open Go.RowKit M

def U32s (l : List Nat) : List Value := l.map (fun (x : Nat) => Value.int .u32 x)

/-- The cells of the program's machine. -/
def icells (cv wv iv ov : Value) (s : St) : Array Value :=
  #[cv, wv, iv, ov, .int .u32 (s.R 0), .int .u32 (s.R 1), .int .u32 (s.R 2), .int .u32 (s.R 3), .int .u32 (s.R 4), .int .u32 (s.R 5), .int .u32 (s.R 6), .int .u32 (s.R 7),
    .int .u32 (s.R 8), .int .u32 (s.R 9), .int .u32 (s.R 10), .int .u32 (s.R 11), .int .u32 (s.R 12), .int .u32 (s.R 13), .int .u32 (s.R 14), .int .u32 (s.R 15),
    .int .u32 s.H, .bool s.n, .bool s.z, .bool s.c, .bool s.v, .int .i64 s.pc, .int .i64 s.fin, .int .i64 s.trap]
theorem lt16 {k : Nat} (h : k < 16) : k = 0 ∨ k = 1 ∨ k = 2 ∨ k = 3 ∨ k = 4 ∨ k = 5 ∨ k = 6 ∨ k = 7 ∨ k = 8 ∨ k = 9 ∨ k = 10 ∨ k = 11 ∨ k = 12 ∨ k = 13 ∨ k = 14 ∨ k = 15 := by omega
theorem icells_reg (cv wv iv ov : Value) (s : St) {k : Nat} (h : k < 16) : (icells cv wv iv ov s)[4 + k]? = some (.int .u32 (s.R k)) := by
  rcases lt16 h with rfl | rfl | rfl | rfl | rfl | rfl | rfl | rfl | rfl | rfl | rfl | rfl | rfl | rfl | rfl | rfl <;> rfl
theorem icells_setR (cv wv iv ov : Value) (s : St) {k : Nat} (x : Nat) (h : k < 16) : (icells cv wv iv ov s).setIfInBounds (4 + k) (.int .u32 x) = icells cv wv iv ov { s with R := upd s.R k x } := by
  rcases lt16 h with rfl | rfl | rfl | rfl | rfl | rfl | rfl | rfl | rfl | rfl | rfl | rfl | rfl | rfl | rfl | rfl <;> simp [icells, upd]
theorem icells_H (cv wv iv ov : Value) (s : St) (x : Nat) : (icells cv wv iv ov s).setIfInBounds 20 (.int .u32 x) = icells cv wv iv ov { s with H := x } := rfl
theorem icells_n (cv wv iv ov : Value) (s : St) (x : Bool) : (icells cv wv iv ov s).setIfInBounds 21 (.bool x) = icells cv wv iv ov { s with n := x } := rfl
theorem icells_z (cv wv iv ov : Value) (s : St) (x : Bool) : (icells cv wv iv ov s).setIfInBounds 22 (.bool x) = icells cv wv iv ov { s with z := x } := rfl
theorem icells_c (cv wv iv ov : Value) (s : St) (x : Bool) : (icells cv wv iv ov s).setIfInBounds 23 (.bool x) = icells cv wv iv ov { s with c := x } := rfl
theorem icells_v (cv wv iv ov : Value) (s : St) (x : Bool) : (icells cv wv iv ov s).setIfInBounds 24 (.bool x) = icells cv wv iv ov { s with v := x } := rfl
theorem icells_pc (cv wv iv ov : Value) (s : St) (x : Nat) : (icells cv wv iv ov s).setIfInBounds 25 (.int .i64 x) = icells cv wv iv ov { s with pc := x } := rfl
theorem icells_fin (cv wv iv ov : Value) (s : St) (x : Nat) : (icells cv wv iv ov s).setIfInBounds 26 (.int .i64 x) = icells cv wv iv ov { s with fin := x } := rfl
theorem icells_trap (cv wv iv ov : Value) (s : St) (x : Nat) : (icells cv wv iv ov s).setIfInBounds 27 (.int .i64 x) = icells cv wv iv ov { s with trap := x } := rfl

/-- Words of code that are read, in a block outside of what S names. -/
def CRow (S : Nat → Prop) (w : World) (v : Value) (code : List Nat) : Prop :=
  ∃ b ao cap off, v = .slice ao code.length cap ∧ code.length ≤ cap ∧ cap ≤ maxLen ∧ (0 < code.length → ao = some ⟨b, off, none⟩) ∧ CellsAt w b off (U32s code) ∧ (0 < code.length → ¬ S b)
/-- Bytes that are read, in a block outside of what S names. -/
def BRow (S : Nat → Prop) (w : World) (v : Value) (B : List Nat) : Prop :=
  ∃ b ao cap off, v = .slice ao B.length cap ∧ B.length ≤ cap ∧ cap ≤ maxLen ∧ (0 < B.length → ao = some ⟨b, off, none⟩) ∧ (ao = none → cap = 0) ∧ CellsAt w b off (U8s B) ∧ (0 < B.length → ¬ S b)
theorem CRow.kept {S T : Nat → Prop} {w w' : World} {v : Value} {l : List Nat} (h : CRow S w v l) (ho : Only T w w') (hs : ∀ k, T k → S k) : CRow S w' v l := by
  obtain ⟨b, ao, cap, off, h1, h2, h3, h4, h5, h6⟩ := h
  exact ⟨b, ao, cap, off, h1, h2, h3, h4, h5.kept ho (fun hl ht => h6 (by simpa [U32s] using hl) (hs _ ht)), h6⟩
theorem BRow.kept {S T : Nat → Prop} {w w' : World} {v : Value} {l : List Nat} (h : BRow S w v l) (ho : Only T w w') (hs : ∀ k, T k → S k) : BRow S w' v l := by
  obtain ⟨b, ao, cap, off, h1, h2, h3, h4, h5, h6, h7⟩ := h
  exact ⟨b, ao, cap, off, h1, h2, h3, h4, h5, h6.kept ho (fun hl ht => h7 (by simpa [U8s] using hl) (hs _ ht)), h7⟩
/-- The blocks that a machine writes to: its own, its words', what it has written. -/
def Own3 (mb wb : Nat) (ob : Option Nat) : Nat → Prop := fun k => k = mb ∨ k = wb ∨ some k = ob

/-- The program's machine, at mb, its words at wb, what it has written in ob. -/
def MRep (w : World) (mb wb : Nat) (ob : Option Nat) (code : List Nat) (s : St) : Prop :=
  ∃ cv iv ov, Blk w mb (icells cv (.slice (some ⟨wb, 0, none⟩) s.mem.length s.mem.length) iv ov s) 65 ∧ Blk w wb (U32s s.mem).toArray 26 ∧ mb ≠ wb ∧
    CRow (Own3 mb wb ob) w cv code ∧ BRow (Own3 mb wb ob) w iv s.inp ∧ w.ownsRow 0 5 1 ov s.out.length (U8s s.out) ∧ ov.ownBlock = ob ∧ ob ≠ some mb ∧ ob ≠ some wb
end Go.Proofs.Ythimhbfglgnohaa
