/- How an instruction is told: plain lists of bytes. -/
import Derived.Test.YtipdfgkemghmoaaDoorRMath
import Derived.Lib.ItoaNum
import Derived.Lib.ItoaMem
import Derived.Lib.ItoaLen
import Derived.Lib.Join
set_option linter.unusedSimpArgs false
set_option linter.unusedVariables false
namespace Go.Proofs.YtipdfgkemghmoaaDoor.M
open Go.RowKit

/-- A text out of its bytes. -/
def txt (l : List UInt8) : ByteArray := ⟨l.toArray⟩
def opTab : List (List UInt8) := [[77, 79, 86], [76, 83, 76], [65, 83, 82], [82, 79, 82], [65, 78, 68], [65, 78, 78], [73, 79, 82], [88, 79, 82], [65, 68, 68], [83, 85, 66], [77, 85, 76], [68, 73, 86], [70, 65, 68], [70, 83, 66], [70, 77, 76], [70, 68, 86]]
def cndTab : List (List UInt8) := [[77, 73], [69, 81], [67, 83], [86, 83], [76, 83], [76, 84], [76, 69], [], [80, 76], [78, 69], [67, 67], [86, 67], [72, 73], [71, 69], [71, 84], [78, 86]]
def regT (n : Int) : List UInt8 := 82 :: Lib.itoa n
def opT (u v : Bool) (o : Int) : List UInt8 := opTab.getD o.toNat [] ++ (if u then [39] else []) ++ (if v then [35] else [])
def memT (u v : Bool) : List UInt8 := (if u then [83, 84, 82] else [76, 68, 82]) ++ (if v then [66] else [])
def brT (v : Bool) (a : Int) : List UInt8 := (if v then [66, 76] else [66]) ++ cndTab.getD a.toNat []
/-- A name, and its operands. -/
def lineT (n : List UInt8) (l : List (List UInt8)) : List UInt8 := n ++ [32] ++ Lib.join l [44, 32]
/-- An instruction's text. -/
def insT (i : Ins) : List UInt8 :=
  if i.F = 0 then lineT (opT i.U i.V i.Op) [regT i.A, regT i.B, regT i.C]
  else if i.F = 1 then lineT (opT i.U i.V i.Op) [regT i.A, regT i.B, Lib.itoa i.Imm]
  else if i.F = 2 then lineT (memT i.U i.V) [regT i.A, regT i.B, Lib.itoa i.Imm]
  else if i.U then lineT (brT i.V i.A) [Lib.itoa i.Imm]
  else lineT (brT i.V i.A) [regT i.C, Lib.itoa i.Imm]

theorem join3 (a b c s : List UInt8) : Lib.join [a, b, c] s = a ++ s ++ b ++ s ++ c := by
  simp [Lib.join, List.intercalate]
theorem join2 (a b s : List UInt8) : Lib.join [a, b] s = a ++ s ++ b := by
  simp [Lib.join, List.intercalate]
theorem join1 (a s : List UInt8) : Lib.join [a] s = a := by
  simp [Lib.join, List.intercalate]

theorem itoa_small (n : Nat) : Lib.itoa (n : Int) = Lib.decDigits n := Lib.itoa_nonneg n
theorem txt_data (l : List UInt8) : (txt l).data.toList = l := rfl
theorem txt_size (l : List UInt8) : (txt l).size = l.length := by unfold txt ByteArray.size; simp
theorem txt_append (l m : List UInt8) : txt l ++ txt m = txt (l ++ m) := by
  apply ByteArray.ext
  simp [txt, ByteArray.data_append]
theorem txt_inj {l m : List UInt8} (h : txt l = txt m) : l = m := by
  have := congrArg (fun b => b.data.toList) h
  simpa [txt] using this
end Go.Proofs.YtipdfgkemghmoaaDoor.M
