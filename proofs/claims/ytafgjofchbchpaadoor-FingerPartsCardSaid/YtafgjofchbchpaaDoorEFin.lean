/- FingerParts, run by the evaluation: the chapter's example; the law at numbers of which the remainders alone are known. -/
import Derived.Test.YtafgjofchbchpaaDoorProg
import Derived.Test.YtafgjofchbchpaaDoorVUse
import Derived.KernelRfl
set_option linter.unusedSimpArgs false
set_option linter.unusedVariables false
namespace Go.Proofs.YtafgjofchbchpaaDoor
open Go.VE

theorem ev_names : (Tryd.prog.funcs.toList.all fun fn => !(fn.name == "runtime.NumGoroutine")) = true := by kernel_rfl
theorem ev_mixed : Tryd.prog.follows .mixedOrders = true := by kernel_rfl

noncomputable def finK : Env := { P := Tryd.prog, tab := tabOf Tryd.prog, glob := fun _ => none, wr := fun _ => false, val := fun _ => 0, facts := smallFacts (fun _ _ => none) (fun _ _ => none), orc := fun _ => none }
theorem finK_run : evCall finK 5000 60 4 [] emptySt toldTrue = some () := by kernel_rfl
set_option maxRecDepth 100000 in
theorem finK_any (w : World) : Calls Tryd.prog 4 #[] w fun e w' => e = .returned (.bool true) ∧ Go.RowKit.Below w.heap.size w w' :=
  ev_true (E := finK) (fun _ _ h => none_some h) (tabOf_ok rfl ev_names) ev_mixed (small_ok (rem := fun _ _ => none) (and := fun _ _ => none) rfl (fun _ _ _ h => none_some h) (fun _ _ _ h => none_some h)) (fun _ => rfl) finK_run (vs := []) (fun _ _ => Rl.nil) w

noncomputable def rems (l : List Nat) (m : Nat) : Nat → Nat → Option Nat := fun i n => if Nat.beq n m then l[i]? else none
noncomputable def finE (val : Nat → Int) (l : List Nat) : Env := { P := Tryd.prog, tab := tabOf Tryd.prog, glob := fun _ => none, wr := fun _ => false, val := val, facts := smallFacts (rems l 6) (fun _ _ => none), orc := fun f => if Nat.beq f 4 then some (.bool true) else none }
noncomputable def finOne (val : Nat → Int) (l : List Nat) : Bool := match evCall (finE val l) 5000 60 3 [.sym .u8 0, .sym .u8 1, .sym .u8 2] emptySt toldTrue with
  | some () => true
  | none => false
noncomputable def finAll (val : Nat → Int) (c : Nat) : Bool := (List.range 6).all fun a => (List.range 6).all fun b => finOne val [a, b, c]
end Go.Proofs.YtafgjofchbchpaaDoor
