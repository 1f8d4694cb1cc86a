/- CheckMods, run by the evaluation: what strings.Contains tells, the chapter's example. -/
import Derived.Test.YtmgopjbcdoddoaaGreatDoorProg
import Derived.Test.YtmgopjbcdoddoaaGreatDoorShelf
import Derived.Test.YtmgopjbcdoddoaaGreatDoorVGlob
import Derived.KernelRfl
set_option linter.unusedSimpArgs false
set_option linter.unusedVariables false
namespace Go.Proofs.YtmgopjbcdoddoaaGreatDoor
open Go.VE

theorem ev_names : (Tryz.prog.funcs.toList.all fun fn => !(fn.name == "runtime.NumGoroutine")) = true := by kernel_rfl
theorem ev_mixed : Tryz.prog.follows .mixedOrders = true := by kernel_rfl
def kwL : List UInt8 := [32, 65, 82, 82, 65, 89, 32, 66, 69, 71, 73, 78, 32, 66, 89, 32, 67, 65, 83, 69, 32, 67, 79, 78, 83, 84, 32, 68, 73, 86, 32, 68, 79, 32, 69, 76, 83, 69, 32, 69, 76, 83, 73, 70, 32, 69, 78, 68, 32, 70, 65, 76, 83, 69, 32, 70, 79, 82, 32, 73, 70, 32, 73, 77, 80, 79, 82, 84, 32, 73, 78, 32, 73, 83, 32, 77, 79, 68, 32, 77, 79, 68, 85, 76, 69, 32, 78, 73, 76, 32, 79, 70, 32, 79, 82, 32, 80, 79, 73, 78, 84, 69, 82, 32, 80, 82, 79, 67, 69, 68, 85, 82, 69, 32, 82, 69, 67, 79, 82, 68, 32, 82, 69, 80, 69, 65, 84, 32, 82, 69, 84, 85, 82, 78, 32, 84, 72, 69, 78, 32, 84, 79, 32, 84, 82, 85, 69, 32, 84, 89, 80, 69, 32, 85, 78, 84, 73, 76, 32, 86, 65, 82, 32, 87, 72, 73, 76, 69, 32]
def stL : List UInt8 := [32, 73, 78, 84, 69, 71, 69, 82, 32, 67, 72, 65, 82, 32, 66, 79, 79, 76, 69, 65, 78, 32, 83, 69, 84, 32, 65, 66, 83, 32, 79, 68, 68, 32, 76, 83, 76, 32, 65, 83, 82, 32, 82, 79, 82, 32, 79, 82, 68, 32, 67, 72, 82, 32, 76, 69, 78, 32, 73, 78, 67, 32, 68, 69, 67, 32, 73, 78, 67, 76, 32, 69, 88, 67, 76, 32, 78, 69, 87, 32, 65, 83, 83, 69, 82, 84, 32]
theorem cont_told {a b : List UInt8} {r : Bool} (hs : Nat.blt a.length 4294967281 = true) (hr : Go.Lib.contains a b = r) (m : Int) : ∀ E : Env, E.P = Tryz.prog → E.glob = globM 0 m → Orc1 E 10 [.str a, .str b] (.bool r) :=
  orcG_of (fun vs w => Tryz.call10 vs w) fun w hm => (Tryz.strings_Contains ⟨⟨a⟩⟩ ⟨⟨b⟩⟩ m w (Go.VE.blt hs) hm).mono fun e w' ⟨h1, h2⟩ => ⟨by rw [h1, ← hr], h2⟩
noncomputable def contL : List (Nat × List AV × AV) := [(10, [.str kwL, .str [32, 120, 49, 32]], .bool false),
  (10, [.str kwL, .str [32, 69, 78, 68, 32]], .bool true),
  (10, [.str kwL, .str [32, 65, 66, 83, 32]], .bool false),
  (10, [.str kwL, .str [32, 77, 32]], .bool false),
  (10, [.str kwL, .str [32, 76, 32]], .bool false),
  (10, [.str kwL, .str [32, 79, 117, 116, 32]], .bool false),
  (10, [.str kwL, .str [32, 105, 32]], .bool false),
  (10, [.str kwL, .str [32, 114, 32]], .bool false),
  (10, [.str stL, .str [32, 120, 49, 32]], .bool false),
  (10, [.str stL, .str [32, 69, 78, 68, 32]], .bool false),
  (10, [.str stL, .str [32, 65, 66, 83, 32]], .bool true),
  (10, [.str stL, .str [32, 77, 32]], .bool false),
  (10, [.str stL, .str [32, 76, 32]], .bool false),
  (10, [.str stL, .str [32, 79, 117, 116, 32]], .bool false),
  (10, [.str stL, .str [32, 105, 32]], .bool false),
  (10, [.str stL, .str [32, 114, 32]], .bool false),
  (10, [.str [76, 46, 118], .str [46]], .bool true)]
theorem contL_ok (m : Int) : OrcsG Tryz.prog (globM 0 m) contL := .cons (cont_told (by kernel_rfl) (by kernel_rfl) m) <| .cons (cont_told (by kernel_rfl) (by kernel_rfl) m) <| .cons (cont_told (by kernel_rfl) (by kernel_rfl) m) <| .cons (cont_told (by kernel_rfl) (by kernel_rfl) m) <| .cons (cont_told (by kernel_rfl) (by kernel_rfl) m) <| .cons (cont_told (by kernel_rfl) (by kernel_rfl) m) <| .cons (cont_told (by kernel_rfl) (by kernel_rfl) m) <| .cons (cont_told (by kernel_rfl) (by kernel_rfl) m) <| .cons (cont_told (by kernel_rfl) (by kernel_rfl) m) <| .cons (cont_told (by kernel_rfl) (by kernel_rfl) m) <| .cons (cont_told (by kernel_rfl) (by kernel_rfl) m) <| .cons (cont_told (by kernel_rfl) (by kernel_rfl) m) <| .cons (cont_told (by kernel_rfl) (by kernel_rfl) m) <| .cons (cont_told (by kernel_rfl) (by kernel_rfl) m) <| .cons (cont_told (by kernel_rfl) (by kernel_rfl) m) <| .cons (cont_told (by kernel_rfl) (by kernel_rfl) m) <| .cons (cont_told (by kernel_rfl) (by kernel_rfl) m) <| .nil
theorem m_known_run (m : Int) : evCall (envG Tryz.prog (fun _ => 0) (fun _ _ => none) (fun _ _ => none) (globM 0 m) contL) 3000 200 4 [] emptySt keep = some (.bool true) := by kernel_rfl
theorem m_known (m : Int) : ∀ E : Env, E.P = Tryz.prog → E.glob = globM 0 m → Orc1 E 4 [] (.bool true) := orcG_told ev_names ev_mixed (contL_ok m) (fun vs w => Tryz.call4 vs w) (m_known_run m) (by kernel_rfl)
end Go.Proofs.YtmgopjbcdoddoaaGreatDoor
