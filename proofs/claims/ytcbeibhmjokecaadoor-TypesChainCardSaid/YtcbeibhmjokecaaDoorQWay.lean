/- Regions that draw their order, whose operations read, and whose callees read and make new memory of their own: one walk in the order of the text. No Go program is imported. -/
import Derived.Test.YtcbeibhmjokecaaDoorMem
import Derived.Deep.Quiet
import Derived.Deep.QuietTactic
import Derived.KernelRfl
set_option linter.unusedSimpArgs false
set_option linter.unusedVariables false
namespace Go.Proofs.YtcbeibhmjokecaaDoor
open Go.RowKit M

/-- Worlds in which all that was there is as it was. -/
def NilW (w : World) : Type := { w' : World // Only Nil w w' }
instance (w : World) : Nonempty (NilW w) := ⟨⟨w, Only.refl _ _⟩⟩
def NilW.at {w : World} (n : NilW w) : World := n.1
theorem NilW.only {w : World} (n : NilW w) : Only Nil w n.at := n.2
theorem NilW.cell {w : World} (n : NilW w) {a : Addr} {v : Value} (h : w.cell? a = some v) : n.at.cell? a = some v := n.2.cell h (fun h => h)
theorem Nil.trans {a b c : World} (h : Only Nil a b) (k : Only Nil b c) : Only Nil a c := h.trans k (fun _ _ h => h)

theorem wp_region_nilq {P : Program} {id : Nat} {Q : Exit → Act → World → Prop} {a : Act} {w : World} {l : List Oper} (hm : P.follows .mixedOrders = true) (hB : Region.lexB .any l.toArray = true)
    (h : wpQuiet P l.toArray (fun w' => ∃ n : NilW w, w' = n.at) (fun a' => ∀ w', (∃ n : NilW w, w' = n.at) → Q .normal a' w') l a) : (Code.region id l.toArray true).wp P Q a w :=
  wp_region_quiet (C := fun w' => ∃ n : NilW w, w' = n.at) hm hB ⟨⟨_, (Only.refl Nil w).drew⟩, rfl⟩ (by simpa using h)
theorem Calls.nilq_of {P : Program} {f : FuncId} {args : Array Value} {w : World} {n : NilW w} {v : Value}
    (h : Calls P f args n.at fun e w' => e = .returned v ∧ Only Nil n.at w') : Calls P f args n.at fun e w'' => e = .returned v ∧ ∃ m : NilW w, w'' = m.at :=
  h.mono fun _ _ ⟨he, hm⟩ => ⟨he, ⟨_, Nil.trans n.only hm⟩, rfl⟩
end Go.Proofs.YtcbeibhmjokecaaDoor
