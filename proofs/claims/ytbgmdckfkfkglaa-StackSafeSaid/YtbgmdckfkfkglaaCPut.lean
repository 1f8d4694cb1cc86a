/- PutVar onto a row of one's own; PutInt, ReadInt. -/
import Derived.Test.YtbgmdckfkfkglaaVRead
import Derived.Test.YtbgmdckfkfkglaaVSign
set_option linter.unusedSimpArgs false
set_option linter.unusedVariables false
namespace Go.Proofs.Ytbgmdckfkfkglaa
open Go.RowKit M

def Ge (b : Nat) : Nat → Prop := fun k => b ≤ k
theorem M.Only.ge {w w' : World} (h : Only Nil w w') (b : Nat) : Only (Ge b) w w' := h.mono (fun _ h => h.elim)
theorem M.Only.ge_own {base : Nat} {w wr w' : World} {e : TypeId} {size n : Nat} {v : Value} {xs : List Value} (h : Only (Ge base) w wr) (hown : wr.ownsRow base e size v n xs) (h2 : Only (Own v.ownBlock) wr w') : Only (Ge base) w w' :=
  h.trans h2 (fun i _ ht => (hown.lt i (Eq.symm ht)).1)
theorem M.Only.ge_nil {w w1 w2 : World} (h : Only Nil w w1) (h2 : Only (Ge w.heap.size) w1 w2) : Only Nil w w2 :=
  h.trans h2 (fun i hi ht => by unfold Ge at ht; omega)

set_option maxHeartbeats 400000 in
theorem putInt_nil (v : Int) (w : World) (h1 : -9223372036854775808 ≤ v) (h2 : v ≤ 9223372036854775807) :
    Calls Try.prog 68 #[.slice none 0 0, .int .i64 v] w (NewRow 5 w (U8s (putVar (zig v)))) := by
  have hz := zig_lt v h1 h2
  go_enter Try.func68, Try.ntmps68
  go_wp2_with fail
  refine (withoutSign_any v w h1 h2).mono ?_
  rintro e w1 ⟨rfl, rfl⟩
  go_wp2_with fail
  refine (put_nil (zig v) w hz).mono ?_
  rintro e w2 ⟨sv, rfl, hown, ho⟩
  go_wp2_with fail
  go_ret
  exact ⟨sv, rfl, hown, ho⟩

end Go.Proofs.Ytbgmdckfkfkglaa
