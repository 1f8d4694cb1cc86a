/- What reckoning answers; small facts of words. -/
import Derived.Test.YtgicibblkmeoeaaProg
import Derived.Test.YtgicibblkmeoeaaWMath
import Derived.Test.YtgicibblkmeoeaaQSame
import Derived.Test.YtgicibblkmeoeaaACalls
import Derived.Test.YtgicibblkmeoeaaABits
import Derived.Test.YtgicibblkmeoeaaASpan
import Derived.Laws.BitsAllLaws
set_option linter.unusedSimpArgs false
set_option linter.unusedVariables false
namespace Go.Proofs.Ytgicibblkmeoeaa
open Go.RowKit M

/-- A value, and whether there is one; d: what is told if there is none. -/
def VEnd (d : Int) (r : Option Int) (e : Ending) : Prop := e = .returned (.tuple #[.int .i32 (r.getD d), .bool r.isSome])
theorem vend_some {r : Option Int} {d v v' : Int} (h : r = some v') (h2 : v = v') : VEnd d r (.returned (.tuple #[.int .i32 v, .bool true])) := by subst h; subst h2; rfl
theorem vend_none {r : Option Int} {d : Int} (h : r = none) : VEnd d r (.returned (.tuple #[.int .i32 d, .bool false])) := by subst h; rfl
theorem xor_S (u v : Nat) (hu : u < 4294967296) (hv : v < 4294967296) : bits .xor .i32 (S u) (S v) = S (u ^^^ v) := by
  have h : u ^^^ v < 2 ^ 32 := Nat.xor_lt_two_pow hu hv
  show IntKind.i32.wrap ((BitVec.ofInt 32 (S u) ^^^ BitVec.ofInt 32 (S v)).toNat : Int) = _
  rw [ofInt_S u hu, ofInt_S v hv, BitVec.toNat_xor, BitVec.toNat_ofNat, BitVec.toNat_ofNat, Nat.mod_eq_of_lt hu, Nat.mod_eq_of_lt hv, ws_nat _ h]
theorem andNot_S (u v : Nat) (hu : u < 4294967296) (hv : v < 4294967296) : bits .andNot .i32 (S u) (S v) = S (u &&& (4294967295 - v)) := by
  have h : u &&& (4294967295 - v) < 2 ^ 32 := Nat.and_lt_two_pow _ (by omega)
  show IntKind.i32.wrap ((BitVec.ofInt 32 (S u) &&& ~~~ BitVec.ofInt 32 (S v)).toNat : Int) = _
  rw [ofInt_S u hu, ofInt_S v hv, BitVec.toNat_and, BitVec.toNat_not, BitVec.toNat_ofNat, BitVec.toNat_ofNat, Nat.mod_eq_of_lt hu, Nat.mod_eq_of_lt hv, ws_nat _ h]
theorem setsM_lt (op : Int) (u v : Nat) (hu : u < 4294967296) (hv : v < 4294967296) : setsM op u v < 4294967296 := by
  unfold setsM
  split
  · exact Nat.or_lt_two_pow (n := 32) hu hv
  · split
    · exact Nat.and_lt_two_pow (n := 32) _ (by omega)
    · split
      · exact Nat.and_lt_two_pow (n := 32) _ hv
      · exact Nat.xor_lt_two_pow (n := 32) hu hv
theorem ones_xor (u : Nat) (hu : u < 4294967296) : 4294967295 ^^^ u = 4294967295 - u := by
  have h := congrArg BitVec.toNat (BitVec.xor_allOnes (x := BitVec.ofNat 32 u))
  rw [BitVec.toNat_xor, BitVec.toNat_not, BitVec.toNat_allOnes, BitVec.toNat_ofNat, Nat.mod_eq_of_lt (by simpa using hu)] at h
  rw [Nat.xor_comm]
  simpa using h
theorem compl_u (i : Int) : wrap32 (bits BinOp.xor IntKind.u32 IntKind.u32.max (i % 4294967296)) = S (4294967295 - U i) := by
  have hu := U_lt i
  have hm : IntKind.u32.max = ((4294967295 : Nat) : Int) := by decide
  rw [U_eq, hm, u32_xor_nat _ _ (by decide) hu, ones_xor _ hu, w32_nat _ (by omega)]
theorem odd_u (i : Int) : wrap32 (bits BinOp.and IntKind.u32 (i % 4294967296) 1) = ((U i % 2 : Nat) : Int) := by
  have hu := U_lt i
  have h := u32_and_nat (U i) 1 hu (by decide)
  rw [U_eq, show (1 : Int) = ((1 : Nat) : Int) from rfl, h, Nat.and_one_is_mod, w32_nat _ (by omega), S_small _ (by omega)]
theorem alloc_nil (w : World) (o : Obj) : Only Nil w (w.alloc o) := (Only.refl Nil w).alloc o
end Go.Proofs.Ytgicibblkmeoeaa
