/- A map of ints that the call has made, as a function. -/
import Derived.Test.YtbgmdckfkfkglaaHChkR
import Derived.Test.YtbgmdckfkfkglaaHWork
import Derived.Maps.OwnOps
import Derived.Maps.OwnSet
import Derived.Maps.Views
import Derived.WalkKit
set_option linter.unusedSimpArgs false
set_option linter.unusedVariables false
namespace Go.Proofs.Ytbgmdckfkfkglaa
open Go.RowKit M Go.Maps

theorem keyInt : Keyed Try.prog 3 := int_keyed Try.underlying3
theorem zeroInt (w : World) : (zeroValue 3).run Try.prog w = .ok (.int .i64 0) w := by kernel_rfl
theorem nat_wf (k : Nat) (h : k < 9223372036854775808) : (Lit.int .i64 (k : Int)).wf = true := by
  have h2 := wrap64_wf (k : Int)
  rwa [show wrap64 (k : Int) = (k : Int) by unfold wrap64; omega] at h2
theorem keyNat (k : Nat) (h : k < 9223372036854775808) : keyOf Try.prog 3 (.int .i64 k) = some (.int .i64 k) := keyOf_int_mk Try.underlying3 (nat_wf k h)

/-- A map from numbers to numbers. -/
def IMap (w : World) (b n : Nat) (K : Nat → Option Nat) : Prop :=
  ∃ D : DataW Unit, w.ownsMap Try.prog 3 (plainElem Try.prog 3) b n D ∧ ∀ i : Nat, i < 9223372036854775808 → Maps.has D (.int .i64 i) = (K i).isSome ∧ D.atKey (.int .i64 i) (.lit (.int .i64 0)) = .lit (.int .i64 ((K i).getD 0 : Nat))

theorem IMap.lt {w : World} {b n : Nat} {K : Nat → Option Nat} (h : IMap w b n K) : b < w.heap.size := by
  obtain ⟨D, h, _⟩ := h; exact h.lt
theorem IMap.kept {S : Nat → Prop} {w w' : World} {b n : Nat} {K : Nat → Option Nat} (h : IMap w b n K) (ho : Only S w w') (hb : ¬ S b) : IMap w' b n K := by
  obtain ⟨D, h, hk⟩ := h
  obtain ⟨es, clock, h1, h2⟩ := h
  exact ⟨D, ⟨es, clock, (ho.block b (Array.getElem?_eq_some_iff.1 h1).1 hb).trans h1, h2⟩, hk⟩
theorem IMap.look {w : World} {b n : Nat} {K : Nat → Option Nat} (h : IMap w b n K) (i : Nat) (hi : i < 9223372036854775808) :
    (Instr.lookup 73 (.map (some b)) (.int .i64 i) false).run Try.prog w = .ok (.int .i64 ((K i).getD 0 : Nat)) w := by
  obtain ⟨D, h, hk⟩ := h
  obtain ⟨c, hrun, hat, hwc⟩ := h.lookup_int keyInt Try.underlying73 Try.underlying3 (zeroInt _) (keyNat i hi)
  rw [(hk i hi).2] at hat
  simp only [DataW.lit.injEq, Lit.int.injEq, true_and] at hat
  rw [hrun, hat]
theorem IMap.look2 {w : World} {b n : Nat} {K : Nat → Option Nat} (h : IMap w b n K) (i : Nat) (hi : i < 9223372036854775808) :
    (Instr.lookup 73 (.map (some b)) (.int .i64 i) true).run Try.prog w = .ok (.tuple #[.int .i64 ((K i).getD 0 : Nat), .bool (K i).isSome]) w := by
  obtain ⟨D, h, hk⟩ := h
  obtain ⟨v, ps, hrun, hv⟩ := h.look_ok keyInt Try.underlying73 (zeroInt _) (plainElem_int Try.underlying3 (by decide)) (keyNat i hi)
  obtain ⟨c, rfl, hc, hwc⟩ := plainElem_int_inv Try.underlying3 hv
  have hat := congrArg Prod.fst hc
  simp only at hat
  rw [(hk i hi).2] at hat
  simp only [DataW.lit.injEq, Lit.int.injEq, true_and] at hat
  rw [hrun, ← hat, (hk i hi).1]
theorem IMap.put {w : World} {b n : Nat} {K : Nat → Option Nat} (h : IMap w b n K) (j x : Nat) (hj : j < 9223372036854775808) (hx : x < 9223372036854775808) (hn : n < 1000000) :
    ∃ w', (Instr.mapUpdate 73 (.map (some b)) (.int .i64 j) (.int .i64 x)).run Try.prog w = .ok () w' ∧ IMap w' b (n + 1) (upK K j x) ∧ Only (One b) w w' := by
  obtain ⟨D, h, hk⟩ := h
  obtain ⟨w', hrun, h2, hg⟩ := h.update keyInt Try.underlying73 (by unfold maxLen; omega) (keyNat j hj) (plainElem_int Try.underlying3 (nat_wf x hx))
  refine ⟨w', hrun, ⟨_, h2, fun i hi => ?_⟩, (Only.of_grown hg).mono (fun k hk => by unfold Own at hk; injection hk)⟩
  unfold upK
  by_cases hij : i = j
  · subst hij
    rw [if_pos rfl]
    exact ⟨has_put_same (k := .int .i64 (i : Int)) h.isMap trivial _, atKey_put_same (k := .int .i64 (i : Int)) h.isMap trivial _ _⟩
  · rw [if_neg hij]
    have hne : Lit.int .i64 (i : Int) ≠ Lit.int .i64 (j : Int) := fun e => by
      injection e with _ e
      exact hij (by omega)
    rw [has_put_other hne, atKey_put_other hne]
    exact hk i hi
theorem IMap.made (w : World) : IMap (w.alloc (.map #[] 0)) w.heap.size 0 (fun _ => none) := by
  refine ⟨_, World.ownsMap_made _ _ _ _, fun i hi => ?_⟩
  exact ⟨rfl, rfl⟩
end Go.Proofs.Ytbgmdckfkfkglaa
