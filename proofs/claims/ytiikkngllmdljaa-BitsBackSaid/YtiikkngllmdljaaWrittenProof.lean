/- What is proved: for every input the Go function waferlaw1.BitsWritten returns true, and its argument reads behind the call as it read before. No condition is laid on the input. -/
import Derived.Test.YtiikkngllmdljaaRows
import Derived.Test.YtiikkngllmdljaaWritten
import Derived.WalkKit
import Derived.ProofKit
import Derived.OpenShut
import Derived.ShutString
import Derived.ChangeOld
import Derived.Below
import Derived.Deep.SlicePairs
namespace Go.Proofs.Ytiikkngllmdljaa.bitsWritten
open Go.ChangeShapes Go.WideShapes Go.ChangeAt Go.RowKit

theorem own : ownKnob Try.prog.godebug = none := by kernel_rfl
theorem laidOut : laidOutB Try.prog = true := by kernel_rfl

/-- A cell that is there has no spot. -/
theorem spot_none {w : World} {a : Addr} {v : Value} (h : w.cell? a = some v) : a.spot = none := by
  unfold World.cell? at h
  split at h
  · cases hs : a.spot with
    | none => rfl
    | some _ => simp [hs] at h
  · cases h

theorem add_plain' (b off i : Nat) : (⟨b, off, none⟩ : Addr).add i = ⟨b, off + i, none⟩ := M.addr_add b off i

/-- The argument, as the walk wants it. -/
theorem acts_of {H : Type} {enc : TypeId × Value → H} {W : World} {a0 : Option Addr} {n cap : Nat} {d0 : DataW H} {p0 : List MemPlace}
    (h : ∃ fuel, DataW.trod enc Try.prog W 0 (fun _ => true) true fuel 22 (Value.slice a0 n cap).cells.toList = some (d0, p0)) :
    ∃ (b off : Nat) (l : List ActD), l.length = n ∧ (0 < n → a0 = some ⟨b, off, none⟩) ∧ Acts W b off l ∧ (0 < n → b < W.heap.size) := by
  obtain ⟨fuel, hf⟩ := h
  rcases Deep.open_slice_pairs Try.underlying22 Try.underlying29 (by kernel_rfl) rfl rfl (by kernel_rfl) (by kernel_rfl) hf with ⟨hcs, _⟩ | ⟨a, len, c, m, k, V0, V1, D0, D1, P0, P1, hcs, _, hl, hm, hmm, hx, hc⟩
  · simp [Value.cells] at hcs
    obtain ⟨rfl, rfl, rfl⟩ := hcs
    exact ⟨0, 0, [], rfl, fun h => by omega, fun i x hi => by simp at hi, fun h => by omega⟩
  · simp [Value.cells] at hcs
    obtain ⟨rfl, rfl, rfl⟩ := hcs
    have hm2 : m = cap := by simpa using hmm
    subst hm2
    have each : ∀ i, i < n → ∃ (v : Nat) (x : Int), W.cell? (a.add (i * 2)) = some (.int .u64 v) ∧ W.cell? (a.add (i * 2 + 1)) = some (.int .i64 x) ∧ v < 18446744073709551616 := by
      intro i hi
      obtain ⟨e0, e1, t0, t1⟩ := hc i (by omega)
      obtain ⟨v, hv, _, wv⟩ := DataW.trod_int Try.underlying27 t0
      obtain ⟨x, hx, _, _⟩ := DataW.trod_int Try.underlying3 t1
      simp only [List.cons.injEq, and_true] at hv hx
      have hb := bounds_u64 wv
      refine ⟨v.toNat, x, ?_, by rw [e1, hx], by omega⟩
      rw [e0, hv, Int.toNat_of_nonneg hb.1]
    have hspot : 0 < n → a = ⟨a.block, a.off, none⟩ := by
      intro h0
      obtain ⟨v, x, h1, _, _⟩ := each 0 h0
      have := spot_none h1
      rw [show a.add (0 * 2) = a by simp [Addr.add]] at this
      rw [← this]
    let val (i : Nat) : ActD := ⟨(intOf ((W.cell? (a.add (i * 2))).getD undef)).toNat, intOf ((W.cell? (a.add (i * 2 + 1))).getD undef)⟩
    refine ⟨a.block, a.off, (List.range n).map val, by simp, fun h0 => by rw [← hspot h0], ?_, ?_⟩
    · intro i x hi
      have hin : i < n := by
        have := (List.getElem?_eq_some_iff.1 hi).1
        simpa using this
      obtain ⟨v, y, h1, h2, h3⟩ := each i hin
      have hs := hspot (by omega)
      simp only [List.getElem?_map, List.getElem?_range hin, Option.map_some, Option.some.injEq] at hi
      subst hi
      have e1 : val i = ⟨v, y⟩ := by simp [val, h1, h2, intOf]
      rw [e1]
      rw [hs] at h1 h2
      rw [add_plain'] at h1 h2
      exact ⟨h1, by rw [Nat.add_assoc]; exact h2, h3⟩
    · intro h0
      obtain ⟨v, x, h1, _, _⟩ := each 0 h0
      have := World.block_lt_of_cell? W _ h1
      rw [show a.add (0 * 2) = a by simp [Addr.add]] at this
      exact this

set_option maxRecDepth 100000 in
theorem lifted (os : Os) (started : os.Started) (H : Type) (enc : TypeId × Value → H) :
    ReturnsInHanded {} Try.checked os 3 .any (Rows.bitsWrittenSpec.pre6 enc Try.prog Try.f3 Rows.bitsWrittenRow.domain false) (Rows.bitsWrittenSpec.post enc Try.prog Try.f3 false true false false) := by
  refine returnsInHanded_of_change (C := Try.checked) own started (by kernel_rfl) Try.func3
    (ChangeSpec.witness6 (enc := enc) (C := Try.checked) false ⟨#[], #[.slice none 0 0], []⟩ 8 (by kernel_rfl) (by kernel_rfl) (by kernel_rfl) (by kernel_rfl)) ?_
  intro W base args ds gs before hval0 hW hcnd _
  have hval : ∀ (j : Nat) t v, Try.f3.params[j]? = some t → args[j]? = some v → Value.okWide Try.prog W .any base t v := hval0
  have hW' := hW
  obtain ⟨p, q, hA0, hV, rfl, hfz, hnd⟩ := hW
  have hA : DataW.TrodAll enc Try.prog W 0 (fun _ => true) true Try.f3.params.toList args.toList ds p := hA0
  rw [Try.params3] at hA hval
  obtain ⟨v0, vs0, d0, ds0, p0, q0, hargs, rfl, rfl, h0, r0⟩ := trodAll_cons hA
  obtain ⟨rfl, rfl, rfl⟩ := trodAll_nil r0
  obtain rfl : args = #[v0] := by cases args; simp_all
  obtain ⟨rfl, rfl⟩ := trodVars_none hV
  obtain ⟨a0, len0, cap0, rfl⟩ := okWide_slice Try.underlying22 (hval 0 22 v0 rfl rfl)
  have k0 := h0
  have lt0 : ∀ x ∈ p0, x.block < W.heap.size := by obtain ⟨m, hm⟩ := k0; exact DataW.trod_lt m _ _ _ hm
  obtain ⟨b, off, l, hl1, hl2, hl3, hl4⟩ := acts_of h0
  clear hA0 hval0
  refine (written_any a0 len0 cap0 b off l W hl1 hl2 hl3 hl4).mono fun e W' ⟨he, only⟩ => ?_
  subst he
  have bel : Below W.heap.size W W' := only.below (Nat.le_refl _) (fun k hk => hk.elim)
  exact ⟨_, rfl, _, _, _, [], _, [], hW', trodAll_mk1 (shut_bool Try.underlying4 _), (trodAll_cons_mk (Below.trod laidOut (by kernel_rfl) (of_decide_eq_true (by kernel_rfl)) k0 bel lt0) trodAll_mk0), rfl, bel.frame _, fun h => by cases h⟩

theorem bitsWritten_holds : Rows.BitsWrittenSaid :=
  OpenClaim.holds_of_wide 3 Try.f3 rfl rfl rfl rfl rfl rfl rfl ⟨rfl, rfl, rfl, rfl, rfl⟩ rfl rfl rfl rfl rfl (by kernel_rfl) Try.func3 (by kernel_rfl)
    (of_decide_eq_true (by kernel_rfl)) (by unfold Func.isWrapper; first | (rw [if_pos (by decide +kernel)]; kernel_rfl) | (rw [if_neg (by decide +kernel)]; exact ⟨rfl, rfl⟩))
    (fun os started H enc _ => lifted os started H enc)
#print axioms bitsWritten_holds
end Go.Proofs.Ytiikkngllmdljaa.bitsWritten
