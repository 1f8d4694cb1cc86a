/- Code that is looked at ahead: whether an instruction is right; Check, both sides. -/
import Derived.Test.YtbgmdckfkfkglaaHLeaf
set_option linter.unusedSimpArgs false
set_option linter.unusedVariables false
namespace Go.Proofs.Ytbgmdckfkfkglaa
open Go.RowKit M

/-- One instruction of a list. -/
theorem CSrc.one {w : World} {b i n cap off : Nat} {ao : Option Addr} {L : List Cod} {c : Cod} (h : CAt w b off L) (hi : L[i]? = some c) (hc : i + 1 ≤ cap) (hm : cap ≤ maxLen) : CSrc w b (.slice (some ⟨b, off + i * 2, none⟩) 1 (cap - i)) [c] := by
  refine ⟨_, cap - i, off + i * 2, rfl, by simp; omega, by omega, fun _ => rfl, ?_⟩
  intro k d hk
  cases k with
  | zero => simp only [List.getElem?_cons_zero, Option.some.injEq] at hk; subst hk; simpa using h i _ hi
  | succ k => simp at hk

set_option maxRecDepth 10000 in
set_option maxHeartbeats 3200000 in
theorem rightI_any (b : Nat) (ao : Option Addr) (n cap : Nat) (L : List Cod) (w : World) (hs : CSrc w b (.slice ao n cap) L) (hn : L.length = n) (hf : ∀ c ∈ L, c.Fits) (hl : n ≤ 1000) (i : Nat) (hi : i < n) :
    Calls Try.prog 44 #[.slice ao n cap, .int .i64 i] w fun e w' => e = .returned (.bool (decide ((L.getD i default).Right n))) ∧ Only Nil w w' := by
  obtain ⟨ao', cap', off, e, h2, h3, h4, h5⟩ := hs
  simp only [Value.slice.injEq] at e
  obtain ⟨rfl, hxx, rfl⟩ := e
  clear hxx
  have hil : i < L.length := by omega
  have hat : L[i]? = some L[i] := List.getElem?_eq_getElem hil
  have hg : L.getD i default = L[i] := by simp [List.getD, hil]
  have hfit := hf _ (List.getElem_mem hil)
  have hx := h4 (by omega)
  subst hx
  rw [hg]
  obtain ⟨c, hc⟩ : ∃ c, L[i] = c := ⟨_, rfl⟩
  rw [hc] at hat hfit ⊢
  rw [hn] at h2
  have cE := fun (w' : World) (ho : Only Nil w w') => encI_any b (.slice (some ⟨b, off + i * 2, none⟩) 1 (cap - i)) [c] w' ((CSrc.one (n := n) (ao := none) h5 hat (by omega) h3).kept ho) (fun d hd => by rw [List.mem_singleton.1 hd]; exact hfit) (by simp)
  obtain ⟨r0, r1⟩ := h5 i c hat
  obtain ⟨op, k⟩ := c
  obtain ⟨⟨f1, f2⟩, f3, f4⟩ := hfit
  simp only at r0 r1 f1 f2 f3 f4
  unfold maxLen at h3
  have i0 : (0 : Int) ≤ (i : Int) := Int.natCast_nonneg _
  have i1 : (i : Int) < (n : Int) := by omega
  have i2 : (i : Int) + 1 ≤ (cap : Int) := by omega
  have i3 : ¬ cap = i := by omega
  have kw : IntKind.i64.wrap k = k := by rw [IntKind.wrap_i64]; omega
  clear hat hg hc hf h5 h4 hil hn hl
  obtain ⟨R, hR⟩ : ∃ R, decide ((Cod.mk op k).Right n) = R := ⟨_, rfl⟩
  rw [hR]
  have HR := Lib.hid hR
  clear hR
  go_enter Try.func44, Try.ntmps44
  go_wp2_with fail
  refine (cE w (Only.refl _ _)).mono ?_
  clear cE
  rintro e w1 ⟨hh, ho⟩
  have t0 := ho.cell r0 (fun h => h)
  have t1 := ho.cell r1 (fun h => h)
  clear r0 r1
  rcases hh with ⟨hg, sv, rfl, _⟩ | ⟨hg, rfl⟩
  rotate_left
  · have hR2 : R = false := by
      rw [← HR.out, decide_eq_false_iff_not]
      exact fun h => hg (fun c hc => by rw [List.mem_singleton.1 hc]; exact h.1)
    clear hg
    subst hR2
    go_wp2_with fail
    go_ret
    exact ⟨rfl, ho⟩
  · have hG : (Cod.mk op k).Good := hg _ (List.mem_singleton.2 rfl)
    clear hg
    have HG := Lib.hid hG
    clear hG
    by_cases g1 : op = 25 ∨ op = 26 ∨ op = 27
    · have hR2 : R = (decide (0 ≤ k) && decide (k < n)) := by
        rw [← HR.out, Bool.eq_iff_iff]
        simp only [decide_eq_true_eq, Bool.and_eq_true]
        unfold Cod.Right
        exact ⟨fun h => h.2.1 g1, fun h => ⟨HG.out, fun _ => h, fun h => by simp only at h; omega, fun h => by simp only at h; omega⟩⟩
      have HR2 := Lib.hid hR2
      clear hR2
      rcases g1 with rfl | rfl | rfl
      all_goals
        by_cases k0 : 0 ≤ k
        · go_wp2_with fail
          go_ret
          exact ⟨ret_bool (by rw [HR2.out]; simp [k0]), ho⟩
        · have k1 : decide (0 ≤ k) = false := by simp; omega
          go_wp2_with fail
          go_ret
          exact ⟨ret_bool (by rw [HR2.out]; simp; omega), ho⟩
    · have n1 : (op == 25) = false := not_beq (by omega)
      have n2 : (op == 26) = false := not_beq (by omega)
      have n3 : (op == 27) = false := not_beq (by omega)
      by_cases g2 : op = 28 ∨ op = 8
      · have hR2 : R = (decide (0 ≤ k) && decide (k ≤ 1048576)) := by
          rw [← HR.out, Bool.eq_iff_iff]
          simp only [decide_eq_true_eq, Bool.and_eq_true]
          unfold Cod.Right
          exact ⟨fun h => h.2.2.1 g2, fun h => ⟨HG.out, fun h => by simp only at h; omega, fun _ => h, fun h => by simp only at h; omega⟩⟩
        have HR2 := Lib.hid hR2
        clear hR2 n1 n2 n3
        rcases g2 with rfl | rfl
        all_goals
          by_cases k0 : 0 ≤ k
          · go_wp2_with fail
            go_ret
            exact ⟨ret_bool (by rw [HR2.out]; simp [k0]), ho⟩
          · have k1 : decide (0 ≤ k) = false := by simp; omega
            go_wp2_with fail
            go_ret
            exact ⟨ret_bool (by rw [HR2.out]; simp; omega), ho⟩
      · have n4 : (op == 28) = false := not_beq (by omega)
        have n5 : (op == 8) = false := not_beq (by omega)
        by_cases g3 : op = 30
        · have hR2 : R = (decide (1 ≤ k) && decide (k ≤ 15)) := by
            rw [← HR.out, Bool.eq_iff_iff]
            simp only [decide_eq_true_eq, Bool.and_eq_true]
            unfold Cod.Right
            exact ⟨fun h => h.2.2.2 g3, fun h => ⟨HG.out, fun h => by simp only at h; omega, fun h => by simp only at h; omega, fun _ => h⟩⟩
          have HR2 := Lib.hid hR2
          clear hR2 n1 n2 n3 n4 n5
          subst g3
          by_cases k0 : 1 ≤ k
          · go_wp2_with fail
            go_ret
            exact ⟨ret_bool (by rw [HR2.out]; simp [k0]), ho⟩
          · have k1 : decide (1 ≤ k) = false := by simp; omega
            go_wp2_with fail
            go_ret
            exact ⟨ret_bool (by rw [HR2.out]; simp; omega), ho⟩
        · have n6 : (op == 30) = false := not_beq g3
          have hR2 : R = true := by
            rw [← HR.out, decide_eq_true_eq]
            unfold Cod.Right
            exact ⟨HG.out, fun h => by simp only at h; omega, fun h => by simp only at h; omega, fun h => by simp only at h; omega⟩
          subst hR2
          clear g1 g2 g3
          go_wp2_with fail
          go_ret
          exact ⟨rfl, ho⟩
end Go.Proofs.Ytbgmdckfkfkglaa
