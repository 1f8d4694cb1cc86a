/- The machine's Step. -/
import Derived.Test.YthimhbfglgnohaaMDo
set_option linter.unusedSimpArgs false
set_option linter.unusedVariables false
namespace Go.Proofs.Ythimhbfglgnohaa
open Go.RowKit M
variable {Q : Nat → Prop}

/-- The machine does its next instruction, whatever it is. -/
theorem do_any (mb wb : Nat) (ob : Option Nat) (code : List Nat) (cv iv ov : Value) (s : St) (w : World) (hs : s.Ok) (hc : ∀ x ∈ code, x < 4294967296) (hl : code.length ≤ 1048576) (hM : MAt Q w mb wb ob code s cv iv ov) (hol : s.out.length ≤ 1099511627776) {R : Option St} (hR : doIt code s = R) :
    Calls Try.prog 30 #[.pointer (some ⟨mb, 0, none⟩)] w fun e w' => Does Q w mb wb ob code cv R e w' := by
  by_cases hp : s.pc < code.length
  · exact do_word mb wb ob code cv iv ov s w hs hc hl hM hp hol hR
  · have h : R = none := by rw [← hR]; unfold doIt; rw [if_neg hp]
    rw [h]
    exact do_end mb wb ob code cv iv ov s w hl hM hp

set_option maxHeartbeats 1600000 in
/-- The machine's Step. -/
theorem step_any (mb wb : Nat) (ob : Option Nat) (code : List Nat) (cv iv ov : Value) (s : St) (w : World) (hs : s.Ok) (hc : ∀ x ∈ code, x < 4294967296) (hl : code.length ≤ 1048576) (hM : MAt Q w mb wb ob code s cv iv ov) (hol : s.out.length ≤ 1099511627776) :
    Calls Try.prog 15 #[.pointer (some ⟨mb, 0, none⟩)] w fun e w' => ∃ ob' iv' ov', e = .returned (.bool (s.fin == 0)) ∧ Went w w' mb wb ob ob' ∧ MAt Q w' mb wb ob' code (M.step code s) cv iv' ov' := by
  have c26 : w.cell? ⟨mb, 26, none⟩ = some (.int .i64 s.fin) := hM.1.cell 26
  have hlt := hM.1.lt
  by_cases hf : s.fin = 0
  · have e1 : M.step code s = (doIt code s).getD (ended s 15) := by unfold M.step; rw [if_neg (by rw [hf]; decide)]
    rw [e1, hf]
    rw [hf] at c26
    cases hR : doIt code s with
    | none =>
      have cD := do_any mb wb ob code cv iv ov s w hs hc hl hM hol hR
      unfold Does at cD
      simp only at cD
      have HM := Lib.hid hM
      clear hM hs hc hl hol hf hR e1
      go_enter Try.func15, Try.ntmps15
      go_wp2_with fail
      refine cD.mono ?_
      rintro e w1 ⟨rfl, ho1⟩
      have hM1 := HM.out.quiet ho1
      have cF := fun (w' : World) (ho : Only Nil w1 w') => finish_any mb 15 cv _ iv ov s w' (hM1.1.kept ho (fun h => h)) (by decide)
      have H1 := Lib.hid hM1
      have HO := Lib.hid ho1
      clear cD hM1 ho1 HM
      go_wp2_with fail
      refine (cF _ (Only.refl _ _)).mono ?_
      rintro e w3 ⟨rfl, hB3, ho3⟩
      have hM3 := H1.out.own ho3 hB3 rfl rfl rfl
      clear cF hB3 H1
      go_wp2_with fail
      go_ret
      exact ⟨ob, iv, ov, rfl, Went.of_one ((HO.out.mono (fun _ h => h.elim)).trans ho3 (fun _ _ h => h)), hM3⟩
    | some s' =>
      have cD := do_any mb wb ob code cv iv ov s w hs hc hl hM hol hR
      unfold Does at cD
      simp only at cD
      clear hM hs hc hl hol hf hR e1
      go_enter Try.func15, Try.ntmps15
      go_wp2_with fail
      refine cD.mono ?_
      rintro e w1 ⟨ob', iv', ov', rfl, hw1, hM1⟩
      have H1 := Lib.hid hM1
      clear cD hM1
      go_wp2_with fail
      go_ret
      exact ⟨ob', iv', ov', rfl, hw1, H1.out⟩
  · have e1 : M.step code s = s := by unfold M.step; rw [if_pos hf]
    have e2 : (s.fin == 0) = false := by rw [beq_eq_false_iff_ne]; exact hf
    have hne : ((s.fin : Int) != 0) = true := by simp; omega
    rw [e1, e2]
    have HM := Lib.hid hM
    clear hM hs hc hl hol hf e1 e2
    go_enter Try.func15, Try.ntmps15
    go_wp2_with fail
    go_ret
    exact ⟨ob, iv, ov, rfl, Went.of_nil (Only.refl _ _), HM.out⟩
end Go.Proofs.Ythimhbfglgnohaa
