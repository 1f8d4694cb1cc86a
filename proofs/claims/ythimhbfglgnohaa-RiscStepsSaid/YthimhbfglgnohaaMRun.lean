/- The machine's Step. -/
import Derived.Test.YthimhbfglgnohaaMDo
import Derived.Test.YthimhbfglgnohaaMRes
import Derived.Test.YthimhbfglgnohaaMSee
import Derived.Deep.LoopGhost
import Derived.Deep.DeepCutAuto
set_option linter.unusedSimpArgs false
set_option linter.unusedVariables false
namespace Go.Proofs.Ythimhbfglgnohaa
open Go.RowKit M
variable {Q : Nat → Prop}

/-- The machine does its next instruction, whatever it is. -/
theorem do_any (mb wb : Nat) (ob : Option Nat) (code : List Nat) (cv iv ov : Value) (s : St) (w : World) (hs : s.Ok) (hc : ∀ x ∈ code, x < 4294967296) (hl : code.length ≤ 1048576) (hM : MAt Q w mb wb ob code s cv iv ov) (hol : s.out.length ≤ 1099511627776) {R : Option St} (hR : doIt code s = R) :
    Calls Try.prog 30 #[.pointer (some ⟨mb, 0, none⟩)] w fun e w' => Does Q w mb wb ob code cv R e w' := by
  by_cases hp : s.pc < code.length
  · exact do_word mb wb ob code cv iv ov s w hs hc hl hM hp hol hR
  · have h : R = none := by rw [← hR]; unfold doIt; rw [if_neg hp]
    rw [h]
    exact do_end mb wb ob code cv iv ov s w hl hM hp

set_option maxHeartbeats 1600000 in
/-- The machine's Step. -/
theorem step_any (mb wb : Nat) (ob : Option Nat) (code : List Nat) (cv iv ov : Value) (s : St) (w : World) (hs : s.Ok) (hc : ∀ x ∈ code, x < 4294967296) (hl : code.length ≤ 1048576) (hM : MAt Q w mb wb ob code s cv iv ov) (hol : s.out.length ≤ 1099511627776) :
    Calls Try.prog 15 #[.pointer (some ⟨mb, 0, none⟩)] w fun e w' => ∃ ob' iv' ov', e = .returned (.bool (s.fin == 0)) ∧ Went w w' mb wb ob ob' ∧ MAt Q w' mb wb ob' code (M.step code s) cv iv' ov' := by
  have c26 : w.cell? ⟨mb, 26, none⟩ = some (.int .i64 s.fin) := hM.1.cell 26
  have hlt := hM.1.lt
  by_cases hf : s.fin = 0
  · have e1 : M.step code s = (doIt code s).getD (ended s 15) := by unfold M.step; rw [if_neg (by rw [hf]; decide)]
    rw [e1, hf]
    rw [hf] at c26
    cases hR : doIt code s with
    | none =>
      have cD := do_any mb wb ob code cv iv ov s w hs hc hl hM hol hR
      unfold Does at cD
      simp only at cD
      have HM := Lib.hid hM
      clear hM hs hc hl hol hf hR e1
      go_enter Try.func15, Try.ntmps15
      go_wp2_with fail
      refine cD.mono ?_
      rintro e w1 ⟨rfl, ho1⟩
      have hM1 := HM.out.quiet ho1
      have cF := fun (w' : World) (ho : Only Nil w1 w') => finish_any mb 15 cv _ iv ov s w' (hM1.1.kept ho (fun h => h)) (by decide)
      have H1 := Lib.hid hM1
      have HO := Lib.hid ho1
      clear cD hM1 ho1 HM
      go_wp2_with fail
      refine (cF _ (Only.refl _ _)).mono ?_
      rintro e w3 ⟨rfl, hB3, ho3⟩
      have hM3 := H1.out.own ho3 hB3 rfl rfl rfl
      clear cF hB3 H1
      go_wp2_with fail
      go_ret
      exact ⟨ob, iv, ov, rfl, Went.of_one ((HO.out.mono (fun _ h => h.elim)).trans ho3 (fun _ _ h => h)), hM3⟩
    | some s' =>
      have cD := do_any mb wb ob code cv iv ov s w hs hc hl hM hol hR
      unfold Does at cD
      simp only at cD
      clear hM hs hc hl hol hf hR e1
      go_enter Try.func15, Try.ntmps15
      go_wp2_with fail
      refine cD.mono ?_
      rintro e w1 ⟨ob', iv', ov', rfl, hw1, hM1⟩
      have H1 := Lib.hid hM1
      clear cD hM1
      go_wp2_with fail
      go_ret
      exact ⟨ob', iv', ov', rfl, hw1, H1.out⟩
  · have e1 : M.step code s = s := by unfold M.step; rw [if_pos hf]
    have e2 : (s.fin == 0) = false := by rw [beq_eq_false_iff_ne]; exact hf
    have hne : ((s.fin : Int) != 0) = true := by simp; omega
    rw [e1, e2]
    have HM := Lib.hid hM
    clear hM hs hc hl hol hf e1 e2
    go_enter Try.func15, Try.ntmps15
    go_wp2_with fail
    go_ret
    exact ⟨ob, iv, ov, rfl, Went.of_nil (Only.refl _ _), HM.out⟩
end Go.Proofs.Ythimhbfglgnohaa

/- The machine's Run. -/
set_option linter.unusedSimpArgs false
set_option linter.unusedVariables false
namespace Go.Proofs.Ythimhbfglgnohaa
open Go.RowKit M
variable {Q : Nat → Prop}

set_option maxHeartbeats 1600000 in
/-- The machine's Run. -/
theorem run_any (mb wb : Nat) (ob : Option Nat) (code : List Nat) (cv iv ov : Value) (s : St) (w : World) (hs : s.Ok) (hc : ∀ x ∈ code, x < 4294967296) (hl : code.length ≤ 1048576) (hM : MAt Q w mb wb ob code s cv iv ov) (f : Int) (hf1 : -9223372036854775808 ≤ f) (hf2 : f ≤ 9223372036854775807) (hol : s.out.length + f.toNat ≤ 1099511627776) {t : St} (ht : M.run code f.toNat s = t) :
    Calls Try.prog 20 #[.pointer (some ⟨mb, 0, none⟩), .int .i64 f] w fun e w' => ∃ ob' iv' ov' rv, e = .returned (.agg #[rv, .int .i64 t.fin, .int .i64 t.trap]) ∧ Went w w' mb wb ob ob' ∧
      w'.ownsRow w.heap.size 5 1 rv t.out.length (U8s t.out) ∧ MAt Q w' mb wb ob' code t cv iv' ov' := by
  go_enter Try.func20, Try.ntmps20
  go_wp2_with fail
  have hB0 := Blk.new w #[Value.slice none 0 0, .int .i64 0, .int .i64 0] 39
  obtain ⟨rb, hrb⟩ : ∃ b, w.heap.size = b := ⟨_, rfl⟩
  have hq1 : Only Nil w (w.alloc (.cells #[Value.slice none 0 0, .int .i64 0, .int .i64 0] 39)) := (Only.refl Nil w).alloc _
  obtain ⟨w1, hw1⟩ : ∃ w1, w.alloc (.cells #[Value.slice none 0 0, .int .i64 0, .int .i64 0] 39) = w1 := ⟨_, rfl⟩
  rw [hw1] at hB0 hq1 ⊢
  rw [hrb] at hB0 ⊢
  have hM1 := hM.quiet hq1
  have hlm := hM.1.lt
  have hlw := hM.2.1.lt
  have hmr : mb ≠ rb := by omega
  have hwr : wb ≠ rb := by omega
  have hor : ∀ k, ob = some k → k ≠ rb := by
    intro k hk e
    have := hM.obLt hk
    omega
  have hM2 : MAt (fun k => Q k ∨ k = rb) w1 mb wb ob code s cv iv ov := (hM.less (T := fun k => Q k ∨ k = rb) (fun k hk h => h.elim id (fun h => absurd hk (by omega)))).quiet hq1
  have HQ := Lib.hid hq1
  have HR := Lib.hid hrb
  clear hM hM1 hw1 hrb hq1
  go_loopg [1] f.toNat (fun g s1 wr => ∃ (n : Int) (sx : St) (obx : Option Nat) (ivx ovx : Value), s1 = .int .i64 n ∧ n.toNat = g ∧ n ≤ 9223372036854775807 ∧ -9223372036854775808 ≤ n ∧ sx.Ok ∧ sx.out.length + g ≤ 1099511627776 ∧ M.run code g sx = t ∧ MAt (fun k => Q k ∨ k = rb) wr mb wb obx code sx cv ivx ovx ∧ Went w1 wr mb wb ob obx ∧ (∀ k, obx = some k → k ≠ rb) ∧ Blk wr rb #[Value.slice none 0 0, .int .i64 0, .int .i64 0] 39)
  case atStart => exact ⟨f, s, ob, iv, ov, rfl, rfl, hf2, hf1, hs, hol, ht, hM2, Went.of_nil (Only.refl _ _), hor, hB0⟩
  case round =>
    clear hM2 hB0
    obtain ⟨n, sx, obx, ivx, ovx, rfl, hng, hn1, hn2, hok, hlen, hrun, hM, hW, hor', hBr⟩ := hrel
    by_cases hn : 0 < n
    · obtain ⟨g', hg'⟩ : ∃ g', gk = g' + 1 := ⟨gk - 1, by omega⟩
      rw [hg', run_succ] at hrun
      have cS := step_any mb wb obx code cv ivx ovx sx wr hok hc hl hM (by omega)
      obtain ⟨ok2, len2, out2⟩ := step_ok hok hc hl
      by_cases hfin : sx.fin = 0
      · rw [show (sx.fin == 0) = true by rw [hfin]; rfl] at cS
        have HBr := Lib.hid hBr
        have HW := Lib.hid hW
        have HOR := Lib.hid hor'
        have HRUN := Lib.hid hrun
        have HO := Lib.hid hlen
        have HG := Lib.hid hg'
        clear hM hW hor' hBr hrun hlen hg' hs hol
        go_wp2_with fail
        refine cS.mono ?_
        rintro e w3 ⟨ob3, iv3, ov3, rfl, hw3, hM3⟩
        clear cS
        have H3 := Lib.hid hM3
        clear hM3
        go_wp2_with fail
        have hlr := HBr.out.lt
        have hB3 := HBr.out.kept hw3.1 (fun h => by
          rcases h with h | h | h
          · exact hmr h.symm
          · exact hwr h.symm
          · exact HOR.out rb h.symm rfl)
        have hor3 : ∀ k, ob3 = some k → k ≠ rb := fun k hk e => by
          rcases hw3.2 with h | ⟨j, h, hj⟩
          · rw [h] at hk; exact HOR.out k hk e
          · rw [h] at hk; injection hk with hk; omega
        go_roundg g'
        case measure => have := HG.out; omega
        case rel => exact ⟨n - 1, M.step code sx, ob3, iv3, ov3, by go_num, by have := HG.out; omega, by omega, by omega, ok2, by have := HO.out; have := HG.out; omega, HRUN.out, H3.out, HW.out.trans hw3, hor3, hB3⟩
      · rw [show (sx.fin == 0) = false by rw [beq_eq_false_iff_ne]; exact hfin, step_fin _ _ hfin] at cS
        rw [step_fin _ _ hfin, run_fin _ _ _ hfin] at hrun
        subst hrun
        go_wp2_with fail
        refine cS.mono ?_
        rintro e w3 ⟨ob3, iv3, ov3, rfl, hw3, hM3⟩
        clear cS
        have hlr := hBr.lt
        have hB3 := hBr.kept hw3.1 (fun h => by
          rcases h with h | h | h
          · exact hmr h.symm
          · exact hwr h.symm
          · exact hor' rb h.symm rfl)
        have hor3 : ∀ k, ob3 = some k → k ≠ rb := fun k hk e => by
          rcases hw3.2 with h | ⟨j, h, hj⟩
          · rw [h] at hk; exact hor' k hk e
          · rw [h] at hk; injection hk with hk; omega
        have hW3 := hW.trans hw3
        clear hM hW hor' hBr hw3
        have hM := hM3
        have hW := hW3
        have hor' := hor3
        have hBr := hB3
        clear hM3 hW3 hor3 hB3
        have cR := result_any mb wb ob3 code cv iv3 ov3 sx w3 hM (by omega)
        have hrlt : rb < w3.heap.size := hBr.lt
        have hsz : w.heap.size ≤ w3.heap.size := Nat.le_trans HQ.out.size hW.1.size
        go_wp2_with fail
        refine cR.mono ?_
        rintro e w4 ⟨rv, rfl, hown4, ho4⟩
        clear cR
        obtain ⟨ao9, n9, cap9, rfl⟩ := ownsRow_slice hown4
        have hB4 := hBr.kept ho4 (fun h => h)
        have k0 := hB4.cell 0
        have k1 := hB4.cell 1
        have k2 := hB4.cell 2
        have z0 := hB4.free 0
        have z1 := hB4.free 1
        have z2 := hB4.free 2
        have hlt4 := hB4.lt
        have HM := Lib.hid hM
        have HWE := Lib.hid hW
        clear hM hW
        go_wp2_with fail
        have hB8 := ((hB4.setCell 0 (.slice ao9 n9 cap9)).setCell 1 (.int .i64 sx.fin)).setCell 2 (.int .i64 sx.trap)
        simp only [List.setIfInBounds_toArray, List.set_cons_zero, List.set_cons_succ] at hB8
        have hne := ownsRow_apart hown4 hrlt
        have hown8 := ownsRow_set_other (ownsRow_set_other (ownsRow_set_other (ownsRow_base hown4 hsz) ⟨rb, 0, none⟩ (.slice ao9 n9 cap9) hne) ⟨rb, 1, none⟩ (.int .i64 sx.fin) hne) ⟨rb, 2, none⟩ (.int .i64 sx.trap) hne
        (try simp only [Exit.inBlock, Exit.then])
        refine bodyPost_ret (results_cell_row rfl _ _ rb 39 _ (0, 0) _ rfl hB8 Try.underlying39 rfl (by kernel_rfl)) rfl ?_
        have hoS : Only (M.One rb) w3 _ := (Only.setOne (Only.setOne (Only.setOne (ho4.mono (fun _ h => h.elim)) 0 (.slice ao9 n9 cap9)) 1 (.int .i64 sx.fin)) 2 (.int .i64 sx.trap))
        have hM8 := HM.out.apart hoS (fun h => hmr h) (fun h => hwr h) (fun k hk h => hor' k hk h) (fun k hk => Or.inr hk)
        have hq : ∀ S : Nat → Prop, rb < w.heap.size → S rb := fun _ h => absurd h (by rw [HR.out]; exact Nat.lt_irrefl _)
        have hoA : Only (Own3 mb wb ob) w w3 := (HQ.out.mono (fun _ h => h.elim)).trans HWE.out.1 (fun _ _ h => h)
        have hoB : Only (Own3 mb wb ob) w _ := (((hoA.trans ho4 (fun _ _ h => h.elim)).setCell (p := ⟨rb, 0, none⟩) (hq _) (.slice ao9 n9 cap9)).setCell (p := ⟨rb, 1, none⟩) (hq _) (.int .i64 sx.fin)).setCell (p := ⟨rb, 2, none⟩) (hq _) (.int .i64 sx.trap)
        refine ⟨ob3, iv3, ov3, _, rfl, ⟨hoB, ?_⟩, ?_, hM8.less (fun k _ h => Or.inl h)⟩
        · exact HWE.out.2.imp id (fun ⟨k, h1, h2⟩ => ⟨k, h1, Nat.le_trans HQ.out.size h2⟩)
        · exact hown8
    · have hg0 : gk = 0 := by omega
      subst hg0
      have hrun' : sx = t := hrun
      subst hrun'
      have cR := result_any mb wb obx code cv ivx ovx sx wr hM (by omega)
      have hrlt : rb < wr.heap.size := hBr.lt
      have hsz : w.heap.size ≤ wr.heap.size := Nat.le_trans HQ.out.size hW.1.size
      go_wp2_with fail
      refine cR.mono ?_
      rintro e w4 ⟨rv, rfl, hown4, ho4⟩
      clear cR
      obtain ⟨ao9, n9, cap9, rfl⟩ := ownsRow_slice hown4
      have hB4 := hBr.kept ho4 (fun h => h)
      have k0 := hB4.cell 0
      have k1 := hB4.cell 1
      have k2 := hB4.cell 2
      have z0 := hB4.free 0
      have z1 := hB4.free 1
      have z2 := hB4.free 2
      have hlt4 := hB4.lt
      have HM := Lib.hid hM
      have HWE := Lib.hid hW
      clear hM hW
      go_wp2_with fail
      have hB8 := ((hB4.setCell 0 (.slice ao9 n9 cap9)).setCell 1 (.int .i64 sx.fin)).setCell 2 (.int .i64 sx.trap)
      simp only [List.setIfInBounds_toArray, List.set_cons_zero, List.set_cons_succ] at hB8
      have hne := ownsRow_apart hown4 hrlt
      have hown8 := ownsRow_set_other (ownsRow_set_other (ownsRow_set_other (ownsRow_base hown4 hsz) ⟨rb, 0, none⟩ (.slice ao9 n9 cap9) hne) ⟨rb, 1, none⟩ (.int .i64 sx.fin) hne) ⟨rb, 2, none⟩ (.int .i64 sx.trap) hne
      (try simp only [Exit.inBlock, Exit.then])
      refine bodyPost_ret (results_cell_row rfl _ _ rb 39 _ (0, 0) _ rfl hB8 Try.underlying39 rfl (by kernel_rfl)) rfl ?_
      have hoS : Only (M.One rb) wr _ := (Only.setOne (Only.setOne (Only.setOne (ho4.mono (fun _ h => h.elim)) 0 (.slice ao9 n9 cap9)) 1 (.int .i64 sx.fin)) 2 (.int .i64 sx.trap))
      have hM8 := HM.out.apart hoS (fun h => hmr h) (fun h => hwr h) (fun k hk h => hor' k hk h) (fun k hk => Or.inr hk)
      have hq : ∀ S : Nat → Prop, rb < w.heap.size → S rb := fun _ h => absurd h (by rw [HR.out]; exact Nat.lt_irrefl _)
      have hoA : Only (Own3 mb wb ob) w wr := (HQ.out.mono (fun _ h => h.elim)).trans HWE.out.1 (fun _ _ h => h)
      have hoB : Only (Own3 mb wb ob) w _ := (((hoA.trans ho4 (fun _ _ h => h.elim)).setCell (p := ⟨rb, 0, none⟩) (hq _) (.slice ao9 n9 cap9)).setCell (p := ⟨rb, 1, none⟩) (hq _) (.int .i64 sx.fin)).setCell (p := ⟨rb, 2, none⟩) (hq _) (.int .i64 sx.trap)
      refine ⟨obx, ivx, ovx, _, rfl, ⟨hoB, ?_⟩, ?_, hM8.less (fun k _ h => Or.inl h)⟩
      · exact HWE.out.2.imp id (fun ⟨k, h1, h2⟩ => ⟨k, h1, Nat.le_trans HQ.out.size h2⟩)
      · exact hown8
end Go.Proofs.Ythimhbfglgnohaa

