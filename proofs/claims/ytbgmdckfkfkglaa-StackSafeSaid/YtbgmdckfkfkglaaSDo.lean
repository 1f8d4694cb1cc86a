/- The stack machine: its next instruction. -/
import Derived.Test.YtbgmdckfkfkglaaSChange
import Derived.Test.YtbgmdckfkfkglaaSTurn
import Derived.Test.YtbgmdckfkfkglaaCLeaf
import Derived.BigQuiet
set_option linter.unusedSimpArgs false
set_option linter.unusedVariables false
namespace Go.Proofs.Ytbgmdckfkfkglaa
open Go.RowKit M
variable {Q : Nat → Prop}

theorem M.sOne_pc {s t : SS} {op : Int} (e : sOne s op = some t) : t.pc = s.pc := by
  unfold sOne at e
  (repeat' split at e) <;> first | (cases e; done) | exact (puts_keeps e).1
theorem M.sTwo_pc {s t : SS} {c : Cod} (e : sTwo s c = some t) : t.pc = s.pc := by
  unfold sTwo at e
  (repeat' split at e) <;> first | (cases e; done) | exact (puts_keeps e).1 | skip
  cases h : reck c.op (opd s 1) (opd s 0) with
  | none => rw [h] at e; cases e
  | some v => rw [h] at e; exact (puts_keeps (show puts s 2 [v] = some t from e)).1
theorem M.sChange_pc {s t : SS} {c : Cod} (e : sChange s c = some t) : t.pc = s.pc := by
  unfold sChange at e
  split at e
  · exact (puts_keeps e).1
  split at e
  · exact (puts_keeps e).1
  split at e
  · unfold sEnter at e
    split at e
    · cases e
    · injection e with e; subst e; rfl
  split at e
  · unfold sGetc at e
    split at e
    · exact (puts_keeps e).1
    · cases h : puts s 0 [((s.inp.getD 0 0 : Nat) : Int)] with
      | none => rw [h] at e; cases e
      | some u => rw [h] at e; injection e with e; subst e; exact (puts_keeps h).1
  split at e
  · exact (puts_keeps e).1
  split at e
  · exact sOne_pc e
  · exact sTwo_pc e
theorem M.isTurn_iff (op : Int) : isTurn op = true ↔ (op = 0 ∨ op = 30 ∨ op = 25 ∨ op = 26 ∨ op = 27 ∨ op = 29) := by unfold isTurn; simp
theorem M.reck_far (op a b : Int) (h : ¬ (0 ≤ op ∧ op < 34)) : reck op a b = none := by
  unfold reck
  simp only [show ¬ op = 9 by omega, show ¬ op = 10 by omega, show ¬ op = 11 by omega, show ¬ op = 12 by omega, show ¬ op = 13 by omega, show ¬ op = 15 by omega, show ¬ op = 16 by omega, show ¬ op = 17 by omega, show ¬ op = 19 by omega, show ¬ op = 20 by omega, show ¬ op = 21 by omega, show ¬ op = 22 by omega, show ¬ op = 23 by omega, show ¬ op = 24 by omega, if_false]
theorem M.sExec_far (s : SS) (c : Cod) (h : ¬ (0 ≤ c.op ∧ c.op < 34)) : sExec s c = none := by
  have ht : isTurn c.op = false := by rw [Bool.eq_false_iff]; intro e; rw [isTurn_iff] at e; omega
  unfold sExec
  rw [ht, if_neg (by decide)]
  have e : sChange s c = none := by
    unfold sChange
    rw [if_neg (by omega), if_neg (by omega), if_neg (by omega), if_neg (by omega), if_neg (by omega), if_neg (by omega)]
    unfold sTwo
    rw [if_neg (show ¬ c.op = 4 by omega), if_neg (show ¬ c.op = 7 by omega), if_neg (show ¬ c.op = 8 by omega), reck_far _ _ _ h]
    split <;> rfl
  rw [e]
  rfl
/-- The next instruction is there. -/
theorem M.sDo_in (code : List Cod) (s : SS) (q : Nat) (hq : s.pc = q) (hl : q < code.length) : sDo code s = if (code.getD q default).k ≠ 0 ∧ hasK (code.getD q default).op = false then none else sExec s (code.getD q default) := by
  unfold sDo
  rw [hq, if_pos (by omega), Int.toNat_natCast]
  generalize code.getD q default = c
  by_cases h : c.k ≠ 0 ∧ hasK c.op = false
  · rw [if_pos h, if_neg]
    rintro ⟨_, _, h1 | h1⟩
    · exact h.1 h1
    · rw [h.2] at h1; cases h1
  · rw [if_neg h]
    by_cases h2 : 0 ≤ c.op ∧ c.op < 34
    · rw [if_pos]
      refine ⟨h2.1, h2.2, ?_⟩
      by_cases hk : c.k = 0
      · exact Or.inl hk
      · exact Or.inr (by cases hh : hasK c.op with
          | true => rfl
          | false => exact absurd ⟨hk, hh⟩ h)
    · rw [sExec_far _ _ h2]
      split <;> rfl
theorem M.sDo_out (code : List Cod) (s : SS) (h : ¬ (0 ≤ s.pc ∧ s.pc < code.length)) : sDo code s = none := by unfold sDo; rw [if_neg h]

set_option maxRecDepth 10000 in
set_option maxHeartbeats 3200000 in
theorem doS_any (mb wb : Nat) (code : List Cod) (hc : ∀ c ∈ code, I32 c.k) (s : SS) (cv sv kv iv ov : Value) (w : World) (hM : SAt Q w mb wb code s cv sv kv iv ov) (hs : s.Ok) (hol : s.out.length ≤ 1099511627776) :
    Calls Try.prog 54 #[.pointer (some ⟨mb, 0, none⟩)] w (SDoes Q w mb wb code s cv sv kv iv ov (sDo code s)) := by
  have c8 : w.cell? ⟨mb, 8, none⟩ = some (.int .i64 s.pc) := hM.blk.cell 8
  have c0 : w.cell? ⟨mb, 0, none⟩ = some cv := hM.blk.cell 0
  have hlt := hM.blk.lt
  obtain ⟨b, ao, cap, off, e1, e2, e3, e4, e5, e6⟩ := hM.cod
  subst e1
  have HM := Lib.hid hM
  by_cases hin : 0 ≤ s.pc ∧ s.pc < code.length
  · obtain ⟨q, hq⟩ : ∃ q : Nat, s.pc = q := ⟨s.pc.toNat, by omega⟩
    have hql : q < code.length := by omega
    rw [sDo_in code s q hq hql]
    rw [hq] at c8
    have ea := e4 (by omega)
    subst ea
    have hblt := (e6 (by omega)).2
    have hat : code[q]? = some (code.getD q default) := by simp [List.getD, hql]
    obtain ⟨r0, r1⟩ := e5 q _ hat
    have hk := hc (code.getD q default) (List.mem_of_getElem? hat)
    obtain ⟨op, k, hcd⟩ : ∃ op k, code.getD q default = ⟨op, k⟩ := ⟨_, _, rfl⟩
    rw [hcd] at r0 r1 hk ⊢
    simp only at r0 r1 hk ⊢
    obtain ⟨X, hX⟩ : ∃ X, (if k ≠ 0 ∧ hasK op = false then none else sExec s ⟨op, k⟩) = X := ⟨_, rfl⟩
    rw [hX]
    have HX := Lib.hid hX
    have hq2 : (q : Int) ≤ 2147483647 := by have := hs.pc2; omega
    have hp00 : 0 ≤ s.pc := hin.1
    obtain ⟨n, hn⟩ : ∃ n, code.length = n := ⟨_, rfl⟩
    rw [hn] at c0 e2 hql
    have p0 : (0 : Int) ≤ (q : Int) := Int.natCast_nonneg _
    have p1 : (q : Int) < (n : Int) := by omega
    have d0 : decide ((q : Int) < 0) = false := by simp
    have d1 : decide ((n : Int) ≤ (q : Int)) = false := by simp; omega
    unfold maxLen at e3
    have HQ := Lib.hid hq
    have HS := Lib.hid hs
    have hZ : (zeroValue 49).run Try.prog w = .ok (.agg #[.int .i64 0, .int .i32 0]) w := by kernel_rfl
    clear hX hM hs hq hcd hat hn e4 e5 e6 hin hql
    go_enter Try.func54, Try.ntmps54
    go_wp2_with fail
    go_quiet (fail)
    go_wp2_with fail
    obtain ⟨w1, hw1⟩ : ∃ w1, w.drewN nq = w1 := ⟨_, rfl⟩
    have ho1 : Only Nil w w1 := by rw [← hw1]; exact M.Only.drewN (Only.refl _ _) _
    have g8 : w1.cell? ⟨mb, 8, none⟩ = some (.int .i64 (q : Nat)) := by rw [← hw1]; exact c8
    have g0 : w1.cell? ⟨mb, 0, none⟩ = some (.slice (some ⟨b, off, none⟩) n cap) := by rw [← hw1]; exact c0
    have s0 : w1.cell? ⟨b, off + q * 2, none⟩ = some (.int .i64 op) := by rw [← hw1]; exact r0
    have s1 : w1.cell? ⟨b, off + q * 2 + 1, none⟩ = some (.int .i32 k) := by rw [← hw1]; exact r1
    have lm : mb < w1.heap.size := by rw [← hw1]; exact hlt
    have lb : b < w1.heap.size := by rw [← hw1]; exact hblt
    rw [hw1]
    have hoA : Only Nil w1 (w1.drew.alloc (.cells #[Value.int .i64 0, .int .i32 0] 49)) := ((Only.refl _ _).drew).alloc _
    have a8 : (w1.drew.alloc (.cells #[Value.int .i64 0, .int .i32 0] 49)).cell? ⟨mb, 8, none⟩ = some (.int .i64 (q : Nat)) := hoA.cell g8 (fun h => h)
    have a0 : (w1.drew.alloc (.cells #[Value.int .i64 0, .int .i32 0] 49)).cell? ⟨mb, 0, none⟩ = some (.slice (some ⟨b, off, none⟩) n cap) := hoA.cell g0 (fun h => h)
    have as0 : (w1.drew.alloc (.cells #[Value.int .i64 0, .int .i32 0] 49)).cell? ⟨b, off + q * 2, none⟩ = some (.int .i64 op) := hoA.cell s0 (fun h => h)
    have as1 : (w1.drew.alloc (.cells #[Value.int .i64 0, .int .i32 0] 49)).cell? ⟨b, off + q * 2 + 1, none⟩ = some (.int .i32 k) := hoA.cell s1 (fun h => h)
    have HO1 := Lib.hid ho1
    clear hw1 c8 c0 r0 r1 hlt hblt ho1 hoA
    go_region
    have hB := Blk.new w1 #[Value.int .i64 op, .int .i32 k] 49
    have ho2 : Only Nil w1 (w1.alloc (.cells #[Value.int .i64 op, .int .i32 k] 49)).drew := ((Only.refl _ _).alloc _).drew
    obtain ⟨w2, hw2⟩ : ∃ w2, (w1.alloc (.cells #[Value.int .i64 op, .int .i32 k] 49)).drew = w2 := ⟨_, rfl⟩
    have t0 : w2.cell? ⟨w1.heap.size, 0, none⟩ = some (.int .i64 op) := by rw [← hw2]; exact hB.cell 0
    have t1 : w2.cell? ⟨w1.heap.size, 1, none⟩ = some (.int .i32 k) := by rw [← hw2]; exact hB.cell 1
    have t2 : w1.heap.size < w2.heap.size := by rw [← hw2]; exact hB.lt
    rw [hw2] at ho2 ⊢
    have ho3 := HO1.out.trans ho2 (fun _ _ h => h)
    obtain ⟨v, hv⟩ : ∃ v, w1.heap.size = v := ⟨_, rfl⟩
    rw [hv] at t0 t1 t2 ⊢
    have hM2 := HM.out.quiet ho3
    have HM2 := Lib.hid hM2
    have HO3 := Lib.hid ho3
    clear hw2 hv hB ho2 ho3 hM2 g8 g0 s0 s1 lm lb a8 a0 as0 as1 HO1 HM
    have cH := fun w => has_any op w
    by_cases hk0 : k = 0
    · have hk1 : (k != 0) = false := by simpa using hk0
      have hXX : Hid (sExec s ⟨op, k⟩ = X) := Lib.hid (by rw [← HX.out, if_neg (fun h => h.1 hk0)])
      clear hk0 HX
      by_cases ht : isTurn op = true
      · have cT := turn_any (Q := Q) mb wb ⟨op, k⟩ ht hk code s _ sv kv iv ov w2 HM2.out HS.out hp00
        rw [show sTurn s ⟨op, k⟩ = X by rw [← hXX.out]; unfold sExec; rw [if_pos ht]] at cT
        rw [show (⟨op, k⟩ : Cod).val = .agg #[.int .i64 op, .int .i32 k] from rfl] at cT
        have ht2 := (isTurn_iff op).1 ht
        clear ht hXX
        rcases ht2 with rfl | rfl | rfl | rfl | rfl | rfl
        all_goals
          go_wp2_with fail
          refine cT.mono ?_
          rintro e w4 hd
          obtain ⟨sv', kv', iv', ov', rfl, hg, hM'⟩ := hd.from HO3.out
          go_wp2_with fail
          go_ret
          exact ⟨sv', kv', iv', ov', rfl, hg, hM'⟩
      · have cC := change_any (Q := Q) mb wb ⟨op, k⟩ hk code s _ sv kv iv ov w2 HM2.out HS.out hol
        rw [show (⟨op, k⟩ : Cod).val = .agg #[.int .i64 op, .int .i32 k] from rfl] at cC
        have hX2 : X = (sChange s ⟨op, k⟩).map sNext := by rw [← hXX.out]; unfold sExec; rw [if_neg ht]
        have ht2 := fun h => ht ((isTurn_iff op).2 h)
        have h0 : (op == 0) = false := not_beq (fun h => ht2 (by omega))
        have h30 : (op == 30) = false := not_beq (fun h => ht2 (by omega))
        have h25 : (op == 25) = false := not_beq (fun h => ht2 (by omega))
        have h26 : (op == 26) = false := not_beq (fun h => ht2 (by omega))
        have h27 : (op == 27) = false := not_beq (fun h => ht2 (by omega))
        have h29 : (op == 29) = false := not_beq (fun h => ht2 (by omega))
        clear ht ht2 hXX
        cases hR : sChange s ⟨op, k⟩ with
        | none =>
          rw [hR] at cC hX2
          subst hX2
          clear hR
          go_wp2_with fail
          refine cC.mono ?_
          rintro e w4 hd
          obtain ⟨sv', kv', iv', ov', rfl, hg, hM'⟩ := hd.from HO3.out
          have HG := Lib.hid hg
          have HM' := Lib.hid hM'
          clear hd hg hM' cC
          simp only [Option.isSome]
          go_wp2_with fail
          go_ret
          exact ⟨sv', kv', iv', ov', rfl, HG.out, HM'.out⟩
        | some t =>
          have hpc := (sChange_pc hR).trans HQ.out
          rw [hR] at cC hX2
          subst hX2
          have HPC := Lib.hid hpc
          clear hR hpc
          go_wp2_with fail
          refine cC.mono ?_
          rintro e w4 hd
          obtain ⟨sv', kv', iv', ov', rfl, hg, hM'⟩ := hd.from HO3.out
          have hM' : SAt Q w4 mb wb code t _ sv' kv' iv' ov' := hM'
          have m8 : w4.cell? ⟨mb, 8, none⟩ = some (.int .i64 t.pc) := hM'.blk.cell 8
          have mf := hM'.blk.free 8
          have ml := hM'.blk.lt
          rw [HPC.out] at m8
          have HG := Lib.hid hg
          have HM' := Lib.hid hM'
          clear hd hg hM' cC
          simp only [Option.isSome]
          go_wp2_with fail
          go_ret
          have hN := HM'.out.pcTo ((q : Int) + 1)
          refine ⟨sv', kv', iv', ov', rfl, HG.out.trans (Gone.of_one hN.2), ?_⟩
          have e9 : sNext t = { t with pc := (q : Int) + 1 } := by unfold sNext; rw [HPC.out]
          show SAt Q _ mb wb code (sNext t) _ sv' kv' iv' ov'
          rw [e9]
          exact hN.1
    · have hk1 : (k != 0) = true := by simpa using hk0
      obtain ⟨g, hg⟩ : ∃ g, hasK op = g := ⟨_, rfl⟩
      rw [hg] at cH
      cases g
      · have hXX : Hid (none = X) := Lib.hid (by rw [← HX.out, if_pos ⟨hk0, hg⟩])
        clear hk0 HX hg
        go_wp2_with fail
        refine (cH _).mono ?_
        rintro e w3 ⟨rfl, rfl⟩
        go_wp2_with fail
        go_ret
        rw [← hXX.out]
        exact ⟨sv, kv, iv, ov, rfl, Gone.of_nil HO3.out, HM2.out⟩
      · have hXX : Hid (sExec s ⟨op, k⟩ = X) := Lib.hid (by rw [← HX.out, if_neg (fun h => by rw [hg] at h; cases h.2)])
        clear hk0 HX hg
        go_wp2_with fail
        refine (cH _).mono ?_
        rintro e w3 ⟨rfl, rfl⟩
        clear cH
        by_cases ht : isTurn op = true
        · have cT := turn_any (Q := Q) mb wb ⟨op, k⟩ ht hk code s _ sv kv iv ov w2 HM2.out HS.out hp00
          rw [show sTurn s ⟨op, k⟩ = X by rw [← hXX.out]; unfold sExec; rw [if_pos ht]] at cT
          rw [show (⟨op, k⟩ : Cod).val = .agg #[.int .i64 op, .int .i32 k] from rfl] at cT
          have ht2 := (isTurn_iff op).1 ht
          clear ht hXX
          rcases ht2 with rfl | rfl | rfl | rfl | rfl | rfl
          all_goals
            go_wp2_with fail
            refine cT.mono ?_
            rintro e w4 hd
            obtain ⟨sv', kv', iv', ov', rfl, hg, hM'⟩ := hd.from HO3.out
            go_wp2_with fail
            go_ret
            exact ⟨sv', kv', iv', ov', rfl, hg, hM'⟩
        · have cC := change_any (Q := Q) mb wb ⟨op, k⟩ hk code s _ sv kv iv ov w2 HM2.out HS.out hol
          rw [show (⟨op, k⟩ : Cod).val = .agg #[.int .i64 op, .int .i32 k] from rfl] at cC
          have hX2 : X = (sChange s ⟨op, k⟩).map sNext := by rw [← hXX.out]; unfold sExec; rw [if_neg ht]
          have ht2 := fun h => ht ((isTurn_iff op).2 h)
          have h0 : (op == 0) = false := not_beq (fun h => ht2 (by omega))
          have h30 : (op == 30) = false := not_beq (fun h => ht2 (by omega))
          have h25 : (op == 25) = false := not_beq (fun h => ht2 (by omega))
          have h26 : (op == 26) = false := not_beq (fun h => ht2 (by omega))
          have h27 : (op == 27) = false := not_beq (fun h => ht2 (by omega))
          have h29 : (op == 29) = false := not_beq (fun h => ht2 (by omega))
          clear ht ht2 hXX
          cases hR : sChange s ⟨op, k⟩ with
          | none =>
            rw [hR] at cC hX2
            subst hX2
            clear hR
            go_wp2_with fail
            refine cC.mono ?_
            rintro e w4 hd
            obtain ⟨sv', kv', iv', ov', rfl, hg, hM'⟩ := hd.from HO3.out
            have HG := Lib.hid hg
            have HM' := Lib.hid hM'
            clear hd hg hM' cC
            simp only [Option.isSome]
            go_wp2_with fail
            go_ret
            exact ⟨sv', kv', iv', ov', rfl, HG.out, HM'.out⟩
          | some t =>
            have hpc := (sChange_pc hR).trans HQ.out
            rw [hR] at cC hX2
            subst hX2
            have HPC := Lib.hid hpc
            clear hR hpc
            go_wp2_with fail
            refine cC.mono ?_
            rintro e w4 hd
            obtain ⟨sv', kv', iv', ov', rfl, hg, hM'⟩ := hd.from HO3.out
            have hM' : SAt Q w4 mb wb code t _ sv' kv' iv' ov' := hM'
            have m8 : w4.cell? ⟨mb, 8, none⟩ = some (.int .i64 t.pc) := hM'.blk.cell 8
            have mf := hM'.blk.free 8
            have ml := hM'.blk.lt
            rw [HPC.out] at m8
            have HG := Lib.hid hg
            have HM' := Lib.hid hM'
            clear hd hg hM' cC
            simp only [Option.isSome]
            go_wp2_with fail
            go_ret
            have hN := HM'.out.pcTo ((q : Int) + 1)
            refine ⟨sv', kv', iv', ov', rfl, HG.out.trans (Gone.of_one hN.2), ?_⟩
            have e9 : sNext t = { t with pc := (q : Int) + 1 } := by unfold sNext; rw [HPC.out]
            show SAt Q _ mb wb code (sNext t) _ sv' kv' iv' ov'
            rw [e9]
            exact hN.1
  · rw [sDo_out code s hin]
    have he : decide (s.pc < 0) = true ∨ (decide (s.pc < 0) = false ∧ decide ((code.length : Int) ≤ s.pc) = true) := by
      by_cases h : s.pc < 0
      · exact Or.inl (by simpa using h)
      · exact Or.inr ⟨by simp; omega, by simp; omega⟩
    obtain ⟨p, hp⟩ : ∃ p, s.pc = p := ⟨_, rfl⟩
    obtain ⟨n, hn⟩ : ∃ n, code.length = n := ⟨_, rfl⟩
    rw [hp] at c8
    rw [hn] at c0
    rw [hp, hn] at he
    clear hM hs hin e2 e3 e4 e5 e6 hp hn
    rcases he with he | ⟨he, he2⟩
    · go_enter Try.func54, Try.ntmps54
      go_wp2_with fail
      go_quiet (fail)
      go_wp2_with fail
      go_ret
      exact ⟨sv, kv, iv, ov, rfl, Gone.of_nil (by (repeat with_reducible first | exact Only.refl _ _ | refine M.Only.drewN ?_ _ | refine Only.drew ?_)), HM.out.quiet (by (repeat with_reducible first | exact Only.refl _ _ | refine M.Only.drewN ?_ _ | refine Only.drew ?_))⟩
    · go_enter Try.func54, Try.ntmps54
      go_wp2_with fail
      go_quiet (fail)
      go_wp2_with fail
      go_ret
      exact ⟨sv, kv, iv, ov, rfl, Gone.of_nil (by (repeat with_reducible first | exact Only.refl _ _ | refine M.Only.drewN ?_ _ | refine Only.drew ?_)), HM.out.quiet (by (repeat with_reducible first | exact Only.refl _ _ | refine M.Only.drewN ?_ _ | refine Only.drew ?_))⟩
end Go.Proofs.Ytbgmdckfkfkglaa
