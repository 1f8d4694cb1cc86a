/- The stack machine: its next instruction. -/
import Derived.Test.YtpnhjjihdcopnaaSEnter
import Derived.Test.YtpnhjjihdcopnaaSTurn
import Derived.Test.YtpnhjjihdcopnaaCPut
import Derived.BigQuiet
import Derived.Laws.Closers25b
import Derived.Test.YtpnhjjihdcopnaaNum
import Derived.Deep.RegionHeld3
import Derived.Deep.RegionLaw
import Derived.Handy
import Derived.Deep.LoopGhost
import Derived.Deep.DeepCutAuto
set_option linter.unusedSimpArgs false
set_option linter.unusedVariables false
namespace Go.Proofs.Ytpnhjjihdcopnaa
open Go.RowKit M
variable {Q : Nat → Prop}

theorem M.sOne_pc {s t : SS} {op : Int} (e : sOne s op = some t) : t.pc = s.pc := by
  unfold sOne at e
  (repeat' split at e) <;> first | (cases e; done) | exact (puts_keeps e).1
theorem M.sTwo_pc {s t : SS} {c : Cod} (e : sTwo s c = some t) : t.pc = s.pc := by
  unfold sTwo at e
  (repeat' split at e) <;> first | (cases e; done) | exact (puts_keeps e).1 | skip
  cases h : reck c.op (opd s 1) (opd s 0) with
  | none => rw [h] at e; cases e
  | some v => rw [h] at e; exact (puts_keeps (show puts s 2 [v] = some t from e)).1
theorem M.sChange_pc {s t : SS} {c : Cod} (e : sChange s c = some t) : t.pc = s.pc := by
  unfold sChange at e
  split at e
  · exact (puts_keeps e).1
  split at e
  · exact (puts_keeps e).1
  split at e
  · unfold sEnter at e
    split at e
    · cases e
    · injection e with e; subst e; rfl
  split at e
  · unfold sGetc at e
    split at e
    · exact (puts_keeps e).1
    · cases h : puts s 0 [((s.inp.getD 0 0 : Nat) : Int)] with
      | none => rw [h] at e; cases e
      | some u => rw [h] at e; injection e with e; subst e; exact (puts_keeps h).1
  split at e
  · exact (puts_keeps e).1
  split at e
  · exact sOne_pc e
  · exact sTwo_pc e
theorem M.isTurn_iff (op : Int) : isTurn op = true ↔ (op = 0 ∨ op = 30 ∨ op = 25 ∨ op = 26 ∨ op = 27 ∨ op = 29) := by unfold isTurn; simp
theorem M.reck_far (op a b : Int) (h : ¬ (0 ≤ op ∧ op < 34)) : reck op a b = none := by
  unfold reck
  simp only [show ¬ op = 9 by omega, show ¬ op = 10 by omega, show ¬ op = 11 by omega, show ¬ op = 12 by omega, show ¬ op = 13 by omega, show ¬ op = 15 by omega, show ¬ op = 16 by omega, show ¬ op = 17 by omega, show ¬ op = 19 by omega, show ¬ op = 20 by omega, show ¬ op = 21 by omega, show ¬ op = 22 by omega, show ¬ op = 23 by omega, show ¬ op = 24 by omega, if_false]
theorem M.sExec_far (s : SS) (c : Cod) (h : ¬ (0 ≤ c.op ∧ c.op < 34)) : sExec s c = none := by
  have ht : isTurn c.op = false := by rw [Bool.eq_false_iff]; intro e; rw [isTurn_iff] at e; omega
  unfold sExec
  rw [ht, if_neg (by decide)]
  have e : sChange s c = none := by
    unfold sChange
    rw [if_neg (by omega), if_neg (by omega), if_neg (by omega), if_neg (by omega), if_neg (by omega), if_neg (by omega)]
    unfold sTwo
    rw [if_neg (show ¬ c.op = 4 by omega), if_neg (show ¬ c.op = 7 by omega), if_neg (show ¬ c.op = 8 by omega), reck_far _ _ _ h]
    split <;> rfl
  rw [e]
  rfl
/-- The next instruction is there. -/
theorem M.sDo_in (code : List Cod) (s : SS) (q : Nat) (hq : s.pc = q) (hl : q < code.length) : sDo code s = if (code.getD q default).k ≠ 0 ∧ hasK (code.getD q default).op = false then none else sExec s (code.getD q default) := by
  unfold sDo
  rw [hq, if_pos (by omega), Int.toNat_natCast]
  generalize code.getD q default = c
  by_cases h : c.k ≠ 0 ∧ hasK c.op = false
  · rw [if_pos h, if_neg]
    rintro ⟨_, _, h1 | h1⟩
    · exact h.1 h1
    · rw [h.2] at h1; cases h1
  · rw [if_neg h]
    by_cases h2 : 0 ≤ c.op ∧ c.op < 34
    · rw [if_pos]
      refine ⟨h2.1, h2.2, ?_⟩
      by_cases hk : c.k = 0
      · exact Or.inl hk
      · exact Or.inr (by cases hh : hasK c.op with
          | true => rfl
          | false => exact absurd ⟨hk, hh⟩ h)
    · rw [sExec_far _ _ h2]
      split <;> rfl
theorem M.sDo_out (code : List Cod) (s : SS) (h : ¬ (0 ≤ s.pc ∧ s.pc < code.length)) : sDo code s = none := by unfold sDo; rw [if_neg h]

set_option maxRecDepth 10000 in
set_option maxHeartbeats 3200000 in
theorem doS_any (mb wb : Nat) (code : List Cod) (hc : ∀ c ∈ code, I32 c.k) (s : SS) (cv sv kv iv ov : Value) (w : World) (hM : SAt Q w mb wb code s cv sv kv iv ov) (hs : s.Ok) (hol : s.out.length ≤ 1099511627776) :
    Calls Try.prog 32 #[.pointer (some ⟨mb, 0, none⟩)] w (SDoes Q w mb wb code s cv sv kv iv ov (sDo code s)) := by
  have c8 : w.cell? ⟨mb, 8, none⟩ = some (.int .i64 s.pc) := hM.blk.cell 8
  have c0 : w.cell? ⟨mb, 0, none⟩ = some cv := hM.blk.cell 0
  have hlt := hM.blk.lt
  obtain ⟨b, ao, cap, off, e1, e2, e3, e4, e5, e6⟩ := hM.cod
  subst e1
  have HM := Lib.hid hM
  by_cases hin : 0 ≤ s.pc ∧ s.pc < code.length
  · obtain ⟨q, hq⟩ : ∃ q : Nat, s.pc = q := ⟨s.pc.toNat, by omega⟩
    have hql : q < code.length := by omega
    rw [sDo_in code s q hq hql]
    rw [hq] at c8
    have ea := e4 (by omega)
    subst ea
    have hblt := (e6 (by omega)).2
    have hat : code[q]? = some (code.getD q default) := by simp [List.getD, hql]
    obtain ⟨r0, r1⟩ := e5 q _ hat
    have hk := hc (code.getD q default) (List.mem_of_getElem? hat)
    obtain ⟨op, k, hcd⟩ : ∃ op k, code.getD q default = ⟨op, k⟩ := ⟨_, _, rfl⟩
    rw [hcd] at r0 r1 hk ⊢
    simp only at r0 r1 hk ⊢
    obtain ⟨X, hX⟩ : ∃ X, (if k ≠ 0 ∧ hasK op = false then none else sExec s ⟨op, k⟩) = X := ⟨_, rfl⟩
    rw [hX]
    have HX := Lib.hid hX
    have hq2 : (q : Int) ≤ 2147483647 := by have := hs.pc2; omega
    have hp00 : 0 ≤ s.pc := hin.1
    obtain ⟨n, hn⟩ : ∃ n, code.length = n := ⟨_, rfl⟩
    rw [hn] at c0 e2 hql
    have p0 : (0 : Int) ≤ (q : Int) := Int.natCast_nonneg _
    have p1 : (q : Int) < (n : Int) := by omega
    have d0 : decide ((q : Int) < 0) = false := by simp
    have d1 : decide ((n : Int) ≤ (q : Int)) = false := by simp; omega
    unfold maxLen at e3
    have HQ := Lib.hid hq
    have HS := Lib.hid hs
    have hZ : (zeroValue 55).run Try.prog w = .ok (.agg #[.int .i64 0, .int .i32 0]) w := by kernel_rfl
    clear hX hM hs hq hcd hat hn e4 e5 e6 hin hql
    go_enter Try.func32, Try.ntmps32
    go_wp2_with fail
    go_quiet (fail)
    go_wp2_with fail
    obtain ⟨w1, hw1⟩ : ∃ w1, w.drewN nq = w1 := ⟨_, rfl⟩
    have ho1 : Only Nil w w1 := by rw [← hw1]; exact M.Only.drewN (Only.refl _ _) _
    have g8 : w1.cell? ⟨mb, 8, none⟩ = some (.int .i64 (q : Nat)) := by rw [← hw1]; exact c8
    have g0 : w1.cell? ⟨mb, 0, none⟩ = some (.slice (some ⟨b, off, none⟩) n cap) := by rw [← hw1]; exact c0
    have s0 : w1.cell? ⟨b, off + q * 2, none⟩ = some (.int .i64 op) := by rw [← hw1]; exact r0
    have s1 : w1.cell? ⟨b, off + q * 2 + 1, none⟩ = some (.int .i32 k) := by rw [← hw1]; exact r1
    have lm : mb < w1.heap.size := by rw [← hw1]; exact hlt
    have lb : b < w1.heap.size := by rw [← hw1]; exact hblt
    rw [hw1]
    have hoA : Only Nil w1 (w1.drew.alloc (.cells #[Value.int .i64 0, .int .i32 0] 55)) := ((Only.refl _ _).drew).alloc _
    have a8 : (w1.drew.alloc (.cells #[Value.int .i64 0, .int .i32 0] 55)).cell? ⟨mb, 8, none⟩ = some (.int .i64 (q : Nat)) := hoA.cell g8 (fun h => h)
    have a0 : (w1.drew.alloc (.cells #[Value.int .i64 0, .int .i32 0] 55)).cell? ⟨mb, 0, none⟩ = some (.slice (some ⟨b, off, none⟩) n cap) := hoA.cell g0 (fun h => h)
    have as0 : (w1.drew.alloc (.cells #[Value.int .i64 0, .int .i32 0] 55)).cell? ⟨b, off + q * 2, none⟩ = some (.int .i64 op) := hoA.cell s0 (fun h => h)
    have as1 : (w1.drew.alloc (.cells #[Value.int .i64 0, .int .i32 0] 55)).cell? ⟨b, off + q * 2 + 1, none⟩ = some (.int .i32 k) := hoA.cell s1 (fun h => h)
    have HO1 := Lib.hid ho1
    clear hw1 c8 c0 r0 r1 hlt hblt ho1 hoA
    go_region
    have hB := Blk.new w1 #[Value.int .i64 op, .int .i32 k] 55
    have ho2 : Only Nil w1 (w1.alloc (.cells #[Value.int .i64 op, .int .i32 k] 55)).drew := ((Only.refl _ _).alloc _).drew
    obtain ⟨w2, hw2⟩ : ∃ w2, (w1.alloc (.cells #[Value.int .i64 op, .int .i32 k] 55)).drew = w2 := ⟨_, rfl⟩
    have t0 : w2.cell? ⟨w1.heap.size, 0, none⟩ = some (.int .i64 op) := by rw [← hw2]; exact hB.cell 0
    have t1 : w2.cell? ⟨w1.heap.size, 1, none⟩ = some (.int .i32 k) := by rw [← hw2]; exact hB.cell 1
    have t2 : w1.heap.size < w2.heap.size := by rw [← hw2]; exact hB.lt
    rw [hw2] at ho2 ⊢
    have ho3 := HO1.out.trans ho2 (fun _ _ h => h)
    obtain ⟨v, hv⟩ : ∃ v, w1.heap.size = v := ⟨_, rfl⟩
    rw [hv] at t0 t1 t2 ⊢
    have hM2 := HM.out.quiet ho3
    have HM2 := Lib.hid hM2
    have HO3 := Lib.hid ho3
    clear hw2 hv hB ho2 ho3 hM2 g8 g0 s0 s1 lm lb a8 a0 as0 as1 HO1 HM
    have cH := fun w => has_any op w
    by_cases hk0 : k = 0
    · have hk1 : (k != 0) = false := by simpa using hk0
      have hXX : Hid (sExec s ⟨op, k⟩ = X) := Lib.hid (by rw [← HX.out, if_neg (fun h => h.1 hk0)])
      clear hk0 HX
      by_cases ht : isTurn op = true
      · have cT := turn_any (Q := Q) mb wb ⟨op, k⟩ ht hk code s _ sv kv iv ov w2 HM2.out HS.out hp00
        rw [show sTurn s ⟨op, k⟩ = X by rw [← hXX.out]; unfold sExec; rw [if_pos ht]] at cT
        rw [show (⟨op, k⟩ : Cod).val = .agg #[.int .i64 op, .int .i32 k] from rfl] at cT
        have ht2 := (isTurn_iff op).1 ht
        clear ht hXX
        rcases ht2 with rfl | rfl | rfl | rfl | rfl | rfl
        all_goals
          go_wp2_with fail
          refine cT.mono ?_
          rintro e w4 hd
          obtain ⟨sv', kv', iv', ov', rfl, hg, hM'⟩ := hd.from HO3.out
          go_wp2_with fail
          go_ret
          exact ⟨sv', kv', iv', ov', rfl, hg, hM'⟩
      · have cC := change_any (Q := Q) mb wb ⟨op, k⟩ hk code s _ sv kv iv ov w2 HM2.out HS.out hol
        rw [show (⟨op, k⟩ : Cod).val = .agg #[.int .i64 op, .int .i32 k] from rfl] at cC
        have hX2 : X = (sChange s ⟨op, k⟩).map sNext := by rw [← hXX.out]; unfold sExec; rw [if_neg ht]
        have ht2 := fun h => ht ((isTurn_iff op).2 h)
        have h0 : (op == 0) = false := not_beq (fun h => ht2 (by omega))
        have h30 : (op == 30) = false := not_beq (fun h => ht2 (by omega))
        have h25 : (op == 25) = false := not_beq (fun h => ht2 (by omega))
        have h26 : (op == 26) = false := not_beq (fun h => ht2 (by omega))
        have h27 : (op == 27) = false := not_beq (fun h => ht2 (by omega))
        have h29 : (op == 29) = false := not_beq (fun h => ht2 (by omega))
        clear ht ht2 hXX
        cases hR : sChange s ⟨op, k⟩ with
        | none =>
          rw [hR] at cC hX2
          subst hX2
          clear hR
          go_wp2_with fail
          refine cC.mono ?_
          rintro e w4 hd
          obtain ⟨sv', kv', iv', ov', rfl, hg, hM'⟩ := hd.from HO3.out
          have HG := Lib.hid hg
          have HM' := Lib.hid hM'
          clear hd hg hM' cC
          simp only [Option.isSome]
          go_wp2_with fail
          go_ret
          exact ⟨sv', kv', iv', ov', rfl, HG.out, HM'.out⟩
        | some t =>
          have hpc := (sChange_pc hR).trans HQ.out
          rw [hR] at cC hX2
          subst hX2
          have HPC := Lib.hid hpc
          clear hR hpc
          go_wp2_with fail
          refine cC.mono ?_
          rintro e w4 hd
          obtain ⟨sv', kv', iv', ov', rfl, hg, hM'⟩ := hd.from HO3.out
          have hM' : SAt Q w4 mb wb code t _ sv' kv' iv' ov' := hM'
          have m8 : w4.cell? ⟨mb, 8, none⟩ = some (.int .i64 t.pc) := hM'.blk.cell 8
          have mf := hM'.blk.free 8
          have ml := hM'.blk.lt
          rw [HPC.out] at m8
          have HG := Lib.hid hg
          have HM' := Lib.hid hM'
          clear hd hg hM' cC
          simp only [Option.isSome]
          go_wp2_with fail
          go_ret
          have hN := HM'.out.pcTo ((q : Int) + 1)
          refine ⟨sv', kv', iv', ov', rfl, HG.out.trans (Gone.of_one hN.2), ?_⟩
          have e9 : sNext t = { t with pc := (q : Int) + 1 } := by unfold sNext; rw [HPC.out]
          show SAt Q _ mb wb code (sNext t) _ sv' kv' iv' ov'
          rw [e9]
          exact hN.1
    · have hk1 : (k != 0) = true := by simpa using hk0
      obtain ⟨g, hg⟩ : ∃ g, hasK op = g := ⟨_, rfl⟩
      rw [hg] at cH
      cases g
      · have hXX : Hid (none = X) := Lib.hid (by rw [← HX.out, if_pos ⟨hk0, hg⟩])
        clear hk0 HX hg
        go_wp2_with fail
        refine (cH _).mono ?_
        rintro e w3 ⟨rfl, rfl⟩
        go_wp2_with fail
        go_ret
        rw [← hXX.out]
        exact ⟨sv, kv, iv, ov, rfl, Gone.of_nil HO3.out, HM2.out⟩
      · have hXX : Hid (sExec s ⟨op, k⟩ = X) := Lib.hid (by rw [← HX.out, if_neg (fun h => by rw [hg] at h; cases h.2)])
        clear hk0 HX hg
        go_wp2_with fail
        refine (cH _).mono ?_
        rintro e w3 ⟨rfl, rfl⟩
        clear cH
        by_cases ht : isTurn op = true
        · have cT := turn_any (Q := Q) mb wb ⟨op, k⟩ ht hk code s _ sv kv iv ov w2 HM2.out HS.out hp00
          rw [show sTurn s ⟨op, k⟩ = X by rw [← hXX.out]; unfold sExec; rw [if_pos ht]] at cT
          rw [show (⟨op, k⟩ : Cod).val = .agg #[.int .i64 op, .int .i32 k] from rfl] at cT
          have ht2 := (isTurn_iff op).1 ht
          clear ht hXX
          rcases ht2 with rfl | rfl | rfl | rfl | rfl | rfl
          all_goals
            go_wp2_with fail
            refine cT.mono ?_
            rintro e w4 hd
            obtain ⟨sv', kv', iv', ov', rfl, hg, hM'⟩ := hd.from HO3.out
            go_wp2_with fail
            go_ret
            exact ⟨sv', kv', iv', ov', rfl, hg, hM'⟩
        · have cC := change_any (Q := Q) mb wb ⟨op, k⟩ hk code s _ sv kv iv ov w2 HM2.out HS.out hol
          rw [show (⟨op, k⟩ : Cod).val = .agg #[.int .i64 op, .int .i32 k] from rfl] at cC
          have hX2 : X = (sChange s ⟨op, k⟩).map sNext := by rw [← hXX.out]; unfold sExec; rw [if_neg ht]
          have ht2 := fun h => ht ((isTurn_iff op).2 h)
          have h0 : (op == 0) = false := not_beq (fun h => ht2 (by omega))
          have h30 : (op == 30) = false := not_beq (fun h => ht2 (by omega))
          have h25 : (op == 25) = false := not_beq (fun h => ht2 (by omega))
          have h26 : (op == 26) = false := not_beq (fun h => ht2 (by omega))
          have h27 : (op == 27) = false := not_beq (fun h => ht2 (by omega))
          have h29 : (op == 29) = false := not_beq (fun h => ht2 (by omega))
          clear ht ht2 hXX
          cases hR : sChange s ⟨op, k⟩ with
          | none =>
            rw [hR] at cC hX2
            subst hX2
            clear hR
            go_wp2_with fail
            refine cC.mono ?_
            rintro e w4 hd
            obtain ⟨sv', kv', iv', ov', rfl, hg, hM'⟩ := hd.from HO3.out
            have HG := Lib.hid hg
            have HM' := Lib.hid hM'
            clear hd hg hM' cC
            simp only [Option.isSome]
            go_wp2_with fail
            go_ret
            exact ⟨sv', kv', iv', ov', rfl, HG.out, HM'.out⟩
          | some t =>
            have hpc := (sChange_pc hR).trans HQ.out
            rw [hR] at cC hX2
            subst hX2
            have HPC := Lib.hid hpc
            clear hR hpc
            go_wp2_with fail
            refine cC.mono ?_
            rintro e w4 hd
            obtain ⟨sv', kv', iv', ov', rfl, hg, hM'⟩ := hd.from HO3.out
            have hM' : SAt Q w4 mb wb code t _ sv' kv' iv' ov' := hM'
            have m8 : w4.cell? ⟨mb, 8, none⟩ = some (.int .i64 t.pc) := hM'.blk.cell 8
            have mf := hM'.blk.free 8
            have ml := hM'.blk.lt
            rw [HPC.out] at m8
            have HG := Lib.hid hg
            have HM' := Lib.hid hM'
            clear hd hg hM' cC
            simp only [Option.isSome]
            go_wp2_with fail
            go_ret
            have hN := HM'.out.pcTo ((q : Int) + 1)
            refine ⟨sv', kv', iv', ov', rfl, HG.out.trans (Gone.of_one hN.2), ?_⟩
            have e9 : sNext t = { t with pc := (q : Int) + 1 } := by unfold sNext; rw [HPC.out]
            show SAt Q _ mb wb code (sNext t) _ sv' kv' iv' ov'
            rw [e9]
            exact hN.1
  · rw [sDo_out code s hin]
    have he : decide (s.pc < 0) = true ∨ (decide (s.pc < 0) = false ∧ decide ((code.length : Int) ≤ s.pc) = true) := by
      by_cases h : s.pc < 0
      · exact Or.inl (by simpa using h)
      · exact Or.inr ⟨by simp; omega, by simp; omega⟩
    obtain ⟨p, hp⟩ : ∃ p, s.pc = p := ⟨_, rfl⟩
    obtain ⟨n, hn⟩ : ∃ n, code.length = n := ⟨_, rfl⟩
    rw [hp] at c8
    rw [hn] at c0
    rw [hp, hn] at he
    clear hM hs hin e2 e3 e4 e5 e6 hp hn
    rcases he with he | ⟨he, he2⟩
    · go_enter Try.func32, Try.ntmps32
      go_wp2_with fail
      go_quiet (fail)
      go_wp2_with fail
      go_ret
      exact ⟨sv, kv, iv, ov, rfl, Gone.of_nil (by (repeat with_reducible first | exact Only.refl _ _ | refine M.Only.drewN ?_ _ | refine Only.drew ?_)), HM.out.quiet (by (repeat with_reducible first | exact Only.refl _ _ | refine M.Only.drewN ?_ _ | refine Only.drew ?_))⟩
    · go_enter Try.func32, Try.ntmps32
      go_wp2_with fail
      go_quiet (fail)
      go_wp2_with fail
      go_ret
      exact ⟨sv, kv, iv, ov, rfl, Gone.of_nil (by (repeat with_reducible first | exact Only.refl _ _ | refine M.Only.drewN ?_ _ | refine Only.drew ?_)), HM.out.quiet (by (repeat with_reducible first | exact Only.refl _ _ | refine M.Only.drewN ?_ _ | refine Only.drew ?_))⟩
end Go.Proofs.Ytpnhjjihdcopnaa

/- The stack machine's state keeps to what it keeps to. -/
set_option linter.unusedSimpArgs false
set_option linter.unusedVariables false
namespace Go.Proofs.Ytpnhjjihdcopnaa.M
open Go.RowKit

theorem nil32 : ∀ y ∈ ([] : List Int), I32 y := by intro y hy; cases hy
theorem one32 {x : Int} (h : I32 x) : ∀ y ∈ [x], I32 y := by intro y hy; rw [List.mem_singleton.1 hy]; exact h
theorem two32 {x z : Int} (h : I32 x) (h2 : I32 z) : ∀ y ∈ [x, z], I32 y := by
  intro y hy
  rcases List.mem_cons.1 hy with rfl | hy
  · exact h
  · exact one32 h2 y hy
theorem bits_i32 (op : BinOp) (a b : Int) : I32 (bits op .i32 a b) := by
  have h := bits_within op .i32 a b
  have h1 : IntKind.i32.min = -2147483648 := by decide
  have h2 : IntKind.i32.max = 2147483647 := by decide
  rw [h1, h2] at h
  exact h
theorem shr_i32 (a : Int) (k : Nat) (h : I32 a) : I32 (a / 2 ^ k) := by
  have hp : (1 : Int) ≤ 2 ^ k := by
    have h1 := Nat.pow_pos (n := k) (show 0 < 2 by decide)
    have e : ((2 ^ k : Nat) : Int) = 2 ^ k := by simp
    omega
  exact div_i32 a _ h hp
theorem mod_i32 (a b : Int) (hb : 1 ≤ b) (h : I32 b) : I32 (a % b) := by
  have h1 := Int.emod_nonneg a (show b ≠ 0 by omega)
  have h2 := Int.emod_lt_of_pos a (show 0 < b by omega)
  unfold I32 at *
  omega
theorem reck_i32 {op a b v : Int} (ha : I32 a) (hb : I32 b) (e : reck op a b = some v) : I32 v := by
  unfold reck at e
  by_cases h9 : op = 9
  · rw [if_pos h9] at e
    injection e with e; subst e; exact w32_i32 _
  rw [if_neg h9] at e
  by_cases h10 : op = 10
  · rw [if_pos h10] at e
    injection e with e; subst e; exact w32_i32 _
  rw [if_neg h10] at e
  by_cases h11 : op = 11
  · rw [if_pos h11] at e
    injection e with e; subst e; exact w32_i32 _
  rw [if_neg h11] at e
  by_cases h12 : op = 12
  · rw [if_pos h12] at e
    by_cases hb1 : b < 1
    · rw [if_pos hb1] at e; cases e
    · rw [if_neg hb1] at e; injection e with e; subst e; exact div_i32 _ _ ha (by omega)
  rw [if_neg h12] at e
  by_cases h13 : op = 13
  · rw [if_pos h13] at e
    by_cases hb1 : b < 1
    · rw [if_pos hb1] at e; cases e
    · rw [if_neg hb1] at e; injection e with e; subst e; exact mod_i32 _ _ (by omega) hb
  rw [if_neg h13] at e
  by_cases h15 : op = 15
  · rw [if_pos h15] at e
    injection e with e; subst e; exact bits_i32 _ _ _
  rw [if_neg h15] at e
  by_cases h16 : op = 16
  · rw [if_pos h16] at e
    injection e with e; subst e; exact bits_i32 _ _ _
  rw [if_neg h16] at e
  by_cases h17 : op = 17
  · rw [if_pos h17] at e
    injection e with e; subst e; exact bits_i32 _ _ _
  rw [if_neg h17] at e
  by_cases h19 : op = 19
  · rw [if_pos h19] at e
    injection e with e; subst e; exact w32_i32 _
  rw [if_neg h19] at e
  by_cases h20 : op = 20
  · rw [if_pos h20] at e
    injection e with e; subst e; exact shr_i32 _ _ ha
  rw [if_neg h20] at e
  by_cases h21 : op = 21
  · rw [if_pos h21] at e
    injection e with e; subst e; exact S_i32 _ (rorN_lt _ _ (U_lt _))
  rw [if_neg h21] at e
  by_cases h22 : op = 22
  · rw [if_pos h22] at e
    injection e with e; subst e; exact one_i32 _
  rw [if_neg h22] at e
  by_cases h23 : op = 23
  · rw [if_pos h23] at e
    injection e with e; subst e; exact one_i32 _
  rw [if_neg h23] at e
  by_cases h24 : op = 24
  · rw [if_pos h24] at e
    injection e with e; subst e; exact one_i32 _
  rw [if_neg h24] at e
  cases e

/-- What an instruction keeps, whatever it is. -/
structure Keeps (s t : SS) : Prop where
  ok : t.Ok
  mem : t.mem.length = s.mem.length
  out : t.out.length ≤ s.out.length + 1
theorem puts_k {s t : SS} {n : Nat} {l : List Int} (h : s.Ok) (hl : ∀ x ∈ l, I32 x) (e : puts s n l = some t) : Keeps s t := by
  obtain ⟨_, _, _, h1, h2, _⟩ := puts_keeps e
  exact ⟨puts_ok h hl e, by rw [h1], by rw [h2]; omega⟩
theorem sOne_k {s t : SS} {op : Int} (h : s.Ok) (e : sOne s op = some t) : Keeps s t := by
  have h0 := opd_i32 h 0
  unfold sOne at e
  split at e
  · cases e
  split at e
  · exact puts_k h nil32 e
  split at e
  · exact puts_k h (two32 h0 h0) e
  split at e
  · split at e
    · exact puts_k h (one32 (getD_mem h.mem (by unfold I32; omega) _)) e
    · cases e
  split at e
  · exact puts_k h (one32 (w32_i32 _)) e
  split at e
  · exact puts_k h (one32 (bits_i32 _ _ _)) e
  have hs : ({ s with out := s.out ++ [(opd s 0 % 256).toNat] } : SS).Ok := ⟨h.mem, h.ops, h.inp, fun x hx => by
    rcases List.mem_append.1 hx with hx | hx
    · exact h.out x hx
    · rw [List.mem_singleton.1 hx]; omega, h.len, h.nops, h.ncalls, h.fp, h.top, h.pc1, h.pc2, h.kept, h.fin, h.trap⟩
  have hk := puts_k hs nil32 e
  obtain ⟨_, _, _, h1, h2, _⟩ := puts_keeps e
  exact ⟨hk.ok, by rw [h1], by rw [h2]; simp⟩
theorem mem_ok {s : SS} (h : s.Ok) {m : List Int} (hl : m.length = s.mem.length) (hm : ∀ x ∈ m, I32 x) : ({ s with mem := m } : SS).Ok :=
  ⟨hm, h.ops, h.inp, h.out, by show m.length ≤ _; rw [hl]; exact h.len, h.nops, h.ncalls, by show _ ≤ m.length; rw [hl]; exact h.fp, by show _ ≤ m.length; rw [hl]; exact h.top, h.pc1, h.pc2, fun c hc => ⟨(h.kept c hc).1, by show _ ≤ m.length; rw [hl]; exact (h.kept c hc).2⟩, h.fin, h.trap⟩
theorem moved_i32 {m : List Int} (h : ∀ x ∈ m, I32 x) (p q k : Nat) : ∀ x ∈ moved m p q k, I32 x := by
  intro x hx
  unfold moved at hx
  rcases List.mem_append.1 hx with hx | hx
  · rcases List.mem_append.1 hx with hx | hx
    · exact h x (List.mem_of_mem_take hx)
    · exact h x (List.mem_of_mem_drop (List.mem_of_mem_take hx))
  · exact h x (List.mem_of_mem_drop hx)
theorem cleared_i32 {m : List Int} (h : ∀ x ∈ m, I32 x) (p k : Nat) : ∀ x ∈ cleared m p k, I32 x := by
  intro x hx
  unfold cleared at hx
  rcases List.mem_append.1 hx with hx | hx
  · rcases List.mem_append.1 hx with hx | hx
    · exact h x (List.mem_of_mem_take hx)
    · rw [List.eq_of_mem_replicate hx]; unfold I32; omega
  · exact h x (List.mem_of_mem_drop hx)
theorem memPuts_k {s t : SS} {n : Nat} {m : List Int} (h : s.Ok) (hl : m.length = s.mem.length) (hm : ∀ x ∈ m, I32 x) (e : puts { s with mem := m } n [] = some t) : Keeps s t := by
  have hk := puts_k (mem_ok h hl hm) nil32 e
  obtain ⟨_, _, _, h1, h2, _⟩ := puts_keeps e
  exact ⟨hk.ok, by rw [h1]; exact hl, by rw [h2]; exact Nat.le_succ _⟩
theorem sTwo_k {s t : SS} {c : Cod} (h : s.Ok) (e : sTwo s c = some t) : Keeps s t := by
  have h0 := opd_i32 h 0
  have h1 := opd_i32 h 1
  unfold sTwo at e
  split at e
  · cases e
  split at e
  · exact puts_k h (two32 h0 h1) e
  split at e
  · split at e
    · refine memPuts_k h (List.length_set ..) (fun x hx => ?_) e
      rcases List.mem_or_eq_of_mem_set hx with hx | rfl
      · exact h.mem x hx
      · exact h0
    · cases e
  split at e
  · split at e
    · rename_i g
      exact memPuts_k h (moved_len _ _ _ _ (by omega) (by omega)) (moved_i32 h.mem _ _ _) e
    · cases e
  cases hr : reck c.op (opd s 1) (opd s 0) with
  | none => rw [hr] at e; cases e
  | some v => rw [hr] at e; exact puts_k h (one32 (reck_i32 h1 h0 hr)) (show puts s 2 [v] = some t from e)
theorem sChange_k {s t : SS} {c : Cod} (h : s.Ok) (hk : I32 c.k) (e : sChange s c = some t) : Keeps s t := by
  unfold sChange at e
  split at e
  · exact puts_k h (one32 hk) e
  split at e
  · exact puts_k h (one32 (w32_i32 _)) e
  split at e
  · unfold sEnter at e
    split at e
    · cases e
    · rename_i g
      injection e with e
      have ht := h.top
      have hl : (cleared s.mem s.top c.k.toNat).length = s.mem.length := cleared_len _ _ _ (by omega)
      have hm := mem_ok h hl (cleared_i32 h.mem _ _)
      subst e
      refine ⟨⟨hm.mem, hm.ops, hm.inp, hm.out, hm.len, hm.nops, hm.ncalls, ?_, ?_, hm.pc1, hm.pc2, hm.kept, hm.fin, hm.trap⟩, hl, Nat.le_succ _⟩
      · show s.top ≤ (cleared s.mem s.top c.k.toNat).length
        rw [hl]; exact ht
      · show s.top + c.k.toNat ≤ (cleared s.mem s.top c.k.toNat).length
        rw [hl]; omega
  split at e
  · unfold sGetc at e
    have hb : I32 ((s.inp.getD 0 0 : Nat) : Int) := by
      have : s.inp.getD 0 0 < 256 := by
        rw [List.getD_eq_getElem?_getD]
        cases hx : s.inp[0]? with
        | none => decide
        | some x => exact h.inp x (List.mem_of_getElem? hx)
      unfold I32; omega
    split at e
    · exact puts_k h (one32 (by unfold I32; omega)) e
    · cases hx : puts s 0 [((s.inp.getD 0 0 : Nat) : Int)] with
      | none => rw [hx] at e; cases e
      | some u =>
        rw [hx] at e
        injection e with e
        have hu := puts_k h (one32 hb) hx
        obtain ⟨_, _, _, h1, h2, h3, _⟩ := puts_keeps hx
        subst e
        exact ⟨⟨hu.ok.mem, hu.ok.ops, fun x hx => h.inp x (List.mem_of_mem_drop hx), hu.ok.out, hu.ok.len, hu.ok.nops, hu.ok.ncalls, hu.ok.fp, hu.ok.top, hu.ok.pc1, hu.ok.pc2, hu.ok.kept, hu.ok.fin, hu.ok.trap⟩, hu.mem, hu.out⟩
  split at e
  · exact puts_k h (one32 (one_i32 _)) e
  split at e
  · exact sOne_k h e
  · exact sTwo_k h e
theorem sEnded_ok {s : SS} (h : s.Ok) {t : Nat} (ht : t ≤ 15) : (sEnded s t).Ok :=
  ⟨h.mem, h.ops, h.inp, h.out, h.len, h.nops, h.ncalls, h.fp, h.top, h.pc1, h.pc2, h.kept, by show (if t = 0 then 1 else 2) ≤ 2; split <;> omega, ht⟩
theorem pc_ok {s : SS} (h : s.Ok) {x : Int} (h1 : -2147483648 ≤ x) (h2 : x ≤ 2147483647) : ({ s with pc := x } : SS).Ok :=
  ⟨h.mem, h.ops, h.inp, h.out, h.len, h.nops, h.ncalls, h.fp, h.top, h1, h2, h.kept, h.fin, h.trap⟩
theorem sTurn_k {s t : SS} {c : Cod} (h : s.Ok) (hk : I32 c.k) (hp : 0 ≤ s.pc ∧ s.pc < 2147483647) (e : sTurn s c = some t) : Keeps s t := by
  unfold sTurn at e
  split at e
  · injection e with e; subst e; exact ⟨sEnded_ok h (by decide), rfl, Nat.le_succ _⟩
  split at e
  · split at e
    · cases e
    · injection e with e; subst e; exact ⟨sEnded_ok h (by omega), rfl, Nat.le_succ _⟩
  split at e
  · injection e with e; subst e; exact ⟨pc_ok h hk.1 (by have := hk.2; omega), rfl, Nat.le_succ _⟩
  split at e
  · split at e
    · cases e
    · injection e with e
      subst e
      have hx : ∀ x : Int, -2147483648 ≤ x → x ≤ 2147483647 → ({ s with ops := s.ops.take (s.ops.length - 1), pc := x } : SS).Ok := fun x h1 h2 =>
        ⟨h.mem, fun x hx => h.ops x (List.mem_of_mem_take hx), h.inp, h.out, h.len, by show (s.ops.take (s.ops.length - 1)).length ≤ 1000; have := h.nops; rw [List.length_take]; omega, h.ncalls, h.fp, h.top, h1, h2, h.kept, h.fin, h.trap⟩
      refine ⟨?_, rfl, Nat.le_succ _⟩
      unfold I32 at hk
      exact hx _ (by split <;> omega) (by split <;> omega)
  split at e
  · split at e
    · cases e
    · rename_i g
      injection e with e
      subst e
      unfold I32 at hk
      have hn := h.ncalls
      refine ⟨⟨h.mem, h.ops, h.inp, h.out, h.len, h.nops, by show (s.calls ++ [_]).length ≤ 1000; rw [List.length_append, List.length_singleton]; omega, h.fp, h.top, by show _ ≤ c.k; omega, by show c.k ≤ _; omega, fun x hx => ?_, h.fin, h.trap⟩, rfl, Nat.le_succ _⟩
      rcases List.mem_append.1 hx with hx | hx
      · exact h.kept x hx
      · rw [List.mem_singleton.1 hx]; exact ⟨by show (s.pc + 1).toNat ≤ _; omega, h.fp⟩
  split at e
  · cases e
  · rename_i x hx
    injection e with e
    subst e
    have hm := h.kept x (List.mem_of_getLast? hx)
    have hn := h.ncalls
    exact ⟨⟨h.mem, h.ops, h.inp, h.out, h.len, h.nops, by show s.calls.dropLast.length ≤ 1000; rw [List.length_dropLast]; omega, hm.2, h.fp, by show _ ≤ (x.1 : Int); omega, by show (x.1 : Int) ≤ _; omega, fun y hy => h.kept y (List.dropLast_subset _ hy), h.fin, h.trap⟩, rfl, Nat.le_succ _⟩
theorem sStep_k {code : List Cod} {s : SS} (h : s.Ok) (hc : ∀ c ∈ code, I32 c.k) (hl : code.length ≤ 2147483647) : Keeps s (sStep code s) := by
  have h0 : Keeps s s := ⟨h, rfl, Nat.le_succ _⟩
  unfold sStep
  split
  · exact h0
  cases hd : sDo code s with
  | none => exact ⟨sEnded_ok h (by decide), rfl, Nat.le_succ _⟩
  | some t =>
    show Keeps s t
    unfold sDo at hd
    split at hd
    · rename_i hp
      split at hd
      · have hk : I32 (code.getD s.pc.toNat default).k := by
          have hlt : s.pc.toNat < code.length := by omega
          have e : code[s.pc.toNat]? = some (code.getD s.pc.toNat default) := by simp [List.getD, hlt]
          exact hc _ (List.mem_of_getElem? e)
        unfold sExec at hd
        split at hd
        · exact sTurn_k h hk ⟨hp.1, by omega⟩ hd
        · cases hr : sChange s (code.getD s.pc.toNat default) with
          | none => rw [hr] at hd; cases hd
          | some u =>
            rw [hr] at hd
            injection hd with hd
            have hu := sChange_k h hk hr
            have hpc := sChange_pc hr
            subst hd
            exact ⟨pc_ok hu.ok (by rw [hpc]; omega) (by rw [hpc]; omega), hu.mem, hu.out⟩
      · cases hd
    · cases hd
end Go.Proofs.Ytpnhjjihdcopnaa.M

/- What the stack machine has written, and how it ended. -/
set_option linter.unusedSimpArgs false
set_option linter.unusedVariables false
namespace Go.Proofs.Ytpnhjjihdcopnaa
open Go.RowKit M
variable {Q : Nat → Prop}

section
variable {P : Program} {w : World}
/-- append of what lies anywhere, as one step of a region that draws. -/
theorem step_append_from {ops : Array Oper} {o : Oper} {a : Act} {K : Act → World → Prop} {Q : Exit → Act → World → Prop} {E : Prop} (hgd : o.guard = none) (s x : Operand) (t : TypeId)
    (ho : o.op = .call { callee := .builtin .append, args := #[s, x], argTypes := #[t, t] })
    (base : Nat) (e : TypeId) (i : TypeInfo) (z : Value) (bytes : Nat) (ht : P.underlying t = some (.slice e)) (hi : P.info? e = some i) (hz : i.zero = some z)
    (hsize : i.size = 1) (hby : i.bytes = bytes) (hzs : z.cells.size = 1)
    (v : Value) (n : Nat) (xs : List Value) (hs : a.eval s = v) (hown : w.ownsRow base e 1 v n xs)
    (b : Nat) (sv : Value) (news : List Value) (hx : a.eval x = sv) (hsrc : Src w b sv news) (h1 : ∀ u ∈ news, u.oneCell' = true)
    (h63 : n + news.length ≤ maxLen) (hbytes : (n + news.length) * bytes ≤ 140737488355328) (hbase : base ≤ w.heap.size)
    (h : ∀ v' w', w'.ownsRow base e 1 v' (n + news.length) (xs ++ news) → Only (Own v.ownBlock) w w' → K (a.put o.dst v') w') :
    if Region.wanted o (yielded ops a.tmps) = true then Oper.wp P o a w K Q else E := by
  have hw : Region.wanted o (yielded ops a.tmps) = true := by simp [Region.wanted, hgd]
  rw [if_pos hw]
  obtain ⟨ao, cap, off, rfl, hs2, hs3, hs4⟩ := hsrc
  have hrun : ∃ v' w', (Builtin.append_ #[t, t] o.type #[v, .slice ao news.length cap]).run P w = .ok v' w' ∧ w'.ownsRow base e 1 v' (n + news.length) (xs ++ news) ∧ Only (Own v.ownBlock) w w' := by
    cases ao with
    | none =>
      have hn : news = [] := by
        cases news with
        | nil => rfl
        | cons y t => have := hs2 (by simp); simp at this
      subst hn
      have hc := hs3 rfl
      subst hc
      exact ⟨v, w, run_append_owned_none (P := P) (w := w) base t o.type e i 1 ht hi v n xs hown, by simpa using hown, Only.refl _ _⟩
    | some ad =>
      obtain ⟨v', w', hr, h2, h3, _⟩ := run_append_row (P := P) base t o.type e i z 1 bytes ht hi hz hsize hby hzs (by decide) v n xs hown ad news.length cap news (by simp)
        (by
          intro j u hj
          have hjl : j < news.length := (List.getElem?_eq_some_iff.1 hj).1
          have e1 := hs2 (by omega)
          injection e1 with e1
          rw [e1, addr_add, hs4 j u hj]) h1 h63 hbytes hbase
      exact ⟨v', w', hr, h2, Only.of_grown h3⟩
  obtain ⟨v', w', hr, h2, h3⟩ := hrun
  unfold Oper.wp execOp
  simp only [ho, resolve, invoke, builtin, Sem.run_bind, Sem.run_pure, Result.andThen_ok, List.map_toArray, List.map_cons, List.map_nil, hs, hx, hr]
  exact h v' w' h2 h3
end

theorem ownsRow_slice {w : World} {base : Nat} {e : TypeId} {size : Nat} {v : Value} {n : Nat} {xs : List Value} (h : w.ownsRow base e size v n xs) : ∃ ao m cap, v = .slice ao m cap := by
  rcases h.2 with ⟨rfl, _⟩ | ⟨g, cap, cur, rfl, _⟩
  · exact ⟨_, _, _, rfl⟩
  · exact ⟨_, _, _, rfl⟩
theorem ownsRow_apart {w : World} {base : Nat} {e : TypeId} {size : Nat} {v : Value} {n : Nat} {xs : List Value} (h : w.ownsRow base e size v n xs) {k : Nat} (hk : k < base) : v.ownBlock ≠ some k := by
  rcases h.2 with ⟨rfl, _⟩ | ⟨g, cap, cur, rfl, hb, _⟩
  · exact nofun
  · intro e; injection e with e; have e : g = k := e; omega
theorem U8s_len' (l : List Nat) : (U8s l).length = l.length := by simp [U8s]
theorem U8s_one' (l : List Nat) : ∀ u ∈ U8s l, u.oneCell' = true := by intro u hu; obtain ⟨x, _, rfl⟩ := List.mem_map.1 hu; rfl
set_option maxHeartbeats 1600000 in
/-- What a machine tells of its run. -/
theorem resultS_any (mb wb : Nat) (code : List Cod) (s : SS) (cv sv kv iv ov : Value) (w : World) (hM : SAt Q w mb wb code s cv sv kv iv ov) (hol : s.out.length ≤ 1099511627776) :
    Calls Try.prog 38 #[.pointer (some ⟨mb, 0, none⟩)] w fun e w' => ∃ rv, e = .returned (.agg #[rv, .int .i64 s.fin, .int .i64 s.trap]) ∧ w'.ownsRow w.heap.size 5 1 rv s.out.length (U8s s.out) ∧ Only Nil w w' := by
  obtain ⟨i0, hi, hz0, hz1, hz2⟩ := info_parts Try.info5
  have c3 : w.cell? ⟨mb, 5, none⟩ = some ov := hM.blk.cell 5
  have c26 : w.cell? ⟨mb, 9, none⟩ = some (.int .i64 s.fin) := hM.blk.cell 9
  have c27 : w.cell? ⟨mb, 10, none⟩ = some (.int .i64 s.trap) := hM.blk.cell 10
  have hlt := hM.blk.lt
  have hsrc := Src.of_own hM.out
  obtain ⟨sb, hsb⟩ : ∃ sb, ov.ownBlock.getD 0 = sb := ⟨_, rfl⟩
  rw [hsb] at hsrc
  obtain ⟨n, hn⟩ : ∃ n, s.out.length = n := ⟨_, rfl⟩
  obtain ⟨U, hU⟩ : ∃ U, U8s s.out = U := ⟨_, rfl⟩
  have hUl : U.length = n := by rw [← hU, U8s_len', hn]
  have hU1 : Hid (∀ u ∈ U, u.oneCell' = true) := Lib.hid (by rw [← hU]; exact U8s_one' _)
  rw [hU] at hsrc
  rw [hn] at hol
  have b1 : Hid (0 + U.length ≤ maxLen) := Lib.hid (by rw [hUl]; simp [maxLen]; omega)
  have b2 : Hid ((0 + U.length) * 1 ≤ 140737488355328) := Lib.hid (by rw [hUl]; omega)
  have HU := Lib.hid hU
  have HN := Lib.hid hn
  have HL := Lib.hid hUl
  clear hM hol hU hn hUl hsb
  go_enter Try.func38, Try.ntmps38
  go_wp2_with fail
  have ho1 : Only Nil w (w.alloc (.cells #[Value.slice none 0 0, .int .i64 0, .int .i64 0] 34)) := (Only.refl Nil w).alloc _
  have hB1 := Blk.new w #[Value.slice none 0 0, .int .i64 0, .int .i64 0] 34
  have hsz : w.heap.size < (w.alloc (.cells #[Value.slice none 0 0, .int .i64 0, .int .i64 0] 34)).heap.size := hB1.lt
  obtain ⟨w1, hw1⟩ : ∃ w1, w.alloc (.cells #[Value.slice none 0 0, .int .i64 0, .int .i64 0] 34) = w1 := ⟨_, rfl⟩
  rw [hw1] at ho1 hB1 hsz ⊢
  obtain ⟨rb, hrb⟩ : ∃ b, w.heap.size = b := ⟨_, rfl⟩
  have d3 := ho1.cell c3 (fun h => h)
  have d26 := ho1.cell c26 (fun h => h)
  have d27 := ho1.cell c27 (fun h => h)
  have dsrc := hsrc.kept ho1 (fun _ h => h)
  have hbase : w.heap.size ≤ w1.heap.size := ho1.size
  have hne : mb ≠ rb := by omega
  have hneo : rb ≠ mb := fun h => hne h.symm
  rw [hrb] at hB1 hsz hbase ⊢
  have HS : Hid (Src w1.drew sb ov U) := Lib.hid (dsrc.kept (Only.refl Nil w1).drew (fun _ h => h))
  have dd26 : w1.drew.cell? ⟨mb, 9, none⟩ = some (.int .i64 s.fin) := d26
  have dd27 : w1.drew.cell? ⟨mb, 10, none⟩ = some (.int .i64 s.trap) := d27
  have hB2 := hB1.drew
  have hbase2 : rb + 1 ≤ w1.drew.heap.size := hsz
  clear hsrc hw1 c3 c26 c27 dsrc
  go_region_law (first
    | (refine step_append_from rfl _ _ 23 rfl (rb + 1) 5 i0 (.int .u8 0) 1 Try.underlying23 hi hz0 hz1 hz2 rfl _ 0 [] rfl (World.ownsRow_nil _ _ _ _) sb _ U (by first | rfl | simp [Act.eval, Act.put]) HS.out hU1.out b1.out b2.out hbase2 ?_; intro v9 w9 hown9 ho9; obtain ⟨ao9, n9, cap9, rfl⟩ := ownsRow_slice hown9; have hB9 := hB2.kept ho9 (fun h => by cases h); have e26 := ho9.cell dd26 (fun h => by cases h); have e27 := ho9.cell dd27 (fun h => by cases h); have g0 := hB9.cell 0; have g1 := hB9.cell 1; have g2 := hB9.cell 2; have f0 := hB9.free 0; have f1 := hB9.free 1; have f2 := hB9.free 2; have hlt9 := hB9.lt))
  all_goals
    go_wp2_with fail
    have hB8 := ((hB9.setCell 0 (.slice ao9 n9 cap9)).setCell 1 (.int .i64 s.fin)).setCell 2 (.int .i64 s.trap)
    simp only [List.setIfInBounds_toArray, List.set_cons_zero, List.set_cons_succ] at hB8
    have hown8 : World.ownsRow (((w9.setCell ⟨rb, 0, none⟩ (.slice ao9 n9 cap9)).setCell ⟨rb, 1, none⟩ (.int .i64 s.fin)).setCell ⟨rb, 2, none⟩ (.int .i64 s.trap)) rb 5 1 (.slice ao9 n9 cap9) (0 + U.length) ([] ++ U) :=
      have hne := ownsRow_apart hown9 (Nat.lt_succ_self rb)
      ownsRow_set_other (ownsRow_set_other (ownsRow_set_other (ownsRow_base hown9 (Nat.le_succ rb)) ⟨rb, 0, none⟩ (.slice ao9 n9 cap9) hne) ⟨rb, 1, none⟩ (.int .i64 s.fin) hne) ⟨rb, 2, none⟩ (.int .i64 s.trap) hne
    (try simp only [Exit.inBlock, Exit.then])
    refine bodyPost_ret (results_cell_row rfl _ _ rb 34 _ (0, 0) _ rfl hB8 Try.underlying34 rfl (by kernel_rfl)) rfl ?_
    have e1 := HL.out
    rw [e1, Nat.zero_add, List.nil_append] at hown8
    rw [HN.out, HU.out, hrb]
    refine ⟨_, rfl, hown8, ?_⟩
    have hq : ∀ S : Nat → Prop, rb < w.heap.size → S rb := fun _ h => absurd h (by rw [hrb]; exact Nat.lt_irrefl _)
    exact (((ho1.drew.trans ho9 (fun _ _ h => by cases h)).setCell (hq _) _).setCell (hq _) _).setCell (hq _) _
end Go.Proofs.Ytpnhjjihdcopnaa

/- The stack machine's Step and Run. -/
set_option linter.unusedSimpArgs false
set_option linter.unusedVariables false
namespace Go.Proofs.Ytpnhjjihdcopnaa
open Go.RowKit M
variable {Q : Nat → Prop}

/-- Other blocks that aren't to be touched: fewer, or newer ones. -/
theorem SAt.less {T : Nat → Prop} {w : World} {mb wb : Nat} {code : List Cod} {s : SS} {cv sv kv iv ov : Value} (h : SAt Q w mb wb code s cv sv kv iv ov) (hs : ∀ k, k < w.heap.size → T k → Q k) : SAt T w mb wb code s cv sv kv iv ov :=
  ⟨h.blk, h.wrd, h.ops, h.cls, h.out, h.cod.less (fun k hk hb => hb.imp id (hs k hk)), h.inp.less (fun k hk hb => hb.imp id (hs k hk)), h.five⟩
/-- No own block is that one. -/
def Off (rb : Nat) (sv kv ov : Value) : Prop := sv.ownBlock ≠ some rb ∧ kv.ownBlock ≠ some rb ∧ ov.ownBlock ≠ some rb
theorem SAt.off {w : World} {mb wb rb : Nat} {code : List Cod} {s : SS} {cv sv kv iv ov : Value} (h : SAt Q w mb wb code s cv sv kv iv ov) (hr : w.heap.size ≤ rb) : Off rb sv kv ov :=
  ⟨fun e => by have := (h.ops.lt _ e).2; omega, fun e => by have := (h.cls.lt _ e).2; omega, fun e => by have := (h.out.lt _ e).2; omega⟩
theorem Off.gone {w w' : World} {mb wb rb : Nat} {sv kv ov sv' kv' ov' : Value} (h : Off rb sv kv ov) (hg : Gone w w' mb wb sv kv ov sv' kv' ov') (hr : rb < w.heap.size) : Off rb sv' kv' ov' := by
  have f : ∀ {x y : Option Nat}, (y = x ∨ ∃ k, y = some k ∧ w.heap.size ≤ k) → x ≠ some rb → y ≠ some rb := by
    intro x y h1 h2 e
    rcases h1 with h1 | ⟨k, h1, h3⟩
    · exact h2 (by rw [← h1, e])
    · rw [h1] at e; injection e with e; omega
  exact ⟨f hg.s h.1, f hg.k h.2.1, f hg.o h.2.2⟩
theorem Off.own {mb wb rb : Nat} {sv kv ov : Value} (h : Off rb sv kv ov) (hm : mb ≠ rb) (hw : wb ≠ rb) : ¬ OwnS mb wb sv.ownBlock kv.ownBlock ov.ownBlock rb := by
  rintro (e | e | e | e | e)
  · exact hm e.symm
  · exact hw e.symm
  · exact h.1 e.symm
  · exact h.2.1 e.symm
  · exact h.2.2 e.symm
/-- What is written beside a machine. -/
theorem SAt.apart {S : Nat → Prop} {w w' : World} {mb wb : Nat} {code : List Cod} {s : SS} {cv sv kv iv ov : Value} (h : SAt Q w mb wb code s cv sv kv iv ov) (ho : Only S w w') (hS : ∀ k, S k → ¬ OwnS mb wb sv.ownBlock kv.ownBlock ov.ownBlock k) (hq : ∀ k, S k → Q k) : SAt Q w' mb wb code s cv sv kv iv ov :=
  ⟨h.blk.kept ho (fun e => hS _ e (Or.inl rfl)), h.wrd.kept ho (fun e => hS _ e (Or.inr (Or.inl rfl))), ownsRow_only h.ops ho (fun k hk e => hS _ e (Or.inr (Or.inr (Or.inl hk.symm)))), ownsRow_only h.cls ho (fun k hk e => hS _ e (Or.inr (Or.inr (Or.inr (Or.inl hk.symm))))), ownsRow_only h.out ho (fun k hk e => hS _ e (Or.inr (Or.inr (Or.inr (Or.inr hk.symm))))), h.cod.kept ho (fun k hk => Or.inr (hq k hk)), h.inp.kept ho (fun k hk => Or.inr (hq k hk)), h.five⟩

set_option maxHeartbeats 1600000 in
/-- The machine's Step. -/
theorem stepS_any (mb wb : Nat) (code : List Cod) (hc : ∀ c ∈ code, I32 c.k) (s : SS) (cv sv kv iv ov : Value) (w : World) (hM : SAt Q w mb wb code s cv sv kv iv ov) (hs : s.Ok) (hol : s.out.length ≤ 1099511627776) :
    Calls Try.prog 11 #[.pointer (some ⟨mb, 0, none⟩)] w fun e w' => ∃ sv' kv' iv' ov', e = .returned (.bool (s.fin == 0)) ∧ Gone w w' mb wb sv kv ov sv' kv' ov' ∧ SAt Q w' mb wb code (sStep code s) cv sv' kv' iv' ov' := by
  have c9 : w.cell? ⟨mb, 9, none⟩ = some (.int .i64 s.fin) := hM.blk.cell 9
  have hlt := hM.blk.lt
  by_cases hf : s.fin = 0
  · have e1 : sStep code s = (sDo code s).getD (sEnded s 15) := by unfold sStep; rw [if_neg (by rw [hf]; decide)]
    rw [e1, hf]
    rw [hf] at c9
    have cD := doS_any (Q := Q) mb wb code hc s cv sv kv iv ov w hM hs hol
    cases hR : sDo code s with
    | none =>
      rw [hR] at cD
      clear hM hs hc hol hf hR e1
      go_enter Try.func11, Try.ntmps11
      go_wp2_with fail
      refine cD.mono ?_
      rintro e w1 ⟨sv', kv', iv', ov', rfl, hg, hM'⟩
      simp only [Option.isSome]
      have hM' : SAt Q w1 mb wb code s cv sv' kv' iv' ov' := hM'
      have cF := finishS_any (Q := Q) mb wb 15 code s cv sv' kv' iv' ov' w1 hM' (by decide)
      rw [show ((15 : Nat) : Int) = 15 from rfl] at cF
      clear cD hM'
      go_wp2_with fail
      refine cF.mono ?_
      rintro e w2 ⟨rfl, ho2, hM2⟩
      go_wp2_with fail
      go_ret
      exact ⟨sv', kv', iv', ov', rfl, hg.trans (Gone.of_one ho2), hM2⟩
    | some t =>
      rw [hR] at cD
      clear hM hs hc hol hf hR e1
      go_enter Try.func11, Try.ntmps11
      go_wp2_with fail
      refine cD.mono ?_
      rintro e w1 ⟨sv', kv', iv', ov', rfl, hg, hM'⟩
      simp only [Option.isSome]
      go_wp2_with fail
      go_ret
      exact ⟨sv', kv', iv', ov', rfl, hg, hM'⟩
  · have e1 : sStep code s = s := sStep_fin _ _ hf
    have e2 : (s.fin == 0) = false := by rw [beq_eq_false_iff_ne]; exact hf
    have hne : ((s.fin : Int) != 0) = true := by simp; omega
    rw [e1, e2]
    have HM := Lib.hid hM
    clear hM hs hc hol hf e1 e2
    go_enter Try.func11, Try.ntmps11
    go_wp2_with fail
    go_ret
    exact ⟨sv, kv, iv, ov, rfl, Gone.of_nil (Only.refl _ _), HM.out⟩

set_option maxHeartbeats 1600000 in
/-- The machine's Run. -/
theorem runS_any (mb wb : Nat) (code : List Cod) (hc : ∀ c ∈ code, I32 c.k) (hl : code.length ≤ 2147483647) (s : SS) (cv sv kv iv ov : Value) (w : World) (hM : SAt Q w mb wb code s cv sv kv iv ov) (hs : s.Ok) (f : Int) (hf1 : -9223372036854775808 ≤ f) (hf2 : f ≤ 9223372036854775807) (hol : s.out.length + f.toNat ≤ 1099511627776) {t : SS} (ht : sRun code f.toNat s = t) :
    Calls Try.prog 16 #[.pointer (some ⟨mb, 0, none⟩), .int .i64 f] w fun e w' => ∃ sv' kv' iv' ov' rv, e = .returned (.agg #[rv, .int .i64 t.fin, .int .i64 t.trap]) ∧ Gone w w' mb wb sv kv ov sv' kv' ov' ∧
      w'.ownsRow w.heap.size 5 1 rv t.out.length (U8s t.out) ∧ SAt Q w' mb wb code t cv sv' kv' iv' ov' := by
  go_enter Try.func16, Try.ntmps16
  go_wp2_with fail
  have hB0 := Blk.new w #[Value.slice none 0 0, .int .i64 0, .int .i64 0] 34
  obtain ⟨rb, hrb⟩ : ∃ b, w.heap.size = b := ⟨_, rfl⟩
  have hq1 : Only Nil w (w.alloc (.cells #[Value.slice none 0 0, .int .i64 0, .int .i64 0] 34)) := (Only.refl Nil w).alloc _
  obtain ⟨w1, hw1⟩ : ∃ w1, w.alloc (.cells #[Value.slice none 0 0, .int .i64 0, .int .i64 0] 34) = w1 := ⟨_, rfl⟩
  rw [hw1] at hB0 hq1 ⊢
  rw [hrb] at hB0 ⊢
  have hM1 := hM.quiet hq1
  have hlm := hM.blk.lt
  have hlw := hM.wrd.lt
  have hmr : mb ≠ rb := by omega
  have hwr : wb ≠ rb := by omega
  have hor : Off rb sv kv ov := hM.off (by omega)
  have hM2 : SAt (fun k => Q k ∨ k = rb) w1 mb wb code s cv sv kv iv ov := (hM.less (T := fun k => Q k ∨ k = rb) (fun k hk h => h.elim id (fun h => absurd hk (by omega)))).quiet hq1
  have HQ := Lib.hid hq1
  have HR := Lib.hid hrb
  clear hM hM1 hw1 hrb hq1
  go_loopg [1] f.toNat (fun g s1 wr => ∃ (n : Int) (sx : SS) (svx kvx ivx ovx : Value), s1 = .int .i64 n ∧ n.toNat = g ∧ n ≤ 9223372036854775807 ∧ -9223372036854775808 ≤ n ∧ sx.Ok ∧ sx.out.length + g ≤ 1099511627776 ∧ sRun code g sx = t ∧ SAt (fun k => Q k ∨ k = rb) wr mb wb code sx cv svx kvx ivx ovx ∧ Gone w1 wr mb wb sv kv ov svx kvx ovx ∧ Off rb svx kvx ovx ∧ Blk wr rb #[Value.slice none 0 0, .int .i64 0, .int .i64 0] 34)
  case atStart => exact ⟨f, s, sv, kv, iv, ov, rfl, rfl, hf2, hf1, hs, hol, ht, hM2, Gone.of_nil (Only.refl _ _), hor, hB0⟩
  case round =>
    clear hM2 hB0
    obtain ⟨n, sx, svx, kvx, ivx, ovx, rfl, hng, hn1, hn2, hok, hlen, hrun, hM, hW, hor', hBr⟩ := hrel
    by_cases hn : 0 < n
    · obtain ⟨g', hg'⟩ : ∃ g', gk = g' + 1 := ⟨gk - 1, by omega⟩
      rw [hg', sRun_succ] at hrun
      have cS := stepS_any mb wb code hc sx cv svx kvx ivx ovx wr hM hok (by omega)
      obtain ⟨ok2, len2, out2⟩ := sStep_k hok hc hl
      by_cases hfin : sx.fin = 0
      · rw [show (sx.fin == 0) = true by rw [hfin]; rfl] at cS
        have HBr := Lib.hid hBr
        have HW := Lib.hid hW
        have HOR := Lib.hid hor'
        have HRUN := Lib.hid hrun
        have HO := Lib.hid hlen
        have HG := Lib.hid hg'
        clear hM hW hor' hBr hrun hlen hg' hs hol
        go_wp2_with fail
        refine cS.mono ?_
        rintro e w3 ⟨sv3, kv3, iv3, ov3, rfl, hw3, hM3⟩
        clear cS
        have H3 := Lib.hid hM3
        clear hM3
        go_wp2_with fail
        have hlr := HBr.out.lt
        have hB3 := HBr.out.kept hw3.only (HOR.out.own hmr hwr)
        have hor3 : Off rb sv3 kv3 ov3 := HOR.out.gone hw3 hlr
        go_roundg g'
        case measure => have := HG.out; omega
        case rel => exact ⟨n - 1, sStep code sx, sv3, kv3, iv3, ov3, by go_num, by have := HG.out; omega, by omega, by omega, ok2, by have := HO.out; have := HG.out; omega, HRUN.out, H3.out, HW.out.trans hw3, hor3, hB3⟩
      · rw [show (sx.fin == 0) = false by rw [beq_eq_false_iff_ne]; exact hfin, sStep_fin _ _ hfin] at cS
        rw [sStep_fin _ _ hfin, sRun_fin _ _ _ hfin] at hrun
        subst hrun
        go_wp2_with fail
        refine cS.mono ?_
        rintro e w3 ⟨sv3, kv3, iv3, ov3, rfl, hw3, hM3⟩
        clear cS
        have hlr := hBr.lt
        have hB3 := hBr.kept hw3.only (hor'.own hmr hwr)
        have hor3 : Off rb sv3 kv3 ov3 := hor'.gone hw3 hlr
        have hW3 := hW.trans hw3
        clear hM hW hor' hBr hw3
        have hM := hM3
        have hW := hW3
        have hor' := hor3
        have hBr := hB3
        clear hM3 hW3 hor3 hB3
        have cR := resultS_any mb wb code sx cv sv3 kv3 iv3 ov3 w3 hM (by omega)
        have hrlt : rb < w3.heap.size := hBr.lt
        have hsz : w.heap.size ≤ w3.heap.size := Nat.le_trans HQ.out.size hW.only.size
        go_wp2_with fail
        refine cR.mono ?_
        rintro e w4 ⟨rv, rfl, hown4, ho4⟩
        clear cR
        obtain ⟨ao9, n9, cap9, rfl⟩ := ownsRow_slice hown4
        have hB4 := hBr.kept ho4 (fun h => h)
        have k0 := hB4.cell 0
        have k1 := hB4.cell 1
        have k2 := hB4.cell 2
        have z0 := hB4.free 0
        have z1 := hB4.free 1
        have z2 := hB4.free 2
        have hlt4 := hB4.lt
        have HM := Lib.hid hM
        have HWE := Lib.hid hW
        clear hM hW
        go_wp2_with fail
        have hB8 := ((hB4.setCell 0 (.slice ao9 n9 cap9)).setCell 1 (.int .i64 sx.fin)).setCell 2 (.int .i64 sx.trap)
        simp only [List.setIfInBounds_toArray, List.set_cons_zero, List.set_cons_succ] at hB8
        have hne := ownsRow_apart hown4 hrlt
        have hown8 := ownsRow_set_other (ownsRow_set_other (ownsRow_set_other (ownsRow_base hown4 hsz) ⟨rb, 0, none⟩ (.slice ao9 n9 cap9) hne) ⟨rb, 1, none⟩ (.int .i64 sx.fin) hne) ⟨rb, 2, none⟩ (.int .i64 sx.trap) hne
        (try simp only [Exit.inBlock, Exit.then])
        refine bodyPost_ret (results_cell_row rfl _ _ rb 34 _ (0, 0) _ rfl hB8 Try.underlying34 rfl (by kernel_rfl)) rfl ?_
        have hoS : Only (M.One rb) w3 _ := (Only.setOne (Only.setOne (Only.setOne (ho4.mono (fun _ h => h.elim)) 0 (.slice ao9 n9 cap9)) 1 (.int .i64 sx.fin)) 2 (.int .i64 sx.trap))
        have hM8 := HM.out.apart hoS (fun k hk => by rw [show k = rb from hk]; exact hor'.own hmr hwr) (fun k hk => Or.inr hk)
        have hq : ∀ S : Nat → Prop, rb < w.heap.size → S rb := fun _ h => absurd h (by rw [HR.out]; exact Nat.lt_irrefl _)
        have hoA : Only (OwnS mb wb sv.ownBlock kv.ownBlock ov.ownBlock) w w3 := (HQ.out.mono (fun _ h => h.elim)).trans HWE.out.only (fun _ _ h => h)
        have hoB : Only (OwnS mb wb sv.ownBlock kv.ownBlock ov.ownBlock) w _ := (((hoA.trans ho4 (fun _ _ h => h.elim)).setCell (p := ⟨rb, 0, none⟩) (hq _) (.slice ao9 n9 cap9)).setCell (p := ⟨rb, 1, none⟩) (hq _) (.int .i64 sx.fin)).setCell (p := ⟨rb, 2, none⟩) (hq _) (.int .i64 sx.trap)
        refine ⟨sv3, kv3, iv3, ov3, _, rfl, ⟨hoB, HWE.out.s.imp id (fun ⟨k, h1, h2⟩ => ⟨k, h1, Nat.le_trans HQ.out.size h2⟩), HWE.out.k.imp id (fun ⟨k, h1, h2⟩ => ⟨k, h1, Nat.le_trans HQ.out.size h2⟩), ?_⟩, ?_, hM8.less (fun k _ h => Or.inl h)⟩
        · exact HWE.out.o.imp id (fun ⟨k, h1, h2⟩ => ⟨k, h1, Nat.le_trans HQ.out.size h2⟩)
        · exact hown8
    · have hg0 : gk = 0 := by omega
      subst hg0
      have hrun' : sx = t := hrun
      subst hrun'
      have cR := resultS_any mb wb code sx cv svx kvx ivx ovx wr hM (by omega)
      have hrlt : rb < wr.heap.size := hBr.lt
      have hsz : w.heap.size ≤ wr.heap.size := Nat.le_trans HQ.out.size hW.only.size
      go_wp2_with fail
      refine cR.mono ?_
      rintro e w4 ⟨rv, rfl, hown4, ho4⟩
      clear cR
      obtain ⟨ao9, n9, cap9, rfl⟩ := ownsRow_slice hown4
      have hB4 := hBr.kept ho4 (fun h => h)
      have k0 := hB4.cell 0
      have k1 := hB4.cell 1
      have k2 := hB4.cell 2
      have z0 := hB4.free 0
      have z1 := hB4.free 1
      have z2 := hB4.free 2
      have hlt4 := hB4.lt
      have HM := Lib.hid hM
      have HWE := Lib.hid hW
      clear hM hW
      go_wp2_with fail
      have hB8 := ((hB4.setCell 0 (.slice ao9 n9 cap9)).setCell 1 (.int .i64 sx.fin)).setCell 2 (.int .i64 sx.trap)
      simp only [List.setIfInBounds_toArray, List.set_cons_zero, List.set_cons_succ] at hB8
      have hne := ownsRow_apart hown4 hrlt
      have hown8 := ownsRow_set_other (ownsRow_set_other (ownsRow_set_other (ownsRow_base hown4 hsz) ⟨rb, 0, none⟩ (.slice ao9 n9 cap9) hne) ⟨rb, 1, none⟩ (.int .i64 sx.fin) hne) ⟨rb, 2, none⟩ (.int .i64 sx.trap) hne
      (try simp only [Exit.inBlock, Exit.then])
      refine bodyPost_ret (results_cell_row rfl _ _ rb 34 _ (0, 0) _ rfl hB8 Try.underlying34 rfl (by kernel_rfl)) rfl ?_
      have hoS : Only (M.One rb) wr _ := (Only.setOne (Only.setOne (Only.setOne (ho4.mono (fun _ h => h.elim)) 0 (.slice ao9 n9 cap9)) 1 (.int .i64 sx.fin)) 2 (.int .i64 sx.trap))
      have hM8 := HM.out.apart hoS (fun k hk => by rw [show k = rb from hk]; exact hor'.own hmr hwr) (fun k hk => Or.inr hk)
      have hq : ∀ S : Nat → Prop, rb < w.heap.size → S rb := fun _ h => absurd h (by rw [HR.out]; exact Nat.lt_irrefl _)
      have hoA : Only (OwnS mb wb sv.ownBlock kv.ownBlock ov.ownBlock) w wr := (HQ.out.mono (fun _ h => h.elim)).trans HWE.out.only (fun _ _ h => h)
      have hoB : Only (OwnS mb wb sv.ownBlock kv.ownBlock ov.ownBlock) w _ := (((hoA.trans ho4 (fun _ _ h => h.elim)).setCell (p := ⟨rb, 0, none⟩) (hq _) (.slice ao9 n9 cap9)).setCell (p := ⟨rb, 1, none⟩) (hq _) (.int .i64 sx.fin)).setCell (p := ⟨rb, 2, none⟩) (hq _) (.int .i64 sx.trap)
      refine ⟨svx, kvx, ivx, ovx, _, rfl, ⟨hoB, HWE.out.s.imp id (fun ⟨k, h1, h2⟩ => ⟨k, h1, Nat.le_trans HQ.out.size h2⟩), HWE.out.k.imp id (fun ⟨k, h1, h2⟩ => ⟨k, h1, Nat.le_trans HQ.out.size h2⟩), ?_⟩, ?_, hM8.less (fun k _ h => Or.inl h)⟩
      · exact HWE.out.o.imp id (fun ⟨k, h1, h2⟩ => ⟨k, h1, Nat.le_trans HQ.out.size h2⟩)
      · exact hown8
end Go.Proofs.Ytpnhjjihdcopnaa

