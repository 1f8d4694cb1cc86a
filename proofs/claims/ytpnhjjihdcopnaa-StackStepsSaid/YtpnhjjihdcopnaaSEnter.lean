/- The stack machine: a frame is begun. -/
import Derived.Test.YtpnhjjihdcopnaaSMove
set_option linter.unusedSimpArgs false
set_option linter.unusedVariables false
namespace Go.Proofs.Ytpnhjjihdcopnaa
open Go.RowKit M
variable {Q : Nat → Prop}

theorem cleared_zero (m : List Int) (o : Nat) : cleared m o 0 = m := by unfold cleared; simp
theorem cleared_succ (m : List Int) (o k : Nat) (h : o + (k + 1) ≤ m.length) : cleared m o (k + 1) = cleared (m.set o 0) (o + 1) k := by
  have e1 : (m.set o 0).take (o + 1) = m.take o ++ [0] := by
    rw [List.take_succ_eq_append_getElem (by rw [List.length_set]; omega)]
    have e3 : (m.set o 0).take o = m.take o := by
      apply List.ext_getElem?
      intro i
      simp only [List.getElem?_take, List.getElem?_set]
      by_cases hi : i < o
      · rw [if_pos hi, if_pos hi, if_neg (by omega)]
      · rw [if_neg hi, if_neg hi]
    rw [e3]
    simp
  have e2 : (m.set o 0).drop (o + 1 + k) = m.drop (o + (k + 1)) := by
    rw [List.drop_set_of_lt (by omega), show o + 1 + k = o + (k + 1) by omega]
  unfold cleared
  rw [e1, e2, List.replicate_succ]
  simp
theorem setCells_blk {b : Nat} {t : TypeId} : ∀ (k o : Nat) (m : List Int) (w : World), Blk w b (I32s m).toArray t → o + k ≤ m.length →
    Blk (w.setCells b o (List.replicate k (.int .i32 0))) b (I32s (cleared m o k)).toArray t ∧ Only (M.One b) w (w.setCells b o (List.replicate k (.int .i32 0))) := by
  intro k
  induction k with
  | zero => intro o m w h hl; rw [cleared_zero]; exact ⟨h, Only.refl _ _⟩
  | succ k ih =>
    intro o m w h hl
    have h1 := h.setCell o (.int .i32 0)
    have e1 : ((I32s m).toArray.setIfInBounds o (.int .i32 0)) = (I32s (m.set o 0)).toArray := by simp [I32s, List.map_set]
    rw [e1] at h1
    have h2 := ih (o + 1) (m.set o 0) _ h1 (by rw [List.length_set]; omega)
    rw [cleared_succ m o k hl]
    exact ⟨h2.1, ((Only.refl _ w).setCell' (M.One b) rfl _).trans h2.2 (fun _ _ h => h)⟩
/-- A clear as one step of a region that draws. -/
theorem step_clear_known {P : Program} {w w' : World} {ops : Array Oper} {o : Oper} {a : Act} {K : Act → World → Prop} {Q : Exit → Act → World → Prop} {E : Prop} (hgd : o.guard = none) (d : Operand) (t : TypeId)
    (ho : o.op = .call { callee := .builtin .clear, args := #[d], argTypes := #[t] }) (dv v : Value) (hd : a.eval d = dv)
    (hrun : (Builtin.clear_ #[t] o.type #[dv]).run P w = .ok v w') (h : K (a.put o.dst v) w') :
    if Region.wanted o (yielded ops a.tmps) = true then Oper.wp P o a w K Q else E := by
  have hw : Region.wanted o (yielded ops a.tmps) = true := by simp [Region.wanted, hgd]
  rw [if_pos hw]
  unfold Oper.wp execOp
  simp only [ho, resolve, invoke, builtin, Sem.run_bind, Sem.run_pure, Result.andThen_ok, List.map_toArray, List.map_cons, List.map_nil, hd, hrun]
  exact h
theorem zeroI32 (w : World) : (zeroValue 21).run Try.prog w = .ok (.int .i32 0) w := by kernel_rfl
theorem clear_run {w : World} {wb n t k : Nat} {m : List Int} (hB : Blk w wb (I32s m).toArray 21) (hn : m.length = n) (hk : t + k ≤ n) {ap : Option Addr} (hap : (if n = t then some (⟨wb, 0, none⟩ : Addr) else some ⟨wb, t, none⟩) = ap) (ty : TypeId) :
    ∃ w', (Builtin.clear_ #[57] ty #[.slice ap k (n - t)]).run Try.prog w = .ok (.tuple #[]) w' ∧ Blk w' wb (I32s (cleared m t k)).toArray 21 ∧ Only (M.One wb) w w' := by
  by_cases h0 : k = 0
  · subst h0
    refine ⟨w, ?_, by rw [cleared_zero]; exact hB, Only.refl _ _⟩
    subst hap
    split <;> simp [Builtin.clear_, run_underlying Try.underlying57, zeroI32, Builtin.zeroCells, storeCells]
  · rw [if_neg (by omega)] at hap
    subst hap
    have h1 := setCells_blk k t m w hB (by omega)
    refine ⟨_, Lib.run_clear_slice w 57 21 ty (.int .i32 0) Try.underlying57 zeroI32 rfl rfl wb t k (n - t) (by omega) (fun j hj => ?_) (fun j hj => hB.free _), h1.1, h1.2⟩
    rw [hB.cell, List.getElem?_toArray, I32s_get (by omega)]
    rfl

set_option maxRecDepth 10000 in
set_option maxHeartbeats 3200000 in
theorem enter_any (mb wb : Nat) (k : Int) (code : List Cod) (s : SS) (cv sv kv iv ov : Value) (w : World) (hM : SAt Q w mb wb code s cv sv kv iv ov) (hs : s.Ok) (hk : I32 k) :
    Calls Try.prog 61 #[.pointer (some ⟨mb, 0, none⟩), .int .i64 k] w (SDoes Q w mb wb code s cv sv kv iv ov (sEnter s k)) := by
  have c1 : w.cell? ⟨mb, 1, none⟩ = some (.slice (some ⟨wb, 0, none⟩) s.mem.length s.mem.length) := hM.blk.cell 1
  have c6 : w.cell? ⟨mb, 6, none⟩ = some (.int .i64 s.fp) := hM.blk.cell 6
  have c7 : w.cell? ⟨mb, 7, none⟩ = some (.int .i64 s.top) := hM.blk.cell 7
  have f6 := hM.blk.free 6
  have f7 := hM.blk.free 7
  have hlt := hM.blk.lt
  have hlm := hs.len
  have htop := hs.top
  unfold I32 at hk
  by_cases h0 : k < 0
  · have e1 : sEnter s k = none := by unfold sEnter; rw [if_pos (Or.inl h0)]
    rw [e1]
    have HM := Lib.hid hM
    have t0 : decide (k < 0) = true := by simp [h0]
    clear hM hs e1 hlm htop
    go_enter Try.func61, Try.ntmps61
    go_wp2_with fail
    go_region
    go_wp2_with fail
    go_ret
    exact ⟨sv, kv, iv, ov, rfl, Gone.of_nil (by (repeat with_reducible first | exact Only.refl _ _ | refine M.Only.drewN ?_ _ | refine Only.drew ?_)), HM.out.quiet (by (repeat with_reducible first | exact Only.refl _ _ | refine M.Only.drewN ?_ _ | refine Only.drew ?_))⟩
  · obtain ⟨k, rfl⟩ : ∃ x : Nat, k = x := ⟨k.toNat, by omega⟩
    have t1 : decide ((k : Int) < 0) = false := by simp
    obtain ⟨n, hnn⟩ : ∃ n, s.mem.length = n := ⟨_, rfl⟩
    obtain ⟨t, ht⟩ : ∃ t, s.top = t := ⟨_, rfl⟩
    rw [hnn] at c1 hlm htop
    rw [ht] at c7 htop
    obtain ⟨u, hu⟩ : ∃ u, t + k = u := ⟨_, rfl⟩
    have wu : IntKind.i64.wrap ((t : Int) + (k : Int)) = (u : Int) := by rw [IntKind.wrap_i64]; omega
    have wu2 : (t : Int) + (k : Int) = (u : Int) := by omega
    have wu3 : IntKind.i64.wrap (u : Int) = (u : Int) := by rw [IntKind.wrap_i64]; omega
    by_cases h1 : n < u
    · have e1 : sEnter s k = none := by unfold sEnter; rw [if_pos (Or.inr (by rw [hnn, ht]; omega))]
      rw [e1]
      have t2 : (n : Int) < (u : Int) := by omega
      have t3 : decide ((n : Int) < (u : Int)) = true := by simp; omega
      clear hu
      have HM := Lib.hid hM
      clear hM hs e1 h0 ht hnn
      go_enter Try.func61, Try.ntmps61
      go_wp2_with fail
      go_quiet (fail)
      go_wp2_with fail
      go_ret
      exact ⟨sv, kv, iv, ov, rfl, Gone.of_nil (by (repeat with_reducible first | exact Only.refl _ _ | refine M.Only.drewN ?_ _ | refine Only.drew ?_)), HM.out.quiet (by (repeat with_reducible first | exact Only.refl _ _ | refine M.Only.drewN ?_ _ | refine Only.drew ?_))⟩
    · have e1 : sEnter s k = some { s with fp := t, top := u, mem := cleared s.mem t k } := by unfold sEnter; rw [if_neg (by rw [hnn, ht]; omega), ht, Int.toNat_natCast, hu]
      rw [e1]
      have t2 : (u : Int) ≤ (n : Int) := by omega
      have t3 : decide ((n : Int) < (u : Int)) = false := by simp; omega
      have hku : u - t = k := by omega
      have htu : t ≤ u := by omega
      have HU := Lib.hid hu
      clear hu
      have HM := Lib.hid hM
      have HN := Lib.hid hnn
      clear hM hs e1 h0 ht hnn
      go_enter Try.func61, Try.ntmps61
      go_wp2_with fail
      go_quiet (fail)
      have hq : Only Nil w (w.drewN nq) := M.Only.drewN (Only.refl _ _) _
      have hM1 := HM.out.quiet hq
      obtain ⟨w1, hw1⟩ : ∃ w1, w.drewN nq = w1 := ⟨_, rfl⟩
      rw [hw1] at hq hM1 ⊢
      have d1 : w1.cell? ⟨mb, 1, none⟩ = some (.slice (some ⟨wb, 0, none⟩) n n) := hq.cell c1 (fun h => h)
      have d6 := hq.cell c6 (fun h => h)
      have d7 := hq.cell c7 (fun h => h)
      have e6 := hM1.blk.free 6
      have e7 := hM1.blk.free 7
      have hlt1 := hM1.blk.lt
      have HQ := Lib.hid hq
      have H1 := Lib.hid hM1
      clear hw1 hq hM1 c1 c6 c7 f6 f7
      go_wp2_with fail
      go_region
      have hB2 := (H1.out.blk.setCell 6 (.int .i64 (t : Nat))).setCell 7 (.int .i64 (u : Nat))
      rw [scells_fp, scells_top] at hB2
      have ho2 : Only (M.One mb) w1 ((w1.setCell ⟨mb, 6, none⟩ (.int .i64 (t : Nat))).setCell ⟨mb, 7, none⟩ (.int .i64 (u : Nat))).drew := (M.Only.setOne (M.Only.setOne (Only.refl _ _) _ _) _ _).drew
      have hM2 := H1.out.own ho2 hB2.drew rfl rfl rfl rfl rfl
      obtain ⟨w2, hw2⟩ : ∃ w2, ((w1.setCell ⟨mb, 6, none⟩ (.int .i64 (t : Nat))).setCell ⟨mb, 7, none⟩ (.int .i64 (u : Nat))).drew = w2 := ⟨_, rfl⟩
      rw [hw2] at ho2 hM2 ⊢
      have b1 : w2.cell? ⟨mb, 1, none⟩ = some (.slice (some ⟨wb, 0, none⟩) n n) := by rw [← HN.out]; exact hM2.blk.cell 1
      have b6 : w2.cell? ⟨mb, 6, none⟩ = some (.int .i64 (t : Nat)) := hM2.blk.cell 6
      have b7 : w2.cell? ⟨mb, 7, none⟩ = some (.int .i64 (u : Nat)) := hM2.blk.cell 7
      have hlt2 := hM2.blk.lt
      obtain ⟨ap, hap⟩ : ∃ ap, (if n = t then some (⟨wb, 0, none⟩ : Addr) else some ⟨wb, t, none⟩) = ap := ⟨_, rfl⟩
      have hr := fun ty => clear_run (k := u - t) hM2.wrd.drew HN.out (by omega) hap ty
      have H2 := Lib.hid hM2
      have HR := Lib.hid hr
      have HO2 := Lib.hid ho2
      have t0 : (0 : Int) ≤ (t : Int) := Int.natCast_nonneg _
      have u0 : (0 : Int) ≤ (u : Int) := Int.natCast_nonneg _
      have tu : (t : Int) ≤ (u : Int) := by omega
      clear hw2 hB2 ho2 hM2 hr d1 d6 d7 e6 e7 H1 hku
      go_wp2_with fail
      obtain ⟨w3, hrun, hB3, ho3⟩ := HR.out 0
      have HRUN := Lib.hid hrun
      clear hrun
      go_region_law (refine step_clear_known rfl (.tmp 49) 57 rfl _ _ (by simp [Act.eval, Act.put]) HRUN.out ?_)
      all_goals
        have hW := (H2.out.quiet (Only.refl Nil _).drew).words (m := cleared s.mem t (u - t)) hB3 ho3 (by rw [cleared_len _ _ _ (by rw [HN.out]; omega)])
        have hku2 : u - t = k := by have := HU.out; omega
        rw [hku2] at hW
        have HW := Lib.hid hW
        clear hW HRUN hB3 ho3
        go_wp2_with fail
        go_ret
        refine ⟨sv, kv, iv, ov, rfl, ?_, HW.out.1⟩
        exact (((Gone.of_nil HQ.out).trans (Gone.of_one HO2.out)).trans (Gone.of_nil (Only.refl Nil _).drew)).trans HW.out.2
end Go.Proofs.Ytpnhjjihdcopnaa

/- The stack machine: an instruction that the next one follows. -/
set_option linter.unusedSimpArgs false
set_option linter.unusedVariables false
namespace Go.Proofs.Ytpnhjjihdcopnaa
open Go.RowKit M
variable {Q : Nat → Prop}

theorem size_alloc1 (w : World) (cs : Array Value) (t : TypeId) : (w.alloc (.cells cs t)).heap.size = w.heap.size + 1 := by simp

/-- Behind a block just laid: what is left. -/
theorem left1 (mb wb : Nat) (x : Int) (code : List Cod) (s : SS) (cv sv kv iv ov : Value) (w : World) (cs : Array Value) (ty : TypeId) (hM : SAt Q w mb wb code s cv sv kv iv ov) (hl : s.ops.length ≤ 1000) :
    Calls Try.prog 59 #[.pointer (some ⟨mb, 0, none⟩), .int .i64 0, .slice (some ⟨w.heap.size + 1, 0, none⟩) 1 1] ((w.alloc (.cells cs ty)).alloc (.cells #[.int .i32 x] 21)) (SDoes Q w mb wb code s cv sv kv iv ov (puts s 0 [x])) := by
  have ho0 : Only Nil w (w.alloc (.cells cs ty)) := (Only.refl _ _).alloc _
  have cL := leave1 (Q := Q) mb wb 0 x code s cv sv kv iv ov _ (hM.quiet ho0) hl (Nat.zero_le _)
  rw [size_alloc1, show ((0 : Nat) : Int) = 0 from rfl] at cL
  exact cL.mono fun e w' ⟨sv', h1, h2, h3⟩ => ⟨sv', kv, iv, ov, h1, (Gone.of_nil ho0).trans h2, h3⟩
theorem left1d (mb wb : Nat) (x : Int) (code : List Cod) (s : SS) (cv sv kv iv ov : Value) (w : World) (cs : Array Value) (ty : TypeId) (hM : SAt Q w mb wb code s cv sv kv iv ov) (hl : s.ops.length ≤ 1000) :
    Calls Try.prog 59 #[.pointer (some ⟨mb, 0, none⟩), .int .i64 0, .slice (some ⟨w.heap.size + 1, 0, none⟩) 1 1] ((w.alloc (.cells cs ty)).alloc (.cells #[.int .i32 x] 21)).drew (SDoes Q w mb wb code s cv sv kv iv ov (puts s 0 [x])) := by
  have ho0 : Only Nil w ((w.alloc (.cells cs ty)).alloc (.cells #[.int .i32 x] 21)).drew := (((Only.refl _ _).alloc _).alloc _).drew
  have hlt := hM.blk.lt
  have hS := (srcI_new (w.alloc (.cells cs ty)) [x] 1 rfl 21).kept (S := Nil) (Only.refl Nil _).drew (fun _ h => h)
  have cL := leaves_any (Q := Q) mb wb 0 _ [x] _ code s cv sv kv iv ov _ (hM.quiet ho0) hl (Nat.zero_le _) hS (by simp) (fun _ => by rw [size_alloc1]; omega)
  rw [size_alloc1, show ((0 : Nat) : Int) = 0 from rfl] at cL
  exact cL.mono fun e w' ⟨sv', h1, h2, h3⟩ => ⟨sv', kv, iv, ov, h1, (Gone.of_nil ho0).trans h2, h3⟩
theorem SDoes.from {w w1 : World} {mb wb : Nat} {code : List Cod} {s : SS} {cv sv kv iv ov : Value} {X : Option SS} {e : Ending} {w' : World} (h : SDoes Q w1 mb wb code s cv sv kv iv ov X e w') (ho : Only Nil w w1) : SDoes Q w mb wb code s cv sv kv iv ov X e w' := by
  obtain ⟨sv', kv', iv', ov', h1, h2, h3⟩ := h
  exact ⟨sv', kv', iv', ov', h1, (Gone.of_nil ho).trans h2, h3⟩

set_option maxRecDepth 10000 in
set_option maxHeartbeats 3200000 in
theorem change_any (mb wb : Nat) (c : Cod) (hk : I32 c.k) (code : List Cod) (s : SS) (cv sv kv iv ov : Value) (w : World) (hM : SAt Q w mb wb code s cv sv kv iv ov) (hs : s.Ok) (hol : s.out.length ≤ 1099511627776) :
    Calls Try.prog 47 #[.pointer (some ⟨mb, 0, none⟩), c.val] w (SDoes Q w mb wb code s cv sv kv iv ov (sChange s c)) := by
  obtain ⟨op, k⟩ := c
  simp only at hk
  show Calls Try.prog 47 #[.pointer (some ⟨mb, 0, none⟩), .agg #[.int .i64 op, .int .i32 k]] w _
  have kw : IntKind.i64.wrap k = k := by unfold I32 at hk; rw [IntKind.wrap_i64]; omega
  have ho0 : Only Nil w (w.alloc (.cells #[Value.int .i64 op, .int .i32 k] 55)) := (Only.refl _ _).alloc _
  have hM0 := hM.quiet ho0
  have hlt0 := hM.blk.lt
  have HO := Lib.hid ho0
  have HS := Lib.hid hs
  have hl := hs.nops
  by_cases h1 : op = 1
  · subst h1
    have e1 : sChange s ⟨1, k⟩ = puts s 0 [k] := rfl
    rw [e1]
    have cL := left1 (Q := Q) mb wb k code s cv sv kv iv ov w #[Value.int .i64 1, .int .i32 k] 55 hM hl
    obtain ⟨X, hX⟩ : ∃ X, puts s 0 [k] = X := ⟨_, rfl⟩
    rw [hX] at cL ⊢
    clear hM hM0 ho0 hs e1 hX hl hol hk kw
    go_enter Try.func47, Try.ntmps47
    go_wp2_with fail
    refine cL.mono ?_
    rintro e w1 ⟨sv', kv', iv', ov', rfl, hg, hM'⟩
    go_wp2_with fail
    go_ret
    exact ⟨sv', kv', iv', ov', rfl, hg, hM'⟩
  by_cases h5 : op = 5
  · subst h5
    have e1 : sChange s ⟨5, k⟩ = puts s 0 [wrap32 (s.fp + k)] := rfl
    rw [e1]
    have c6 : w.cell? ⟨mb, 6, none⟩ = some (.int .i64 s.fp) := hM.blk.cell 6
    have hfp : s.fp ≤ 1048576 := Nat.le_trans hs.fp hs.len
    have cA := fun w => add_any (s.fp : Int) k w (by unfold I32; omega) hk
    obtain ⟨x, hx⟩ : ∃ x, wrap32 ((s.fp : Int) + k) = x := ⟨_, rfl⟩
    rw [hx] at cA ⊢
    have cL := left1d (Q := Q) mb wb x code s cv sv kv iv ov w #[Value.int .i64 5, .int .i32 k] 55 hM hl
    obtain ⟨X, hX⟩ : ∃ X, puts s 0 [x] = X := ⟨_, rfl⟩
    rw [hX] at cL ⊢
    obtain ⟨f, hf⟩ : ∃ f, s.fp = f := ⟨_, rfl⟩
    rw [hf] at cA c6 hfp
    have fw : IntKind.i32.wrap (f : Int) = (f : Int) := by rw [IntKind.wrap_i32]; omega
    clear hM hM0 ho0 hs e1 hX hl hol hk kw hx hf
    go_enter Try.func47, Try.ntmps47
    go_wp2_with fail
    go_region_with (first | (refine (cA _).mono ?_; rintro e w1 ⟨rfl, rfl⟩) | (refine cL.mono ?_; rintro e w1 ⟨sv', kv', iv', ov', rfl, hg, hM'⟩))
    all_goals
      go_wp2_with fail
      go_ret
      exact ⟨_, _, _, _, rfl, by assumption, by assumption⟩
  by_cases h28 : op = 28
  · subst h28
    have e1 : sChange s ⟨28, k⟩ = sEnter s k := rfl
    rw [e1]
    have cL := enter_any (Q := Q) mb wb k code s cv sv kv iv ov _ hM0 hs hk
    obtain ⟨X, hX⟩ : ∃ X, sEnter s k = X := ⟨_, rfl⟩
    rw [hX] at cL ⊢
    clear hM hM0 ho0 hs e1 hX hl hol hk h1 h5
    go_enter Try.func47, Try.ntmps47
    go_wp2_with fail
    refine cL.mono ?_
    rintro e w1 hd
    obtain ⟨sv', kv', iv', ov', rfl, hg, hM'⟩ := hd.from HO.out
    go_wp2_with fail
    go_ret
    exact ⟨sv', kv', iv', ov', rfl, hg, hM'⟩
  by_cases h31 : op = 31
  · subst h31
    have e1 : sChange s ⟨31, k⟩ = sGetc s := rfl
    rw [e1]
    have cL := getc_any (Q := Q) mb wb code s cv sv kv iv ov _ hM0 hs
    obtain ⟨X, hX⟩ : ∃ X, sGetc s = X := ⟨_, rfl⟩
    rw [hX] at cL ⊢
    clear hM hM0 ho0 hs e1 hX hl hol hk kw h1 h5 h28
    go_enter Try.func47, Try.ntmps47
    go_wp2_with fail
    refine cL.mono ?_
    rintro e w1 hd
    obtain ⟨sv', kv', iv', ov', rfl, hg, hM'⟩ := hd.from HO.out
    go_wp2_with fail
    go_ret
    exact ⟨sv', kv', iv', ov', rfl, hg, hM'⟩
  by_cases h32 : op = 32
  · subst h32
    have e1 : sChange s ⟨32, k⟩ = puts s 0 [M.one (s.inp.length == 0)] := rfl
    rw [e1]
    have c4 : w.cell? ⟨mb, 4, none⟩ = some iv := hM.blk.cell 4
    have hiv : ∃ ao cap, iv = .slice ao s.inp.length cap := by
      obtain ⟨b, ao, cap, off, h, _⟩ := hM.inp
      exact ⟨ao, cap, h⟩
    obtain ⟨ao, cap, rfl⟩ := hiv
    by_cases hz : s.inp.length = 0
    · have cO := fun w => oneS_any true w
      have cL := left1 (Q := Q) mb wb (M.one true) code s cv sv kv _ ov w #[Value.int .i64 32, .int .i32 k] 55 hM hl
      rw [hz] at c4 ⊢
      rw [show ((0 : Nat) == 0) = true from rfl]
      obtain ⟨y, hy⟩ : ∃ y, M.one true = y := ⟨_, rfl⟩
      rw [hy] at cO cL ⊢
      obtain ⟨X, hX⟩ : ∃ X, puts s 0 [y] = X := ⟨_, rfl⟩
      rw [hX] at cL ⊢
      rw [hz] at cL
      clear hM hM0 ho0 hs e1 hX hl hol hk kw h1 h5 h28 h31 hy hz
      go_enter Try.func47, Try.ntmps47
      go_wp2_with fail
      refine (cO _).mono ?_
      rintro e w1 ⟨rfl, rfl⟩
      go_wp2_with fail
      refine cL.mono ?_
      rintro e w1 ⟨sv', kv', iv', ov', rfl, hg, hM'⟩
      go_wp2_with fail
      go_ret
      exact ⟨sv', kv', iv', ov', rfl, hg, hM'⟩
    · have cO := fun w => oneS_any false w
      have cL := left1 (Q := Q) mb wb (M.one false) code s cv sv kv _ ov w #[Value.int .i64 32, .int .i32 k] 55 hM hl
      obtain ⟨n, hn⟩ : ∃ n, s.inp.length = n := ⟨_, rfl⟩
      rw [hn] at c4 cL hz ⊢
      have hz1 : (n == 0) = false := by simpa using hz
      have hz2 : ((n : Int) == 0) = false := by simp; omega
      rw [hz1]
      obtain ⟨y, hy⟩ : ∃ y, M.one false = y := ⟨_, rfl⟩
      rw [hy] at cO cL ⊢
      obtain ⟨X, hX⟩ : ∃ X, puts s 0 [y] = X := ⟨_, rfl⟩
      rw [hX] at cL ⊢
      have HN := Lib.hid hn
      clear hM hM0 ho0 hs e1 hX hl hol hk kw h1 h5 h28 h31 hy hz hz1 hn
      go_enter Try.func47, Try.ntmps47
      go_wp2_with fail
      refine (cO _).mono ?_
      rintro e w1 ⟨rfl, rfl⟩
      go_wp2_with fail
      refine cL.mono ?_
      rintro e w1 ⟨sv', kv', iv', ov', rfl, hg, hM'⟩
      go_wp2_with fail
      go_ret
      exact ⟨sv', kv', iv', ov', rfl, hg, hM'⟩
  by_cases hop : op = 3 ∨ op = 2 ∨ op = 6 ∨ op = 14 ∨ op = 18 ∨ op = 33
  · have e1 : sChange s ⟨op, k⟩ = sOne s op := by unfold sChange; simp only [h1, h5, h28, h31, h32, if_false]; rw [if_pos hop]
    rw [e1]
    have cL := ofOne_any (Q := Q) mb wb op hop code s cv sv kv iv ov _ hM0 hs hol
    obtain ⟨X, hX⟩ : ∃ X, sOne s op = X := ⟨_, rfl⟩
    rw [hX] at cL ⊢
    clear hM hM0 ho0 hs e1 hX hl hol hk kw h1 h5 h28 h31 h32
    rcases hop with rfl | rfl | rfl | rfl | rfl | rfl
    all_goals
      go_enter Try.func47, Try.ntmps47
      go_wp2_with fail
      refine cL.mono ?_
      rintro e w1 hd
      obtain ⟨sv', kv', iv', ov', rfl, hg, hM'⟩ := hd.from HO.out
      go_wp2_with fail
      go_ret
      exact ⟨sv', kv', iv', ov', rfl, hg, hM'⟩
  have e1 : sChange s ⟨op, k⟩ = sTwo s ⟨op, k⟩ := by unfold sChange; simp only [h1, h5, h28, h31, h32, if_false]; rw [if_neg hop]
  rw [e1]
  have cL := ofTwo_any (Q := Q) mb wb ⟨op, k⟩ hk code s cv sv kv iv ov _ hM0 hs
  rw [show (⟨op, k⟩ : Cod).val = .agg #[.int .i64 op, .int .i32 k] from rfl] at cL
  obtain ⟨X, hX⟩ : ∃ X, sTwo s ⟨op, k⟩ = X := ⟨_, rfl⟩
  rw [hX] at cL ⊢
  have g1 : (op == 1) = false := ne_beq h1
  have g5 : (op == 5) = false := ne_beq h5
  have g28 : (op == 28) = false := ne_beq h28
  have g31 : (op == 31) = false := ne_beq h31
  have g32 : (op == 32) = false := ne_beq h32
  have g3 : (op == 3) = false := ne_beq (fun h => hop (by omega))
  have g2 : (op == 2) = false := ne_beq (fun h => hop (by omega))
  have g6 : (op == 6) = false := ne_beq (fun h => hop (by omega))
  have g14 : (op == 14) = false := ne_beq (fun h => hop (by omega))
  have g18 : (op == 18) = false := ne_beq (fun h => hop (by omega))
  have g33 : (op == 33) = false := ne_beq (fun h => hop (by omega))
  clear hM hM0 ho0 hs e1 hX hl hol hk kw h1 h5 h28 h31 h32 hop
  go_enter Try.func47, Try.ntmps47
  go_wp2_with fail
  refine cL.mono ?_
  rintro e w1 hd
  obtain ⟨sv', kv', iv', ov', rfl, hg, hM'⟩ := hd.from HO.out
  go_wp2_with fail
  go_ret
  exact ⟨sv', kv', iv', ov', rfl, hg, hM'⟩
end Go.Proofs.Ytpnhjjihdcopnaa

