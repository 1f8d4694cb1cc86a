/- The stack machine: words are moved, a frame is begun. -/
import Derived.Test.YtpnhjjihdcopnaaSActs
import Derived.Laws.CopyRow
import Derived.Lib.SliceRun
import Derived.Deep.RegionLaw
import Derived.Deep.Quiet
import Derived.Deep.QuietTactic
set_option linter.unusedSimpArgs false
set_option linter.unusedVariables false
namespace Go.Proofs.Ytpnhjjihdcopnaa
open Go.RowKit M
variable {Q : Nat → Prop}

/-- The machine's words are others, as many. -/
theorem SAt.words {w w' : World} {mb wb : Nat} {code : List Cod} {s : SS} {cv sv kv iv ov : Value} {m : List Int} (h : SAt Q w mb wb code s cv sv kv iv ov) (hB : Blk w' wb (I32s m).toArray 21) (ho : Only (M.One wb) w w') (hl : m.length = s.mem.length) :
    SAt Q w' mb wb code { s with mem := m } cv sv kv iv ov ∧ Gone w w' mb wb sv kv ov sv kv ov := by
  have q : ∀ j, M.One wb j → OwnQ Q mb wb sv.ownBlock kv.ownBlock ov.ownBlock j := fun j hj => Or.inl (Or.inr (Or.inl hj))
  have f : ∀ {x : Option Nat}, x ≠ some wb → ∀ k, x = some k → ¬ M.One wb k := fun hx k hk h1 => hx (by rw [hk, show k = wb from h1])
  have hB2 := h.blk.kept ho (fun e => h.five.mw e)
  refine ⟨⟨?_, hB, ownsRow_only h.ops ho (fun k hk => f h.five.sw k hk), ownsRow_only h.cls ho (fun k hk => f h.five.kw k hk), ownsRow_only h.out ho (fun k hk => f h.five.ow k hk), h.cod.kept ho q, h.inp.kept ho q, h.five⟩, ⟨ho.mono (fun _ h => Or.inr (Or.inl h)), Or.inl rfl, Or.inl rfl, Or.inl rfl⟩⟩
  show Blk _ mb (scells cv (.slice (some ⟨wb, 0, none⟩) m.length m.length) sv kv iv ov _) _
  rw [hl]
  exact hB2
/-- A copy as one step of a region that draws. -/
theorem step_copy_known {P : Program} {w w' : World} {ops : Array Oper} {o : Oper} {a : Act} {K : Act → World → Prop} {Q : Exit → Act → World → Prop} {E : Prop} (hgd : o.guard = none) (d x : Operand) (t u : TypeId)
    (ho : o.op = .call { callee := .builtin .copy, args := #[d, x], argTypes := #[t, u] }) (dv xv v : Value) (hd : a.eval d = dv) (hx : a.eval x = xv)
    (hrun : (Builtin.copy_ #[t, u] o.type #[dv, xv]).run P w = .ok v w') (h : K (a.put o.dst v) w') :
    if Region.wanted o (yielded ops a.tmps) = true then Oper.wp P o a w K Q else E := by
  have hw : Region.wanted o (yielded ops a.tmps) = true := by simp [Region.wanted, hgd]
  rw [if_pos hw]
  unfold Oper.wp execOp
  simp only [ho, resolve, invoke, builtin, Sem.run_bind, Sem.run_pure, Result.andThen_ok, List.map_toArray, List.map_cons, List.map_nil, hd, hx, hrun]
  exact h
theorem moved_len (m : List Int) (p q k : Nat) (h1 : p + k ≤ m.length) (h2 : q + k ≤ m.length) : (moved m p q k).length = m.length := by
  unfold moved; simp only [List.length_append, List.length_take, List.length_drop]; omega
theorem cleared_len (m : List Int) (p k : Nat) (h1 : p + k ≤ m.length) : (cleared m p k).length = m.length := by
  unfold cleared; simp only [List.length_append, List.length_take, List.length_drop, List.length_replicate]; omega
theorem setRow_blk {w : World} {b : Nat} {cs cs' : Array Value} {t : TypeId} (h : Blk w b cs t) : Blk (w.setRow b cs') b cs' t ∧ Only (M.One b) w (w.setRow b cs') := by
  have hlt := h.lt
  unfold Blk at h ⊢
  have h1 := setRow_heap w b cs cs' t (0, 0) h
  refine ⟨h1, ⟨rfl, rfl, rfl, ?_, fun k hk hne => ?_⟩⟩
  · simp [World.setRow]
  · simp only [World.setRow, Array.getElem?_modify]
    rw [if_neg (fun e => hne (show k = b from e.symm))]

set_option maxRecDepth 10000 in
set_option maxHeartbeats 3200000 in
theorem move_any (mb wb : Nat) (p q k : Int) (code : List Cod) (s : SS) (cv sv kv iv ov : Value) (w : World) (hM : SAt Q w mb wb code s cv sv kv iv ov) (hs : s.Ok) (hn : 2 ≤ s.ops.length) (hp : I32 p) (hq : I32 q) (hk : I32 k) {X : Option SS}
    (hX : (if 0 ≤ k ∧ 0 ≤ p ∧ 0 ≤ q ∧ p + k ≤ s.mem.length ∧ q + k ≤ s.mem.length then puts { s with mem := moved s.mem p.toNat q.toNat k.toNat } 2 [] else none) = X) :
    Calls Try.prog 75 #[.pointer (some ⟨mb, 0, none⟩), .int .i64 p, .int .i64 q, .int .i64 k] w (SDoes Q w mb wb code s cv sv kv iv ov X) := by
  have c1 : w.cell? ⟨mb, 1, none⟩ = some (.slice (some ⟨wb, 0, none⟩) s.mem.length s.mem.length) := hM.blk.cell 1
  have hlt := hM.blk.lt
  have hlm := hs.len
  unfold I32 at hp hq hk
  by_cases h0 : 0 ≤ k ∧ 0 ≤ p ∧ 0 ≤ q ∧ p + k ≤ s.mem.length ∧ q + k ≤ s.mem.length
  · rw [if_pos h0] at hX
    obtain ⟨k1, k2, k3, k4, k5⟩ := h0
    obtain ⟨k, rfl⟩ : ∃ x : Nat, k = x := ⟨k.toNat, by omega⟩
    obtain ⟨p, rfl⟩ : ∃ x : Nat, p = x := ⟨p.toNat, by omega⟩
    obtain ⟨q, rfl⟩ : ∃ x : Nat, q = x := ⟨q.toNat, by omega⟩
    simp only [Int.toNat_natCast] at hX
    have hml := moved_len s.mem p q k (by omega) (by omega)
    have hp0 := puts_some (s := { s with mem := moved s.mem p q k }) (n := 2) (l := []) (by have := hs.nops; simp only [List.length_nil]; omega)
    rw [hX] at hp0
    obtain ⟨n, hnn⟩ : ∃ n, s.mem.length = n := ⟨_, rfl⟩
    have hBw := hM.wrd
    obtain ⟨o1, ho1, hop⟩ : ∃ o1, (if n = p then some (⟨wb, 0, none⟩ : Addr) else some ⟨wb, p, none⟩) = some ⟨wb, o1, none⟩ ∧ (o1 = p ∨ (k = 0 ∧ o1 = 0)) := by
      by_cases e : n = p
      · exact ⟨0, by rw [if_pos e], Or.inr ⟨by omega, rfl⟩⟩
      · exact ⟨p, by rw [if_neg e], Or.inl rfl⟩
    obtain ⟨o2, ho2, hoq⟩ : ∃ o2, (if n = q then some (⟨wb, 0, none⟩ : Addr) else some ⟨wb, q, none⟩) = some ⟨wb, o2, none⟩ ∧ (o2 = q ∨ (k = 0 ∧ o2 = 0)) := by
      by_cases e : n = q
      · exact ⟨0, by rw [if_pos e], Or.inr ⟨by omega, rfl⟩⟩
      · exact ⟨q, by rw [if_neg e], Or.inl rfl⟩
    obtain ⟨pa, hpa⟩ : ∃ pa, p + k = pa := ⟨_, rfl⟩
    obtain ⟨qa, hqa⟩ : ∃ qa, q + k = qa := ⟨_, rfl⟩
    have hcp : ∀ ty, (Builtin.copy_ #[57, 57] ty #[.slice (some ⟨wb, o1, none⟩) (pa - p) (n - p), .slice (some ⟨wb, o2, none⟩) (qa - q) (n - q)]).run Try.prog w.drew = .ok (goInt k) (w.drew.setRow wb (I32s (moved s.mem p q k)).toArray) := by
      intro ty
      rw [show pa - p = k by omega, show qa - q = k by omega]
      have hBw := hBw.drew
      have hc := run_copy_row (P := Try.prog) w.drew 57 57 ty 21 wb o1 k (n - p) ⟨wb, o2, none⟩ k (n - q) (I32s s.mem).toArray 21 (I32s ((s.mem.drop q).take k)) Try.underlying57 (by kernel_rfl) hBw
        (by rw [I32s_len, List.length_take, List.length_drop]; show min k (s.mem.length - q) = min k k; omega)
        (fun j v hj => by
          have hjl := (List.getElem?_eq_some_iff.1 hj).1
          rw [I32s_len, List.length_take, List.length_drop] at hjl
          have e2 : o2 = q := by omega
          subst e2
          rw [M.addr_add, hBw.cell, List.getElem?_toArray]
          rw [← hj]
          simp [I32s, List.getElem?_take, show j < k by omega])
        (by rw [I32s_len, List.length_take, List.length_drop]; simp only [List.size_toArray, I32s_len]; omega) (I32s_one _)
      rw [hc]
      have e3 : (I32s ((s.mem.drop q).take k)).length = k := by rw [I32s_len, List.length_take, List.length_drop]; omega
      rw [e3]
      congr 3
      unfold moved
      rcases hop with rfl | ⟨rfl, rfl⟩
      · simp [I32s, List.map_append, List.map_take, List.map_drop]
      · simp [I32s]
    have hrow := setRow_blk (cs' := (I32s (moved s.mem p q k)).toArray) hBw.drew
    have hW := (hM.quiet (Only.refl Nil w).drew).words hrow.1 hrow.2 hml
    have cL := leave0 (Q := Q) mb wb 2 code { s with mem := moved s.mem p q k } cv sv kv iv ov _ hW.1 hs.nops hn
    rw [show ((2 : Nat) : Int) = 2 from rfl, hX] at cL
    have HCP := Lib.hid hcp
    clear hcp
    have HW := Lib.hid hW.2
    have HP0 := Lib.hid hp0
    rw [hnn] at c1 hlm k4 k5
    have wp1 : IntKind.i64.wrap (pa : Int) = (pa : Int) := by rw [IntKind.wrap_i64]; omega
    have wq1 : IntKind.i64.wrap (qa : Int) = (qa : Int) := by rw [IntKind.wrap_i64]; omega
    have wp2 : (p : Int) + (k : Int) = (pa : Int) := by omega
    have wq2 : (q : Int) + (k : Int) = (qa : Int) := by omega
    have wp3 : (pa : Int) ≤ (n : Int) := by omega
    have wq3 : (qa : Int) ≤ (n : Int) := by omega
    have wp4 : p ≤ pa := by omega
    have wq4 : q ≤ qa := by omega
    have wp5 : (0 : Int) ≤ (pa : Int) := Int.natCast_nonneg _
    have wq5 : (0 : Int) ≤ (qa : Int) := Int.natCast_nonneg _
    clear hpa hqa
    have tk : decide ((k : Int) < 0) = false := by simp
    have tp : decide ((p : Int) < 0) = false := by simp
    have tq : decide ((q : Int) < 0) = false := by simp
    have tpa : decide ((n : Int) < (pa : Int)) = false := by simp; omega
    have tqa : decide ((n : Int) < (qa : Int)) = false := by simp; omega
    have p0 : (0 : Int) ≤ (p : Int) := Int.natCast_nonneg _
    have q0 : (0 : Int) ≤ (q : Int) := Int.natCast_nonneg _
    have kk0 : (0 : Int) ≤ (k : Int) := Int.natCast_nonneg _
    clear hM hs hn hX hml hp0 hnn hBw hrow hW hop hoq k1 k2 k3
    go_enter Try.func75, Try.ntmps75
    go_wp2_with fail
    go_region_law (refine step_copy_known rfl (.tmp 49) (.tmp 58) 57 57 rfl _ _ _ (by simp [Act.eval, Act.put]) (by simp [Act.eval, Act.put]) (HCP.out _) ?_)
    all_goals
      go_wp2_with fail
      refine cL.mono ?_
      rintro e w1 ⟨sv', rfl, hg, hM'⟩
      clear cL
      have HM' := Lib.hid hM'
      have HG := Lib.hid hg
      obtain ⟨b, hb⟩ : ∃ b, X.isSome = b := ⟨_, rfl⟩
      rw [hb]
      have HB := Lib.hid hb
      clear hM' hg hb
      go_wp2_with fail
      go_ret
      refine ⟨sv', kv, iv, ov, ret_bool HB.out.symm, ((Gone.of_nil (Only.refl Nil w).drew).trans HW.out).trans HG.out, ?_⟩
      have hh := HM'.out
      rw [HP0.out] at hh ⊢
      exact hh
  · rw [if_neg h0] at hX
    subst hX
    obtain ⟨n, hnn⟩ : ∃ n, s.mem.length = n := ⟨_, rfl⟩
    rw [hnn] at c1 h0 hlm
    have HM := Lib.hid hM
    clear hM hs hnn
    by_cases g1 : k < 0
    · clear h0
      go_enter Try.func75, Try.ntmps75
      go_wp2_with fail
      go_ret
      exact ⟨sv, kv, iv, ov, rfl, Gone.of_nil (Only.refl _ _), HM.out⟩
    · have t1 : decide (k < 0) = false := by simp; omega
      by_cases g2 : p < 0
      · clear h0
        go_enter Try.func75, Try.ntmps75
        go_wp2_with fail
        go_ret
        exact ⟨sv, kv, iv, ov, rfl, Gone.of_nil (Only.refl _ _), HM.out⟩
      · have t2 : decide (p < 0) = false := by simp; omega
        by_cases g3 : q < 0
        · clear h0
          go_enter Try.func75, Try.ntmps75
          go_wp2_with fail
          go_ret
          exact ⟨sv, kv, iv, ov, rfl, Gone.of_nil (Only.refl _ _), HM.out⟩
        · have t3 : decide (q < 0) = false := by simp; omega
          by_cases g4 : (n : Int) < p + k
          · clear h0
            go_enter Try.func75, Try.ntmps75
            go_wp2_with fail
            go_ret
            exact ⟨sv, kv, iv, ov, rfl, Gone.of_nil (Only.refl _ _), HM.out⟩
          · have t4 : decide ((n : Int) < p + k) = false := by simp; omega
            have g5 : (n : Int) < q + k := by omega
            clear h0
            go_enter Try.func75, Try.ntmps75
            go_wp2_with fail
            go_ret
            exact ⟨sv, kv, iv, ov, rfl, Gone.of_nil (Only.refl _ _), HM.out⟩
end Go.Proofs.Ytpnhjjihdcopnaa

/- The stack machine: an instruction that takes two operands. -/
set_option linter.unusedSimpArgs false
set_option linter.unusedVariables false
namespace Go.Proofs.Ytpnhjjihdcopnaa
open Go.RowKit M
variable {Q : Nat → Prop}

set_option maxRecDepth 10000 in
set_option maxHeartbeats 3200000 in
theorem ofTwo_any (mb wb : Nat) (c : Cod) (hk : I32 c.k) (code : List Cod) (s : SS) (cv sv kv iv ov : Value) (w : World) (hM : SAt Q w mb wb code s cv sv kv iv ov) (hs : s.Ok) :
    Calls Try.prog 65 #[.pointer (some ⟨mb, 0, none⟩), c.val] w (SDoes Q w mb wb code s cv sv kv iv ov (sTwo s c)) := by
  obtain ⟨op, k⟩ := c
  simp only at hk
  show Calls Try.prog 65 #[.pointer (some ⟨mb, 0, none⟩), .agg #[.int .i64 op, .int .i32 k]] w _
  have kw : IntKind.i64.wrap k = k := by unfold I32 at hk; rw [IntKind.wrap_i64]; omega
  have ho0 : Only Nil w (w.alloc (.cells #[Value.int .i64 op, .int .i32 k] 55)) := (Only.refl _ _).alloc _
  have hM0 := hM.quiet ho0
  have hlt0 := hM.blk.lt
  by_cases h2 : s.ops.length < 2
  · have e1 : sTwo s ⟨op, k⟩ = none := by unfold sTwo; rw [if_pos h2]
    rw [e1]
    have c1 := opd_out (Q := Q) mb wb 1 code s cv sv kv iv ov _ hM0 hs.nops (by omega) (by decide)
    rw [show ((1 : Nat) : Int) = 1 from rfl] at c1
    have c0 : ∃ (x : Int) (b : Bool), Calls Try.prog 71 #[.pointer (some ⟨mb, 0, none⟩), .int .i64 0] (w.alloc (.cells #[Value.int .i64 op, .int .i32 k] 55)) fun e w' => e = .returned (.tuple #[.int .i32 x, .bool b]) ∧ (w.alloc (.cells #[Value.int .i64 op, .int .i32 k] 55)) = w' := by
      by_cases h0 : s.ops.length = 0
      · exact ⟨0, false, opd_out (Q := Q) mb wb 0 code s cv sv kv iv ov _ hM0 hs.nops (by omega) (by decide)⟩
      · exact ⟨_, true, opd_in (Q := Q) mb wb 0 code s cv sv kv iv ov _ hM0 hs.nops (by omega)⟩
    obtain ⟨x, b, c0⟩ := c0
    have HM0 := Lib.hid hM0
    have HO := Lib.hid ho0
    clear hM hM0 hs e1 ho0 hk h2
    go_enter Try.func65, Try.ntmps65
    go_wp2_with fail
    refine c1.mono ?_
    rintro e w1 ⟨rfl, rfl⟩
    clear c1
    go_wp2_with fail
    refine c0.mono ?_
    rintro e w1 ⟨rfl, rfl⟩
    clear c0
    go_wp2_with fail
    go_ret
    exact ⟨sv, kv, iv, ov, rfl, Gone.of_nil HO.out, HM0.out⟩
  have c1 : Calls Try.prog 71 #[.pointer (some ⟨mb, 0, none⟩), .int .i64 1] (w.alloc (.cells #[Value.int .i64 op, .int .i32 k] 55)) fun e w1 => e = .returned (.tuple #[.int .i32 (opd s 1), .bool true]) ∧ (w1.cell? ⟨w.heap.size, 0, none⟩ = some (.int .i64 op) ∧ w1.cell? ⟨w.heap.size, 1, none⟩ = some (.int .i32 k) ∧ w.heap.size < w1.heap.size ∧ mb < w1.heap.size) ∧ SAt Q w1 mb wb code s cv sv kv iv ov ∧ Only Nil w w1 := by
    refine (opd_in (Q := Q) mb wb 1 code s cv sv kv iv ov _ hM0 hs.nops (by omega)).mono ?_
    rintro e w1 ⟨rfl, rfl⟩
    have hB := Blk.new w #[Value.int .i64 op, .int .i32 k] 55
    exact ⟨rfl, ⟨hB.cell 0, hB.cell 1, hB.lt, hM0.blk.lt⟩, hM0, ho0⟩
  have c0 := fun w (hM : SAt Q w mb wb code s cv sv kv iv ov) => opd_in (Q := Q) mb wb 0 code s cv sv kv iv ov w hM hs.nops (by omega)
  rw [show ((0 : Nat) : Int) = 0 from rfl] at c0
  have ha0 := opd_i32 hs 1
  have hb0 := opd_i32 hs 0
  have hn2 : 2 ≤ s.ops.length := by omega
  obtain ⟨a, ha⟩ : ∃ a, opd s 1 = a := ⟨_, rfl⟩
  obtain ⟨b, hb⟩ : ∃ b, opd s 0 = b := ⟨_, rfl⟩
  rw [ha] at c1 ha0
  rw [hb] at c0 hb0
  have aw : IntKind.i64.wrap a = a := by unfold I32 at ha0; rw [IntKind.wrap_i64]; omega
  have bw : IntKind.i64.wrap b = b := by unfold I32 at hb0; rw [IntKind.wrap_i64]; omega
  have hso : sTwo s ⟨op, k⟩ = if op = 4 then puts s 2 [b, a] else if op = 7 then (if 0 ≤ a ∧ a < s.mem.length then puts { s with mem := s.mem.set a.toNat b } 2 [] else none) else if op = 8 then (if 0 ≤ k ∧ 0 ≤ a ∧ 0 ≤ b ∧ a + k ≤ s.mem.length ∧ b + k ≤ s.mem.length then puts { s with mem := moved s.mem a.toNat b.toNat k.toNat } 2 [] else none) else (reck op a b).bind fun v => puts s 2 [v] := by
    unfold sTwo; rw [if_neg h2, ha, hb]
  have hl := hs.nops
  have HS := Lib.hid hs
  clear ho0 hM0 hM
  by_cases h4 : op = 4
  · subst h4
    rw [if_pos rfl] at hso
    have cL := fun w (hM : SAt Q w mb wb code s cv sv kv iv ov) => leave2 (Q := Q) mb wb 2 b a code s cv sv kv iv ov w hM hl hn2
    rw [show ((2 : Nat) : Int) = 2 from rfl, ← hso] at cL
    obtain ⟨X, hX⟩ : ∃ X, sTwo s ⟨4, k⟩ = X := ⟨_, rfl⟩
    rw [hX] at cL ⊢
    clear hso hX hl hs ha hb h2 hn2 hk kw aw bw ha0 hb0
    go_enter Try.func65, Try.ntmps65
    go_wp2_with fail
    refine c1.mono ?_
    rintro e w1 ⟨rfl, ⟨d0, d1, dlt, mlt⟩, hM1, ho1⟩
    clear c1
    have HO := Lib.hid ho1
    have HM1 := Lib.hid hM1
    clear ho1 hM1
    go_wp2_with fail
    refine (c0 _ HM1.out).mono ?_
    rintro e w1 ⟨rfl, rfl⟩
    clear c0
    go_wp2_with fail
    refine (cL _ HM1.out).mono ?_
    rintro e w1 ⟨sv', rfl, hg, hM'⟩
    go_wp2_with fail
    go_ret
    exact ⟨sv', kv, iv, ov, rfl, (Gone.of_nil HO.out).trans hg, hM'⟩
  by_cases h7 : op = 7
  · subst h7
    rw [if_neg (by decide), if_pos rfl] at hso
    have cL := fun w (hM : SAt Q w mb wb code s cv sv kv iv ov) => storeS_any (Q := Q) mb wb a b code s cv sv kv iv ov w hM HS.out hn2 hso.symm
    obtain ⟨X, hX⟩ : ∃ X, sTwo s ⟨7, k⟩ = X := ⟨_, rfl⟩
    rw [hX] at cL ⊢
    clear hso hX hl hs ha hb h2 h4 hn2 hk kw bw ha0 hb0
    go_enter Try.func65, Try.ntmps65
    go_wp2_with fail
    refine c1.mono ?_
    rintro e w1 ⟨rfl, ⟨d0, d1, dlt, mlt⟩, hM1, ho1⟩
    clear c1
    have HO := Lib.hid ho1
    have HM1 := Lib.hid hM1
    clear ho1 hM1
    go_wp2_with fail
    refine (c0 _ HM1.out).mono ?_
    rintro e w1 ⟨rfl, rfl⟩
    clear c0
    go_wp2_with fail
    refine (cL _ HM1.out).mono ?_
    rintro e w1 ⟨sv', kv', iv', ov', rfl, hg, hM'⟩
    go_wp2_with fail
    go_ret
    exact ⟨sv', kv', iv', ov', rfl, (Gone.of_nil HO.out).trans hg, hM'⟩
  by_cases h8 : op = 8
  · subst h8
    rw [if_neg (by decide), if_neg (by decide), if_pos rfl] at hso
    have cL := fun w (hM : SAt Q w mb wb code s cv sv kv iv ov) => move_any (Q := Q) mb wb a b k code s cv sv kv iv ov w hM HS.out hn2 ha0 hb0 hk hso.symm
    obtain ⟨X, hX⟩ : ∃ X, sTwo s ⟨8, k⟩ = X := ⟨_, rfl⟩
    rw [hX] at cL ⊢
    clear hso hX hl hs ha hb h2 h4 h7 hn2 hk ha0 hb0
    go_enter Try.func65, Try.ntmps65
    go_wp2_with fail
    refine c1.mono ?_
    rintro e w1 ⟨rfl, ⟨d0, d1, dlt, mlt⟩, hM1, ho1⟩
    clear c1
    have HO := Lib.hid ho1
    have HM1 := Lib.hid hM1
    clear ho1 hM1
    go_wp2_with fail
    refine (c0 _ HM1.out).mono ?_
    rintro e w1 ⟨rfl, rfl⟩
    clear c0
    go_wp2_with fail
    refine (cL _ HM1.out).mono ?_
    rintro e w1 ⟨sv', kv', iv', ov', rfl, hg, hM'⟩
    go_wp2_with fail
    go_ret
    exact ⟨sv', kv', iv', ov', rfl, (Gone.of_nil HO.out).trans hg, hM'⟩
  rw [if_neg h4, if_neg h7, if_neg h8] at hso
  have g4 : (op == 4) = false := ne_beq h4
  have g7 : (op == 7) = false := ne_beq h7
  have g8 : (op == 8) = false := ne_beq h8
  have cR := fun w => reckon_any op a b ha0 hb0 w
  cases hR : reck op a b with
  | none =>
    rw [hR] at hso cR
    have hso' : sTwo s ⟨op, k⟩ = none := hso
    rw [hso']
    clear hso hso' hl hs ha hb h2 h4 h7 h8 hn2 hk kw aw bw ha0 hb0 hR
    go_enter Try.func65, Try.ntmps65
    go_wp2_with fail
    refine c1.mono ?_
    rintro e w1 ⟨rfl, ⟨d0, d1, dlt, mlt⟩, hM1, ho1⟩
    clear c1
    have HO := Lib.hid ho1
    have HM1 := Lib.hid hM1
    clear ho1 hM1
    go_wp2_with fail
    refine (c0 _ HM1.out).mono ?_
    rintro e w1 ⟨rfl, rfl⟩
    clear c0
    go_wp2_with fail
    refine (cR _).mono ?_
    rintro e w1 ⟨he, rfl⟩
    unfold RTells at he
    subst he
    clear cR
    go_wp2_with fail
    go_ret
    exact ⟨sv, kv, iv, ov, rfl, Gone.of_nil HO.out, HM1.out⟩
  | some v =>
    rw [hR] at hso cR
    have hso' : sTwo s ⟨op, k⟩ = puts s 2 [v] := hso
    have cL := fun w (hM : SAt Q w mb wb code s cv sv kv iv ov) => leave1 (Q := Q) mb wb 2 v code s cv sv kv iv ov w hM hl hn2
    rw [show ((2 : Nat) : Int) = 2 from rfl, ← hso'] at cL
    obtain ⟨X, hX⟩ : ∃ X, sTwo s ⟨op, k⟩ = X := ⟨_, rfl⟩
    rw [hX] at cL ⊢
    clear hso hso' hX hl hs ha hb h2 h4 h7 h8 hn2 hk kw aw bw ha0 hb0 hR
    go_enter Try.func65, Try.ntmps65
    go_wp2_with fail
    refine c1.mono ?_
    rintro e w1 ⟨rfl, ⟨d0, d1, dlt, mlt⟩, hM1, ho1⟩
    clear c1
    have HO := Lib.hid ho1
    have HM1 := Lib.hid hM1
    clear ho1 hM1
    go_wp2_with fail
    refine (c0 _ HM1.out).mono ?_
    rintro e w1 ⟨rfl, rfl⟩
    clear c0
    go_wp2_with fail
    refine (cR _).mono ?_
    rintro e w1 ⟨he, rfl⟩
    unfold RTells at he
    subst he
    clear cR
    go_wp2_with fail
    refine (cL _ HM1.out).mono ?_
    rintro e w1 ⟨sv', rfl, hg, hM'⟩
    obtain ⟨t, ht⟩ : ∃ t, X.isSome = t := ⟨_, rfl⟩
    rw [ht]
    have HB := Lib.hid ht
    clear ht
    go_wp2_with fail
    go_ret
    exact ⟨sv', kv, iv, ov, ret_bool (by rw [HB.out]), (Gone.of_nil HO.out).trans hg, hM'⟩
end Go.Proofs.Ytpnhjjihdcopnaa

