/- The stack machine: instructions behind which PC isn't just one more. -/
import Derived.Test.YtpnhjjihdcopnaaSActs
import Derived.Deep.AppendLies
import Derived.Deep.RegionLaw
set_option linter.unusedSimpArgs false
set_option linter.unusedVariables false
namespace Go.Proofs.Ytpnhjjihdcopnaa
open Go.RowKit M
variable {Q : Nat → Prop}

theorem SAt.pcTo {w : World} {mb wb : Nat} {code : List Cod} {s : SS} {cv sv kv iv ov : Value} (h : SAt Q w mb wb code s cv sv kv iv ov) (x : Int) : SAt Q (w.setCell ⟨mb, 8, none⟩ (.int .i64 x)) mb wb code { s with pc := x } cv sv kv iv ov ∧ Only (M.One mb) w (w.setCell ⟨mb, 8, none⟩ (.int .i64 x)) := by
  have ho : Only (M.One mb) w (w.setCell ⟨mb, 8, none⟩ (.int .i64 x)) := M.Only.setOne (Only.refl _ _) _ _
  have hB := h.blk.setCell 8 (.int .i64 x)
  rw [scells_pc] at hB
  exact ⟨h.own ho hB rfl rfl rfl rfl rfl, ho⟩

set_option maxRecDepth 10000 in
set_option maxHeartbeats 1600000 in
theorem zero_any (mb wb : Nat) (k : Int) (code : List Cod) (s : SS) (cv sv kv iv ov : Value) (w : World) (hM : SAt Q w mb wb code s cv sv kv iv ov) (hs : s.Ok) (hk : I32 k) :
    Calls Try.prog 56 #[.pointer (some ⟨mb, 0, none⟩), .int .i64 k] w (SDoes Q w mb wb code s cv sv kv iv ov (if s.ops.length = 0 then none else some { s with ops := s.ops.take (s.ops.length - 1), pc := if opd s 0 = 0 then k else s.pc + 1 })) := by
  by_cases h0 : s.ops.length = 0
  · have cO := opd_out (Q := Q) mb wb 0 code s cv sv kv iv ov w hM hs.nops (by omega) (by decide)
    rw [show ((0 : Nat) : Int) = 0 from rfl] at cO
    rw [if_pos h0]
    have HM := Lib.hid hM
    clear hM hs h0
    go_enter Try.func56, Try.ntmps56
    go_wp2_with fail
    refine cO.mono ?_
    rintro e w1 ⟨rfl, rfl⟩
    clear cO
    go_wp2_with fail
    go_ret
    exact ⟨sv, kv, iv, ov, rfl, Gone.of_nil (Only.refl _ _), HM.out⟩
  · have cO := opd_in (Q := Q) mb wb 0 code s cv sv kv iv ov w hM hs.nops (by omega)
    rw [show ((0 : Nat) : Int) = 0 from rfl] at cO
    have cD := drop_any (Q := Q) mb wb 1 code s cv sv kv iv ov w hM hs.nops (by omega)
    rw [show ((1 : Nat) : Int) = 1 from rfl] at cD
    rw [if_neg h0]
    have hp1 := hs.pc1
    have hp2 := hs.pc2
    obtain ⟨a, ha⟩ : ∃ a, opd s 0 = a := ⟨_, rfl⟩
    rw [ha] at cO ⊢
    obtain ⟨p, hp⟩ : ∃ p, s.pc = p := ⟨_, rfl⟩
    have HP := Lib.hid hp
    rw [hp] at hp1 hp2 ⊢
    clear hM hs h0 ha hp
    by_cases ha0 : a = 0
    · rw [if_pos ha0]
      have ha1 : (a == 0) = true := by simp [ha0]
      clear ha0
      go_enter Try.func56, Try.ntmps56
      go_wp2_with fail
      refine cO.mono ?_
      rintro e w1 ⟨rfl, rfl⟩
      clear cO
      go_wp2_with fail
      refine cD.mono ?_
      rintro e w1 ⟨sv', rfl, ho, hob, hM'⟩
      clear cD
      have d8 : w1.cell? ⟨mb, 8, none⟩ = some (.int .i64 p) := by rw [← HP.out]; exact hM'.blk.cell 8
      have f8 := hM'.blk.free 8
      have hlt := hM'.blk.lt
      have h1 := hM'.pcTo (p + 1)
      have h2 := h1.1.pcTo k
      have g8 : (w1.setCell ⟨mb, 8, none⟩ (.int .i64 (p + 1))).cell? ⟨mb, 8, none⟩ = some (.int .i64 (p + 1)) := h1.1.blk.cell 8
      have HH := Lib.hid (And.intro h2.1 (h1.2.trans h2.2 (fun _ _ h => h)))
      have HO := Lib.hid ho
      clear h1 h2 hM' ho
      go_wp2_with fail
      go_ret
      refine ⟨sv', kv, iv, ov, rfl, ⟨(HO.out.trans HH.out.2 (fun _ _ h => h)).mono (fun _ h => Or.inl h), Or.inl hob, Or.inl rfl, Or.inl rfl⟩, HH.out.1⟩
    · rw [if_neg ha0]
      have ha1 : (a == 0) = false := ne_beq ha0
      clear ha0
      go_enter Try.func56, Try.ntmps56
      go_wp2_with fail
      refine cO.mono ?_
      rintro e w1 ⟨rfl, rfl⟩
      clear cO
      go_wp2_with fail
      refine cD.mono ?_
      rintro e w1 ⟨sv', rfl, ho, hob, hM'⟩
      clear cD
      have d8 : w1.cell? ⟨mb, 8, none⟩ = some (.int .i64 p) := by rw [← HP.out]; exact hM'.blk.cell 8
      have f8 := hM'.blk.free 8
      have hlt := hM'.blk.lt
      have h1 := hM'.pcTo (p + 1)
      have HH := Lib.hid h1
      have HO := Lib.hid ho
      clear h1 hM' ho
      go_wp2_with fail
      go_ret
      refine ⟨sv', kv, iv, ov, rfl, ⟨(HO.out.trans HH.out.2 (fun _ _ h => h)).mono (fun _ h => Or.inl h), Or.inl hob, Or.inl rfl, Or.inl rfl⟩, HH.out.1⟩

theorem Try.info104 : (Try.prog.info? 104).map (fun i => (i.zero, i.size, i.bytes)) = some (some (.agg #[.int .i64 0, .int .i64 0]), 2, 16) := by kernel_rfl

set_option maxRecDepth 10000 in
set_option maxHeartbeats 3200000 in
theorem callS_any (mb wb : Nat) (k : Int) (code : List Cod) (s : SS) (cv sv kv iv ov : Value) (w : World) (hM : SAt Q w mb wb code s cv sv kv iv ov) (hs : s.Ok) (hk : I32 k) (hp0 : 0 ≤ s.pc) :
    Calls Try.prog 57 #[.pointer (some ⟨mb, 0, none⟩), .int .i64 k] w (SDoes Q w mb wb code s cv sv kv iv ov (if s.calls.length = 1000 then none else some { s with calls := s.calls ++ [((s.pc + 1).toNat, s.fp)], pc := k })) := by
  have c3 : w.cell? ⟨mb, 3, none⟩ = some kv := hM.blk.cell 3
  have c8 : w.cell? ⟨mb, 8, none⟩ = some (.int .i64 s.pc) := hM.blk.cell 8
  have c6 : w.cell? ⟨mb, 6, none⟩ = some (.int .i64 s.fp) := hM.blk.cell 6
  have f3 := hM.blk.free 3
  have f8 := hM.blk.free 8
  have hlt := hM.blk.lt
  have hnc := hs.ncalls
  have hp2 := hs.pc2
  obtain ⟨ao, cap, rfl⟩ := sl_of_own hM.cls
  by_cases h0 : s.calls.length = 1000
  · rw [if_pos h0]
    rw [h0] at c3
    have HM := Lib.hid hM
    clear hM hs h0
    go_enter Try.func57, Try.ntmps57
    go_wp2_with fail
    go_ret
    exact ⟨sv, _, iv, ov, rfl, Gone.of_nil (Only.refl _ _), HM.out⟩
  · rw [if_neg h0]
    obtain ⟨i0, hi0, hz0, hz1, hz2⟩ := info_parts Try.info104
    have hown := hM.cls
    obtain ⟨n, hnn⟩ : ∃ n, s.calls.length = n := ⟨_, rfl⟩
    rw [hnn] at c3 hown hnc h0
    obtain ⟨q, hq⟩ : ∃ q, (s.pc + 1).toNat = q := ⟨_, rfl⟩
    have eq1 : s.pc + 1 = (q : Int) := by omega
    rw [hq]
    obtain ⟨p, hp⟩ : ∃ p, s.pc = p := ⟨_, rfl⟩
    rw [hp] at c8 eq1 hp0 hp2
    obtain ⟨fr, hfr⟩ : ∃ fr, s.fp = fr := ⟨_, rfl⟩
    rw [hfr] at c6 ⊢
    have HFR := Lib.hid hfr
    have hne : ((n : Int) == 1000) = false := ne_beq (by omega)
    have qw : IntKind.i64.wrap (q : Int) = (q : Int) := by rw [IntKind.wrap_i64]; omega
    have hnews : Hid (∀ j u, [Value.int .i64 (q : Nat), .int .i64 (fr : Nat)][j]? = some u → (w.drew.alloc (.cells #[Value.int .i64 (q : Nat), .int .i64 (fr : Nat)] 104)).cell? ((⟨w.heap.size, 0, none⟩ : Addr).add j) = some u) := by
      refine Lib.hid fun j u hj => ?_
      have hB := Blk.new w.drew #[Value.int .i64 (q : Nat), .int .i64 (fr : Nat)] 104
      match j, hj with
      | 0, hj => simp at hj; subst hj; exact hB.cell 0
      | 1, hj => simp at hj; subst hj; simp only [Addr.add]; exact hB.cell 1
    have h1c : Hid (∀ u ∈ [Value.int .i64 (q : Nat), .int .i64 (fr : Nat)], u.oneCell' = true) := Lib.hid (fun u hu => by
      simp only [List.mem_cons, List.not_mem_nil, or_false] at hu
      rcases hu with rfl | rfl <;> rfl)
    have s1 : Hid (n + 1 ≤ maxLen) := Lib.hid (by simp [maxLen]; omega)
    have s2 : Hid ((n + 1) * 16 ≤ 140737488355328) := Lib.hid (by omega)
    have hown2 : w.drew.ownsRow 0 104 2 (.slice ao n cap) n (kCells s.calls) := ownsRow_only hown (Only.refl Nil w).drew (fun _ _ h => h)
    have HM := Lib.hid hM
    have HNN := Lib.hid hnn
    have HOB := Lib.hid (show (Value.slice ao n cap).ownBlock = (Value.slice ao s.calls.length cap).ownBlock by cases ao <;> rfl)
    clear hM hs h0 hnn hq hp hfr hown
    go_enter Try.func57, Try.ntmps57
    go_wp2_with fail
    go_region_law (first
      | (refine step_append_lies _ rfl (.tmp 15) (.tmp 26) 60 rfl 0 104 i0 (.agg #[.int .i64 0, .int .i64 0]) 2 16 Try.underlying60 hi0 hz0 hz1 hz2 rfl (by decide) (.slice ao n cap) n (kCells s.calls) (by simp [Act.eval, Act.put]) (hown2.alloc _) ⟨w.heap.size, 0, none⟩ 1 1 [.int .i64 (q : Nat), .int .i64 (fr : Nat)] (by simp [Act.eval, Act.put]) rfl hnews.out h1c.out (by decide) s1.out s2.out (Nat.zero_le _) _ rfl ?_; intro g cap9 w9 hown9 hg9 hgb hlt9; have hB9 := (HM.out.blk.drew.alloc (.cells #[Value.int .i64 (q : Nat), .int .i64 (fr : Nat)] 104)).kept (Only.of_grown hg9) (fun h => HM.out.five.km (by rw [← HOB.out]; exact h.symm)); have c9 : w9.cell? ⟨mb, 3, none⟩ = some (.slice ao s.calls.length cap) := hB9.cell 3; have f9 : w9.frozen? ⟨mb, 3, none⟩ = false := hB9.free 3))
    all_goals
      have hoA := Only.of_grown hg9
      have hoA0 : ∃ wa, Only Nil w wa ∧ Only (M.Own (Value.slice ao n cap).ownBlock) wa w9 ∧ ((Value.slice ao n cap).ownBlock = some g ∨ g = wa.heap.size) := ⟨_, (by (repeat with_reducible first | exact Only.refl _ _ | refine Only.alloc ?_ _ | refine Only.drew ?_)), hoA, hgb⟩
      clear hoA hg9 hgb
      obtain ⟨wa, hoa, hoA, hgb⟩ := hoA0
      rw [HOB.out] at hoA hgb
      have hoW : Only (M.Own (Value.slice ao s.calls.length cap).ownBlock) w w9 := (hoa.mono (T := M.Own (Value.slice ao s.calls.length cap).ownBlock) (fun _ h => h.elim)).trans hoA (fun _ _ h => h)
      have hgw : (Value.slice (some ⟨g, 0, none⟩) (n + 1) cap9).ownBlock = (Value.slice ao s.calls.length cap).ownBlock ∨ ∃ k, (Value.slice (some ⟨g, 0, none⟩) (n + 1) cap9).ownBlock = some k ∧ w.heap.size ≤ k := hgb.imp (fun h => h.symm) (fun h => ⟨g, rfl, Nat.le_trans hoa.size (Nat.le_of_eq h.symm)⟩)
      have e9 : kCells s.calls ++ [.int .i64 (q : Nat), .int .i64 (fr : Nat)] = kCells (s.calls ++ [(q, fr)]) := by rw [kCells_append]; rfl
      rw [e9] at hown9
      have hN := SAt.newCalls (l := s.calls ++ [(q, fr)]) HM.out hoW (by rw [List.length_append, List.length_singleton, HNN.out]; exact hown9) hgw
      have h8 := hN.1.blk.cell 8
      have g8 : (w9.setCell ⟨mb, 3, none⟩ (.slice (some ⟨g, 0, none⟩) (n + 1) cap9)).cell? ⟨mb, 8, none⟩ = some (.int .i64 s.pc) := h8
      have g8f := hN.1.blk.free 8
      have h2 := hN.1.pcTo k
      have HH := Lib.hid (And.intro h2.1 (hN.2.trans (Gone.of_one h2.2)))
      clear h2 hN h8 hoW hgw hoA hgb hoa c9 f9 hown9 e9 HM
      go_wp2_with fail
      go_ret
      have hh := HH.out
      rw [HFR.out] at hh
      exact ⟨sv, _, iv, ov, rfl, hh.2, hh.1⟩

/-- Fewer calls are kept. -/
theorem SAt.cutCalls {w : World} {mb wb n m cap : Nat} {ao : Option Addr} {code : List Cod} {s : SS} {cv sv iv ov : Value} {C : List (Nat × Nat)} (h : SAt Q w mb wb code s cv sv (.slice ao n cap) iv ov) (hC : w.ownsRow 0 104 2 (.slice ao m cap) C.length (kCells C)) :
    SAt Q (w.setCell ⟨mb, 3, none⟩ (.slice ao m cap)) mb wb code { s with calls := C } cv sv (.slice ao m cap) iv ov ∧ Only (M.One mb) w (w.setCell ⟨mb, 3, none⟩ (.slice ao m cap)) := by
  have ho : Only (M.One mb) w (w.setCell ⟨mb, 3, none⟩ (.slice ao m cap)) := M.Only.setOne (Only.refl _ _) _ _
  have hob : (Value.slice ao m cap).ownBlock = (Value.slice ao n cap).ownBlock := by cases ao <;> rfl
  have q : ∀ k, M.One mb k → OwnQ Q mb wb sv.ownBlock (Value.slice ao n cap).ownBlock ov.ownBlock k := fun k hk => Or.inl (Or.inl hk)
  have f : ∀ {x : Option Nat}, x ≠ some mb → ∀ k, x = some k → ¬ M.One mb k := fun hx k hk h1 => hx (by rw [hk, show k = mb from h1])
  refine ⟨⟨h.blk.setCell 3 _, h.wrd.kept ho (fun e => h.five.mw e.symm), ownsRow_only h.ops ho (fun k hk => f h.five.sm k hk), ownsRow_only hC ho (fun k hk => f h.five.km k (by rw [← hob]; exact hk)), ownsRow_only h.out ho (fun k hk => f h.five.om k hk), ?_, ?_, ?_⟩, ho⟩
  · rw [hob]; exact h.cod.kept ho q
  · rw [hob]; exact h.inp.kept ho q
  · rw [hob]; exact h.five

/-- What the last call kept. -/
def sLeave (s : SS) : Option SS := match s.calls.getLast? with | none => none | some x => some { s with top := s.fp, pc := x.1, fp := x.2, calls := s.calls.dropLast }

set_option maxRecDepth 10000 in
set_option maxHeartbeats 3200000 in
theorem leaveS_any (mb wb : Nat) (code : List Cod) (s : SS) (cv sv kv iv ov : Value) (w : World) (hM : SAt Q w mb wb code s cv sv kv iv ov) (hs : s.Ok) :
    Calls Try.prog 58 #[.pointer (some ⟨mb, 0, none⟩)] w (SDoes Q w mb wb code s cv sv kv iv ov (sLeave s)) := by
  have c3 : w.cell? ⟨mb, 3, none⟩ = some kv := hM.blk.cell 3
  have c6 : w.cell? ⟨mb, 6, none⟩ = some (.int .i64 s.fp) := hM.blk.cell 6
  have c7 : w.cell? ⟨mb, 7, none⟩ = some (.int .i64 s.top) := hM.blk.cell 7
  have hlt := hM.blk.lt
  have hnc := hs.ncalls
  by_cases h0 : s.calls = []
  · have e1 : sLeave s = none := by unfold sLeave; rw [h0]; rfl
    rw [e1]
    obtain ⟨ao, cap, rfl⟩ := sl_of_own hM.cls
    rw [h0, List.length_nil] at c3
    have HM := Lib.hid hM
    clear hM hs h0 e1
    go_enter Try.func58, Try.ntmps58
    go_wp2_with fail
    go_ret
    exact ⟨sv, _, iv, ov, rfl, Gone.of_nil (Only.refl _ _), HM.out⟩
  · obtain ⟨C, x, hC⟩ : ∃ C x, s.calls = C ++ [x] := ⟨s.calls.dropLast, s.calls.getLast h0, (List.dropLast_concat_getLast h0).symm⟩
    have e1 : sLeave s = some { s with top := s.fp, pc := x.1, fp := x.2, calls := C } := by unfold sLeave; rw [hC]; simp
    rw [e1]
    have hown := hM.cls
    obtain ⟨m, hm⟩ : ∃ m, C.length = m := ⟨_, rfl⟩
    have hlen : s.calls.length = m + 1 := by rw [hC, List.length_append, List.length_singleton, hm]
    rw [hlen] at hown hnc
    obtain ⟨g, cap, rfl, z1, z2, z3, z4⟩ := ownsRow_shape hown (Nat.succ_pos m)
    have hat : s.calls[m]? = some x := by rw [hC, List.getElem?_append_right (by omega), hm]; simp
    obtain ⟨k0, k1⟩ := kCells_get s.calls m x hat
    have r0 := World.ownsRow.cellAt hown (m * 2) (by omega)
    have r1 := World.ownsRow.cellAt hown (m * 2 + 1) (by omega)
    rw [k0] at r0
    rw [k1] at r1
    have hpart := own_part hown m (by omega)
    rw [kCells_take, show s.calls.take m = C by rw [hC]; simp [← hm]] at hpart
    have m0 : (0 : Int) ≤ (m : Int) := Int.natCast_nonneg _
    have m1 : (m : Int) < ((m + 1 : Nat) : Int) := by omega
    have m2 : (m : Int) ≤ (cap : Int) := by omega
    have em : (((m + 1 : Nat)) : Int) - 1 = (m : Int) := by omega
    have m3 : decide ((m : Int) < 0) = false := by simp
    have hgm : g ≠ mb := fun e => hM.five.km (by rw [← e]; rfl)
    obtain ⟨fr, hfr⟩ : ∃ fr, s.fp = fr := ⟨_, rfl⟩
    rw [hfr] at c6
    have f7 := hM.blk.free 7
    have f3 := hM.blk.free 3
    have f6 := hM.blk.free 6
    have f8 := hM.blk.free 8
    have c8 : w.cell? ⟨mb, 8, none⟩ = some (.int .i64 s.pc) := hM.blk.cell 8
    obtain ⟨x1, x2⟩ := x
    have HM := Lib.hid hM
    have HC := Lib.hid hC
    have HPART := Lib.hid hpart
    have HFR := Lib.hid hfr
    have HMM := Lib.hid hm
    simp only at r0 r1
    clear hM hs h0 e1 hC hown k0 k1 hat hpart hfr hm hlen
    go_enter Try.func58, Try.ntmps58
    go_wp2_with fail
    have hB1 := HM.out.blk.setCell 7 (.int .i64 (fr : Nat))
    rw [scells_top] at hB1
    have ho1 : Only (M.One mb) w (w.setCell ⟨mb, 7, none⟩ (.int .i64 (fr : Nat))) := M.Only.setOne (Only.refl _ _) _ _
    have q0 := ho1.cell r0 (fun e => hgm e)
    have q1 := ho1.cell r1 (fun e => hgm e)
    have hpart := ownsRow_only HPART.out ho1 (fun k hk e => hgm (by injection hk with hk; exact hk.trans e))
    obtain ⟨w1, hw1⟩ : ∃ w1, w.setCell ⟨mb, 7, none⟩ (.int .i64 (fr : Nat)) = w1 := ⟨_, rfl⟩
    rw [hw1] at hB1 ho1 q0 q1 hpart ⊢
    have hM1 := HM.out.own ho1 hB1 rfl rfl rfl rfl rfl
    have d3 : w1.cell? ⟨mb, 3, none⟩ = some (.slice (some ⟨g, 0, none⟩) (m + 1) cap) := hM1.blk.cell 3
    have d8 : w1.cell? ⟨mb, 8, none⟩ = some (.int .i64 s.pc) := hM1.blk.cell 8
    have d6 : w1.cell? ⟨mb, 6, none⟩ = some (.int .i64 s.fp) := hM1.blk.cell 6
    have e8 := hM1.blk.free 8
    have e6 := hM1.blk.free 6
    have hlt1 := hM1.blk.lt
    have hlg1 : g < w1.heap.size := World.block_lt_of_cell? w1 _ q0
    have H1 := Lib.hid hM1
    have HO1 := Lib.hid ho1
    have HP1 := Lib.hid hpart
    clear hw1 hB1 ho1 hpart hM1 c3 c6 c7 c8 f3 f6 f7 f8 r0 r1 HM HPART
    go_region
    have hB2 := (H1.out.blk.setCell 8 (.int .i64 (x1 : Nat))).setCell 6 (.int .i64 (x2 : Nat))
    rw [scells_pc, scells_fp] at hB2
    have ho2 : Only (M.One mb) w1 ((w1.setCell ⟨mb, 8, none⟩ (.int .i64 (x1 : Nat))).setCell ⟨mb, 6, none⟩ (.int .i64 (x2 : Nat))).drew := (M.Only.setOne (M.Only.setOne (Only.refl _ _) _ _) _ _).drew
    have hM2 := H1.out.own ho2 hB2.drew rfl rfl rfl rfl rfl
    have hp2 := ownsRow_only HP1.out ho2 (fun k hk e => hgm (by injection hk with hk; exact hk.trans e))
    obtain ⟨w2, hw2⟩ : ∃ w2, ((w1.setCell ⟨mb, 8, none⟩ (.int .i64 (x1 : Nat))).setCell ⟨mb, 6, none⟩ (.int .i64 (x2 : Nat))).drew = w2 := ⟨_, rfl⟩
    rw [hw2] at ho2 hM2 hp2 ⊢
    have e3 : w2.cell? ⟨mb, 3, none⟩ = some (.slice (some ⟨g, 0, none⟩) (m + 1) cap) := hM2.blk.cell 3
    have g3 := hM2.blk.free 3
    have hlt2 := hM2.blk.lt
    have hcut := hM2.cutCalls (m := m) (C := C) (by rw [HMM.out]; exact hp2)
    have HH := Lib.hid hcut
    have HO2 := Lib.hid ((HO1.out.trans ho2 (fun _ _ h => h)).trans hcut.2 (fun _ _ h => h))
    clear hw2 hB2 ho2 hM2 hp2 hcut d3 d8 d6 e8 e6 q0 q1 H1 HO1 HP1
    go_wp2_with fail
    go_ret
    have hh := HH.out.1
    rw [← HFR.out] at hh
    exact ⟨sv, .slice (some ⟨g, 0, none⟩) m cap, iv, ov, rfl, ⟨HO2.out.mono (fun _ h => Or.inl h), Or.inl rfl, Or.inl rfl, Or.inl rfl⟩, hh⟩

set_option maxRecDepth 10000 in
set_option maxHeartbeats 3200000 in
theorem turn_any (mb wb : Nat) (c : Cod) (hc : isTurn c.op = true) (hk : I32 c.k) (code : List Cod) (s : SS) (cv sv kv iv ov : Value) (w : World) (hM : SAt Q w mb wb code s cv sv kv iv ov) (hs : s.Ok) (hp0 : 0 ≤ s.pc) :
    Calls Try.prog 46 #[.pointer (some ⟨mb, 0, none⟩), c.val] w (SDoes Q w mb wb code s cv sv kv iv ov (sTurn s c)) := by
  obtain ⟨op, k⟩ := c
  simp only at hk
  unfold isTurn at hc
  simp only [decide_eq_true_eq] at hc
  show Calls Try.prog 46 #[.pointer (some ⟨mb, 0, none⟩), .agg #[.int .i64 op, .int .i32 k]] w _
  have kw : IntKind.i64.wrap k = k := by unfold I32 at hk; rw [IntKind.wrap_i64]; omega
  have ho0 : Only Nil w (w.alloc (.cells #[Value.int .i64 op, .int .i32 k] 55)) := (Only.refl _ _).alloc _
  have hM0 := hM.quiet ho0
  have hlt0 := hM.blk.lt
  have HM := Lib.hid hM
  rcases hc with rfl | rfl | rfl | rfl | rfl | rfl
  · have e1 : sTurn s ⟨0, k⟩ = some (sEnded s 0) := rfl
    rw [e1]
    have cF := finishS_any (Q := Q) mb wb 0 code s cv sv kv iv ov _ hM0 (by decide)
    rw [show ((0 : Nat) : Int) = 0 from rfl] at cF
    clear hM hM0 hs e1
    go_enter Try.func46, Try.ntmps46
    go_wp2_with fail
    refine cF.mono ?_
    rintro e w1 ⟨rfl, ho1, hM1⟩
    go_wp2_with fail
    go_ret
    exact ⟨sv, kv, iv, ov, rfl, (Gone.of_nil ho0).trans (Gone.of_one ho1), hM1⟩
  · have e1 : sTurn s ⟨30, k⟩ = if k < 1 ∨ 15 < k then none else some (sEnded s k.toNat) := rfl
    rw [e1]
    by_cases h1 : k < 1
    · rw [if_pos (Or.inl h1)]
      have HM0 := Lib.hid hM0
      clear hM hM0 hs e1
      go_enter Try.func46, Try.ntmps46
      go_wp2_with fail
      go_ret
      exact ⟨sv, kv, iv, ov, rfl, Gone.of_nil ho0, HM0.out⟩
    · by_cases h2 : 15 < k
      · rw [if_pos (Or.inr h2)]
        have h3 : decide (k < 1) = false := by simp; omega
        have HM0 := Lib.hid hM0
        clear hM hM0 hs e1
        go_enter Try.func46, Try.ntmps46
        go_wp2_with fail
        go_ret
        exact ⟨sv, kv, iv, ov, rfl, Gone.of_nil ho0, HM0.out⟩
      · rw [if_neg (by omega)]
        obtain ⟨t, rfl⟩ : ∃ t : Nat, k = t := ⟨k.toNat, by omega⟩
        rw [Int.toNat_natCast]
        have cF := finishS_any (Q := Q) mb wb t code s cv sv kv iv ov _ hM0 (by omega)
        have h3 : decide ((t : Int) < 1) = false := by simp; omega
        have h4 : decide (15 < (t : Int)) = false := by simp; omega
        clear hM hM0 hs e1
        go_enter Try.func46, Try.ntmps46
        go_wp2_with fail
        refine cF.mono ?_
        rintro e w1 ⟨rfl, ho1, hM1⟩
        go_wp2_with fail
        go_ret
        exact ⟨sv, kv, iv, ov, rfl, (Gone.of_nil ho0).trans (Gone.of_one ho1), hM1⟩
  · have e1 : sTurn s ⟨25, k⟩ = some { s with pc := k } := rfl
    rw [e1]
    have hN := hM.pcTo k
    have c8 : w.cell? ⟨mb, 8, none⟩ = some (.int .i64 s.pc) := hM.blk.cell 8
    have f8 := hM.blk.free 8
    have HN := Lib.hid hN
    clear hM hM0 hs e1 hN
    go_enter Try.func46, Try.ntmps46
    go_wp2_with fail
    go_ret
    exact ⟨sv, kv, iv, ov, rfl, (Gone.of_one HN.out.2).trans (Gone.of_nil ((Only.refl _ _).alloc _)), HN.out.1.quiet ((Only.refl _ _).alloc _)⟩
  · have cZ := zero_any (Q := Q) mb wb k code s cv sv kv iv ov _ hM0 hs hk
    have e1 : sTurn s ⟨26, k⟩ = (if s.ops.length = 0 then none else some { s with ops := s.ops.take (s.ops.length - 1), pc := if opd s 0 = 0 then k else s.pc + 1 }) := rfl
    rw [← e1] at cZ
    obtain ⟨X, hX⟩ : ∃ X, sTurn s ⟨26, k⟩ = X := ⟨_, rfl⟩
    rw [hX] at cZ ⊢
    clear hM hM0 hs e1 hX
    go_enter Try.func46, Try.ntmps46
    go_wp2_with fail
    refine cZ.mono ?_
    rintro e w1 ⟨sv', kv', iv', ov', rfl, hg, hM1⟩
    go_wp2_with fail
    go_ret
    exact ⟨sv', kv', iv', ov', rfl, (Gone.of_nil ho0).trans hg, hM1⟩
  · have cZ := callS_any (Q := Q) mb wb k code s cv sv kv iv ov _ hM0 hs hk hp0
    have e1 : sTurn s ⟨27, k⟩ = (if s.calls.length = 1000 then none else some { s with calls := s.calls ++ [((s.pc + 1).toNat, s.fp)], pc := k }) := rfl
    rw [← e1] at cZ
    obtain ⟨X, hX⟩ : ∃ X, sTurn s ⟨27, k⟩ = X := ⟨_, rfl⟩
    rw [hX] at cZ ⊢
    clear hM hM0 hs e1 hX
    go_enter Try.func46, Try.ntmps46
    go_wp2_with fail
    refine cZ.mono ?_
    rintro e w1 ⟨sv', kv', iv', ov', rfl, hg, hM1⟩
    go_wp2_with fail
    go_ret
    exact ⟨sv', kv', iv', ov', rfl, (Gone.of_nil ho0).trans hg, hM1⟩
  · have cZ := leaveS_any (Q := Q) mb wb code s cv sv kv iv ov _ hM0 hs
    have e1 : sTurn s ⟨29, k⟩ = sLeave s := rfl
    rw [← e1] at cZ
    obtain ⟨X, hX⟩ : ∃ X, sTurn s ⟨29, k⟩ = X := ⟨_, rfl⟩
    rw [hX] at cZ ⊢
    clear hM hM0 hs e1 hX
    go_enter Try.func46, Try.ntmps46
    go_wp2_with fail
    refine cZ.mono ?_
    rintro e w1 ⟨sv', kv', iv', ov', rfl, hg, hM1⟩
    go_wp2_with fail
    go_ret
    exact ⟨sv', kv', iv', ov', rfl, (Gone.of_nil ho0).trans hg, hM1⟩
end Go.Proofs.Ytpnhjjihdcopnaa
