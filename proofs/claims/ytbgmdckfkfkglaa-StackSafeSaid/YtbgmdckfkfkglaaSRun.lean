/- The stack machine's Step and Run. -/
import Derived.Test.YtbgmdckfkfkglaaSRes
import Derived.Deep.LoopGhost
import Derived.Deep.DeepCutAuto
set_option linter.unusedSimpArgs false
set_option linter.unusedVariables false
namespace Go.Proofs.Ytbgmdckfkfkglaa
open Go.RowKit M
variable {Q : Nat → Prop}

/-- Other blocks that aren't to be touched: fewer, or newer ones. -/
theorem SAt.less {T : Nat → Prop} {w : World} {mb wb : Nat} {code : List Cod} {s : SS} {cv sv kv iv ov : Value} (h : SAt Q w mb wb code s cv sv kv iv ov) (hs : ∀ k, k < w.heap.size → T k → Q k) : SAt T w mb wb code s cv sv kv iv ov :=
  ⟨h.blk, h.wrd, h.ops, h.cls, h.out, h.cod.less (fun k hk hb => hb.imp id (hs k hk)), h.inp.less (fun k hk hb => hb.imp id (hs k hk)), h.five⟩
/-- No own block is that one. -/
def Off (rb : Nat) (sv kv ov : Value) : Prop := sv.ownBlock ≠ some rb ∧ kv.ownBlock ≠ some rb ∧ ov.ownBlock ≠ some rb
theorem SAt.off {w : World} {mb wb rb : Nat} {code : List Cod} {s : SS} {cv sv kv iv ov : Value} (h : SAt Q w mb wb code s cv sv kv iv ov) (hr : w.heap.size ≤ rb) : Off rb sv kv ov :=
  ⟨fun e => by have := (h.ops.lt _ e).2; omega, fun e => by have := (h.cls.lt _ e).2; omega, fun e => by have := (h.out.lt _ e).2; omega⟩
theorem Off.gone {w w' : World} {mb wb rb : Nat} {sv kv ov sv' kv' ov' : Value} (h : Off rb sv kv ov) (hg : Gone w w' mb wb sv kv ov sv' kv' ov') (hr : rb < w.heap.size) : Off rb sv' kv' ov' := by
  have f : ∀ {x y : Option Nat}, (y = x ∨ ∃ k, y = some k ∧ w.heap.size ≤ k) → x ≠ some rb → y ≠ some rb := by
    intro x y h1 h2 e
    rcases h1 with h1 | ⟨k, h1, h3⟩
    · exact h2 (by rw [← h1, e])
    · rw [h1] at e; injection e with e; omega
  exact ⟨f hg.s h.1, f hg.k h.2.1, f hg.o h.2.2⟩
theorem Off.own {mb wb rb : Nat} {sv kv ov : Value} (h : Off rb sv kv ov) (hm : mb ≠ rb) (hw : wb ≠ rb) : ¬ OwnS mb wb sv.ownBlock kv.ownBlock ov.ownBlock rb := by
  rintro (e | e | e | e | e)
  · exact hm e.symm
  · exact hw e.symm
  · exact h.1 e.symm
  · exact h.2.1 e.symm
  · exact h.2.2 e.symm
/-- What is written beside a machine. -/
theorem SAt.apart {S : Nat → Prop} {w w' : World} {mb wb : Nat} {code : List Cod} {s : SS} {cv sv kv iv ov : Value} (h : SAt Q w mb wb code s cv sv kv iv ov) (ho : Only S w w') (hS : ∀ k, S k → ¬ OwnS mb wb sv.ownBlock kv.ownBlock ov.ownBlock k) (hq : ∀ k, S k → Q k) : SAt Q w' mb wb code s cv sv kv iv ov :=
  ⟨h.blk.kept ho (fun e => hS _ e (Or.inl rfl)), h.wrd.kept ho (fun e => hS _ e (Or.inr (Or.inl rfl))), ownsRow_only h.ops ho (fun k hk e => hS _ e (Or.inr (Or.inr (Or.inl hk.symm)))), ownsRow_only h.cls ho (fun k hk e => hS _ e (Or.inr (Or.inr (Or.inr (Or.inl hk.symm))))), ownsRow_only h.out ho (fun k hk e => hS _ e (Or.inr (Or.inr (Or.inr (Or.inr hk.symm))))), h.cod.kept ho (fun k hk => Or.inr (hq k hk)), h.inp.kept ho (fun k hk => Or.inr (hq k hk)), h.five⟩

set_option maxHeartbeats 1600000 in
/-- The machine's Step. -/
theorem stepS_any (mb wb : Nat) (code : List Cod) (hc : ∀ c ∈ code, I32 c.k) (s : SS) (cv sv kv iv ov : Value) (w : World) (hM : SAt Q w mb wb code s cv sv kv iv ov) (hs : s.Ok) (hol : s.out.length ≤ 1099511627776) :
    Calls Try.prog 23 #[.pointer (some ⟨mb, 0, none⟩)] w fun e w' => ∃ sv' kv' iv' ov', e = .returned (.bool (s.fin == 0)) ∧ Gone w w' mb wb sv kv ov sv' kv' ov' ∧ SAt Q w' mb wb code (sStep code s) cv sv' kv' iv' ov' := by
  have c9 : w.cell? ⟨mb, 9, none⟩ = some (.int .i64 s.fin) := hM.blk.cell 9
  have hlt := hM.blk.lt
  by_cases hf : s.fin = 0
  · have e1 : sStep code s = (sDo code s).getD (sEnded s 15) := by unfold sStep; rw [if_neg (by rw [hf]; decide)]
    rw [e1, hf]
    rw [hf] at c9
    have cD := doS_any (Q := Q) mb wb code hc s cv sv kv iv ov w hM hs hol
    cases hR : sDo code s with
    | none =>
      rw [hR] at cD
      clear hM hs hc hol hf hR e1
      go_enter Try.func23, Try.ntmps23
      go_wp2_with fail
      refine cD.mono ?_
      rintro e w1 ⟨sv', kv', iv', ov', rfl, hg, hM'⟩
      simp only [Option.isSome]
      have hM' : SAt Q w1 mb wb code s cv sv' kv' iv' ov' := hM'
      have cF := finishS_any (Q := Q) mb wb 15 code s cv sv' kv' iv' ov' w1 hM' (by decide)
      rw [show ((15 : Nat) : Int) = 15 from rfl] at cF
      clear cD hM'
      go_wp2_with fail
      refine cF.mono ?_
      rintro e w2 ⟨rfl, ho2, hM2⟩
      go_wp2_with fail
      go_ret
      exact ⟨sv', kv', iv', ov', rfl, hg.trans (Gone.of_one ho2), hM2⟩
    | some t =>
      rw [hR] at cD
      clear hM hs hc hol hf hR e1
      go_enter Try.func23, Try.ntmps23
      go_wp2_with fail
      refine cD.mono ?_
      rintro e w1 ⟨sv', kv', iv', ov', rfl, hg, hM'⟩
      simp only [Option.isSome]
      go_wp2_with fail
      go_ret
      exact ⟨sv', kv', iv', ov', rfl, hg, hM'⟩
  · have e1 : sStep code s = s := sStep_fin _ _ hf
    have e2 : (s.fin == 0) = false := by rw [beq_eq_false_iff_ne]; exact hf
    have hne : ((s.fin : Int) != 0) = true := by simp; omega
    rw [e1, e2]
    have HM := Lib.hid hM
    clear hM hs hc hol hf e1 e2
    go_enter Try.func23, Try.ntmps23
    go_wp2_with fail
    go_ret
    exact ⟨sv, kv, iv, ov, rfl, Gone.of_nil (Only.refl _ _), HM.out⟩

set_option maxHeartbeats 1600000 in
/-- The machine's Run. -/
theorem runS_any (mb wb : Nat) (code : List Cod) (hc : ∀ c ∈ code, I32 c.k) (hl : code.length ≤ 2147483647) (s : SS) (cv sv kv iv ov : Value) (w : World) (hM : SAt Q w mb wb code s cv sv kv iv ov) (hs : s.Ok) (f : Int) (hf1 : -9223372036854775808 ≤ f) (hf2 : f ≤ 9223372036854775807) (hol : s.out.length + f.toNat ≤ 1099511627776) {t : SS} (ht : sRun code f.toNat s = t) :
    Calls Try.prog 28 #[.pointer (some ⟨mb, 0, none⟩), .int .i64 f] w fun e w' => ∃ sv' kv' iv' ov' rv, e = .returned (.agg #[rv, .int .i64 t.fin, .int .i64 t.trap]) ∧ Gone w w' mb wb sv kv ov sv' kv' ov' ∧
      w'.ownsRow w.heap.size 5 1 rv t.out.length (U8s t.out) ∧ SAt Q w' mb wb code t cv sv' kv' iv' ov' := by
  go_enter Try.func28, Try.ntmps28
  go_wp2_with fail
  have hB0 := Blk.new w #[Value.slice none 0 0, .int .i64 0, .int .i64 0] 44
  obtain ⟨rb, hrb⟩ : ∃ b, w.heap.size = b := ⟨_, rfl⟩
  have hq1 : Only Nil w (w.alloc (.cells #[Value.slice none 0 0, .int .i64 0, .int .i64 0] 44)) := (Only.refl Nil w).alloc _
  obtain ⟨w1, hw1⟩ : ∃ w1, w.alloc (.cells #[Value.slice none 0 0, .int .i64 0, .int .i64 0] 44) = w1 := ⟨_, rfl⟩
  rw [hw1] at hB0 hq1 ⊢
  rw [hrb] at hB0 ⊢
  have hM1 := hM.quiet hq1
  have hlm := hM.blk.lt
  have hlw := hM.wrd.lt
  have hmr : mb ≠ rb := by omega
  have hwr : wb ≠ rb := by omega
  have hor : Off rb sv kv ov := hM.off (by omega)
  have hM2 : SAt (fun k => Q k ∨ k = rb) w1 mb wb code s cv sv kv iv ov := (hM.less (T := fun k => Q k ∨ k = rb) (fun k hk h => h.elim id (fun h => absurd hk (by omega)))).quiet hq1
  have HQ := Lib.hid hq1
  have HR := Lib.hid hrb
  clear hM hM1 hw1 hrb hq1
  go_loopg [1] f.toNat (fun g s1 wr => ∃ (n : Int) (sx : SS) (svx kvx ivx ovx : Value), s1 = .int .i64 n ∧ n.toNat = g ∧ n ≤ 9223372036854775807 ∧ -9223372036854775808 ≤ n ∧ sx.Ok ∧ sx.out.length + g ≤ 1099511627776 ∧ sRun code g sx = t ∧ SAt (fun k => Q k ∨ k = rb) wr mb wb code sx cv svx kvx ivx ovx ∧ Gone w1 wr mb wb sv kv ov svx kvx ovx ∧ Off rb svx kvx ovx ∧ Blk wr rb #[Value.slice none 0 0, .int .i64 0, .int .i64 0] 44)
  case atStart => exact ⟨f, s, sv, kv, iv, ov, rfl, rfl, hf2, hf1, hs, hol, ht, hM2, Gone.of_nil (Only.refl _ _), hor, hB0⟩
  case round =>
    clear hM2 hB0
    obtain ⟨n, sx, svx, kvx, ivx, ovx, rfl, hng, hn1, hn2, hok, hlen, hrun, hM, hW, hor', hBr⟩ := hrel
    by_cases hn : 0 < n
    · obtain ⟨g', hg'⟩ : ∃ g', gk = g' + 1 := ⟨gk - 1, by omega⟩
      rw [hg', sRun_succ] at hrun
      have cS := stepS_any mb wb code hc sx cv svx kvx ivx ovx wr hM hok (by omega)
      obtain ⟨ok2, len2, out2⟩ := sStep_k hok hc hl
      by_cases hfin : sx.fin = 0
      · rw [show (sx.fin == 0) = true by rw [hfin]; rfl] at cS
        have HBr := Lib.hid hBr
        have HW := Lib.hid hW
        have HOR := Lib.hid hor'
        have HRUN := Lib.hid hrun
        have HO := Lib.hid hlen
        have HG := Lib.hid hg'
        clear hM hW hor' hBr hrun hlen hg' hs hol
        go_wp2_with fail
        refine cS.mono ?_
        rintro e w3 ⟨sv3, kv3, iv3, ov3, rfl, hw3, hM3⟩
        clear cS
        have H3 := Lib.hid hM3
        clear hM3
        go_wp2_with fail
        have hlr := HBr.out.lt
        have hB3 := HBr.out.kept hw3.only (HOR.out.own hmr hwr)
        have hor3 : Off rb sv3 kv3 ov3 := HOR.out.gone hw3 hlr
        go_roundg g'
        case measure => have := HG.out; omega
        case rel => exact ⟨n - 1, sStep code sx, sv3, kv3, iv3, ov3, by go_num, by have := HG.out; omega, by omega, by omega, ok2, by have := HO.out; have := HG.out; omega, HRUN.out, H3.out, HW.out.trans hw3, hor3, hB3⟩
      · rw [show (sx.fin == 0) = false by rw [beq_eq_false_iff_ne]; exact hfin, sStep_fin _ _ hfin] at cS
        rw [sStep_fin _ _ hfin, sRun_fin _ _ _ hfin] at hrun
        subst hrun
        go_wp2_with fail
        refine cS.mono ?_
        rintro e w3 ⟨sv3, kv3, iv3, ov3, rfl, hw3, hM3⟩
        clear cS
        have hlr := hBr.lt
        have hB3 := hBr.kept hw3.only (hor'.own hmr hwr)
        have hor3 : Off rb sv3 kv3 ov3 := hor'.gone hw3 hlr
        have hW3 := hW.trans hw3
        clear hM hW hor' hBr hw3
        have hM := hM3
        have hW := hW3
        have hor' := hor3
        have hBr := hB3
        clear hM3 hW3 hor3 hB3
        have cR := resultS_any mb wb code sx cv sv3 kv3 iv3 ov3 w3 hM (by omega)
        have hrlt : rb < w3.heap.size := hBr.lt
        have hsz : w.heap.size ≤ w3.heap.size := Nat.le_trans HQ.out.size hW.only.size
        go_wp2_with fail
        refine cR.mono ?_
        rintro e w4 ⟨rv, rfl, hown4, ho4⟩
        clear cR
        obtain ⟨ao9, n9, cap9, rfl⟩ := ownsRow_slice hown4
        have hB4 := hBr.kept ho4 (fun h => h)
        have k0 := hB4.cell 0
        have k1 := hB4.cell 1
        have k2 := hB4.cell 2
        have z0 := hB4.free 0
        have z1 := hB4.free 1
        have z2 := hB4.free 2
        have hlt4 := hB4.lt
        have HM := Lib.hid hM
        have HWE := Lib.hid hW
        clear hM hW
        go_wp2_with fail
        have hB8 := ((hB4.setCell 0 (.slice ao9 n9 cap9)).setCell 1 (.int .i64 sx.fin)).setCell 2 (.int .i64 sx.trap)
        simp only [List.setIfInBounds_toArray, List.set_cons_zero, List.set_cons_succ] at hB8
        have hne := ownsRow_apart hown4 hrlt
        have hown8 := ownsRow_set_other (ownsRow_set_other (ownsRow_set_other (ownsRow_base hown4 hsz) ⟨rb, 0, none⟩ (.slice ao9 n9 cap9) hne) ⟨rb, 1, none⟩ (.int .i64 sx.fin) hne) ⟨rb, 2, none⟩ (.int .i64 sx.trap) hne
        (try simp only [Exit.inBlock, Exit.then])
        refine bodyPost_ret (results_cell_row rfl _ _ rb 44 _ (0, 0) _ rfl hB8 Try.underlying44 rfl (by kernel_rfl)) rfl ?_
        have hoS : Only (M.One rb) w3 _ := (Only.setOne (Only.setOne (Only.setOne (ho4.mono (fun _ h => h.elim)) 0 (.slice ao9 n9 cap9)) 1 (.int .i64 sx.fin)) 2 (.int .i64 sx.trap))
        have hM8 := HM.out.apart hoS (fun k hk => by rw [show k = rb from hk]; exact hor'.own hmr hwr) (fun k hk => Or.inr hk)
        have hq : ∀ S : Nat → Prop, rb < w.heap.size → S rb := fun _ h => absurd h (by rw [HR.out]; exact Nat.lt_irrefl _)
        have hoA : Only (OwnS mb wb sv.ownBlock kv.ownBlock ov.ownBlock) w w3 := (HQ.out.mono (fun _ h => h.elim)).trans HWE.out.only (fun _ _ h => h)
        have hoB : Only (OwnS mb wb sv.ownBlock kv.ownBlock ov.ownBlock) w _ := (((hoA.trans ho4 (fun _ _ h => h.elim)).setCell (p := ⟨rb, 0, none⟩) (hq _) (.slice ao9 n9 cap9)).setCell (p := ⟨rb, 1, none⟩) (hq _) (.int .i64 sx.fin)).setCell (p := ⟨rb, 2, none⟩) (hq _) (.int .i64 sx.trap)
        refine ⟨sv3, kv3, iv3, ov3, _, rfl, ⟨hoB, HWE.out.s.imp id (fun ⟨k, h1, h2⟩ => ⟨k, h1, Nat.le_trans HQ.out.size h2⟩), HWE.out.k.imp id (fun ⟨k, h1, h2⟩ => ⟨k, h1, Nat.le_trans HQ.out.size h2⟩), ?_⟩, ?_, hM8.less (fun k _ h => Or.inl h)⟩
        · exact HWE.out.o.imp id (fun ⟨k, h1, h2⟩ => ⟨k, h1, Nat.le_trans HQ.out.size h2⟩)
        · exact hown8
    · have hg0 : gk = 0 := by omega
      subst hg0
      have hrun' : sx = t := hrun
      subst hrun'
      have cR := resultS_any mb wb code sx cv svx kvx ivx ovx wr hM (by omega)
      have hrlt : rb < wr.heap.size := hBr.lt
      have hsz : w.heap.size ≤ wr.heap.size := Nat.le_trans HQ.out.size hW.only.size
      go_wp2_with fail
      refine cR.mono ?_
      rintro e w4 ⟨rv, rfl, hown4, ho4⟩
      clear cR
      obtain ⟨ao9, n9, cap9, rfl⟩ := ownsRow_slice hown4
      have hB4 := hBr.kept ho4 (fun h => h)
      have k0 := hB4.cell 0
      have k1 := hB4.cell 1
      have k2 := hB4.cell 2
      have z0 := hB4.free 0
      have z1 := hB4.free 1
      have z2 := hB4.free 2
      have hlt4 := hB4.lt
      have HM := Lib.hid hM
      have HWE := Lib.hid hW
      clear hM hW
      go_wp2_with fail
      have hB8 := ((hB4.setCell 0 (.slice ao9 n9 cap9)).setCell 1 (.int .i64 sx.fin)).setCell 2 (.int .i64 sx.trap)
      simp only [List.setIfInBounds_toArray, List.set_cons_zero, List.set_cons_succ] at hB8
      have hne := ownsRow_apart hown4 hrlt
      have hown8 := ownsRow_set_other (ownsRow_set_other (ownsRow_set_other (ownsRow_base hown4 hsz) ⟨rb, 0, none⟩ (.slice ao9 n9 cap9) hne) ⟨rb, 1, none⟩ (.int .i64 sx.fin) hne) ⟨rb, 2, none⟩ (.int .i64 sx.trap) hne
      (try simp only [Exit.inBlock, Exit.then])
      refine bodyPost_ret (results_cell_row rfl _ _ rb 44 _ (0, 0) _ rfl hB8 Try.underlying44 rfl (by kernel_rfl)) rfl ?_
      have hoS : Only (M.One rb) wr _ := (Only.setOne (Only.setOne (Only.setOne (ho4.mono (fun _ h => h.elim)) 0 (.slice ao9 n9 cap9)) 1 (.int .i64 sx.fin)) 2 (.int .i64 sx.trap))
      have hM8 := HM.out.apart hoS (fun k hk => by rw [show k = rb from hk]; exact hor'.own hmr hwr) (fun k hk => Or.inr hk)
      have hq : ∀ S : Nat → Prop, rb < w.heap.size → S rb := fun _ h => absurd h (by rw [HR.out]; exact Nat.lt_irrefl _)
      have hoA : Only (OwnS mb wb sv.ownBlock kv.ownBlock ov.ownBlock) w wr := (HQ.out.mono (fun _ h => h.elim)).trans HWE.out.only (fun _ _ h => h)
      have hoB : Only (OwnS mb wb sv.ownBlock kv.ownBlock ov.ownBlock) w _ := (((hoA.trans ho4 (fun _ _ h => h.elim)).setCell (p := ⟨rb, 0, none⟩) (hq _) (.slice ao9 n9 cap9)).setCell (p := ⟨rb, 1, none⟩) (hq _) (.int .i64 sx.fin)).setCell (p := ⟨rb, 2, none⟩) (hq _) (.int .i64 sx.trap)
      refine ⟨svx, kvx, ivx, ovx, _, rfl, ⟨hoB, HWE.out.s.imp id (fun ⟨k, h1, h2⟩ => ⟨k, h1, Nat.le_trans HQ.out.size h2⟩), HWE.out.k.imp id (fun ⟨k, h1, h2⟩ => ⟨k, h1, Nat.le_trans HQ.out.size h2⟩), ?_⟩, ?_, hM8.less (fun k _ h => Or.inl h)⟩
      · exact HWE.out.o.imp id (fun ⟨k, h1, h2⟩ => ⟨k, h1, Nat.le_trans HQ.out.size h2⟩)
      · exact hown8
end Go.Proofs.Ytbgmdckfkfkglaa
