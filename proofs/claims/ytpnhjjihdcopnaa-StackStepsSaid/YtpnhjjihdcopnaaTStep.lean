/- The document's stack machine's Step. -/
import Derived.Test.YtpnhjjihdcopnaaTOut
import Derived.Deep.RegionWith
import Derived.Deep.DeepCutAuto
import Derived.Test.YtpnhjjihdcopnaaGWait
import Derived.Deep.Quiet
import Derived.Deep.QuietTactic
set_option linter.unusedSimpArgs false
set_option linter.unusedVariables false
namespace Go.Proofs.Ytpnhjjihdcopnaa
open Go.RowKit M
variable {Q : Nat → Prop}

/-- What the document's Step comes to. -/
def TStepped (Q : Nat → Prop) (w : World) (db vb : Nat) (code : List Cod) (lv ov : Value) (k : Bool) (s' : SS) (e : Ending) (w' : World) : Prop :=
  ∃ pv' kv' iv' ov', e = .returned (.bool k) ∧ TGone w w' db vb ov ov' ∧ TAt Q w' db vb code s' lv pv' kv' iv' ov'

set_option maxHeartbeats 1600000 in
theorem tstep_fin (db vb : Nat) (code : List Cod) (s : SS) (lv pv kv iv ov : Value) (w : World) (hM : TAt Q w db vb code s lv pv kv iv ov) (hf : ¬ s.fin = 0) :
    Calls Try.prog 12 #[.pointer (some ⟨db, 0, none⟩)] w (TStepped Q w db vb code lv ov false (sStep code s)) := by
  have c9 : w.cell? ⟨db, 9, none⟩ = some (.int .i64 s.fin) := hM.blk.cell 9
  have hlt := hM.blk.lt
  have e1 : sStep code s = s := by unfold sStep; rw [if_pos hf]
  have hne : ((s.fin : Int) != 0) = true := by simp; omega
  rw [e1]
  have HM := Lib.hid hM
  clear hM hf e1
  go_enter Try.func12, Try.ntmps12
  go_wp2_with fail
  go_ret
  exact ⟨_, _, _, _, rfl, TGone.of_nil (Only.refl _ _), HM.out⟩

/-- What is done, if anything. -/
theorem sDo_at (code : List Cod) (s : SS) (q : Nat) (hq : s.pc = q) (hl : q < code.length) : sDo code s = if (code.getD q default).Good then sExec s (code.getD q default) else none := by
  unfold sDo
  rw [hq, if_pos ⟨by omega, by omega⟩, Int.toNat_natCast]
theorem cod_cells {w : World} {db vb b off n cap q : Nat} {code : List Cod} {s : SS} {pv kv iv ov : Value} {op k : Int} (h : TAt Q w db vb code s (.slice (some ⟨b, off, none⟩) code.length cap) pv kv iv ov) (hn : code.length = n) (hq : q < code.length) (hc : code.getD q default = ⟨op, k⟩) :
    w.cell? ⟨b, off + q * 2, none⟩ = some (.int .i64 op) ∧ w.cell? ⟨b, off + q * 2 + 1, none⟩ = some (.int .i32 k) := by
  obtain ⟨b', ao, cap', off', e1, e2, e3, e4, e5, e6⟩ := h.cod
  simp only [Value.slice.injEq] at e1
  have e7 := e4 (by omega)
  rw [← e1.1] at e7
  simp only [Option.some.injEq, Addr.mk.injEq, and_true] at e7
  obtain ⟨rfl, rfl⟩ := e7
  have := e5 q (code.getD q default) (by simp [List.getD, hq])
  rw [hc] at this
  exact this
theorem bool_not_isSome {X : Option SS} {t : SS} (h : X = some t) : X.isSome = true := by rw [h]; rfl

set_option maxRecDepth 10000 in
set_option maxHeartbeats 6400000 in
theorem tstep_go (db vb : Nat) (code : List Cod) (hc : ∀ c ∈ code, I32 c.k) (s : SS) (lv pv kv iv ov : Value) (w : World) (hQ : ∀ j, Q j → j < w.heap.size) (hM : TAt Q w db vb code s lv pv kv iv ov) (hs : s.Ok) (hol : s.out.length ≤ 1099511627776) (hf : s.fin = 0) (htr : s.trap = 0) :
    Calls Try.prog 12 #[.pointer (some ⟨db, 0, none⟩)] w (TStepped Q w db vb code lv ov true (sStep code s)) := by
  have c9 : w.cell? ⟨db, 9, none⟩ = some (.int .i64 s.fin) := hM.blk.cell 9
  rw [hf] at c9
  have c5 : w.cell? ⟨db, 5, none⟩ = some (.int .i64 s.pc) := hM.blk.cell 5
  have c0 : w.cell? ⟨db, 0, none⟩ = some lv := hM.blk.cell 0
  have hlt := hM.blk.lt
  have es : sStep code s = (sDo code s).getD (sEnded s 15) := by unfold sStep; rw [if_neg (by rw [hf]; decide)]
  rw [es]
  obtain ⟨X, hX⟩ : ∃ X, sDo code s = X := ⟨_, rfl⟩
  rw [hX]
  obtain ⟨b, ao, cap, off, e1, e2, e3, e4, e5, e6⟩ := hM.cod
  subst e1
  obtain ⟨pc, hpc⟩ : ∃ pc, s.pc = pc := ⟨_, rfl⟩
  rw [hpc] at c5
  obtain ⟨n, hn⟩ : ∃ n, code.length = n := ⟨_, rfl⟩
  rw [hn] at c0 e2
  have HM := Lib.hid hM
  have HX := Lib.hid hX
  have HS := Lib.hid hs
  have HQ := Lib.hid hQ
  have HOL := Lib.hid hol
  have HPC := Lib.hid hpc
  have HN := Lib.hid hn
  have HTR := Lib.hid htr
  have HE5 := Lib.hid e5
  have HE4 := Lib.hid e4
  have HE6 := Lib.hid e6
  have HC := Lib.hid hc
  clear hM hX hs hQ hol hpc hn htr e5 e4 e6 hc hf es
  go_enter Try.func12, Try.ntmps12
  go_wp2_with fail
  go_cut [53] (fun s53 wx => ∃ pv' kv' iv' ov', s53 = .bool (!X.isSome) ∧ TGone w wx db vb ov ov' ∧ TAt Q wx db vb code (X.getD s) (.slice ao code.length cap) pv' kv' iv' ov')
  case first =>
    by_cases h0 : pc < 0
    · have hx : X = none := by rw [← HX.out]; unfold sDo; rw [if_neg (by rw [HPC.out]; omega)]
      have t0 : decide (pc < 0) = true := by simp [h0]
      have t1 : pc < 0 := h0
      subst hx
      clear h0 HX
      go_quiet (fail)
      go_wp2_with fail
      go_meet
      exact ⟨_, _, _, _, rfl, TGone.of_nil ((Only.refl Nil w).drewN _), HM.out.quiet ((Only.refl Nil w).drewN _)⟩
    · obtain ⟨q, rfl⟩ : ∃ q : Nat, pc = q := ⟨pc.toNat, by omega⟩
      have t0 : decide ((q : Int) < 0) = false := by simp
      by_cases h1 : n ≤ q
      · have hx : X = none := by rw [← HX.out]; unfold sDo; rw [if_neg (by rw [HPC.out, HN.out]; omega)]
        have t1 : (n : Int) ≤ (q : Int) := by omega
        have t2 : decide ((n : Int) ≤ (q : Int)) = true := by simp; omega
        subst hx
        clear h0 h1 HX
        go_quiet (fail)
        go_wp2_with fail
        go_meet
        exact ⟨_, _, _, _, rfl, TGone.of_nil ((Only.refl Nil w).drewN _), HM.out.quiet ((Only.refl Nil w).drewN _)⟩
      · have hql : q < code.length := by rw [HN.out]; omega
        have t1 : (q : Int) < (n : Int) := by omega
        have t2 : decide ((n : Int) ≤ (q : Int)) = false := by simp; omega
        have t3 : (0 : Int) ≤ (q : Int) := Int.natCast_nonneg _
        have t4 : decide (n ≤ q) = false := by simp; omega
        have hx := sDo_at code s q HPC.out hql
        rw [HX.out] at hx
        have hat : code[q]? = some (code.getD q default) := by simp [List.getD, hql]
        have hkk := HC.out (code.getD q default) (List.mem_of_getElem? hat)
        obtain ⟨r0, r1⟩ := HE5.out q _ hat
        have ea := HE4.out (by omega)
        subst ea
        have hbl := (HE6.out (by omega)).2
        obtain ⟨op, k, hcd⟩ : ∃ op k, code.getD q default = ⟨op, k⟩ := ⟨_, _, rfl⟩
        rw [hcd] at r0 r1 hkk hx
        simp only at r0 r1 hkk
        by_cases hg : (Cod.mk op k).Good
        · rw [if_pos hg] at hx
          have hgd : decide (Cod.mk op k).Good = true := by simp [hg]
          have cG := good_any op k
          rw [hgd] at cG
          have hop : 0 ≤ op ∧ op < 34 := ⟨hg.1, hg.2.1⟩
          have HOP := Lib.hid hop
          have HK := Lib.hid hkk
          have HXX := Lib.hid hx
          have HQL := Lib.hid hql
          have HCD := Lib.hid hcd
          clear h0 h1 hx hat hkk hcd hg hgd hop HX HE4 HE5 HE6
          obtain ⟨wd, hwd⟩ : ∃ wd, w.drew = wd := ⟨_, rfl⟩
          have d5 : w.drew.cell? ⟨db, 5, none⟩ = some (.int .i64 (q : Int)) := c5
          have d0 : w.drew.cell? ⟨db, 0, none⟩ = some (.slice (some ⟨b, off, none⟩) n cap) := c0
          have s0 : w.drew.cell? ⟨b, off + q * 2, none⟩ = some (.int .i64 op) := r0
          have s1 : w.drew.cell? ⟨b, off + q * 2 + 1, none⟩ = some (.int .i32 k) := r1
          have hld : db < w.drew.heap.size := hlt
          have hlb : b < w.drew.heap.size := hbl
          clear hwd
          have hS : Only Nil w w.drew := (Only.refl Nil w).drew
          refine wp_region_T (fun w' => Only Nil w w') [43, 44, 45] (by kernel_rfl) ?_
          refine wpAnyT_take 0 (v := ?_) rfl (by kernel_rfl) (by kernel_rfl) (by kernel_rfl) (fun _ _ _ h => h) (by kernel_rfl) (by kernel_rfl) (Or.inl ⟨by kernel_rfl, ?_⟩) hS ?_
          rotate_left
          · (intro w' hw'; have c5' := M.Only.cell hw' c5 (fun h => h); have c0' := M.Only.cell hw' c0 (fun h => h); have r0' := M.Only.cell hw' r0 (fun h => h); have r1' := M.Only.cell hw' r1 (fun h => h); have hl' := Nat.lt_of_lt_of_le hlt hw'.size; have hb' := Nat.lt_of_lt_of_le hbl hw'.size; go_simp; (try with_reducible rfl))
          refine wpAnyT_take 1 (v := ?_) rfl (by kernel_rfl) (by kernel_rfl) (by kernel_rfl) (fun _ _ _ h => h) (by kernel_rfl) (by kernel_rfl) (Or.inl ⟨by kernel_rfl, ?_⟩) hS ?_
          rotate_left
          · (intro w' hw'; have c5' := M.Only.cell hw' c5 (fun h => h); have c0' := M.Only.cell hw' c0 (fun h => h); have r0' := M.Only.cell hw' r0 (fun h => h); have r1' := M.Only.cell hw' r1 (fun h => h); have hl' := Nat.lt_of_lt_of_le hlt hw'.size; have hb' := Nat.lt_of_lt_of_le hbl hw'.size; go_simp; (try with_reducible rfl))
          refine wpAnyT_take 2 (v := ?_) rfl (by kernel_rfl) (by kernel_rfl) (by kernel_rfl) (fun _ _ _ h => h) (by kernel_rfl) (by kernel_rfl) (Or.inl ⟨by kernel_rfl, ?_⟩) hS ?_
          rotate_left
          · (intro w' hw'; have c5' := M.Only.cell hw' c5 (fun h => h); have c0' := M.Only.cell hw' c0 (fun h => h); have r0' := M.Only.cell hw' r0 (fun h => h); have r1' := M.Only.cell hw' r1 (fun h => h); have hl' := Nat.lt_of_lt_of_le hlt hw'.size; have hb' := Nat.lt_of_lt_of_le hbl hw'.size; go_simp; (try with_reducible rfl))
          refine wpAnyT_take 3 (v := ?_) rfl (by kernel_rfl) (by kernel_rfl) (by kernel_rfl) (fun _ _ _ h => h) (by kernel_rfl) (by kernel_rfl) (Or.inl ⟨by kernel_rfl, ?_⟩) hS ?_
          rotate_left
          · (intro w' hw'; have c5' := M.Only.cell hw' c5 (fun h => h); have c0' := M.Only.cell hw' c0 (fun h => h); have r0' := M.Only.cell hw' r0 (fun h => h); have r1' := M.Only.cell hw' r1 (fun h => h); have hl' := Nat.lt_of_lt_of_le hlt hw'.size; have hb' := Nat.lt_of_lt_of_le hbl hw'.size; go_simp; (try with_reducible rfl))
          refine wpAnyT_take 4 (v := ?_) rfl (by kernel_rfl) (by kernel_rfl) (by kernel_rfl) (fun _ _ _ h => h) (by kernel_rfl) (by kernel_rfl) (Or.inl ⟨by kernel_rfl, ?_⟩) hS ?_
          rotate_left
          · (intro w' hw'; have c5' := M.Only.cell hw' c5 (fun h => h); have c0' := M.Only.cell hw' c0 (fun h => h); have r0' := M.Only.cell hw' r0 (fun h => h); have r1' := M.Only.cell hw' r1 (fun h => h); have hl' := Nat.lt_of_lt_of_le hlt hw'.size; have hb' := Nat.lt_of_lt_of_le hbl hw'.size; go_simp; (try with_reducible rfl))
          refine wpAnyT_take 5 (v := ?_) rfl (by kernel_rfl) (by kernel_rfl) (by kernel_rfl) (fun _ _ _ h => h) (by kernel_rfl) (by kernel_rfl) (Or.inl ⟨by kernel_rfl, ?_⟩) hS ?_
          rotate_left
          · (intro w' hw'; have c5' := M.Only.cell hw' c5 (fun h => h); have c0' := M.Only.cell hw' c0 (fun h => h); have r0' := M.Only.cell hw' r0 (fun h => h); have r1' := M.Only.cell hw' r1 (fun h => h); have hl' := Nat.lt_of_lt_of_le hlt hw'.size; have hb' := Nat.lt_of_lt_of_le hbl hw'.size; go_simp; (try with_reducible rfl))
          refine wpAnyT_take 6 (v := ?_) rfl (by kernel_rfl) (by kernel_rfl) (by kernel_rfl) (fun _ _ _ h => h) (by kernel_rfl) (by kernel_rfl) (Or.inl ⟨by kernel_rfl, ?_⟩) hS ?_
          rotate_left
          · (intro w' hw'; have c5' := M.Only.cell hw' c5 (fun h => h); have c0' := M.Only.cell hw' c0 (fun h => h); have r0' := M.Only.cell hw' r0 (fun h => h); have r1' := M.Only.cell hw' r1 (fun h => h); have hl' := Nat.lt_of_lt_of_le hlt hw'.size; have hb' := Nat.lt_of_lt_of_le hbl hw'.size; go_simp; (try with_reducible rfl))
          refine wpAnyT_take 7 (v := ?_) rfl (by kernel_rfl) (by kernel_rfl) (by kernel_rfl) (fun _ _ _ h => h) (by kernel_rfl) (by kernel_rfl) (Or.inl ⟨by kernel_rfl, ?_⟩) hS ?_
          rotate_left
          · (intro w' hw'; have c5' := M.Only.cell hw' c5 (fun h => h); have c0' := M.Only.cell hw' c0 (fun h => h); have r0' := M.Only.cell hw' r0 (fun h => h); have r1' := M.Only.cell hw' r1 (fun h => h); have hl' := Nat.lt_of_lt_of_le hlt hw'.size; have hb' := Nat.lt_of_lt_of_le hbl hw'.size; go_simp; (try with_reducible rfl))
          refine wpAnyT_take 8 (v := ?_) rfl (by kernel_rfl) (by kernel_rfl) (by kernel_rfl) (fun _ _ _ h => h) (by kernel_rfl) (by kernel_rfl) (Or.inl ⟨by kernel_rfl, ?_⟩) hS ?_
          rotate_left
          · (intro w' hw'; have c5' := M.Only.cell hw' c5 (fun h => h); have c0' := M.Only.cell hw' c0 (fun h => h); have r0' := M.Only.cell hw' r0 (fun h => h); have r1' := M.Only.cell hw' r1 (fun h => h); have hl' := Nat.lt_of_lt_of_le hlt hw'.size; have hb' := Nat.lt_of_lt_of_le hbl hw'.size; go_simp; (try with_reducible rfl))
          refine wpAnyT_take 9 (v := ?_) rfl (by kernel_rfl) (by kernel_rfl) (by kernel_rfl) (fun _ _ _ h => h) (by kernel_rfl) (by kernel_rfl) (Or.inl ⟨by kernel_rfl, ?_⟩) hS ?_
          rotate_left
          · (intro w' hw'; have c5' := M.Only.cell hw' c5 (fun h => h); have c0' := M.Only.cell hw' c0 (fun h => h); have r0' := M.Only.cell hw' r0 (fun h => h); have r1' := M.Only.cell hw' r1 (fun h => h); have hl' := Nat.lt_of_lt_of_le hlt hw'.size; have hb' := Nat.lt_of_lt_of_le hbl hw'.size; go_simp; (try with_reducible rfl))
          refine wpAnyT_take 10 (v := ?_) rfl (by kernel_rfl) (by kernel_rfl) (by kernel_rfl) (fun _ _ _ h => h) (by kernel_rfl) (by kernel_rfl) (Or.inl ⟨by kernel_rfl, ?_⟩) hS ?_
          rotate_left
          · (intro w' hw'; have c5' := M.Only.cell hw' c5 (fun h => h); have c0' := M.Only.cell hw' c0 (fun h => h); have r0' := M.Only.cell hw' r0 (fun h => h); have r1' := M.Only.cell hw' r1 (fun h => h); have hl' := Nat.lt_of_lt_of_le hlt hw'.size; have hb' := Nat.lt_of_lt_of_le hbl hw'.size; go_simp; (try with_reducible rfl))
          refine wpAnyT_take 11 (v := ?_) rfl (by kernel_rfl) (by kernel_rfl) (by kernel_rfl) (fun _ _ _ h => h) (by kernel_rfl) (by kernel_rfl) (Or.inl ⟨by kernel_rfl, ?_⟩) hS ?_
          rotate_left
          · (intro w' hw'; have c5' := M.Only.cell hw' c5 (fun h => h); have c0' := M.Only.cell hw' c0 (fun h => h); have r0' := M.Only.cell hw' r0 (fun h => h); have r1' := M.Only.cell hw' r1 (fun h => h); have hl' := Nat.lt_of_lt_of_le hlt hw'.size; have hb' := Nat.lt_of_lt_of_le hbl hw'.size; go_simp; (try with_reducible rfl))
          refine wpAnyT_take 12 (v := ?_) rfl (by kernel_rfl) (by kernel_rfl) (by kernel_rfl) (fun _ _ _ h => h) (by kernel_rfl) (by kernel_rfl) (Or.inl ⟨by kernel_rfl, ?_⟩) hS ?_
          rotate_left
          · (intro w' hw'; have c5' := M.Only.cell hw' c5 (fun h => h); have c0' := M.Only.cell hw' c0 (fun h => h); have r0' := M.Only.cell hw' r0 (fun h => h); have r1' := M.Only.cell hw' r1 (fun h => h); have hl' := Nat.lt_of_lt_of_le hlt hw'.size; have hb' := Nat.lt_of_lt_of_le hbl hw'.size; go_simp; (try with_reducible rfl))
          refine wpAnyT_take 13 (v := ?_) rfl (by kernel_rfl) (by kernel_rfl) (by kernel_rfl) (fun _ _ _ h => h) (by kernel_rfl) (by kernel_rfl) (Or.inl ⟨by kernel_rfl, ?_⟩) hS ?_
          rotate_left
          · (intro w' hw'; have c5' := M.Only.cell hw' c5 (fun h => h); have c0' := M.Only.cell hw' c0 (fun h => h); have r0' := M.Only.cell hw' r0 (fun h => h); have r1' := M.Only.cell hw' r1 (fun h => h); have hl' := Nat.lt_of_lt_of_le hlt hw'.size; have hb' := Nat.lt_of_lt_of_le hbl hw'.size; go_simp; (try with_reducible rfl))
          refine wpAnyT_take 14 (v := ?_) rfl (by kernel_rfl) (by kernel_rfl) (by kernel_rfl) (fun _ _ _ h => h) (by kernel_rfl) (by kernel_rfl) (Or.inl ⟨by kernel_rfl, ?_⟩) hS ?_
          rotate_left
          · (intro w' hw'; have c5' := M.Only.cell hw' c5 (fun h => h); have c0' := M.Only.cell hw' c0 (fun h => h); have r0' := M.Only.cell hw' r0 (fun h => h); have r1' := M.Only.cell hw' r1 (fun h => h); have hl' := Nat.lt_of_lt_of_le hlt hw'.size; have hb' := Nat.lt_of_lt_of_le hbl hw'.size; go_simp; (try with_reducible rfl))
          refine wpAnyT_take 15 (v := ?_) rfl (by kernel_rfl) (by kernel_rfl) (by kernel_rfl) (fun _ _ _ h => h) (by kernel_rfl) (by kernel_rfl) (Or.inl ⟨by kernel_rfl, ?_⟩) hS ?_
          rotate_left
          · (intro w' hw'; have c5' := M.Only.cell hw' c5 (fun h => h); have c0' := M.Only.cell hw' c0 (fun h => h); have r0' := M.Only.cell hw' r0 (fun h => h); have r1' := M.Only.cell hw' r1 (fun h => h); have hl' := Nat.lt_of_lt_of_le hlt hw'.size; have hb' := Nat.lt_of_lt_of_le hbl hw'.size; go_simp; (try with_reducible rfl))
          refine wpAnyT_take 16 (v := ?_) rfl (by kernel_rfl) (by kernel_rfl) (by kernel_rfl) (fun _ _ _ h => h) (by kernel_rfl) (by kernel_rfl) (Or.inl ⟨by kernel_rfl, ?_⟩) hS ?_
          rotate_left
          · (intro w' hw'; have c5' := M.Only.cell hw' c5 (fun h => h); have c0' := M.Only.cell hw' c0 (fun h => h); have r0' := M.Only.cell hw' r0 (fun h => h); have r1' := M.Only.cell hw' r1 (fun h => h); have hl' := Nat.lt_of_lt_of_le hlt hw'.size; have hb' := Nat.lt_of_lt_of_le hbl hw'.size; go_simp; (try with_reducible rfl))
          refine wpAnyT_take 17 (v := ?_) rfl (by kernel_rfl) (by kernel_rfl) (by kernel_rfl) (fun _ _ _ h => h) (by kernel_rfl) (by kernel_rfl) (Or.inl ⟨by kernel_rfl, ?_⟩) hS ?_
          rotate_left
          · (intro w' hw'; have c5' := M.Only.cell hw' c5 (fun h => h); have c0' := M.Only.cell hw' c0 (fun h => h); have r0' := M.Only.cell hw' r0 (fun h => h); have r1' := M.Only.cell hw' r1 (fun h => h); have hl' := Nat.lt_of_lt_of_le hlt hw'.size; have hb' := Nat.lt_of_lt_of_le hbl hw'.size; go_simp; (try with_reducible rfl))
          refine wpAnyT_take 18 (v := ?_) rfl (by kernel_rfl) (by kernel_rfl) (by kernel_rfl) (fun _ _ _ h => h) (by kernel_rfl) (by kernel_rfl) (Or.inl ⟨by kernel_rfl, ?_⟩) hS ?_
          rotate_left
          · (intro w' hw'; have c5' := M.Only.cell hw' c5 (fun h => h); have c0' := M.Only.cell hw' c0 (fun h => h); have r0' := M.Only.cell hw' r0 (fun h => h); have r1' := M.Only.cell hw' r1 (fun h => h); have hl' := Nat.lt_of_lt_of_le hlt hw'.size; have hb' := Nat.lt_of_lt_of_le hbl hw'.size; go_simp; (try with_reducible rfl))
          refine wpAnyT_take 19 (v := ?_) rfl (by kernel_rfl) (by kernel_rfl) (by kernel_rfl) (fun _ _ _ h => h) (by kernel_rfl) (by kernel_rfl) (Or.inl ⟨by kernel_rfl, ?_⟩) hS ?_
          rotate_left
          · (intro w' hw'; have c5' := M.Only.cell hw' c5 (fun h => h); have c0' := M.Only.cell hw' c0 (fun h => h); have r0' := M.Only.cell hw' r0 (fun h => h); have r1' := M.Only.cell hw' r1 (fun h => h); have hl' := Nat.lt_of_lt_of_le hlt hw'.size; have hb' := Nat.lt_of_lt_of_le hbl hw'.size; go_simp; (try with_reducible rfl))
          refine wpAnyT_take 20 (v := ?_) rfl (by kernel_rfl) (by kernel_rfl) (by kernel_rfl) (fun _ _ _ h => h) (by kernel_rfl) (by kernel_rfl) (Or.inl ⟨by kernel_rfl, ?_⟩) hS ?_
          rotate_left
          · (intro w' hw'; have c5' := M.Only.cell hw' c5 (fun h => h); have c0' := M.Only.cell hw' c0 (fun h => h); have r0' := M.Only.cell hw' r0 (fun h => h); have r1' := M.Only.cell hw' r1 (fun h => h); have hl' := Nat.lt_of_lt_of_le hlt hw'.size; have hb' := Nat.lt_of_lt_of_le hbl hw'.size; go_simp; (try with_reducible rfl))
          refine wpAnyT_take 21 (v := ?_) rfl (by kernel_rfl) (by kernel_rfl) (by kernel_rfl) (fun _ _ _ h => h) (by kernel_rfl) (by kernel_rfl) (Or.inl ⟨by kernel_rfl, ?_⟩) hS ?_
          rotate_left
          · (intro w' hw'; have c5' := M.Only.cell hw' c5 (fun h => h); have c0' := M.Only.cell hw' c0 (fun h => h); have r0' := M.Only.cell hw' r0 (fun h => h); have r1' := M.Only.cell hw' r1 (fun h => h); have hl' := Nat.lt_of_lt_of_le hlt hw'.size; have hb' := Nat.lt_of_lt_of_le hbl hw'.size; go_simp; (try with_reducible rfl))
          refine wpAnyT_take 22 (v := ?_) rfl (by kernel_rfl) (by kernel_rfl) (by kernel_rfl) (fun _ _ _ h => h) (by kernel_rfl) (by kernel_rfl) (Or.inl ⟨by kernel_rfl, ?_⟩) hS ?_
          rotate_left
          · (intro w' hw'; have c5' := M.Only.cell hw' c5 (fun h => h); have c0' := M.Only.cell hw' c0 (fun h => h); have r0' := M.Only.cell hw' r0 (fun h => h); have r1' := M.Only.cell hw' r1 (fun h => h); have hl' := Nat.lt_of_lt_of_le hlt hw'.size; have hb' := Nat.lt_of_lt_of_le hbl hw'.size; go_simp; (try with_reducible rfl))
          refine wpAnyT_take 23 (v := ?_) rfl (by kernel_rfl) (by kernel_rfl) (by kernel_rfl) (fun _ _ _ h => h) (by kernel_rfl) (by kernel_rfl) (Or.inl ⟨by kernel_rfl, ?_⟩) hS ?_
          rotate_left
          · (intro w' hw'; have c5' := M.Only.cell hw' c5 (fun h => h); have c0' := M.Only.cell hw' c0 (fun h => h); have r0' := M.Only.cell hw' r0 (fun h => h); have r1' := M.Only.cell hw' r1 (fun h => h); have hl' := Nat.lt_of_lt_of_le hlt hw'.size; have hb' := Nat.lt_of_lt_of_le hbl hw'.size; go_simp; (try with_reducible rfl))
          refine wpAnyT_take 24 (v := ?_) rfl (by kernel_rfl) (by kernel_rfl) (by kernel_rfl) (fun _ _ _ h => h) (by kernel_rfl) (by kernel_rfl) (Or.inl ⟨by kernel_rfl, ?_⟩) hS ?_
          rotate_left
          · (intro w' hw'; have c5' := M.Only.cell hw' c5 (fun h => h); have c0' := M.Only.cell hw' c0 (fun h => h); have r0' := M.Only.cell hw' r0 (fun h => h); have r1' := M.Only.cell hw' r1 (fun h => h); have hl' := Nat.lt_of_lt_of_le hlt hw'.size; have hb' := Nat.lt_of_lt_of_le hbl hw'.size; go_simp; (try with_reducible rfl))
          refine wpAnyT_take 25 (v := ?_) rfl (by kernel_rfl) (by kernel_rfl) (by kernel_rfl) (fun _ _ _ h => h) (by kernel_rfl) (by kernel_rfl) (Or.inl ⟨by kernel_rfl, ?_⟩) hS ?_
          rotate_left
          · (intro w' hw'; have c5' := M.Only.cell hw' c5 (fun h => h); have c0' := M.Only.cell hw' c0 (fun h => h); have r0' := M.Only.cell hw' r0 (fun h => h); have r1' := M.Only.cell hw' r1 (fun h => h); have hl' := Nat.lt_of_lt_of_le hlt hw'.size; have hb' := Nat.lt_of_lt_of_le hbl hw'.size; go_simp; (try with_reducible rfl))
          refine wpAnyT_take 26 (v := ?_) rfl (by kernel_rfl) (by kernel_rfl) (by kernel_rfl) (fun _ _ _ h => h) (by kernel_rfl) (by kernel_rfl) (Or.inl ⟨by kernel_rfl, ?_⟩) hS ?_
          rotate_left
          · (intro w' hw'; have c5' := M.Only.cell hw' c5 (fun h => h); have c0' := M.Only.cell hw' c0 (fun h => h); have r0' := M.Only.cell hw' r0 (fun h => h); have r1' := M.Only.cell hw' r1 (fun h => h); have hl' := Nat.lt_of_lt_of_le hlt hw'.size; have hb' := Nat.lt_of_lt_of_le hbl hw'.size; go_simp; (try with_reducible rfl))
          refine wpAnyT_take 27 (v := ?_) rfl (by kernel_rfl) (by kernel_rfl) (by kernel_rfl) (fun _ _ _ h => h) (by kernel_rfl) (by kernel_rfl) (Or.inl ⟨by kernel_rfl, ?_⟩) hS ?_
          rotate_left
          · (intro w' hw'; have c5' := M.Only.cell hw' c5 (fun h => h); have c0' := M.Only.cell hw' c0 (fun h => h); have r0' := M.Only.cell hw' r0 (fun h => h); have r1' := M.Only.cell hw' r1 (fun h => h); have hl' := Nat.lt_of_lt_of_le hlt hw'.size; have hb' := Nat.lt_of_lt_of_le hbl hw'.size; go_simp; (try with_reducible rfl))
          refine wpAnyT_one (i := 28) rfl (by kernel_rfl) (fun K hK => ?_)
          go_simp
          go_wp2_with (first | (go_at_call 34; refine (cG _).mono ?_; rintro e w6 ⟨rfl, ho6⟩; have hS := hS.trans ho6 (fun _ _ h => h); clear ho6))
          refine hK.out _ _ (fun _ => hS) ?_
          clear hK K
          refine wpAnyT_take 29 (v := ?_) rfl (by kernel_rfl) (by kernel_rfl) (by kernel_rfl) (fun _ _ _ h => h) (by kernel_rfl) (by kernel_rfl) (Or.inl ⟨by kernel_rfl, ?_⟩) hS ?_
          rotate_left
          · (intro w' hw'; have c5' := M.Only.cell hw' c5 (fun h => h); have c0' := M.Only.cell hw' c0 (fun h => h); have r0' := M.Only.cell hw' r0 (fun h => h); have r1' := M.Only.cell hw' r1 (fun h => h); have hl' := Nat.lt_of_lt_of_le hlt hw'.size; have hb' := Nat.lt_of_lt_of_le hbl hw'.size; go_simp; (try with_reducible rfl))
          refine wpAnyT_take 30 (v := ?_) rfl (by kernel_rfl) (by kernel_rfl) (by kernel_rfl) (fun _ _ _ h => h) (by kernel_rfl) (by kernel_rfl) (Or.inl ⟨by kernel_rfl, ?_⟩) hS ?_
          rotate_left
          · (intro w' hw'; have c5' := M.Only.cell hw' c5 (fun h => h); have c0' := M.Only.cell hw' c0 (fun h => h); have r0' := M.Only.cell hw' r0 (fun h => h); have r1' := M.Only.cell hw' r1 (fun h => h); have hl' := Nat.lt_of_lt_of_le hlt hw'.size; have hb' := Nat.lt_of_lt_of_le hbl hw'.size; go_simp; (try with_reducible rfl))
          refine wpAnyT_take 31 (v := ?_) rfl (by kernel_rfl) (by kernel_rfl) (by kernel_rfl) (fun _ _ _ h => h) (by kernel_rfl) (by kernel_rfl) (Or.inl ⟨by kernel_rfl, ?_⟩) hS ?_
          rotate_left
          · (intro w' hw'; have c5' := M.Only.cell hw' c5 (fun h => h); have c0' := M.Only.cell hw' c0 (fun h => h); have r0' := M.Only.cell hw' r0 (fun h => h); have r1' := M.Only.cell hw' r1 (fun h => h); have hl' := Nat.lt_of_lt_of_le hlt hw'.size; have hb' := Nat.lt_of_lt_of_le hbl hw'.size; go_simp; (try with_reducible rfl))
          refine wpAnyT_take 32 (v := ?_) rfl (by kernel_rfl) (by kernel_rfl) (by kernel_rfl) (fun _ _ _ h => h) (by kernel_rfl) (by kernel_rfl) (Or.inl ⟨by kernel_rfl, ?_⟩) hS ?_
          rotate_left
          · (intro w' hw'; have c5' := M.Only.cell hw' c5 (fun h => h); have c0' := M.Only.cell hw' c0 (fun h => h); have r0' := M.Only.cell hw' r0 (fun h => h); have r1' := M.Only.cell hw' r1 (fun h => h); have hl' := Nat.lt_of_lt_of_le hlt hw'.size; have hb' := Nat.lt_of_lt_of_le hbl hw'.size; go_simp; (try with_reducible rfl))
          refine wpAnyT_take 33 (v := ?_) rfl (by kernel_rfl) (by kernel_rfl) (by kernel_rfl) (fun _ _ _ h => h) (by kernel_rfl) (by kernel_rfl) (Or.inl ⟨by kernel_rfl, ?_⟩) hS ?_
          rotate_left
          · (intro w' hw'; have c5' := M.Only.cell hw' c5 (fun h => h); have c0' := M.Only.cell hw' c0 (fun h => h); have r0' := M.Only.cell hw' r0 (fun h => h); have r1' := M.Only.cell hw' r1 (fun h => h); have hl' := Nat.lt_of_lt_of_le hlt hw'.size; have hb' := Nat.lt_of_lt_of_le hbl hw'.size; go_simp; (try with_reducible rfl))
          refine wpAnyT_take 34 (v := ?_) rfl (by kernel_rfl) (by kernel_rfl) (by kernel_rfl) (fun _ _ _ h => h) (by kernel_rfl) (by kernel_rfl) (Or.inl ⟨by kernel_rfl, ?_⟩) hS ?_
          rotate_left
          · (intro w' hw'; have c5' := M.Only.cell hw' c5 (fun h => h); have c0' := M.Only.cell hw' c0 (fun h => h); have r0' := M.Only.cell hw' r0 (fun h => h); have r1' := M.Only.cell hw' r1 (fun h => h); have hl' := Nat.lt_of_lt_of_le hlt hw'.size; have hb' := Nat.lt_of_lt_of_le hbl hw'.size; go_simp; (try with_reducible rfl))
          refine wpAnyT_take 35 (v := ?_) rfl (by kernel_rfl) (by kernel_rfl) (by kernel_rfl) (fun _ _ _ h => h) (by kernel_rfl) (by kernel_rfl) (Or.inl ⟨by kernel_rfl, ?_⟩) hS ?_
          rotate_left
          · (intro w' hw'; have c5' := M.Only.cell hw' c5 (fun h => h); have c0' := M.Only.cell hw' c0 (fun h => h); have r0' := M.Only.cell hw' r0 (fun h => h); have r1' := M.Only.cell hw' r1 (fun h => h); have hl' := Nat.lt_of_lt_of_le hlt hw'.size; have hb' := Nat.lt_of_lt_of_le hbl hw'.size; go_simp; (try with_reducible rfl))
          refine wpAnyT_take 36 (v := ?_) rfl (by kernel_rfl) (by kernel_rfl) (by kernel_rfl) (fun _ _ _ h => h) (by kernel_rfl) (by kernel_rfl) (Or.inl ⟨by kernel_rfl, ?_⟩) hS ?_
          rotate_left
          · (intro w' hw'; have c5' := M.Only.cell hw' c5 (fun h => h); have c0' := M.Only.cell hw' c0 (fun h => h); have r0' := M.Only.cell hw' r0 (fun h => h); have r1' := M.Only.cell hw' r1 (fun h => h); have hl' := Nat.lt_of_lt_of_le hlt hw'.size; have hb' := Nat.lt_of_lt_of_le hbl hw'.size; go_simp; (try with_reducible rfl))
          refine wpAnyT_take 37 (v := ?_) rfl (by kernel_rfl) (by kernel_rfl) (by kernel_rfl) (fun _ _ _ h => h) (by kernel_rfl) (by kernel_rfl) (Or.inl ⟨by kernel_rfl, ?_⟩) hS ?_
          rotate_left
          · (intro w' hw'; have c5' := M.Only.cell hw' c5 (fun h => h); have c0' := M.Only.cell hw' c0 (fun h => h); have r0' := M.Only.cell hw' r0 (fun h => h); have r1' := M.Only.cell hw' r1 (fun h => h); have hl' := Nat.lt_of_lt_of_le hlt hw'.size; have hb' := Nat.lt_of_lt_of_le hbl hw'.size; go_simp; (try with_reducible rfl))
          refine wpAnyT_take 38 (v := ?_) rfl (by kernel_rfl) (by kernel_rfl) (by kernel_rfl) (fun _ _ _ h => h) (by kernel_rfl) (by kernel_rfl) (Or.inl ⟨by kernel_rfl, ?_⟩) hS ?_
          rotate_left
          · (intro w' hw'; have c5' := M.Only.cell hw' c5 (fun h => h); have c0' := M.Only.cell hw' c0 (fun h => h); have r0' := M.Only.cell hw' r0 (fun h => h); have r1' := M.Only.cell hw' r1 (fun h => h); have hl' := Nat.lt_of_lt_of_le hlt hw'.size; have hb' := Nat.lt_of_lt_of_le hbl hw'.size; go_simp; (try with_reducible rfl))
          refine wpAnyT_take 39 (v := ?_) rfl (by kernel_rfl) (by kernel_rfl) (by kernel_rfl) (fun _ _ _ h => h) (by kernel_rfl) (by kernel_rfl) (Or.inl ⟨by kernel_rfl, ?_⟩) hS ?_
          rotate_left
          · (intro w' hw'; have c5' := M.Only.cell hw' c5 (fun h => h); have c0' := M.Only.cell hw' c0 (fun h => h); have r0' := M.Only.cell hw' r0 (fun h => h); have r1' := M.Only.cell hw' r1 (fun h => h); have hl' := Nat.lt_of_lt_of_le hlt hw'.size; have hb' := Nat.lt_of_lt_of_le hbl hw'.size; go_simp; (try with_reducible rfl))
          refine wpAnyT_take 40 (v := ?_) rfl (by kernel_rfl) (by kernel_rfl) (by kernel_rfl) (fun _ _ _ h => h) (by kernel_rfl) (by kernel_rfl) (Or.inl ⟨by kernel_rfl, ?_⟩) hS ?_
          rotate_left
          · (intro w' hw'; have c5' := M.Only.cell hw' c5 (fun h => h); have c0' := M.Only.cell hw' c0 (fun h => h); have r0' := M.Only.cell hw' r0 (fun h => h); have r1' := M.Only.cell hw' r1 (fun h => h); have hl' := Nat.lt_of_lt_of_le hlt hw'.size; have hb' := Nat.lt_of_lt_of_le hbl hw'.size; go_simp; (try with_reducible rfl))
          refine wpAnyT_take 41 (v := ?_) rfl (by kernel_rfl) (by kernel_rfl) (by kernel_rfl) (fun _ _ _ h => h) (by kernel_rfl) (by kernel_rfl) (Or.inl ⟨by kernel_rfl, ?_⟩) hS ?_
          rotate_left
          · (intro w' hw'; have c5' := M.Only.cell hw' c5 (fun h => h); have c0' := M.Only.cell hw' c0 (fun h => h); have r0' := M.Only.cell hw' r0 (fun h => h); have r1' := M.Only.cell hw' r1 (fun h => h); have hl' := Nat.lt_of_lt_of_le hlt hw'.size; have hb' := Nat.lt_of_lt_of_le hbl hw'.size; go_simp; (try with_reducible rfl))
          refine wpAnyT_take 42 (v := ?_) rfl (by kernel_rfl) (by kernel_rfl) (by kernel_rfl) (fun _ _ _ h => h) (by kernel_rfl) (by kernel_rfl) (Or.inl ⟨by kernel_rfl, ?_⟩) hS ?_
          rotate_left
          · (intro w' hw'; have c5' := M.Only.cell hw' c5 (fun h => h); have c0' := M.Only.cell hw' c0 (fun h => h); have r0' := M.Only.cell hw' r0 (fun h => h); have r1' := M.Only.cell hw' r1 (fun h => h); have hl' := Nat.lt_of_lt_of_le hlt hw'.size; have hb' := Nat.lt_of_lt_of_le hbl hw'.size; go_simp; (try with_reducible rfl))
          refine wpAnyT_one (i := 43) rfl (by kernel_rfl) (fun K hK => ?_)
          go_simp
          go_wp2_with (first | (go_at_call 35; refine (tdo_any db vb op k HOP.out.1 HOP.out.2 HK.out code s _ pv kv iv ov _ (fun j hj => Nat.lt_of_lt_of_le (HQ.out j hj) hS.size) (HM.out.quiet hS) HS.out HOL.out HTR.out (by rw [HPC.out]; exact t3)).mono ?_; rintro e w7 ⟨pv7, kv7, iv7, ov7, rfl, hg7, hM7⟩))
          refine hK.out _ _ (fun h => by cases h) ?_
          clear hK K
          refine wpAnyT_one (i := 44) rfl (by kernel_rfl) (fun K hK => ?_)
          go_simp
          refine hK.out _ _ (fun h => by cases h) ?_
          clear hK K
          refine wpAnyT_one (i := 45) rfl (by kernel_rfl) (fun K hK => ?_)
          go_simp
          refine hK.out _ _ (fun h => by cases h) ?_
          clear hK K
          refine wpAnyT_done (by kernel_rfl) ?_
          go_wp2_with fail
          go_meet
          rw [HXX.out]
          exact ⟨pv7, kv7, iv7, ov7, by simp, (TGone.of_nil hS).trans hg7, hM7⟩
        · rw [if_neg hg] at hx
          have hgd : decide (Cod.mk op k).Good = false := by simp [hg]
          have cG := good_any op k
          rw [hgd] at cG
          subst hx
          clear h0 h1 hat hkk hcd hg hgd HX HE4 HE5 HE6
          have hS : Only Nil w w.drew := (Only.refl Nil w).drew
          refine wp_region_T (fun w' => Only Nil w w') [] (by kernel_rfl) ?_
          refine wpAnyT_take 0 (v := ?_) rfl (by kernel_rfl) (by kernel_rfl) (by kernel_rfl) (fun _ _ _ h => h) (by kernel_rfl) (by kernel_rfl) (Or.inl ⟨by kernel_rfl, ?_⟩) hS ?_
          rotate_left
          · (intro w' hw'; have c5' := M.Only.cell hw' c5 (fun h => h); have c0' := M.Only.cell hw' c0 (fun h => h); have r0' := M.Only.cell hw' r0 (fun h => h); have r1' := M.Only.cell hw' r1 (fun h => h); have hl' := Nat.lt_of_lt_of_le hlt hw'.size; have hb' := Nat.lt_of_lt_of_le hbl hw'.size; go_simp; (try with_reducible rfl))
          refine wpAnyT_take 1 (v := ?_) rfl (by kernel_rfl) (by kernel_rfl) (by kernel_rfl) (fun _ _ _ h => h) (by kernel_rfl) (by kernel_rfl) (Or.inl ⟨by kernel_rfl, ?_⟩) hS ?_
          rotate_left
          · (intro w' hw'; have c5' := M.Only.cell hw' c5 (fun h => h); have c0' := M.Only.cell hw' c0 (fun h => h); have r0' := M.Only.cell hw' r0 (fun h => h); have r1' := M.Only.cell hw' r1 (fun h => h); have hl' := Nat.lt_of_lt_of_le hlt hw'.size; have hb' := Nat.lt_of_lt_of_le hbl hw'.size; go_simp; (try with_reducible rfl))
          refine wpAnyT_take 2 (v := ?_) rfl (by kernel_rfl) (by kernel_rfl) (by kernel_rfl) (fun _ _ _ h => h) (by kernel_rfl) (by kernel_rfl) (Or.inl ⟨by kernel_rfl, ?_⟩) hS ?_
          rotate_left
          · (intro w' hw'; have c5' := M.Only.cell hw' c5 (fun h => h); have c0' := M.Only.cell hw' c0 (fun h => h); have r0' := M.Only.cell hw' r0 (fun h => h); have r1' := M.Only.cell hw' r1 (fun h => h); have hl' := Nat.lt_of_lt_of_le hlt hw'.size; have hb' := Nat.lt_of_lt_of_le hbl hw'.size; go_simp; (try with_reducible rfl))
          refine wpAnyT_take 3 (v := ?_) rfl (by kernel_rfl) (by kernel_rfl) (by kernel_rfl) (fun _ _ _ h => h) (by kernel_rfl) (by kernel_rfl) (Or.inl ⟨by kernel_rfl, ?_⟩) hS ?_
          rotate_left
          · (intro w' hw'; have c5' := M.Only.cell hw' c5 (fun h => h); have c0' := M.Only.cell hw' c0 (fun h => h); have r0' := M.Only.cell hw' r0 (fun h => h); have r1' := M.Only.cell hw' r1 (fun h => h); have hl' := Nat.lt_of_lt_of_le hlt hw'.size; have hb' := Nat.lt_of_lt_of_le hbl hw'.size; go_simp; (try with_reducible rfl))
          refine wpAnyT_take 4 (v := ?_) rfl (by kernel_rfl) (by kernel_rfl) (by kernel_rfl) (fun _ _ _ h => h) (by kernel_rfl) (by kernel_rfl) (Or.inl ⟨by kernel_rfl, ?_⟩) hS ?_
          rotate_left
          · (intro w' hw'; have c5' := M.Only.cell hw' c5 (fun h => h); have c0' := M.Only.cell hw' c0 (fun h => h); have r0' := M.Only.cell hw' r0 (fun h => h); have r1' := M.Only.cell hw' r1 (fun h => h); have hl' := Nat.lt_of_lt_of_le hlt hw'.size; have hb' := Nat.lt_of_lt_of_le hbl hw'.size; go_simp; (try with_reducible rfl))
          refine wpAnyT_take 5 (v := ?_) rfl (by kernel_rfl) (by kernel_rfl) (by kernel_rfl) (fun _ _ _ h => h) (by kernel_rfl) (by kernel_rfl) (Or.inl ⟨by kernel_rfl, ?_⟩) hS ?_
          rotate_left
          · (intro w' hw'; have c5' := M.Only.cell hw' c5 (fun h => h); have c0' := M.Only.cell hw' c0 (fun h => h); have r0' := M.Only.cell hw' r0 (fun h => h); have r1' := M.Only.cell hw' r1 (fun h => h); have hl' := Nat.lt_of_lt_of_le hlt hw'.size; have hb' := Nat.lt_of_lt_of_le hbl hw'.size; go_simp; (try with_reducible rfl))
          refine wpAnyT_take 6 (v := ?_) rfl (by kernel_rfl) (by kernel_rfl) (by kernel_rfl) (fun _ _ _ h => h) (by kernel_rfl) (by kernel_rfl) (Or.inl ⟨by kernel_rfl, ?_⟩) hS ?_
          rotate_left
          · (intro w' hw'; have c5' := M.Only.cell hw' c5 (fun h => h); have c0' := M.Only.cell hw' c0 (fun h => h); have r0' := M.Only.cell hw' r0 (fun h => h); have r1' := M.Only.cell hw' r1 (fun h => h); have hl' := Nat.lt_of_lt_of_le hlt hw'.size; have hb' := Nat.lt_of_lt_of_le hbl hw'.size; go_simp; (try with_reducible rfl))
          refine wpAnyT_take 7 (v := ?_) rfl (by kernel_rfl) (by kernel_rfl) (by kernel_rfl) (fun _ _ _ h => h) (by kernel_rfl) (by kernel_rfl) (Or.inl ⟨by kernel_rfl, ?_⟩) hS ?_
          rotate_left
          · (intro w' hw'; have c5' := M.Only.cell hw' c5 (fun h => h); have c0' := M.Only.cell hw' c0 (fun h => h); have r0' := M.Only.cell hw' r0 (fun h => h); have r1' := M.Only.cell hw' r1 (fun h => h); have hl' := Nat.lt_of_lt_of_le hlt hw'.size; have hb' := Nat.lt_of_lt_of_le hbl hw'.size; go_simp; (try with_reducible rfl))
          refine wpAnyT_take 8 (v := ?_) rfl (by kernel_rfl) (by kernel_rfl) (by kernel_rfl) (fun _ _ _ h => h) (by kernel_rfl) (by kernel_rfl) (Or.inl ⟨by kernel_rfl, ?_⟩) hS ?_
          rotate_left
          · (intro w' hw'; have c5' := M.Only.cell hw' c5 (fun h => h); have c0' := M.Only.cell hw' c0 (fun h => h); have r0' := M.Only.cell hw' r0 (fun h => h); have r1' := M.Only.cell hw' r1 (fun h => h); have hl' := Nat.lt_of_lt_of_le hlt hw'.size; have hb' := Nat.lt_of_lt_of_le hbl hw'.size; go_simp; (try with_reducible rfl))
          refine wpAnyT_take 9 (v := ?_) rfl (by kernel_rfl) (by kernel_rfl) (by kernel_rfl) (fun _ _ _ h => h) (by kernel_rfl) (by kernel_rfl) (Or.inl ⟨by kernel_rfl, ?_⟩) hS ?_
          rotate_left
          · (intro w' hw'; have c5' := M.Only.cell hw' c5 (fun h => h); have c0' := M.Only.cell hw' c0 (fun h => h); have r0' := M.Only.cell hw' r0 (fun h => h); have r1' := M.Only.cell hw' r1 (fun h => h); have hl' := Nat.lt_of_lt_of_le hlt hw'.size; have hb' := Nat.lt_of_lt_of_le hbl hw'.size; go_simp; (try with_reducible rfl))
          refine wpAnyT_take 10 (v := ?_) rfl (by kernel_rfl) (by kernel_rfl) (by kernel_rfl) (fun _ _ _ h => h) (by kernel_rfl) (by kernel_rfl) (Or.inl ⟨by kernel_rfl, ?_⟩) hS ?_
          rotate_left
          · (intro w' hw'; have c5' := M.Only.cell hw' c5 (fun h => h); have c0' := M.Only.cell hw' c0 (fun h => h); have r0' := M.Only.cell hw' r0 (fun h => h); have r1' := M.Only.cell hw' r1 (fun h => h); have hl' := Nat.lt_of_lt_of_le hlt hw'.size; have hb' := Nat.lt_of_lt_of_le hbl hw'.size; go_simp; (try with_reducible rfl))
          refine wpAnyT_take 11 (v := ?_) rfl (by kernel_rfl) (by kernel_rfl) (by kernel_rfl) (fun _ _ _ h => h) (by kernel_rfl) (by kernel_rfl) (Or.inl ⟨by kernel_rfl, ?_⟩) hS ?_
          rotate_left
          · (intro w' hw'; have c5' := M.Only.cell hw' c5 (fun h => h); have c0' := M.Only.cell hw' c0 (fun h => h); have r0' := M.Only.cell hw' r0 (fun h => h); have r1' := M.Only.cell hw' r1 (fun h => h); have hl' := Nat.lt_of_lt_of_le hlt hw'.size; have hb' := Nat.lt_of_lt_of_le hbl hw'.size; go_simp; (try with_reducible rfl))
          refine wpAnyT_take 12 (v := ?_) rfl (by kernel_rfl) (by kernel_rfl) (by kernel_rfl) (fun _ _ _ h => h) (by kernel_rfl) (by kernel_rfl) (Or.inl ⟨by kernel_rfl, ?_⟩) hS ?_
          rotate_left
          · (intro w' hw'; have c5' := M.Only.cell hw' c5 (fun h => h); have c0' := M.Only.cell hw' c0 (fun h => h); have r0' := M.Only.cell hw' r0 (fun h => h); have r1' := M.Only.cell hw' r1 (fun h => h); have hl' := Nat.lt_of_lt_of_le hlt hw'.size; have hb' := Nat.lt_of_lt_of_le hbl hw'.size; go_simp; (try with_reducible rfl))
          refine wpAnyT_take 13 (v := ?_) rfl (by kernel_rfl) (by kernel_rfl) (by kernel_rfl) (fun _ _ _ h => h) (by kernel_rfl) (by kernel_rfl) (Or.inl ⟨by kernel_rfl, ?_⟩) hS ?_
          rotate_left
          · (intro w' hw'; have c5' := M.Only.cell hw' c5 (fun h => h); have c0' := M.Only.cell hw' c0 (fun h => h); have r0' := M.Only.cell hw' r0 (fun h => h); have r1' := M.Only.cell hw' r1 (fun h => h); have hl' := Nat.lt_of_lt_of_le hlt hw'.size; have hb' := Nat.lt_of_lt_of_le hbl hw'.size; go_simp; (try with_reducible rfl))
          refine wpAnyT_take 14 (v := ?_) rfl (by kernel_rfl) (by kernel_rfl) (by kernel_rfl) (fun _ _ _ h => h) (by kernel_rfl) (by kernel_rfl) (Or.inl ⟨by kernel_rfl, ?_⟩) hS ?_
          rotate_left
          · (intro w' hw'; have c5' := M.Only.cell hw' c5 (fun h => h); have c0' := M.Only.cell hw' c0 (fun h => h); have r0' := M.Only.cell hw' r0 (fun h => h); have r1' := M.Only.cell hw' r1 (fun h => h); have hl' := Nat.lt_of_lt_of_le hlt hw'.size; have hb' := Nat.lt_of_lt_of_le hbl hw'.size; go_simp; (try with_reducible rfl))
          refine wpAnyT_take 15 (v := ?_) rfl (by kernel_rfl) (by kernel_rfl) (by kernel_rfl) (fun _ _ _ h => h) (by kernel_rfl) (by kernel_rfl) (Or.inl ⟨by kernel_rfl, ?_⟩) hS ?_
          rotate_left
          · (intro w' hw'; have c5' := M.Only.cell hw' c5 (fun h => h); have c0' := M.Only.cell hw' c0 (fun h => h); have r0' := M.Only.cell hw' r0 (fun h => h); have r1' := M.Only.cell hw' r1 (fun h => h); have hl' := Nat.lt_of_lt_of_le hlt hw'.size; have hb' := Nat.lt_of_lt_of_le hbl hw'.size; go_simp; (try with_reducible rfl))
          refine wpAnyT_take 16 (v := ?_) rfl (by kernel_rfl) (by kernel_rfl) (by kernel_rfl) (fun _ _ _ h => h) (by kernel_rfl) (by kernel_rfl) (Or.inl ⟨by kernel_rfl, ?_⟩) hS ?_
          rotate_left
          · (intro w' hw'; have c5' := M.Only.cell hw' c5 (fun h => h); have c0' := M.Only.cell hw' c0 (fun h => h); have r0' := M.Only.cell hw' r0 (fun h => h); have r1' := M.Only.cell hw' r1 (fun h => h); have hl' := Nat.lt_of_lt_of_le hlt hw'.size; have hb' := Nat.lt_of_lt_of_le hbl hw'.size; go_simp; (try with_reducible rfl))
          refine wpAnyT_take 17 (v := ?_) rfl (by kernel_rfl) (by kernel_rfl) (by kernel_rfl) (fun _ _ _ h => h) (by kernel_rfl) (by kernel_rfl) (Or.inl ⟨by kernel_rfl, ?_⟩) hS ?_
          rotate_left
          · (intro w' hw'; have c5' := M.Only.cell hw' c5 (fun h => h); have c0' := M.Only.cell hw' c0 (fun h => h); have r0' := M.Only.cell hw' r0 (fun h => h); have r1' := M.Only.cell hw' r1 (fun h => h); have hl' := Nat.lt_of_lt_of_le hlt hw'.size; have hb' := Nat.lt_of_lt_of_le hbl hw'.size; go_simp; (try with_reducible rfl))
          refine wpAnyT_take 18 (v := ?_) rfl (by kernel_rfl) (by kernel_rfl) (by kernel_rfl) (fun _ _ _ h => h) (by kernel_rfl) (by kernel_rfl) (Or.inl ⟨by kernel_rfl, ?_⟩) hS ?_
          rotate_left
          · (intro w' hw'; have c5' := M.Only.cell hw' c5 (fun h => h); have c0' := M.Only.cell hw' c0 (fun h => h); have r0' := M.Only.cell hw' r0 (fun h => h); have r1' := M.Only.cell hw' r1 (fun h => h); have hl' := Nat.lt_of_lt_of_le hlt hw'.size; have hb' := Nat.lt_of_lt_of_le hbl hw'.size; go_simp; (try with_reducible rfl))
          refine wpAnyT_take 19 (v := ?_) rfl (by kernel_rfl) (by kernel_rfl) (by kernel_rfl) (fun _ _ _ h => h) (by kernel_rfl) (by kernel_rfl) (Or.inl ⟨by kernel_rfl, ?_⟩) hS ?_
          rotate_left
          · (intro w' hw'; have c5' := M.Only.cell hw' c5 (fun h => h); have c0' := M.Only.cell hw' c0 (fun h => h); have r0' := M.Only.cell hw' r0 (fun h => h); have r1' := M.Only.cell hw' r1 (fun h => h); have hl' := Nat.lt_of_lt_of_le hlt hw'.size; have hb' := Nat.lt_of_lt_of_le hbl hw'.size; go_simp; (try with_reducible rfl))
          refine wpAnyT_take 20 (v := ?_) rfl (by kernel_rfl) (by kernel_rfl) (by kernel_rfl) (fun _ _ _ h => h) (by kernel_rfl) (by kernel_rfl) (Or.inl ⟨by kernel_rfl, ?_⟩) hS ?_
          rotate_left
          · (intro w' hw'; have c5' := M.Only.cell hw' c5 (fun h => h); have c0' := M.Only.cell hw' c0 (fun h => h); have r0' := M.Only.cell hw' r0 (fun h => h); have r1' := M.Only.cell hw' r1 (fun h => h); have hl' := Nat.lt_of_lt_of_le hlt hw'.size; have hb' := Nat.lt_of_lt_of_le hbl hw'.size; go_simp; (try with_reducible rfl))
          refine wpAnyT_take 21 (v := ?_) rfl (by kernel_rfl) (by kernel_rfl) (by kernel_rfl) (fun _ _ _ h => h) (by kernel_rfl) (by kernel_rfl) (Or.inl ⟨by kernel_rfl, ?_⟩) hS ?_
          rotate_left
          · (intro w' hw'; have c5' := M.Only.cell hw' c5 (fun h => h); have c0' := M.Only.cell hw' c0 (fun h => h); have r0' := M.Only.cell hw' r0 (fun h => h); have r1' := M.Only.cell hw' r1 (fun h => h); have hl' := Nat.lt_of_lt_of_le hlt hw'.size; have hb' := Nat.lt_of_lt_of_le hbl hw'.size; go_simp; (try with_reducible rfl))
          refine wpAnyT_take 22 (v := ?_) rfl (by kernel_rfl) (by kernel_rfl) (by kernel_rfl) (fun _ _ _ h => h) (by kernel_rfl) (by kernel_rfl) (Or.inl ⟨by kernel_rfl, ?_⟩) hS ?_
          rotate_left
          · (intro w' hw'; have c5' := M.Only.cell hw' c5 (fun h => h); have c0' := M.Only.cell hw' c0 (fun h => h); have r0' := M.Only.cell hw' r0 (fun h => h); have r1' := M.Only.cell hw' r1 (fun h => h); have hl' := Nat.lt_of_lt_of_le hlt hw'.size; have hb' := Nat.lt_of_lt_of_le hbl hw'.size; go_simp; (try with_reducible rfl))
          refine wpAnyT_take 23 (v := ?_) rfl (by kernel_rfl) (by kernel_rfl) (by kernel_rfl) (fun _ _ _ h => h) (by kernel_rfl) (by kernel_rfl) (Or.inl ⟨by kernel_rfl, ?_⟩) hS ?_
          rotate_left
          · (intro w' hw'; have c5' := M.Only.cell hw' c5 (fun h => h); have c0' := M.Only.cell hw' c0 (fun h => h); have r0' := M.Only.cell hw' r0 (fun h => h); have r1' := M.Only.cell hw' r1 (fun h => h); have hl' := Nat.lt_of_lt_of_le hlt hw'.size; have hb' := Nat.lt_of_lt_of_le hbl hw'.size; go_simp; (try with_reducible rfl))
          refine wpAnyT_take 24 (v := ?_) rfl (by kernel_rfl) (by kernel_rfl) (by kernel_rfl) (fun _ _ _ h => h) (by kernel_rfl) (by kernel_rfl) (Or.inl ⟨by kernel_rfl, ?_⟩) hS ?_
          rotate_left
          · (intro w' hw'; have c5' := M.Only.cell hw' c5 (fun h => h); have c0' := M.Only.cell hw' c0 (fun h => h); have r0' := M.Only.cell hw' r0 (fun h => h); have r1' := M.Only.cell hw' r1 (fun h => h); have hl' := Nat.lt_of_lt_of_le hlt hw'.size; have hb' := Nat.lt_of_lt_of_le hbl hw'.size; go_simp; (try with_reducible rfl))
          refine wpAnyT_take 25 (v := ?_) rfl (by kernel_rfl) (by kernel_rfl) (by kernel_rfl) (fun _ _ _ h => h) (by kernel_rfl) (by kernel_rfl) (Or.inl ⟨by kernel_rfl, ?_⟩) hS ?_
          rotate_left
          · (intro w' hw'; have c5' := M.Only.cell hw' c5 (fun h => h); have c0' := M.Only.cell hw' c0 (fun h => h); have r0' := M.Only.cell hw' r0 (fun h => h); have r1' := M.Only.cell hw' r1 (fun h => h); have hl' := Nat.lt_of_lt_of_le hlt hw'.size; have hb' := Nat.lt_of_lt_of_le hbl hw'.size; go_simp; (try with_reducible rfl))
          refine wpAnyT_take 26 (v := ?_) rfl (by kernel_rfl) (by kernel_rfl) (by kernel_rfl) (fun _ _ _ h => h) (by kernel_rfl) (by kernel_rfl) (Or.inl ⟨by kernel_rfl, ?_⟩) hS ?_
          rotate_left
          · (intro w' hw'; have c5' := M.Only.cell hw' c5 (fun h => h); have c0' := M.Only.cell hw' c0 (fun h => h); have r0' := M.Only.cell hw' r0 (fun h => h); have r1' := M.Only.cell hw' r1 (fun h => h); have hl' := Nat.lt_of_lt_of_le hlt hw'.size; have hb' := Nat.lt_of_lt_of_le hbl hw'.size; go_simp; (try with_reducible rfl))
          refine wpAnyT_take 27 (v := ?_) rfl (by kernel_rfl) (by kernel_rfl) (by kernel_rfl) (fun _ _ _ h => h) (by kernel_rfl) (by kernel_rfl) (Or.inl ⟨by kernel_rfl, ?_⟩) hS ?_
          rotate_left
          · (intro w' hw'; have c5' := M.Only.cell hw' c5 (fun h => h); have c0' := M.Only.cell hw' c0 (fun h => h); have r0' := M.Only.cell hw' r0 (fun h => h); have r1' := M.Only.cell hw' r1 (fun h => h); have hl' := Nat.lt_of_lt_of_le hlt hw'.size; have hb' := Nat.lt_of_lt_of_le hbl hw'.size; go_simp; (try with_reducible rfl))
          refine wpAnyT_one (i := 28) rfl (by kernel_rfl) (fun K hK => ?_)
          go_simp
          go_wp2_with (first | (go_at_call 34; refine (cG _).mono ?_; rintro e w6 ⟨rfl, ho6⟩; have hS := hS.trans ho6 (fun _ _ h => h); clear ho6))
          refine hK.out _ _ (fun _ => hS) ?_
          clear hK K
          refine wpAnyT_take 29 (v := ?_) rfl (by kernel_rfl) (by kernel_rfl) (by kernel_rfl) (fun _ _ _ h => h) (by kernel_rfl) (by kernel_rfl) (Or.inl ⟨by kernel_rfl, ?_⟩) hS ?_
          rotate_left
          · (intro w' hw'; have c5' := M.Only.cell hw' c5 (fun h => h); have c0' := M.Only.cell hw' c0 (fun h => h); have r0' := M.Only.cell hw' r0 (fun h => h); have r1' := M.Only.cell hw' r1 (fun h => h); have hl' := Nat.lt_of_lt_of_le hlt hw'.size; have hb' := Nat.lt_of_lt_of_le hbl hw'.size; go_simp; (try with_reducible rfl))
          refine wpAnyT_take 30 (v := ?_) rfl (by kernel_rfl) (by kernel_rfl) (by kernel_rfl) (fun _ _ _ h => h) (by kernel_rfl) (by kernel_rfl) (Or.inl ⟨by kernel_rfl, ?_⟩) hS ?_
          rotate_left
          · (intro w' hw'; have c5' := M.Only.cell hw' c5 (fun h => h); have c0' := M.Only.cell hw' c0 (fun h => h); have r0' := M.Only.cell hw' r0 (fun h => h); have r1' := M.Only.cell hw' r1 (fun h => h); have hl' := Nat.lt_of_lt_of_le hlt hw'.size; have hb' := Nat.lt_of_lt_of_le hbl hw'.size; go_simp; (try with_reducible rfl))
          refine wpAnyT_take 31 (v := ?_) rfl (by kernel_rfl) (by kernel_rfl) (by kernel_rfl) (fun _ _ _ h => h) (by kernel_rfl) (by kernel_rfl) (Or.inl ⟨by kernel_rfl, ?_⟩) hS ?_
          rotate_left
          · (intro w' hw'; have c5' := M.Only.cell hw' c5 (fun h => h); have c0' := M.Only.cell hw' c0 (fun h => h); have r0' := M.Only.cell hw' r0 (fun h => h); have r1' := M.Only.cell hw' r1 (fun h => h); have hl' := Nat.lt_of_lt_of_le hlt hw'.size; have hb' := Nat.lt_of_lt_of_le hbl hw'.size; go_simp; (try with_reducible rfl))
          refine wpAnyT_take 32 (v := undef) rfl (by kernel_rfl) (by kernel_rfl) (by kernel_rfl) (fun _ _ _ h => h) (by kernel_rfl) (by kernel_rfl) (Or.inr ⟨by kernel_rfl, rfl⟩) hS ?_
          refine wpAnyT_take 33 (v := undef) rfl (by kernel_rfl) (by kernel_rfl) (by kernel_rfl) (fun _ _ _ h => h) (by kernel_rfl) (by kernel_rfl) (Or.inr ⟨by kernel_rfl, rfl⟩) hS ?_
          refine wpAnyT_take 34 (v := undef) rfl (by kernel_rfl) (by kernel_rfl) (by kernel_rfl) (fun _ _ _ h => h) (by kernel_rfl) (by kernel_rfl) (Or.inr ⟨by kernel_rfl, rfl⟩) hS ?_
          refine wpAnyT_take 35 (v := undef) rfl (by kernel_rfl) (by kernel_rfl) (by kernel_rfl) (fun _ _ _ h => h) (by kernel_rfl) (by kernel_rfl) (Or.inr ⟨by kernel_rfl, rfl⟩) hS ?_
          refine wpAnyT_take 36 (v := undef) rfl (by kernel_rfl) (by kernel_rfl) (by kernel_rfl) (fun _ _ _ h => h) (by kernel_rfl) (by kernel_rfl) (Or.inr ⟨by kernel_rfl, rfl⟩) hS ?_
          refine wpAnyT_take 37 (v := undef) rfl (by kernel_rfl) (by kernel_rfl) (by kernel_rfl) (fun _ _ _ h => h) (by kernel_rfl) (by kernel_rfl) (Or.inr ⟨by kernel_rfl, rfl⟩) hS ?_
          refine wpAnyT_take 38 (v := undef) rfl (by kernel_rfl) (by kernel_rfl) (by kernel_rfl) (fun _ _ _ h => h) (by kernel_rfl) (by kernel_rfl) (Or.inr ⟨by kernel_rfl, rfl⟩) hS ?_
          refine wpAnyT_take 39 (v := undef) rfl (by kernel_rfl) (by kernel_rfl) (by kernel_rfl) (fun _ _ _ h => h) (by kernel_rfl) (by kernel_rfl) (Or.inr ⟨by kernel_rfl, rfl⟩) hS ?_
          refine wpAnyT_take 40 (v := undef) rfl (by kernel_rfl) (by kernel_rfl) (by kernel_rfl) (fun _ _ _ h => h) (by kernel_rfl) (by kernel_rfl) (Or.inr ⟨by kernel_rfl, rfl⟩) hS ?_
          refine wpAnyT_take 41 (v := undef) rfl (by kernel_rfl) (by kernel_rfl) (by kernel_rfl) (fun _ _ _ h => h) (by kernel_rfl) (by kernel_rfl) (Or.inr ⟨by kernel_rfl, rfl⟩) hS ?_
          refine wpAnyT_take 42 (v := undef) rfl (by kernel_rfl) (by kernel_rfl) (by kernel_rfl) (fun _ _ _ h => h) (by kernel_rfl) (by kernel_rfl) (Or.inr ⟨by kernel_rfl, rfl⟩) hS ?_
          refine wpAnyT_take 43 (v := undef) rfl (by kernel_rfl) (by kernel_rfl) (by kernel_rfl) (fun _ _ _ h => h) (by kernel_rfl) (by kernel_rfl) (Or.inr ⟨by kernel_rfl, rfl⟩) hS ?_
          refine wpAnyT_take 44 (v := undef) rfl (by kernel_rfl) (by kernel_rfl) (by kernel_rfl) (fun _ _ _ h => h) (by kernel_rfl) (by kernel_rfl) (Or.inr ⟨by kernel_rfl, rfl⟩) hS ?_
          refine wpAnyT_one (i := 45) rfl (by kernel_rfl) (fun K hK => ?_)
          go_simp
          refine hK.out _ _ (fun _ => hS) ?_
          clear hK K
          refine wpAnyT_done (by kernel_rfl) ?_
          go_wp2_with fail
          go_meet
          exact ⟨_, _, _, _, rfl, TGone.of_nil hS, HM.out.quiet hS⟩
  case rest =>
    obtain ⟨pv', kv', iv', ov', rfl, hg, hM'⟩ := hcut
    have HG := Lib.hid hg
    have HM' := Lib.hid hM'
    cases X with
    | none =>
      have hM' : TAt Q wc db vb code s (.slice ao code.length cap) pv' kv' iv' ov' := hM'
      have f9 := hM'.blk.free 9
      have k9 : wc.cell? ⟨db, 9, none⟩ = some (.int .i64 s.fin) := hM'.blk.cell 9
      have f10 := hM'.blk.free 10
      have k10 : wc.cell? ⟨db, 10, none⟩ = some (.int .i64 s.trap) := hM'.blk.cell 10
      have hlt' := hM'.blk.lt
      have HH := Lib.hid (hM'.trapped 2 15)
      clear hM' hg c9 c5 c0
      go_wp2_with fail
      go_ret
      exact ⟨_, _, _, _, rfl, HG.out.trans HH.out.2, HH.out.1⟩
    | some t =>
      clear hM' hg c9 c5 c0
      go_wp2_with fail
      go_ret
      exact ⟨_, _, _, _, rfl, HG.out, HM'.out⟩

/-- The document's machine does its next instruction, whatever it is. -/
theorem tstep_any (db vb : Nat) (code : List Cod) (hc : ∀ c ∈ code, I32 c.k) (s : SS) (lv pv kv iv ov : Value) (w : World) (hQ : ∀ j, Q j → j < w.heap.size) (hM : TAt Q w db vb code s lv pv kv iv ov) (hs : s.Ok) (hol : s.out.length ≤ 1099511627776) (htr : s.fin = 0 → s.trap = 0) :
    Calls Try.prog 12 #[.pointer (some ⟨db, 0, none⟩)] w (TStepped Q w db vb code lv ov (s.fin == 0) (sStep code s)) := by
  by_cases hf : s.fin = 0
  · have e : (s.fin == 0) = true := by rw [hf]; rfl
    rw [e]
    exact tstep_go db vb code hc s lv pv kv iv ov w hQ hM hs hol hf (htr hf)
  · have e : (s.fin == 0) = false := by rw [beq_eq_false_iff_ne]; exact hf
    rw [e]
    exact tstep_fin db vb code s lv pv kv iv ov w hM hf
end Go.Proofs.Ytpnhjjihdcopnaa
