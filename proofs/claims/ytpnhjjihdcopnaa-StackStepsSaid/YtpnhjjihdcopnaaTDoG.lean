/- The document's stack machine does one instruction. -/
import Derived.Test.YtpnhjjihdcopnaaTDoB
set_option linter.unusedSimpArgs false
set_option linter.unusedVariables false
namespace Go.Proofs.Ytpnhjjihdcopnaa
open Go.RowKit M
variable {Q : Nat → Prop}


set_option maxRecDepth 10000 in
set_option maxHeartbeats 3200000 in
theorem tdo_29 (db vb : Nat) (k : Int) (hk : I32 k) (code : List Cod) (s : SS) (lv pv kv iv ov : Value) (w : World) (hQ : ∀ j, Q j → j < w.heap.size) (hM : TAt Q w db vb code s lv pv kv iv ov) (hs : s.Ok) (hol : s.out.length ≤ 1099511627776) (hA : 0 ≤ s.ops.length) (hB : s.ops.length - 0 + 0 ≤ 1000) :
    Calls Try.prog 35 #[.pointer (some ⟨db, 0, none⟩), .agg #[.int .i64 29, .int .i32 k]] w (TDoes Q w db vb code s lv ov (sExec s ⟨29, k⟩)) := by
  have cE := fun w => effectR_any 29 (by decide) (by decide) w
  rw [show ((takesV 29 : Nat) : Int) = 0 from rfl, show ((leavesV 29 : Nat) : Int) = 0 from rfl] at cE
  obtain ⟨i0, hi0, hz0, hz1, hz2⟩ := info_parts Try.info21
  have hSn0 := hM.hSn hQ
  have hnops := hs.nops
  obtain ⟨m, O, c, i, o, f, t, p, fin, trap⟩ := s
  simp only at hA hB hnops
  obtain ⟨T, hT⟩ : ∃ T, O = T := ⟨_, rfl⟩
  subst hT
  obtain ⟨r, hr⟩ : ∃ r, O.length = r := ⟨_, rfl⟩
  obtain ⟨X, hX⟩ : ∃ X, sExec ⟨m, O, c, i, o, f, t, p, fin, trap⟩ ⟨29, k⟩ = X := ⟨_, rfl⟩
  rw [hX]
  rw [show sExec ⟨m, O, c, i, o, f, t, p, fin, trap⟩ ⟨29, k⟩ = (match c.getLast? with | none => none | some x => some ⟨m, O, c.dropLast, i, o, x.2, f, (x.1 : Nat), fin, trap⟩) by kernel_rfl] at hX
  have HX := Lib.hid hX
  clear hX
  have hrow := hM.ops
  simp only at hrow
  rw [hr] at hrow hA hB hnops
  obtain ⟨pb, pao, pcap, poff, rfl, p2, p3, p4, p6, p7⟩ := hrow
  have l1 : decide ((r : Int) < 0) = false := by simp
  have l2 : r ≤ 1000 := by omega
  have l3 : decide ((1000 : Int) < (r : Int) + 0) = false := by simp; omega
  have l4 : decide ((1000 : Int) < (r : Int)) = false := by simp; omega
  have l5 : decide (1000 < r) = false := by simp; omega
  have q3 : (r : Int) ≤ (pcap : Int) := by omega
  have q4 : (r : Int) ≤ (pcap : Int) := by omega
  have q0 : (0 : Int) ≤ (r : Int) := Int.natCast_nonneg _
  unfold maxLen at p3
  have wk : IntKind.i64.wrap k = k := by unfold I32 at hk; rw [IntKind.wrap_i64]; omega
  have wp : IntKind.i64.wrap (p + 1) = p + 1 := by have h1 := hs.pc1; have h2 := hs.pc2; simp only at h1 h2; rw [IntKind.wrap_i64]; omega
  have HM := Lib.hid hM
  have HSN := Lib.hid hSn0
  have HS := Lib.hid hs
  have HQ := Lib.hid hQ
  have HK := Lib.hid hk
  have HR := Lib.hid hr
  have HP6 := Lib.hid p6
  have HP7 := Lib.hid p7
  have HOL := Lib.hid hol
  clear hM hs hk hQ hSn0 hr p6 p7 hol hA hB hnops
  rcases p4 with rfl | ⟨rfl, rfl⟩
  · obtain ⟨ap, hap⟩ : ∃ ap, (if pcap = r then some (⟨pb, poff, none⟩ : Addr) else some ⟨pb, poff + r, none⟩) = ap := ⟨_, rfl⟩
    have hapn : ap ≠ none := by intro h; rw [h] at hap; split at hap <;> cases hap
    have HAP := Lib.hid hapn
    clear hapn
    go_enter Try.func35, Try.ntmps35
    go_wp2_with fail
    have hB1 := Blk.new w #[Value.int .i64 29, .int .i32 k] 55
    have ho1 : Only Nil w (w.alloc (.cells #[Value.int .i64 29, .int .i32 k] 55)) := (Only.refl _ _).alloc _
    obtain ⟨w1, hw1⟩ : ∃ w1, w.alloc (.cells #[Value.int .i64 29, .int .i32 k] 55) = w1 := ⟨_, rfl⟩
    obtain ⟨xb, hxb⟩ : ∃ xb, w.heap.size = xb := ⟨_, rfl⟩
    rw [hw1, hxb] at hB1
    rw [hw1] at ho1 ⊢
    rw [hxb]
    have hM1 := HM.out.quiet ho1
    have c2 : w1.cell? ⟨db, 2, none⟩ = some (.slice (some ⟨pb, poff, none⟩) r pcap) := hM1.blk.cell 2
    have c5 : w1.cell? ⟨db, 5, none⟩ = some (.int .i64 p) := hM1.blk.cell 5
    have x1 : w1.cell? ⟨xb, 1, none⟩ = some (.int .i32 k) := hB1.cell 1
    have hlt := hM1.blk.lt
    have hltx := hB1.lt
    have HM1 := Lib.hid hM1
    have HO1 := Lib.hid ho1
    have HB1 := Lib.hid hB1
    clear hw1 hxb hM1 ho1 hB1
    refine (cE _).mono ?_
    rintro e we ⟨rfl, rfl⟩
    clear cE
    go_wp2_with (at_builtin; go_loud (refine wpList_append_src rfl _ _ 57 rfl w1.heap.size 21 i0 (.int .i32 0) 4 Try.underlying57 hi0 hz0 hz1 hz2 rfl _ _ _ rfl (World.ownsRow_nil _ _ _ _) pb _ (I32s []) rfl (src_zero _ _ _ _ (fun h => absurd h HAP.out)) (I32s_one _) (by simp [I32s, maxLen]) (by simp [I32s]) (Nat.le_refl _) ?_))
    intro v8 w2 hown8 hob8 ho8
    have ho2 : Only Nil w1 w2 := ho8.mono (fun _ h => by cases h)
    obtain ⟨a8, cap8, rfl⟩ := sl_of_own hown8
    have hM2 := HM1.out.quiet ho2
    have d1 : w2.cell? ⟨db, 1, none⟩ = some (.slice (some ⟨vb, 0, none⟩) m.length m.length) := hM2.blk.cell 1
    have d2 : w2.cell? ⟨db, 2, none⟩ = some (.slice (some ⟨pb, poff, none⟩) r pcap) := ho2.cell c2 (fun h => h)
    have d3 : w2.cell? ⟨db, 3, none⟩ = some (.int .i64 (f : Nat)) := hM2.blk.cell 3
    have d4 : w2.cell? ⟨db, 4, none⟩ = some (.int .i64 (t : Nat)) := hM2.blk.cell 4
    have d5 : w2.cell? ⟨db, 5, none⟩ = some (.int .i64 p) := hM2.blk.cell 5
    have d6 : w2.cell? ⟨db, 6, none⟩ = some kv := hM2.blk.cell 6
    have d7 : w2.cell? ⟨db, 7, none⟩ = some iv := hM2.blk.cell 7
    have d8 : w2.cell? ⟨db, 8, none⟩ = some ov := hM2.blk.cell 8
    have z0 : w2.cell? ⟨xb, 0, none⟩ = some (.int .i64 29) := (HB1.out.kept ho2 (fun h => h)).cell 0
    have z1 : w2.cell? ⟨xb, 1, none⟩ = some (.int .i32 k) := (HB1.out.kept ho2 (fun h => h)).cell 1
    have hlt2 := hM2.blk.lt
    have hltx2 := (HB1.out.kept ho2 (fun h => h)).lt
    have HM2 := Lib.hid hM2
    have HO2 := Lib.hid (HO1.out.trans ho2 (fun _ _ h => h))
    have hp6 := HP6.out.kept HO2.out (fun _ h => h)
    have HC := Lib.hid (hp6)
    have HPB : Hid (0 < r → ¬ OwnTQ Q db vb ov.ownBlock pb ∧ pb < w2.heap.size) := Lib.hid (fun h => ⟨(HP7.out (by omega)).1, Nat.lt_of_lt_of_le (HP7.out (by omega)).2 HO2.out.size⟩)
    have HSN2 : Hid (∀ j, OwnTQ Q db vb ov.ownBlock j → j < w2.heap.size) := Lib.hid (fun j hj => Nat.lt_of_lt_of_le (HSN.out j hj) HO2.out.size)
    clear c2 c5 x1 hlt hltx ho8 hown8 hob8 ho2 hM2 hp6
    have hcl := HM2.out.cls
    simp only at hcl
    obtain ⟨kb, kao, kcap, koff, rfl, j2, j3, j4, j6, j7⟩ := hcl
    obtain ⟨nc, hnc⟩ : ∃ nc, c.length = nc := ⟨_, rfl⟩
    have hnc1 : c.length ≤ 1000 := HS.out.ncalls
    rw [hnc] at d6 j2 j7 hnc1
    unfold maxLen at j3
    rcases List.eq_nil_or_concat c with rfl | ⟨C, ⟨x1, x2⟩, rfl⟩
    · have hx := HX.out
      simp only [List.getLast?_nil] at hx
      subst hx
      have hn0 : nc = 0 := by rw [← hnc]; rfl
      have w1 : (nc : Int) - 1 = -1 := by omega
      have w2' : IntKind.i64.wrap (-1) = -1 := by decide
      clear HX hnc j2 j3 j4 j6 j7 hnc1 hn0
      go_wp2_with fail
      go_ret
      exact ⟨_, _, _, _, rfl, TGone.of_nil (HO2.out.trans (by (repeat with_reducible first | exact Only.refl _ _ | refine Only.alloc ?_ _ | refine M.Only.drewN ?_ _ | refine Only.drew ?_)) (fun _ _ h => h)), HM2.out.quiet (by (repeat with_reducible first | exact Only.refl _ _ | refine Only.alloc ?_ _ | refine M.Only.drewN ?_ _ | refine Only.drew ?_))⟩
    · rw [List.concat_eq_append] at *
      obtain ⟨j, hj⟩ : ∃ j, C.length = j := ⟨_, rfl⟩
      have hnj : nc = j + 1 := by rw [← hnc, List.length_append, hj]; rfl
      have hx := HX.out
      have hgl : (C ++ [(x1, x2)]).getLast? = some (x1, x2) := by simp
      have hdl : (C ++ [(x1, x2)]).dropLast = C := by simp
      simp only [hgl, hdl] at hx
      subst hx
      have w1 : (nc : Int) - 1 = (j : Int) := by omega
      have w2' : IntKind.i64.wrap (j : Int) = (j : Int) := by rw [IntKind.wrap_i64]; omega
      have l9 : decide ((j : Int) < 0) = false := by simp
      have j0 : (0 : Int) ≤ (j : Int) := Int.natCast_nonneg _
      have j1 : (j : Int) < (nc : Int) := by omega
      have jk : (j : Int) ≤ (kcap : Int) := by omega
      have ekb : kao = some ⟨kb, koff, none⟩ := by
        rcases j4 with h | ⟨_, h⟩
        · exact h
        · omega
      subst ekb
      have hkl := j7 (by omega)
      have hkd : kb ≠ db := fun e => hkl.1 (Or.inl (Or.inl e))
      have hxd : xb ≠ db := by
        intro e
        obtain ⟨_, _, _, _, hlv, _⟩ := HM2.out.cod
        have h0 : w2.cell? ⟨db, 0, none⟩ = some lv := HM2.out.blk.cell 0
        rw [e, h0, hlv] at z0
        cases z0
      have v1 : w2.cell? ⟨kb, koff + j * 2, none⟩ = some (.int .i64 (x1 : Nat)) := j6 (j * 2) _ (kCells_get _ j (x1, x2) (by rw [List.getElem?_append_right (by omega), hj]; simp)).1
      have v2 : w2.cell? ⟨kb, koff + j * 2 + 1, none⟩ = some (.int .i64 (x2 : Nat)) := by
        have := j6 (j * 2 + 1) _ (kCells_get _ j (x1, x2) (by rw [List.getElem?_append_right (by omega), hj]; simp)).2
        rw [← Nat.add_assoc] at this
        exact this
      have hltk := hkl.2
      have fz4 := HM2.out.blk.free 4
      have fz3 := HM2.out.blk.free 3
      have fz6 := HM2.out.blk.free 6
      have HKL := Lib.hid hkl
      have HJ := Lib.hid hj
      have HNJ := Lib.hid hnj
      have HNC := Lib.hid hnc
      have HJ6 := Lib.hid j6
      have J2 := Lib.hid j2
      have J3 := Lib.hid j3
      clear HX hnc j2 j3 j4 j6 j7 hnc1 hj hnj hkl hgl hdl
      go_wp2_with fail
      have hB3 := HM2.out.blk.setCell 4 (.int .i64 (f : Nat))
      have ho3 : Only (M.One db) w2 (w2.setCell ⟨db, 4, none⟩ (.int .i64 (f : Nat))) := Only.setOne (Only.refl (M.One db) _) _ _
      obtain ⟨w3, hw3⟩ : ∃ w3, w2.setCell ⟨db, 4, none⟩ (.int .i64 (f : Nat)) = w3 := ⟨_, rfl⟩
      rw [hw3] at hB3 ho3 ⊢
      have k1' := ho3.cell v1 (fun h => hkd h)
      have k2' := ho3.cell v2 (fun h => hkd h)
      have k0' := ho3.cell z0 (fun h => hxd h)
      have k6' : w3.cell? ⟨db, 6, none⟩ = some (.slice (some ⟨kb, koff, none⟩) nc kcap) := by rw [← HNC.out]; exact hB3.cell 6
      have k3' : w3.cell? ⟨db, 3, none⟩ = some (.int .i64 (f : Nat)) := hB3.cell 3
      have f3' := hB3.free 3
      have f6' := hB3.free 6
      have hlt3 := hB3.lt
      have hltk3 := Nat.lt_of_lt_of_le hltk ho3.size
      have HB3 := Lib.hid hB3
      have HO3 := Lib.hid ho3
      clear hB3 ho3 hw3 d1 d2 d3 d4 d6 d7 d8 v1 v2 fz3 fz4 fz6
      go_region
      go_upto_region 82 with fail
      have hB5 := ((HB3.out.setCell 3 (.int .i64 (x2 : Nat))).setCell 6 (.slice (some ⟨kb, koff, none⟩) j kcap)).drew
      rw [tcells_top, tcells_fp, tcells_kv] at hB5
      have ho5 : Only (M.One db) w2 ((w3.setCell ⟨db, 3, none⟩ (.int .i64 (x2 : Nat))).setCell ⟨db, 6, none⟩ (.slice (some ⟨kb, koff, none⟩) j kcap)).drew := (Only.setOne (Only.setOne HO3.out _ _) _ _).drew
      obtain ⟨w5, hw5⟩ : ∃ w5, ((w3.setCell ⟨db, 3, none⟩ (.int .i64 (x2 : Nat))).setCell ⟨db, 6, none⟩ (.slice (some ⟨kb, koff, none⟩) j kcap)).drew = w5 := ⟨_, rfl⟩
      rw [hw5] at hB5 ho5
      rw [hw5]
      have qq : ∀ k, M.One db k → OwnTQ Q db vb ov.ownBlock k := fun k hk => Or.inl (Or.inl hk)
      have hR5 : RdRow (OwnTQ Q db vb ov.ownBlock) w5 (.slice (some ⟨kb, koff, none⟩) j kcap) C.length (kCells C) := by
        refine ⟨kb, _, kcap, koff, by rw [HJ.out], by rw [HJ.out]; have := HNJ.out; have := J2.out; omega, J3.out, Or.inl rfl, ?_, fun _ => ⟨HKL.out.1, Nat.lt_of_lt_of_le HKL.out.2 ho5.size⟩⟩
        intro i u hi
        refine ho5.cell (HJ6.out i u ?_) (fun h => hkd h)
        rw [kCells_append, List.getElem?_append_left (List.getElem?_eq_some_iff.1 hi).1]
        exact hi
      have hM5 := HM2.out.own (s' := ⟨m, O, C, i, o, x2, f, p, fin, trap⟩) ho5 hB5 rfl rfl (HM2.out.ops.kept ho5 qq (ops_nil _)) hR5 (HM2.out.inp.kept ho5 qq)
      have hG5 := (TGone.of_nil HO2.out).trans (TGone.of_one (vb := vb) (ov := ov) ho5)
      clear hB5 hR5 qq hw5 HB3 HO3 k0' k1' k2' k3' k6' f3' f6'
      have HM5 := Lib.hid (hM5)
      have HG5 := Lib.hid (hG5)
      have HO5 := Lib.hid (ho5)
      have HC5 := Lib.hid (cells_own HC.out HR.out HO5.out (S := OwnTQ Q db vb ov.ownBlock) (fun _ h => Or.inl (Or.inl h)) (fun h => (HPB.out h).1))
      have HPB5 : Hid (0 < r → ¬ OwnTQ Q db vb ov.ownBlock pb ∧ pb < w5.heap.size) := Lib.hid (fun h => ⟨(HPB.out h).1, Nat.lt_of_lt_of_le (HPB.out h).2 HO5.out.size⟩)
      have HSN5 : Hid (∀ j, OwnTQ Q db vb ov.ownBlock j → j < w5.heap.size) := Lib.hid (fun j hj => Nat.lt_of_lt_of_le (HSN2.out j hj) HO5.out.size)
      have e2 : w5.cell? ⟨db, 2, none⟩ = some (.slice (some ⟨pb, poff, none⟩) r pcap) := HM5.out.blk.cell 2
      have hlt5 := HM5.out.blk.lt
      clear hM5 hG5 ho5
      have HW3 : Hid (Only Nil w5 w5) := Lib.hid (Only.refl _ _)
      go_wp2_with (at_builtin; go_loud (refine wpList_append_capped rfl _ _ 57 rfl 21 i0 (.int .i32 0) 1 4 Try.underlying57 hi0 hz0 hz1 hz2 rfl (by decide) (OwnTQ Q db vb (ov).ownBlock) (fun j hj => Nat.lt_of_lt_of_le (HSN5.out j hj) HW3.out.size) r (I32s O) _ pb poff rfl (by rw [I32s_len, HR.out] <;> omega) (Or.inl rfl) (HC5.out.kept HW3.out (fun _ h => h)) (fun h => ⟨(HPB5.out h).1, Nat.lt_of_lt_of_le (HPB5.out h).2 HW3.out.size⟩) 0 0 _ 0 0 (I32s []) rfl rfl (fun h => absurd h (Nat.lt_irrefl 0)) (fun i u hi => by simp [I32s] at hi) (fun _ => rfl) (I32s_one _) (by simp [maxLen] <;> omega) (by omega) ?_))
      intro v9 w4 hR9 ho9
      have hMX := HM5.out.quiet HW3.out
      have hB4 := hMX.blk.kept ho9 (fun h => h)
      have g2 := hB4.free 2
      have g5 := hB4.free 5
      have k2 : w4.cell? ⟨db, 2, none⟩ = some _ := hB4.cell 2
      have k5 : w4.cell? ⟨db, 5, none⟩ = some _ := hB4.cell 5
      have glt := hB4.lt
      have hR9 : RdRow (OwnTQ Q db vb (ov).ownBlock) w4 v9 (O).length (I32s (O)) := by have h := hR9; rw [show I32s ([] : List Int) = [] from rfl, List.append_nil] at h; rw [HR.out]; exact h
      obtain ⟨n9, hn9⟩ : ∃ n, (O).length = n := ⟨_, rfl⟩
      rw [hn9] at hR9
      obtain ⟨a9, c9, rfl⟩ := rd_shape hR9
      have HE := Lib.hid (tdo_end (HG5.out.trans (TGone.of_nil HW3.out)) hMX (O) _ (by rw [hn9]; exact hR9) ho9 ((x1 : Nat)))
      clear hMX hB4 hR9 ho9 hn9
      go_wp2_with fail
      go_ret
      (try simp only [List.append_nil])
      exact ⟨_, _, _, _, rfl, HE.out.1, HE.out.2⟩
  · obtain rfl : r = 0 := by omega
    go_enter Try.func35, Try.ntmps35
    go_wp2_with fail
    have hB1 := Blk.new w #[Value.int .i64 29, .int .i32 k] 55
    have ho1 : Only Nil w (w.alloc (.cells #[Value.int .i64 29, .int .i32 k] 55)) := (Only.refl _ _).alloc _
    obtain ⟨w1, hw1⟩ : ∃ w1, w.alloc (.cells #[Value.int .i64 29, .int .i32 k] 55) = w1 := ⟨_, rfl⟩
    obtain ⟨xb, hxb⟩ : ∃ xb, w.heap.size = xb := ⟨_, rfl⟩
    rw [hw1, hxb] at hB1
    rw [hw1] at ho1 ⊢
    rw [hxb]
    have hM1 := HM.out.quiet ho1
    have c2 : w1.cell? ⟨db, 2, none⟩ = some (.slice (none) 0 0) := hM1.blk.cell 2
    have c5 : w1.cell? ⟨db, 5, none⟩ = some (.int .i64 p) := hM1.blk.cell 5
    have x1 : w1.cell? ⟨xb, 1, none⟩ = some (.int .i32 k) := hB1.cell 1
    have hlt := hM1.blk.lt
    have hltx := hB1.lt
    have HM1 := Lib.hid hM1
    have HO1 := Lib.hid ho1
    have HB1 := Lib.hid hB1
    clear hw1 hxb hM1 ho1 hB1
    refine (cE _).mono ?_
    rintro e we ⟨rfl, rfl⟩
    clear cE
    go_wp2_with (at_builtin; go_loud (refine wpList_append_src rfl _ _ 57 rfl w1.heap.size 21 i0 (.int .i32 0) 4 Try.underlying57 hi0 hz0 hz1 hz2 rfl _ _ _ rfl (World.ownsRow_nil _ _ _ _) pb _ (I32s []) rfl (src_zero _ _ _ _ (fun _ => rfl)) (I32s_one _) (by simp [I32s, maxLen]) (by simp [I32s]) (Nat.le_refl _) ?_))
    intro v8 w2 hown8 hob8 ho8
    have ho2 : Only Nil w1 w2 := ho8.mono (fun _ h => by cases h)
    obtain ⟨a8, cap8, rfl⟩ := sl_of_own hown8
    have hM2 := HM1.out.quiet ho2
    have d1 : w2.cell? ⟨db, 1, none⟩ = some (.slice (some ⟨vb, 0, none⟩) m.length m.length) := hM2.blk.cell 1
    have d2 : w2.cell? ⟨db, 2, none⟩ = some (.slice (none) 0 0) := ho2.cell c2 (fun h => h)
    have d3 : w2.cell? ⟨db, 3, none⟩ = some (.int .i64 (f : Nat)) := hM2.blk.cell 3
    have d4 : w2.cell? ⟨db, 4, none⟩ = some (.int .i64 (t : Nat)) := hM2.blk.cell 4
    have d5 : w2.cell? ⟨db, 5, none⟩ = some (.int .i64 p) := hM2.blk.cell 5
    have d6 : w2.cell? ⟨db, 6, none⟩ = some kv := hM2.blk.cell 6
    have d7 : w2.cell? ⟨db, 7, none⟩ = some iv := hM2.blk.cell 7
    have d8 : w2.cell? ⟨db, 8, none⟩ = some ov := hM2.blk.cell 8
    have z0 : w2.cell? ⟨xb, 0, none⟩ = some (.int .i64 29) := (HB1.out.kept ho2 (fun h => h)).cell 0
    have z1 : w2.cell? ⟨xb, 1, none⟩ = some (.int .i32 k) := (HB1.out.kept ho2 (fun h => h)).cell 1
    have hlt2 := hM2.blk.lt
    have hltx2 := (HB1.out.kept ho2 (fun h => h)).lt
    have HM2 := Lib.hid hM2
    have HO2 := Lib.hid (HO1.out.trans ho2 (fun _ _ h => h))
    have hp6 := HP6.out.kept HO2.out (fun _ h => h)
    have HC := Lib.hid (hp6)
    have HPB : Hid (0 < 0 → ¬ OwnTQ Q db vb ov.ownBlock pb ∧ pb < w2.heap.size) := Lib.hid (fun h => ⟨(HP7.out (by omega)).1, Nat.lt_of_lt_of_le (HP7.out (by omega)).2 HO2.out.size⟩)
    have HSN2 : Hid (∀ j, OwnTQ Q db vb ov.ownBlock j → j < w2.heap.size) := Lib.hid (fun j hj => Nat.lt_of_lt_of_le (HSN.out j hj) HO2.out.size)
    clear c2 c5 x1 hlt hltx ho8 hown8 hob8 ho2 hM2 hp6
    have hcl := HM2.out.cls
    simp only at hcl
    obtain ⟨kb, kao, kcap, koff, rfl, j2, j3, j4, j6, j7⟩ := hcl
    obtain ⟨nc, hnc⟩ : ∃ nc, c.length = nc := ⟨_, rfl⟩
    have hnc1 : c.length ≤ 1000 := HS.out.ncalls
    rw [hnc] at d6 j2 j7 hnc1
    unfold maxLen at j3
    rcases List.eq_nil_or_concat c with rfl | ⟨C, ⟨x1, x2⟩, rfl⟩
    · have hx := HX.out
      simp only [List.getLast?_nil] at hx
      subst hx
      have hn0 : nc = 0 := by rw [← hnc]; rfl
      have w1 : (nc : Int) - 1 = -1 := by omega
      have w2' : IntKind.i64.wrap (-1) = -1 := by decide
      clear HX hnc j2 j3 j4 j6 j7 hnc1 hn0
      go_wp2_with fail
      go_ret
      exact ⟨_, _, _, _, rfl, TGone.of_nil (HO2.out.trans (by (repeat with_reducible first | exact Only.refl _ _ | refine Only.alloc ?_ _ | refine M.Only.drewN ?_ _ | refine Only.drew ?_)) (fun _ _ h => h)), HM2.out.quiet (by (repeat with_reducible first | exact Only.refl _ _ | refine Only.alloc ?_ _ | refine M.Only.drewN ?_ _ | refine Only.drew ?_))⟩
    · rw [List.concat_eq_append] at *
      obtain ⟨j, hj⟩ : ∃ j, C.length = j := ⟨_, rfl⟩
      have hnj : nc = j + 1 := by rw [← hnc, List.length_append, hj]; rfl
      have hx := HX.out
      have hgl : (C ++ [(x1, x2)]).getLast? = some (x1, x2) := by simp
      have hdl : (C ++ [(x1, x2)]).dropLast = C := by simp
      simp only [hgl, hdl] at hx
      subst hx
      have w1 : (nc : Int) - 1 = (j : Int) := by omega
      have w2' : IntKind.i64.wrap (j : Int) = (j : Int) := by rw [IntKind.wrap_i64]; omega
      have l9 : decide ((j : Int) < 0) = false := by simp
      have j0 : (0 : Int) ≤ (j : Int) := Int.natCast_nonneg _
      have j1 : (j : Int) < (nc : Int) := by omega
      have jk : (j : Int) ≤ (kcap : Int) := by omega
      have ekb : kao = some ⟨kb, koff, none⟩ := by
        rcases j4 with h | ⟨_, h⟩
        · exact h
        · omega
      subst ekb
      have hkl := j7 (by omega)
      have hkd : kb ≠ db := fun e => hkl.1 (Or.inl (Or.inl e))
      have hxd : xb ≠ db := by
        intro e
        obtain ⟨_, _, _, _, hlv, _⟩ := HM2.out.cod
        have h0 : w2.cell? ⟨db, 0, none⟩ = some lv := HM2.out.blk.cell 0
        rw [e, h0, hlv] at z0
        cases z0
      have v1 : w2.cell? ⟨kb, koff + j * 2, none⟩ = some (.int .i64 (x1 : Nat)) := j6 (j * 2) _ (kCells_get _ j (x1, x2) (by rw [List.getElem?_append_right (by omega), hj]; simp)).1
      have v2 : w2.cell? ⟨kb, koff + j * 2 + 1, none⟩ = some (.int .i64 (x2 : Nat)) := by
        have := j6 (j * 2 + 1) _ (kCells_get _ j (x1, x2) (by rw [List.getElem?_append_right (by omega), hj]; simp)).2
        rw [← Nat.add_assoc] at this
        exact this
      have hltk := hkl.2
      have fz4 := HM2.out.blk.free 4
      have fz3 := HM2.out.blk.free 3
      have fz6 := HM2.out.blk.free 6
      have HKL := Lib.hid hkl
      have HJ := Lib.hid hj
      have HNJ := Lib.hid hnj
      have HNC := Lib.hid hnc
      have HJ6 := Lib.hid j6
      have J2 := Lib.hid j2
      have J3 := Lib.hid j3
      clear HX hnc j2 j3 j4 j6 j7 hnc1 hj hnj hkl hgl hdl
      go_wp2_with fail
      have hB3 := HM2.out.blk.setCell 4 (.int .i64 (f : Nat))
      have ho3 : Only (M.One db) w2 (w2.setCell ⟨db, 4, none⟩ (.int .i64 (f : Nat))) := Only.setOne (Only.refl (M.One db) _) _ _
      obtain ⟨w3, hw3⟩ : ∃ w3, w2.setCell ⟨db, 4, none⟩ (.int .i64 (f : Nat)) = w3 := ⟨_, rfl⟩
      rw [hw3] at hB3 ho3 ⊢
      have k1' := ho3.cell v1 (fun h => hkd h)
      have k2' := ho3.cell v2 (fun h => hkd h)
      have k0' := ho3.cell z0 (fun h => hxd h)
      have k6' : w3.cell? ⟨db, 6, none⟩ = some (.slice (some ⟨kb, koff, none⟩) nc kcap) := by rw [← HNC.out]; exact hB3.cell 6
      have k3' : w3.cell? ⟨db, 3, none⟩ = some (.int .i64 (f : Nat)) := hB3.cell 3
      have f3' := hB3.free 3
      have f6' := hB3.free 6
      have hlt3 := hB3.lt
      have hltk3 := Nat.lt_of_lt_of_le hltk ho3.size
      have HB3 := Lib.hid hB3
      have HO3 := Lib.hid ho3
      clear hB3 ho3 hw3 d1 d2 d3 d4 d6 d7 d8 v1 v2 fz3 fz4 fz6
      go_region
      go_upto_region 82 with fail
      have hB5 := ((HB3.out.setCell 3 (.int .i64 (x2 : Nat))).setCell 6 (.slice (some ⟨kb, koff, none⟩) j kcap)).drew
      rw [tcells_top, tcells_fp, tcells_kv] at hB5
      have ho5 : Only (M.One db) w2 ((w3.setCell ⟨db, 3, none⟩ (.int .i64 (x2 : Nat))).setCell ⟨db, 6, none⟩ (.slice (some ⟨kb, koff, none⟩) j kcap)).drew := (Only.setOne (Only.setOne HO3.out _ _) _ _).drew
      obtain ⟨w5, hw5⟩ : ∃ w5, ((w3.setCell ⟨db, 3, none⟩ (.int .i64 (x2 : Nat))).setCell ⟨db, 6, none⟩ (.slice (some ⟨kb, koff, none⟩) j kcap)).drew = w5 := ⟨_, rfl⟩
      rw [hw5] at hB5 ho5
      rw [hw5]
      have qq : ∀ k, M.One db k → OwnTQ Q db vb ov.ownBlock k := fun k hk => Or.inl (Or.inl hk)
      have hR5 : RdRow (OwnTQ Q db vb ov.ownBlock) w5 (.slice (some ⟨kb, koff, none⟩) j kcap) C.length (kCells C) := by
        refine ⟨kb, _, kcap, koff, by rw [HJ.out], by rw [HJ.out]; have := HNJ.out; have := J2.out; omega, J3.out, Or.inl rfl, ?_, fun _ => ⟨HKL.out.1, Nat.lt_of_lt_of_le HKL.out.2 ho5.size⟩⟩
        intro i u hi
        refine ho5.cell (HJ6.out i u ?_) (fun h => hkd h)
        rw [kCells_append, List.getElem?_append_left (List.getElem?_eq_some_iff.1 hi).1]
        exact hi
      have hM5 := HM2.out.own (s' := ⟨m, O, C, i, o, x2, f, p, fin, trap⟩) ho5 hB5 rfl rfl (HM2.out.ops.kept ho5 qq (ops_nil _)) hR5 (HM2.out.inp.kept ho5 qq)
      have hG5 := (TGone.of_nil HO2.out).trans (TGone.of_one (vb := vb) (ov := ov) ho5)
      clear hB5 hR5 qq hw5 HB3 HO3 k0' k1' k2' k3' k6' f3' f6'
      have HM5 := Lib.hid (hM5)
      have HG5 := Lib.hid (hG5)
      have HO5 := Lib.hid (ho5)
      have HC5 := Lib.hid (cells_own HC.out HR.out HO5.out (S := OwnTQ Q db vb ov.ownBlock) (fun _ h => Or.inl (Or.inl h)) (fun h => (HPB.out h).1))
      have HPB5 : Hid (0 < 0 → ¬ OwnTQ Q db vb ov.ownBlock pb ∧ pb < w5.heap.size) := Lib.hid (fun h => ⟨(HPB.out h).1, Nat.lt_of_lt_of_le (HPB.out h).2 HO5.out.size⟩)
      have HSN5 : Hid (∀ j, OwnTQ Q db vb ov.ownBlock j → j < w5.heap.size) := Lib.hid (fun j hj => Nat.lt_of_lt_of_le (HSN2.out j hj) HO5.out.size)
      have e2 : w5.cell? ⟨db, 2, none⟩ = some (.slice none 0 0) := HM5.out.blk.cell 2
      have hlt5 := HM5.out.blk.lt
      clear hM5 hG5 ho5
      have HW3 : Hid (Only Nil w5 w5) := Lib.hid (Only.refl _ _)
      go_wp2_with (at_builtin; go_loud (refine wpList_append_capped rfl _ _ 57 rfl 21 i0 (.int .i32 0) 1 4 Try.underlying57 hi0 hz0 hz1 hz2 rfl (by decide) (OwnTQ Q db vb (ov).ownBlock) (fun j hj => Nat.lt_of_lt_of_le (HSN5.out j hj) HW3.out.size) 0 (I32s O) _ pb poff rfl (by rw [I32s_len, HR.out] <;> omega) (Or.inr ⟨rfl, rfl⟩) (HC5.out.kept HW3.out (fun _ h => h)) (fun h => ⟨(HPB5.out h).1, Nat.lt_of_lt_of_le (HPB5.out h).2 HW3.out.size⟩) 0 0 _ 0 0 (I32s []) rfl rfl (fun h => absurd h (Nat.lt_irrefl 0)) (fun i u hi => by simp [I32s] at hi) (fun _ => rfl) (I32s_one _) (by simp [maxLen] <;> omega) (by omega) ?_))
      intro v9 w4 hR9 ho9
      have hMX := HM5.out.quiet HW3.out
      have hB4 := hMX.blk.kept ho9 (fun h => h)
      have g2 := hB4.free 2
      have g5 := hB4.free 5
      have k2 : w4.cell? ⟨db, 2, none⟩ = some _ := hB4.cell 2
      have k5 : w4.cell? ⟨db, 5, none⟩ = some _ := hB4.cell 5
      have glt := hB4.lt
      have hR9 : RdRow (OwnTQ Q db vb (ov).ownBlock) w4 v9 (O).length (I32s (O)) := by have h := hR9; rw [show I32s ([] : List Int) = [] from rfl, List.append_nil] at h; rw [HR.out]; exact h
      obtain ⟨n9, hn9⟩ : ∃ n, (O).length = n := ⟨_, rfl⟩
      rw [hn9] at hR9
      obtain ⟨a9, c9, rfl⟩ := rd_shape hR9
      have HE := Lib.hid (tdo_end (HG5.out.trans (TGone.of_nil HW3.out)) hMX (O) _ (by rw [hn9]; exact hR9) ho9 ((x1 : Nat)))
      clear hMX hB4 hR9 ho9 hn9
      go_wp2_with fail
      go_ret
      (try simp only [List.append_nil])
      exact ⟨_, _, _, _, rfl, HE.out.1, HE.out.2⟩

end Go.Proofs.Ytpnhjjihdcopnaa
