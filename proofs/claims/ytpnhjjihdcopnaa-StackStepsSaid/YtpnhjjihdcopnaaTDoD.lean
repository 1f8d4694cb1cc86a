/- The document's stack machine does one instruction. -/
import Derived.Test.YtpnhjjihdcopnaaTDoB
set_option linter.unusedSimpArgs false
set_option linter.unusedVariables false
namespace Go.Proofs.Ytpnhjjihdcopnaa
open Go.RowKit M
variable {Q : Nat → Prop}


set_option maxRecDepth 10000 in
set_option maxHeartbeats 3200000 in
theorem tdo_31 (db vb : Nat) (k : Int) (hk : I32 k) (code : List Cod) (s : SS) (lv pv kv iv ov : Value) (w : World) (hQ : ∀ j, Q j → j < w.heap.size) (hM : TAt Q w db vb code s lv pv kv iv ov) (hs : s.Ok) (hol : s.out.length ≤ 1099511627776) (hA : 0 ≤ s.ops.length) (hB : s.ops.length - 0 + 1 ≤ 1000) :
    Calls Try.prog 35 #[.pointer (some ⟨db, 0, none⟩), .agg #[.int .i64 31, .int .i32 k]] w (TDoes Q w db vb code s lv ov (sExec s ⟨31, k⟩)) := by
  have cE := fun w => effectR_any 31 (by decide) (by decide) w
  rw [show ((takesV 31 : Nat) : Int) = 0 from rfl, show ((leavesV 31 : Nat) : Int) = 1 from rfl] at cE
  obtain ⟨i0, hi0, hz0, hz1, hz2⟩ := info_parts Try.info21
  have hSn0 := hM.hSn hQ
  have hnops := hs.nops
  obtain ⟨m, O, c, i, o, f, t, p, fin, trap⟩ := s
  simp only at hA hB hnops
  obtain ⟨T, hT⟩ : ∃ T, O = T := ⟨_, rfl⟩
  subst hT
  obtain ⟨r, hr⟩ : ∃ r, O.length = r := ⟨_, rfl⟩
  have HLL1 := Lib.hid (show O.length + 1 ≤ 1000 by omega)
  obtain ⟨X, hX⟩ : ∃ X, sExec ⟨m, O, c, i, o, f, t, p, fin, trap⟩ ⟨31, k⟩ = X := ⟨_, rfl⟩
  rw [hX]
  have HX := Lib.hid hX
  clear hX
  have hrow := hM.ops
  simp only at hrow
  rw [hr] at hrow hA hB hnops
  obtain ⟨pb, pao, pcap, poff, rfl, p2, p3, p4, p6, p7⟩ := hrow
  have l1 : decide ((r : Int) < 0) = false := by simp
  have l2 : r ≤ 1000 := by omega
  have l3 : decide ((1000 : Int) < (r : Int) + 1) = false := by simp; omega
  have l4 : decide ((1000 : Int) < (r : Int)) = false := by simp; omega
  have l5 : decide (1000 < r) = false := by simp; omega
  have q3 : (r : Int) ≤ (pcap : Int) := by omega
  have q4 : (r : Int) ≤ (pcap : Int) := by omega
  have q0 : (0 : Int) ≤ (r : Int) := Int.natCast_nonneg _
  unfold maxLen at p3
  have wk : IntKind.i64.wrap k = k := by unfold I32 at hk; rw [IntKind.wrap_i64]; omega
  have wp : IntKind.i64.wrap (p + 1) = p + 1 := by have h1 := hs.pc1; have h2 := hs.pc2; simp only at h1 h2; rw [IntKind.wrap_i64]; omega
  have HM := Lib.hid hM
  have HSN := Lib.hid hSn0
  have HS := Lib.hid hs
  have HQ := Lib.hid hQ
  have HK := Lib.hid hk
  have HR := Lib.hid hr
  have HP6 := Lib.hid p6
  have HP7 := Lib.hid p7
  have HOL := Lib.hid hol
  clear hM hs hk hQ hSn0 hr p6 p7 hol hA hB hnops
  rcases p4 with rfl | ⟨rfl, rfl⟩
  · obtain ⟨ap, hap⟩ : ∃ ap, (if pcap = r then some (⟨pb, poff, none⟩ : Addr) else some ⟨pb, poff + r, none⟩) = ap := ⟨_, rfl⟩
    have hapn : ap ≠ none := by intro h; rw [h] at hap; split at hap <;> cases hap
    have HAP := Lib.hid hapn
    clear hapn
    go_enter Try.func35, Try.ntmps35
    go_wp2_with fail
    have hB1 := Blk.new w #[Value.int .i64 31, .int .i32 k] 55
    have ho1 : Only Nil w (w.alloc (.cells #[Value.int .i64 31, .int .i32 k] 55)) := (Only.refl _ _).alloc _
    obtain ⟨w1, hw1⟩ : ∃ w1, w.alloc (.cells #[Value.int .i64 31, .int .i32 k] 55) = w1 := ⟨_, rfl⟩
    obtain ⟨xb, hxb⟩ : ∃ xb, w.heap.size = xb := ⟨_, rfl⟩
    rw [hw1, hxb] at hB1
    rw [hw1] at ho1 ⊢
    rw [hxb]
    have hM1 := HM.out.quiet ho1
    have c2 : w1.cell? ⟨db, 2, none⟩ = some (.slice (some ⟨pb, poff, none⟩) r pcap) := hM1.blk.cell 2
    have c5 : w1.cell? ⟨db, 5, none⟩ = some (.int .i64 p) := hM1.blk.cell 5
    have x1 : w1.cell? ⟨xb, 1, none⟩ = some (.int .i32 k) := hB1.cell 1
    have hlt := hM1.blk.lt
    have hltx := hB1.lt
    have HM1 := Lib.hid hM1
    have HO1 := Lib.hid ho1
    have HB1 := Lib.hid hB1
    clear hw1 hxb hM1 ho1 hB1
    refine (cE _).mono ?_
    rintro e we ⟨rfl, rfl⟩
    clear cE
    go_wp2_with (at_builtin; go_loud (refine wpList_append_src rfl _ _ 57 rfl w1.heap.size 21 i0 (.int .i32 0) 4 Try.underlying57 hi0 hz0 hz1 hz2 rfl _ _ _ rfl (World.ownsRow_nil _ _ _ _) pb _ (I32s []) rfl (src_zero _ _ _ _ (fun h => absurd h HAP.out)) (I32s_one _) (by simp [I32s, maxLen]) (by simp [I32s]) (Nat.le_refl _) ?_))
    intro v8 w2 hown8 hob8 ho8
    have ho2 : Only Nil w1 w2 := ho8.mono (fun _ h => by cases h)
    obtain ⟨a8, cap8, rfl⟩ := sl_of_own hown8
    have hM2 := HM1.out.quiet ho2
    have d1 : w2.cell? ⟨db, 1, none⟩ = some (.slice (some ⟨vb, 0, none⟩) m.length m.length) := hM2.blk.cell 1
    have d2 : w2.cell? ⟨db, 2, none⟩ = some (.slice (some ⟨pb, poff, none⟩) r pcap) := ho2.cell c2 (fun h => h)
    have d3 : w2.cell? ⟨db, 3, none⟩ = some (.int .i64 (f : Nat)) := hM2.blk.cell 3
    have d4 : w2.cell? ⟨db, 4, none⟩ = some (.int .i64 (t : Nat)) := hM2.blk.cell 4
    have d5 : w2.cell? ⟨db, 5, none⟩ = some (.int .i64 p) := hM2.blk.cell 5
    have d6 : w2.cell? ⟨db, 6, none⟩ = some kv := hM2.blk.cell 6
    have d7 : w2.cell? ⟨db, 7, none⟩ = some iv := hM2.blk.cell 7
    have d8 : w2.cell? ⟨db, 8, none⟩ = some ov := hM2.blk.cell 8
    have z0 : w2.cell? ⟨xb, 0, none⟩ = some (.int .i64 31) := (HB1.out.kept ho2 (fun h => h)).cell 0
    have z1 : w2.cell? ⟨xb, 1, none⟩ = some (.int .i32 k) := (HB1.out.kept ho2 (fun h => h)).cell 1
    have hlt2 := hM2.blk.lt
    have hltx2 := (HB1.out.kept ho2 (fun h => h)).lt
    have HM2 := Lib.hid hM2
    have HO2 := Lib.hid (HO1.out.trans ho2 (fun _ _ h => h))
    have hp6 := HP6.out.kept HO2.out (fun _ h => h)
    have HC := Lib.hid (hp6)
    have HPB : Hid (0 < r → ¬ OwnTQ Q db vb ov.ownBlock pb ∧ pb < w2.heap.size) := Lib.hid (fun h => ⟨(HP7.out (by omega)).1, Nat.lt_of_lt_of_le (HP7.out (by omega)).2 HO2.out.size⟩)
    have HSN2 : Hid (∀ j, OwnTQ Q db vb ov.ownBlock j → j < w2.heap.size) := Lib.hid (fun j hj => Nat.lt_of_lt_of_le (HSN.out j hj) HO2.out.size)
    clear c2 c5 x1 hlt hltx ho8 hown8 hob8 ho2 hM2 hp6
    have hci := HM2.out.inp
    simp only at hci
    obtain ⟨ib, iao, icap, ioff, rfl, i2, i3, i4, i5, i6, i7⟩ := hci
    rcases i with _ | ⟨x, y⟩
    · have hx := HX.out
      rw [x_getc0 k HLL1.out] at hx
      subst hx
      simp only [List.length_nil] at d7
      clear HX i2 i3 i4 i5 i6 i7
      have HW3 : Hid (Only Nil w2 (w2.alloc (.cells #[Value.int .i32 (0)] 21))) := Lib.hid ((Only.alloc (Only.refl _ _) _))
      have HN3 : Hid (CellsAt (w2.alloc (.cells #[Value.int .i32 (0)] 21)) w2.heap.size 0 (I32s [0])) := Lib.hid (fun i u hi => by rw [Nat.zero_add, (Blk.new w2 #[Value.int .i32 (0)] 21).cell i]; simpa [I32s] using hi)
      go_wp2_with (at_builtin; go_loud (refine wpList_append_capped rfl _ _ 57 rfl 21 i0 (.int .i32 0) 1 4 Try.underlying57 hi0 hz0 hz1 hz2 rfl (by decide) (OwnTQ Q db vb (ov).ownBlock) (fun j hj => Nat.lt_of_lt_of_le (HSN2.out j hj) HW3.out.size) r (I32s O) _ pb poff rfl (by rw [I32s_len, HR.out] <;> omega) (Or.inl rfl) (HC.out.kept HW3.out (fun _ h => h)) (fun h => ⟨(HPB.out h).1, Nat.lt_of_lt_of_le (HPB.out h).2 HW3.out.size⟩) w2.heap.size 0 _ 1 1 (I32s [0]) rfl rfl (fun _ => rfl) HN3.out nofun (I32s_one _) (by simp [maxLen] <;> omega) (by omega) ?_))
      intro v9 w4 hR9 ho9
      have hMX := HM2.out.quiet HW3.out
      have hB4 := hMX.blk.kept ho9 (fun h => h)
      have g2 := hB4.free 2
      have g5 := hB4.free 5
      have k2 : w4.cell? ⟨db, 2, none⟩ = some _ := hB4.cell 2
      have k5 : w4.cell? ⟨db, 5, none⟩ = some _ := hB4.cell 5
      have glt := hB4.lt
      have hR9 : RdRow (OwnTQ Q db vb (ov).ownBlock) w4 v9 (O ++ [0]).length (I32s (O ++ [0])) := by rw [I32s_append, List.length_append, HR.out]; exact hR9
      obtain ⟨n9, hn9⟩ : ∃ n, (O ++ [0]).length = n := ⟨_, rfl⟩
      rw [hn9] at hR9
      obtain ⟨a9, c9, rfl⟩ := rd_shape hR9
      have HE := Lib.hid (tdo_end (TGone.of_nil (HO2.out.trans HW3.out (fun _ _ h => h))) hMX (O ++ [0]) _ (by rw [hn9]; exact hR9) ho9 (p + 1))
      clear hMX hB4 hR9 ho9 hn9
      go_wp2_with fail
      go_ret
      (try simp only [List.append_nil])
      exact ⟨_, _, _, _, rfl, HE.out.1, HE.out.2⟩
    · have hx := HX.out
      rw [x_getc k HLL1.out] at hx
      subst hx
      have hx8 : x < 256 := HS.out.inp x (by simp)
      have ea := i4 (by simp)
      subst ea
      have v0 : w2.cell? ⟨ib, ioff, none⟩ = some (.int .u8 (x : Nat)) := i6 0 _ rfl
      have hlib : ib < w2.heap.size := (i7 (by simp)).2
      have cw : IntKind.i32.wrap (x : Int) = (x : Int) := by rw [IntKind.wrap_i32]; omega
      obtain ⟨L, hL⟩ : ∃ L, y.length = L := ⟨_, rfl⟩
      simp only [List.length_cons] at d7 i2
      rw [hL] at d7 i2
      have hl0 : (0 : Int) ≤ (L : Int) := Int.natCast_nonneg _
      have hl1 : (0 : Int) < (L : Int) + 1 := by omega
      have hic : (L : Int) + 1 ≤ (icap : Int) := by omega
      have hic1 : (1 : Int) ≤ (icap : Int) := by omega
      have hmx : (icap : Int) ≤ 9223372036854775807 := by
        have : maxLen ≤ 9223372036854775807 := by decide
        omega
      obtain ⟨ap, hap⟩ : ∃ ap, (if icap = 1 then some (⟨ib, ioff, Option.none⟩ : Addr) else some ⟨ib, ioff + 1, Option.none⟩) = ap := ⟨_, rfl⟩
      have hT := BytRow.tail (L := L) i6 (i7 (by simp)) rfl hL i2 i3
      rw [hap] at hT
      have HT := Lib.hid hT
      clear HX i2 i3 i4 i5 i6 i7 hT hx8 hL
      go_wp2_with fail
      have hNB := Blk.new w2 #[Value.int .i32 0] 21
      have ho3 : Only Nil w2 (w2.alloc (.cells #[Value.int .i32 0] 21)) := (Only.refl _ _).alloc _
      obtain ⟨w3, hw3⟩ : ∃ w3, w2.alloc (.cells #[Value.int .i32 0] 21) = w3 := ⟨_, rfl⟩
      obtain ⟨nb, hnb⟩ : ∃ nb, w2.heap.size = nb := ⟨_, rfl⟩
      rw [hw3, hnb] at hNB
      rw [hw3] at ho3 ⊢
      rw [hnb]
      have hni : ib ≠ nb := by omega
      have d1' := ho3.cell d1 (fun h => h)
      have d2' := ho3.cell d2 (fun h => h)
      have d5' := ho3.cell d5 (fun h => h)
      have d7' := ho3.cell d7 (fun h => h)
      have v0' := ho3.cell v0 (fun h => h)
      have hlt2' := Nat.lt_of_lt_of_le hlt2 ho3.size
      have hltx2' := Nat.lt_of_lt_of_le hltx2 ho3.size
      have hlib' := Nat.lt_of_lt_of_le hlib ho3.size
      have z0' := ho3.cell z0 (fun h => h)
      have z1' := ho3.cell z1 (fun h => h)
      clear d1 d2 d5 d7 v0 hlt2 hltx2 hlib z0 z1
      have n0 : w3.cell? ⟨nb, 0, Option.none⟩ = some (.int .i32 0) := hNB.cell 0
      have fn := hNB.free 0
      have hltn := hNB.lt
      have f7 := (HM2.out.blk.kept ho3 (fun h => h)).free 7
      have hnd : db ≠ nb := by have := HM2.out.blk.lt; omega
      have ho3' : Only Nil w2 (w3.setCell ⟨nb, 0, Option.none⟩ (.int .i32 (x : Nat))) := ho3.trans (Only.setOne (Only.refl (M.One nb) _) _ _) (fun i hi (h : i = nb) => by omega)
      have hN1 := TAt.newIn (HM2.out.quiet ho3') (.slice ap L (icap - 1)) y (HT.out.kept ho3' (fun _ h => h.elim))
      have hN2 := (hNB.setCell 0 (.int .i32 (x : Nat))).setOther ⟨db, 7, Option.none⟩ (.slice ap L (icap - 1)) (fun h => hnd h.symm)
      have ho5 : Only (M.One db) w2 ((w3.setCell ⟨nb, 0, Option.none⟩ (.int .i32 (x : Nat))).setCell ⟨db, 7, Option.none⟩ (.slice ap L (icap - 1))) := (ho3'.mono (T := M.One db) (fun _ h => h.elim)).trans (Only.setOne (Only.refl (M.One db) _) _ _) (fun _ _ h => h)
      have HN1 := Lib.hid hN1
      have HN2 := Lib.hid hN2
      have HO5' := Lib.hid ho5
      have HO3' := Lib.hid ho3'
      clear hw3 hnb ho3 ho3' hN1 hN2 ho5 hNB HT
      go_region
      have hM5 := HN1.out.1.quiet (Only.refl Nil _).drew
      have hG5 := ((TGone.of_nil (HO2.out.trans HO3'.out (fun _ _ h => h))).trans HN1.out.2).trans (TGone.of_nil (Only.refl Nil _).drew)
      have ho5 := HO5'.out.drew
      have hn5 := HN2.out.drew
      obtain ⟨w5, hw5⟩ : ∃ w5, ((w3.setCell ⟨nb, 0, Option.none⟩ (.int .i32 (x : Nat))).setCell ⟨db, 7, Option.none⟩ (.slice ap L (icap - 1))).drew = w5 := ⟨_, rfl⟩
      rw [hw5] at hM5 hG5 ho5 hn5
      rw [hw5]
      clear hw5 HN1 HN2 HO5' HO3' fn f7 n0 d7' v0'
      have HM5 := Lib.hid (hM5)
      have HG5 := Lib.hid (hG5)
      have HO5 := Lib.hid (ho5)
      have HC5 := Lib.hid (cells_own HC.out HR.out HO5.out (S := OwnTQ Q db vb ov.ownBlock) (fun _ h => Or.inl (Or.inl h)) (fun h => (HPB.out h).1))
      have HPB5 : Hid (0 < r → ¬ OwnTQ Q db vb ov.ownBlock pb ∧ pb < w5.heap.size) := Lib.hid (fun h => ⟨(HPB.out h).1, Nat.lt_of_lt_of_le (HPB.out h).2 HO5.out.size⟩)
      have HSN5 : Hid (∀ j, OwnTQ Q db vb ov.ownBlock j → j < w5.heap.size) := Lib.hid (fun j hj => Nat.lt_of_lt_of_le (HSN2.out j hj) HO5.out.size)
      have e2 : w5.cell? ⟨db, 2, none⟩ = some (.slice (some ⟨pb, poff, none⟩) r pcap) := HM5.out.blk.cell 2
      have hlt5 := HM5.out.blk.lt
      have HN3 : Hid (CellsAt w5 nb 0 (I32s [(x : Int)])) := Lib.hid (fun i u hi => by rw [Nat.zero_add, hn5.cell i]; simpa [I32s] using hi)
      clear hM5 hG5 ho5 hn5
      have HW3 : Hid (Only Nil w5 w5) := Lib.hid (Only.refl _ _)
      go_wp2_with (at_builtin; go_loud (refine wpList_append_capped rfl _ _ 57 rfl 21 i0 (.int .i32 0) 1 4 Try.underlying57 hi0 hz0 hz1 hz2 rfl (by decide) (OwnTQ Q db vb (ov).ownBlock) (fun j hj => Nat.lt_of_lt_of_le (HSN5.out j hj) HW3.out.size) r (I32s O) _ pb poff rfl (by rw [I32s_len, HR.out] <;> omega) (Or.inl rfl) (HC5.out.kept HW3.out (fun _ h => h)) (fun h => ⟨(HPB5.out h).1, Nat.lt_of_lt_of_le (HPB5.out h).2 HW3.out.size⟩) nb 0 _ 1 1 (I32s [(x : Int)]) rfl rfl (fun _ => rfl) HN3.out nofun (I32s_one _) (by simp [maxLen] <;> omega) (by omega) ?_))
      intro v9 w4 hR9 ho9
      have hMX := HM5.out.quiet HW3.out
      have hB4 := hMX.blk.kept ho9 (fun h => h)
      have g2 := hB4.free 2
      have g5 := hB4.free 5
      have k2 : w4.cell? ⟨db, 2, none⟩ = some _ := hB4.cell 2
      have k5 : w4.cell? ⟨db, 5, none⟩ = some _ := hB4.cell 5
      have glt := hB4.lt
      have hR9 : RdRow (OwnTQ Q db vb (ov).ownBlock) w4 v9 (O ++ [(x : Int)]).length (I32s (O ++ [(x : Int)])) := by rw [I32s_append, List.length_append, HR.out]; exact hR9
      obtain ⟨n9, hn9⟩ : ∃ n, (O ++ [(x : Int)]).length = n := ⟨_, rfl⟩
      rw [hn9] at hR9
      obtain ⟨a9, c9, rfl⟩ := rd_shape hR9
      have HE := Lib.hid (tdo_end (HG5.out.trans (TGone.of_nil HW3.out)) hMX (O ++ [(x : Int)]) _ (by rw [hn9]; exact hR9) ho9 (p + 1))
      clear hMX hB4 hR9 ho9 hn9
      go_wp2_with fail
      go_ret
      (try simp only [List.append_nil])
      exact ⟨_, _, _, _, rfl, HE.out.1, HE.out.2⟩
  · obtain rfl : r = 0 := by omega
    go_enter Try.func35, Try.ntmps35
    go_wp2_with fail
    have hB1 := Blk.new w #[Value.int .i64 31, .int .i32 k] 55
    have ho1 : Only Nil w (w.alloc (.cells #[Value.int .i64 31, .int .i32 k] 55)) := (Only.refl _ _).alloc _
    obtain ⟨w1, hw1⟩ : ∃ w1, w.alloc (.cells #[Value.int .i64 31, .int .i32 k] 55) = w1 := ⟨_, rfl⟩
    obtain ⟨xb, hxb⟩ : ∃ xb, w.heap.size = xb := ⟨_, rfl⟩
    rw [hw1, hxb] at hB1
    rw [hw1] at ho1 ⊢
    rw [hxb]
    have hM1 := HM.out.quiet ho1
    have c2 : w1.cell? ⟨db, 2, none⟩ = some (.slice (none) 0 0) := hM1.blk.cell 2
    have c5 : w1.cell? ⟨db, 5, none⟩ = some (.int .i64 p) := hM1.blk.cell 5
    have x1 : w1.cell? ⟨xb, 1, none⟩ = some (.int .i32 k) := hB1.cell 1
    have hlt := hM1.blk.lt
    have hltx := hB1.lt
    have HM1 := Lib.hid hM1
    have HO1 := Lib.hid ho1
    have HB1 := Lib.hid hB1
    clear hw1 hxb hM1 ho1 hB1
    refine (cE _).mono ?_
    rintro e we ⟨rfl, rfl⟩
    clear cE
    go_wp2_with (at_builtin; go_loud (refine wpList_append_src rfl _ _ 57 rfl w1.heap.size 21 i0 (.int .i32 0) 4 Try.underlying57 hi0 hz0 hz1 hz2 rfl _ _ _ rfl (World.ownsRow_nil _ _ _ _) pb _ (I32s []) rfl (src_zero _ _ _ _ (fun _ => rfl)) (I32s_one _) (by simp [I32s, maxLen]) (by simp [I32s]) (Nat.le_refl _) ?_))
    intro v8 w2 hown8 hob8 ho8
    have ho2 : Only Nil w1 w2 := ho8.mono (fun _ h => by cases h)
    obtain ⟨a8, cap8, rfl⟩ := sl_of_own hown8
    have hM2 := HM1.out.quiet ho2
    have d1 : w2.cell? ⟨db, 1, none⟩ = some (.slice (some ⟨vb, 0, none⟩) m.length m.length) := hM2.blk.cell 1
    have d2 : w2.cell? ⟨db, 2, none⟩ = some (.slice (none) 0 0) := ho2.cell c2 (fun h => h)
    have d3 : w2.cell? ⟨db, 3, none⟩ = some (.int .i64 (f : Nat)) := hM2.blk.cell 3
    have d4 : w2.cell? ⟨db, 4, none⟩ = some (.int .i64 (t : Nat)) := hM2.blk.cell 4
    have d5 : w2.cell? ⟨db, 5, none⟩ = some (.int .i64 p) := hM2.blk.cell 5
    have d6 : w2.cell? ⟨db, 6, none⟩ = some kv := hM2.blk.cell 6
    have d7 : w2.cell? ⟨db, 7, none⟩ = some iv := hM2.blk.cell 7
    have d8 : w2.cell? ⟨db, 8, none⟩ = some ov := hM2.blk.cell 8
    have z0 : w2.cell? ⟨xb, 0, none⟩ = some (.int .i64 31) := (HB1.out.kept ho2 (fun h => h)).cell 0
    have z1 : w2.cell? ⟨xb, 1, none⟩ = some (.int .i32 k) := (HB1.out.kept ho2 (fun h => h)).cell 1
    have hlt2 := hM2.blk.lt
    have hltx2 := (HB1.out.kept ho2 (fun h => h)).lt
    have HM2 := Lib.hid hM2
    have HO2 := Lib.hid (HO1.out.trans ho2 (fun _ _ h => h))
    have hp6 := HP6.out.kept HO2.out (fun _ h => h)
    have HC := Lib.hid (hp6)
    have HPB : Hid (0 < 0 → ¬ OwnTQ Q db vb ov.ownBlock pb ∧ pb < w2.heap.size) := Lib.hid (fun h => ⟨(HP7.out (by omega)).1, Nat.lt_of_lt_of_le (HP7.out (by omega)).2 HO2.out.size⟩)
    have HSN2 : Hid (∀ j, OwnTQ Q db vb ov.ownBlock j → j < w2.heap.size) := Lib.hid (fun j hj => Nat.lt_of_lt_of_le (HSN.out j hj) HO2.out.size)
    clear c2 c5 x1 hlt hltx ho8 hown8 hob8 ho2 hM2 hp6
    have hci := HM2.out.inp
    simp only at hci
    obtain ⟨ib, iao, icap, ioff, rfl, i2, i3, i4, i5, i6, i7⟩ := hci
    rcases i with _ | ⟨x, y⟩
    · have hx := HX.out
      rw [x_getc0 k HLL1.out] at hx
      subst hx
      simp only [List.length_nil] at d7
      clear HX i2 i3 i4 i5 i6 i7
      have HW3 : Hid (Only Nil w2 (w2.alloc (.cells #[Value.int .i32 (0)] 21))) := Lib.hid ((Only.alloc (Only.refl _ _) _))
      have HN3 : Hid (CellsAt (w2.alloc (.cells #[Value.int .i32 (0)] 21)) w2.heap.size 0 (I32s [0])) := Lib.hid (fun i u hi => by rw [Nat.zero_add, (Blk.new w2 #[Value.int .i32 (0)] 21).cell i]; simpa [I32s] using hi)
      go_wp2_with (at_builtin; go_loud (refine wpList_append_capped rfl _ _ 57 rfl 21 i0 (.int .i32 0) 1 4 Try.underlying57 hi0 hz0 hz1 hz2 rfl (by decide) (OwnTQ Q db vb (ov).ownBlock) (fun j hj => Nat.lt_of_lt_of_le (HSN2.out j hj) HW3.out.size) 0 (I32s O) _ pb poff rfl (by rw [I32s_len, HR.out] <;> omega) (Or.inr ⟨rfl, rfl⟩) (HC.out.kept HW3.out (fun _ h => h)) (fun h => ⟨(HPB.out h).1, Nat.lt_of_lt_of_le (HPB.out h).2 HW3.out.size⟩) w2.heap.size 0 _ 1 1 (I32s [0]) rfl rfl (fun _ => rfl) HN3.out nofun (I32s_one _) (by simp [maxLen] <;> omega) (by omega) ?_))
      intro v9 w4 hR9 ho9
      have hMX := HM2.out.quiet HW3.out
      have hB4 := hMX.blk.kept ho9 (fun h => h)
      have g2 := hB4.free 2
      have g5 := hB4.free 5
      have k2 : w4.cell? ⟨db, 2, none⟩ = some _ := hB4.cell 2
      have k5 : w4.cell? ⟨db, 5, none⟩ = some _ := hB4.cell 5
      have glt := hB4.lt
      have hR9 : RdRow (OwnTQ Q db vb (ov).ownBlock) w4 v9 (O ++ [0]).length (I32s (O ++ [0])) := by rw [I32s_append, List.length_append, HR.out]; exact hR9
      obtain ⟨n9, hn9⟩ : ∃ n, (O ++ [0]).length = n := ⟨_, rfl⟩
      rw [hn9] at hR9
      obtain ⟨a9, c9, rfl⟩ := rd_shape hR9
      have HE := Lib.hid (tdo_end (TGone.of_nil (HO2.out.trans HW3.out (fun _ _ h => h))) hMX (O ++ [0]) _ (by rw [hn9]; exact hR9) ho9 (p + 1))
      clear hMX hB4 hR9 ho9 hn9
      go_wp2_with fail
      go_ret
      (try simp only [List.append_nil])
      exact ⟨_, _, _, _, rfl, HE.out.1, HE.out.2⟩
    · have hx := HX.out
      rw [x_getc k HLL1.out] at hx
      subst hx
      have hx8 : x < 256 := HS.out.inp x (by simp)
      have ea := i4 (by simp)
      subst ea
      have v0 : w2.cell? ⟨ib, ioff, none⟩ = some (.int .u8 (x : Nat)) := i6 0 _ rfl
      have hlib : ib < w2.heap.size := (i7 (by simp)).2
      have cw : IntKind.i32.wrap (x : Int) = (x : Int) := by rw [IntKind.wrap_i32]; omega
      obtain ⟨L, hL⟩ : ∃ L, y.length = L := ⟨_, rfl⟩
      simp only [List.length_cons] at d7 i2
      rw [hL] at d7 i2
      have hl0 : (0 : Int) ≤ (L : Int) := Int.natCast_nonneg _
      have hl1 : (0 : Int) < (L : Int) + 1 := by omega
      have hic : (L : Int) + 1 ≤ (icap : Int) := by omega
      have hic1 : (1 : Int) ≤ (icap : Int) := by omega
      have hmx : (icap : Int) ≤ 9223372036854775807 := by
        have : maxLen ≤ 9223372036854775807 := by decide
        omega
      obtain ⟨ap, hap⟩ : ∃ ap, (if icap = 1 then some (⟨ib, ioff, Option.none⟩ : Addr) else some ⟨ib, ioff + 1, Option.none⟩) = ap := ⟨_, rfl⟩
      have hT := BytRow.tail (L := L) i6 (i7 (by simp)) rfl hL i2 i3
      rw [hap] at hT
      have HT := Lib.hid hT
      clear HX i2 i3 i4 i5 i6 i7 hT hx8 hL
      go_wp2_with fail
      have hNB := Blk.new w2 #[Value.int .i32 0] 21
      have ho3 : Only Nil w2 (w2.alloc (.cells #[Value.int .i32 0] 21)) := (Only.refl _ _).alloc _
      obtain ⟨w3, hw3⟩ : ∃ w3, w2.alloc (.cells #[Value.int .i32 0] 21) = w3 := ⟨_, rfl⟩
      obtain ⟨nb, hnb⟩ : ∃ nb, w2.heap.size = nb := ⟨_, rfl⟩
      rw [hw3, hnb] at hNB
      rw [hw3] at ho3 ⊢
      rw [hnb]
      have hni : ib ≠ nb := by omega
      have d1' := ho3.cell d1 (fun h => h)
      have d2' := ho3.cell d2 (fun h => h)
      have d5' := ho3.cell d5 (fun h => h)
      have d7' := ho3.cell d7 (fun h => h)
      have v0' := ho3.cell v0 (fun h => h)
      have hlt2' := Nat.lt_of_lt_of_le hlt2 ho3.size
      have hltx2' := Nat.lt_of_lt_of_le hltx2 ho3.size
      have hlib' := Nat.lt_of_lt_of_le hlib ho3.size
      have z0' := ho3.cell z0 (fun h => h)
      have z1' := ho3.cell z1 (fun h => h)
      clear d1 d2 d5 d7 v0 hlt2 hltx2 hlib z0 z1
      have n0 : w3.cell? ⟨nb, 0, Option.none⟩ = some (.int .i32 0) := hNB.cell 0
      have fn := hNB.free 0
      have hltn := hNB.lt
      have f7 := (HM2.out.blk.kept ho3 (fun h => h)).free 7
      have hnd : db ≠ nb := by have := HM2.out.blk.lt; omega
      have ho3' : Only Nil w2 (w3.setCell ⟨nb, 0, Option.none⟩ (.int .i32 (x : Nat))) := ho3.trans (Only.setOne (Only.refl (M.One nb) _) _ _) (fun i hi (h : i = nb) => by omega)
      have hN1 := TAt.newIn (HM2.out.quiet ho3') (.slice ap L (icap - 1)) y (HT.out.kept ho3' (fun _ h => h.elim))
      have hN2 := (hNB.setCell 0 (.int .i32 (x : Nat))).setOther ⟨db, 7, Option.none⟩ (.slice ap L (icap - 1)) (fun h => hnd h.symm)
      have ho5 : Only (M.One db) w2 ((w3.setCell ⟨nb, 0, Option.none⟩ (.int .i32 (x : Nat))).setCell ⟨db, 7, Option.none⟩ (.slice ap L (icap - 1))) := (ho3'.mono (T := M.One db) (fun _ h => h.elim)).trans (Only.setOne (Only.refl (M.One db) _) _ _) (fun _ _ h => h)
      have HN1 := Lib.hid hN1
      have HN2 := Lib.hid hN2
      have HO5' := Lib.hid ho5
      have HO3' := Lib.hid ho3'
      clear hw3 hnb ho3 ho3' hN1 hN2 ho5 hNB HT
      go_region
      have hM5 := HN1.out.1.quiet (Only.refl Nil _).drew
      have hG5 := ((TGone.of_nil (HO2.out.trans HO3'.out (fun _ _ h => h))).trans HN1.out.2).trans (TGone.of_nil (Only.refl Nil _).drew)
      have ho5 := HO5'.out.drew
      have hn5 := HN2.out.drew
      obtain ⟨w5, hw5⟩ : ∃ w5, ((w3.setCell ⟨nb, 0, Option.none⟩ (.int .i32 (x : Nat))).setCell ⟨db, 7, Option.none⟩ (.slice ap L (icap - 1))).drew = w5 := ⟨_, rfl⟩
      rw [hw5] at hM5 hG5 ho5 hn5
      rw [hw5]
      clear hw5 HN1 HN2 HO5' HO3' fn f7 n0 d7' v0'
      have HM5 := Lib.hid (hM5)
      have HG5 := Lib.hid (hG5)
      have HO5 := Lib.hid (ho5)
      have HC5 := Lib.hid (cells_own HC.out HR.out HO5.out (S := OwnTQ Q db vb ov.ownBlock) (fun _ h => Or.inl (Or.inl h)) (fun h => (HPB.out h).1))
      have HPB5 : Hid (0 < 0 → ¬ OwnTQ Q db vb ov.ownBlock pb ∧ pb < w5.heap.size) := Lib.hid (fun h => ⟨(HPB.out h).1, Nat.lt_of_lt_of_le (HPB.out h).2 HO5.out.size⟩)
      have HSN5 : Hid (∀ j, OwnTQ Q db vb ov.ownBlock j → j < w5.heap.size) := Lib.hid (fun j hj => Nat.lt_of_lt_of_le (HSN2.out j hj) HO5.out.size)
      have e2 : w5.cell? ⟨db, 2, none⟩ = some (.slice none 0 0) := HM5.out.blk.cell 2
      have hlt5 := HM5.out.blk.lt
      have HN3 : Hid (CellsAt w5 nb 0 (I32s [(x : Int)])) := Lib.hid (fun i u hi => by rw [Nat.zero_add, hn5.cell i]; simpa [I32s] using hi)
      clear hM5 hG5 ho5 hn5
      have HW3 : Hid (Only Nil w5 w5) := Lib.hid (Only.refl _ _)
      go_wp2_with (at_builtin; go_loud (refine wpList_append_capped rfl _ _ 57 rfl 21 i0 (.int .i32 0) 1 4 Try.underlying57 hi0 hz0 hz1 hz2 rfl (by decide) (OwnTQ Q db vb (ov).ownBlock) (fun j hj => Nat.lt_of_lt_of_le (HSN5.out j hj) HW3.out.size) 0 (I32s O) _ pb poff rfl (by rw [I32s_len, HR.out] <;> omega) (Or.inr ⟨rfl, rfl⟩) (HC5.out.kept HW3.out (fun _ h => h)) (fun h => ⟨(HPB5.out h).1, Nat.lt_of_lt_of_le (HPB5.out h).2 HW3.out.size⟩) nb 0 _ 1 1 (I32s [(x : Int)]) rfl rfl (fun _ => rfl) HN3.out nofun (I32s_one _) (by simp [maxLen] <;> omega) (by omega) ?_))
      intro v9 w4 hR9 ho9
      have hMX := HM5.out.quiet HW3.out
      have hB4 := hMX.blk.kept ho9 (fun h => h)
      have g2 := hB4.free 2
      have g5 := hB4.free 5
      have k2 : w4.cell? ⟨db, 2, none⟩ = some _ := hB4.cell 2
      have k5 : w4.cell? ⟨db, 5, none⟩ = some _ := hB4.cell 5
      have glt := hB4.lt
      have hR9 : RdRow (OwnTQ Q db vb (ov).ownBlock) w4 v9 (O ++ [(x : Int)]).length (I32s (O ++ [(x : Int)])) := by rw [I32s_append, List.length_append, HR.out]; exact hR9
      obtain ⟨n9, hn9⟩ : ∃ n, (O ++ [(x : Int)]).length = n := ⟨_, rfl⟩
      rw [hn9] at hR9
      obtain ⟨a9, c9, rfl⟩ := rd_shape hR9
      have HE := Lib.hid (tdo_end (HG5.out.trans (TGone.of_nil HW3.out)) hMX (O ++ [(x : Int)]) _ (by rw [hn9]; exact hR9) ho9 (p + 1))
      clear hMX hB4 hR9 ho9 hn9
      go_wp2_with fail
      go_ret
      (try simp only [List.append_nil])
      exact ⟨_, _, _, _, rfl, HE.out.1, HE.out.2⟩

end Go.Proofs.Ytpnhjjihdcopnaa
