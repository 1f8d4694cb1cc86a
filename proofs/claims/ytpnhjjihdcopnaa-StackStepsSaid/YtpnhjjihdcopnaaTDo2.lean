/- The document's stack machine does one instruction. -/
import Derived.Test.YtpnhjjihdcopnaaTDoA
set_option linter.unusedSimpArgs false
set_option linter.unusedVariables false
namespace Go.Proofs.Ytpnhjjihdcopnaa
open Go.RowKit M
variable {Q : Nat → Prop}


set_option maxRecDepth 10000 in
set_option maxHeartbeats 3200000 in
theorem tdo_1 (db vb : Nat) (k : Int) (hk : I32 k) (code : List Cod) (s : SS) (lv pv kv iv ov : Value) (w : World) (hQ : ∀ j, Q j → j < w.heap.size) (hM : TAt Q w db vb code s lv pv kv iv ov) (hs : s.Ok) (hol : s.out.length ≤ 1099511627776) (hA : 0 ≤ s.ops.length) (hB : s.ops.length - 0 + 1 ≤ 1000) :
    Calls Try.prog 35 #[.pointer (some ⟨db, 0, none⟩), .agg #[.int .i64 1, .int .i32 k]] w (TDoes Q w db vb code s lv ov (sExec s ⟨1, k⟩)) := by
  have cE := fun w => effectR_any 1 (by decide) (by decide) w
  rw [show ((takesV 1 : Nat) : Int) = 0 from rfl, show ((leavesV 1 : Nat) : Int) = 1 from rfl] at cE
  obtain ⟨i0, hi0, hz0, hz1, hz2⟩ := info_parts Try.info21
  have hSn0 := hM.hSn hQ
  have hnops := hs.nops
  obtain ⟨m, O, c, i, o, f, t, p, fin, trap⟩ := s
  simp only at hA hB hnops
  obtain ⟨T, hT⟩ : ∃ T, O = T := ⟨_, rfl⟩
  subst hT
  obtain ⟨r, hr⟩ : ∃ r, O.length = r := ⟨_, rfl⟩
  rw [exec_push _ k (by simp only; omega)]
  have hrow := hM.ops
  simp only at hrow
  rw [hr] at hrow hA hB hnops
  obtain ⟨pb, pao, pcap, poff, rfl, p2, p3, p4, p6, p7⟩ := hrow
  have l1 : decide ((r : Int) < 0) = false := by simp
  have l2 : r ≤ 1000 := by omega
  have l3 : decide ((1000 : Int) < (r : Int) + 1) = false := by simp; omega
  have l4 : decide ((1000 : Int) < (r : Int)) = false := by simp; omega
  have l5 : decide (1000 < r) = false := by simp; omega
  have q3 : (r : Int) ≤ (pcap : Int) := by omega
  have q4 : (r : Int) ≤ (pcap : Int) := by omega
  have q0 : (0 : Int) ≤ (r : Int) := Int.natCast_nonneg _
  unfold maxLen at p3
  have wk : IntKind.i64.wrap k = k := by unfold I32 at hk; rw [IntKind.wrap_i64]; omega
  have wp : IntKind.i64.wrap (p + 1) = p + 1 := by have h1 := hs.pc1; have h2 := hs.pc2; simp only at h1 h2; rw [IntKind.wrap_i64]; omega
  have HM := Lib.hid hM
  have HSN := Lib.hid hSn0
  have HS := Lib.hid hs
  have HQ := Lib.hid hQ
  have HK := Lib.hid hk
  have HR := Lib.hid hr
  have HP6 := Lib.hid p6
  have HP7 := Lib.hid p7
  have HOL := Lib.hid hol
  clear hM hs hk hQ hSn0 hr p6 p7 hol hA hB hnops
  rcases p4 with rfl | ⟨rfl, rfl⟩
  · obtain ⟨ap, hap⟩ : ∃ ap, (if pcap = r then some (⟨pb, poff, none⟩ : Addr) else some ⟨pb, poff + r, none⟩) = ap := ⟨_, rfl⟩
    have hapn : ap ≠ none := by intro h; rw [h] at hap; split at hap <;> cases hap
    have HAP := Lib.hid hapn
    clear hapn
    go_enter Try.func35, Try.ntmps35
    go_wp2_with fail
    have hB1 := Blk.new w #[Value.int .i64 1, .int .i32 k] 55
    have ho1 : Only Nil w (w.alloc (.cells #[Value.int .i64 1, .int .i32 k] 55)) := (Only.refl _ _).alloc _
    obtain ⟨w1, hw1⟩ : ∃ w1, w.alloc (.cells #[Value.int .i64 1, .int .i32 k] 55) = w1 := ⟨_, rfl⟩
    obtain ⟨xb, hxb⟩ : ∃ xb, w.heap.size = xb := ⟨_, rfl⟩
    rw [hw1, hxb] at hB1
    rw [hw1] at ho1 ⊢
    rw [hxb]
    have hM1 := HM.out.quiet ho1
    have c2 : w1.cell? ⟨db, 2, none⟩ = some (.slice (some ⟨pb, poff, none⟩) r pcap) := hM1.blk.cell 2
    have c5 : w1.cell? ⟨db, 5, none⟩ = some (.int .i64 p) := hM1.blk.cell 5
    have x1 : w1.cell? ⟨xb, 1, none⟩ = some (.int .i32 k) := hB1.cell 1
    have hlt := hM1.blk.lt
    have hltx := hB1.lt
    have HM1 := Lib.hid hM1
    have HO1 := Lib.hid ho1
    have HB1 := Lib.hid hB1
    clear hw1 hxb hM1 ho1 hB1
    refine (cE _).mono ?_
    rintro e we ⟨rfl, rfl⟩
    clear cE
    go_wp2_with (at_builtin; go_loud (refine wpList_append_src rfl _ _ 57 rfl w1.heap.size 21 i0 (.int .i32 0) 4 Try.underlying57 hi0 hz0 hz1 hz2 rfl _ _ _ rfl (World.ownsRow_nil _ _ _ _) pb _ (I32s []) rfl (src_zero _ _ _ _ (fun h => absurd h HAP.out)) (I32s_one _) (by simp [I32s, maxLen]) (by simp [I32s]) (Nat.le_refl _) ?_))
    intro v8 w2 hown8 hob8 ho8
    have ho2 : Only Nil w1 w2 := ho8.mono (fun _ h => by cases h)
    obtain ⟨a8, cap8, rfl⟩ := sl_of_own hown8
    have hM2 := HM1.out.quiet ho2
    have d1 : w2.cell? ⟨db, 1, none⟩ = some (.slice (some ⟨vb, 0, none⟩) m.length m.length) := hM2.blk.cell 1
    have d2 : w2.cell? ⟨db, 2, none⟩ = some (.slice (some ⟨pb, poff, none⟩) r pcap) := ho2.cell c2 (fun h => h)
    have d3 : w2.cell? ⟨db, 3, none⟩ = some (.int .i64 (f : Nat)) := hM2.blk.cell 3
    have d4 : w2.cell? ⟨db, 4, none⟩ = some (.int .i64 (t : Nat)) := hM2.blk.cell 4
    have d5 : w2.cell? ⟨db, 5, none⟩ = some (.int .i64 p) := hM2.blk.cell 5
    have d6 : w2.cell? ⟨db, 6, none⟩ = some kv := hM2.blk.cell 6
    have d7 : w2.cell? ⟨db, 7, none⟩ = some iv := hM2.blk.cell 7
    have d8 : w2.cell? ⟨db, 8, none⟩ = some ov := hM2.blk.cell 8
    have z0 : w2.cell? ⟨xb, 0, none⟩ = some (.int .i64 1) := (HB1.out.kept ho2 (fun h => h)).cell 0
    have z1 : w2.cell? ⟨xb, 1, none⟩ = some (.int .i32 k) := (HB1.out.kept ho2 (fun h => h)).cell 1
    have hlt2 := hM2.blk.lt
    have hltx2 := (HB1.out.kept ho2 (fun h => h)).lt
    have HM2 := Lib.hid hM2
    have HO2 := Lib.hid (HO1.out.trans ho2 (fun _ _ h => h))
    have hp6 := HP6.out.kept HO2.out (fun _ h => h)
    have HC := Lib.hid (hp6)
    have HPB : Hid (0 < r → ¬ OwnTQ Q db vb ov.ownBlock pb ∧ pb < w2.heap.size) := Lib.hid (fun h => ⟨(HP7.out (by omega)).1, Nat.lt_of_lt_of_le (HP7.out (by omega)).2 HO2.out.size⟩)
    have HSN2 : Hid (∀ j, OwnTQ Q db vb ov.ownBlock j → j < w2.heap.size) := Lib.hid (fun j hj => Nat.lt_of_lt_of_le (HSN.out j hj) HO2.out.size)
    clear c2 c5 x1 hlt hltx ho8 hown8 hob8 ho2 hM2 hp6
    have HW3 : Hid (Only Nil w2 (w2.alloc (.cells #[Value.int .i32 (k)] 21))) := Lib.hid (Only.alloc (Only.refl _ _) _)
    have HN3 : Hid (CellsAt (w2.alloc (.cells #[Value.int .i32 (k)] 21)) w2.heap.size 0 (I32s [k])) := Lib.hid (fun i u hi => by rw [Nat.zero_add, (Blk.new w2 #[Value.int .i32 (k)] 21).cell i]; simpa [I32s] using hi)
    go_wp2_with (at_builtin; go_loud (refine wpList_append_capped rfl _ _ 57 rfl 21 i0 (.int .i32 0) 1 4 Try.underlying57 hi0 hz0 hz1 hz2 rfl (by decide) (OwnTQ Q db vb (ov).ownBlock) (fun j hj => Nat.lt_of_lt_of_le (HSN2.out j hj) HW3.out.size) r (I32s O) _ pb poff rfl (by rw [I32s_len, HR.out] <;> omega) (Or.inl rfl) (HC.out.kept HW3.out (fun _ h => h)) (fun h => ⟨(HPB.out h).1, Nat.lt_of_lt_of_le (HPB.out h).2 HW3.out.size⟩) w2.heap.size 0 _ 1 1 (I32s [k]) rfl rfl (fun _ => rfl) HN3.out nofun (I32s_one _) (by simp [maxLen] <;> omega) (by omega) ?_))
    intro v9 w4 hR9 ho9
    have hMX := HM2.out.quiet HW3.out
    have hB4 := hMX.blk.kept ho9 (fun h => h)
    have g2 := hB4.free 2
    have g5 := hB4.free 5
    have k2 : w4.cell? ⟨db, 2, none⟩ = some _ := hB4.cell 2
    have k5 : w4.cell? ⟨db, 5, none⟩ = some _ := hB4.cell 5
    have glt := hB4.lt
    have hR9 : RdRow (OwnTQ Q db vb (ov).ownBlock) w4 v9 (O ++ [k]).length (I32s (O ++ [k])) := by rw [I32s_append, List.length_append, HR.out]; exact hR9
    obtain ⟨n9, hn9⟩ : ∃ n, (O ++ [k]).length = n := ⟨_, rfl⟩
    rw [hn9] at hR9
    obtain ⟨a9, c9, rfl⟩ := rd_shape hR9
    have HE := Lib.hid (tdo_end (TGone.of_nil (HO2.out.trans HW3.out (fun _ _ h => h))) hMX (O ++ [k]) _ (by rw [hn9]; exact hR9) ho9 (p + 1))
    clear hMX hB4 hR9 ho9 hn9
    go_wp2_with fail
    go_ret
    (try simp only [List.append_nil])
    exact ⟨_, _, _, _, rfl, HE.out.1, HE.out.2⟩
  · obtain rfl : r = 0 := by omega
    go_enter Try.func35, Try.ntmps35
    go_wp2_with fail
    have hB1 := Blk.new w #[Value.int .i64 1, .int .i32 k] 55
    have ho1 : Only Nil w (w.alloc (.cells #[Value.int .i64 1, .int .i32 k] 55)) := (Only.refl _ _).alloc _
    obtain ⟨w1, hw1⟩ : ∃ w1, w.alloc (.cells #[Value.int .i64 1, .int .i32 k] 55) = w1 := ⟨_, rfl⟩
    obtain ⟨xb, hxb⟩ : ∃ xb, w.heap.size = xb := ⟨_, rfl⟩
    rw [hw1, hxb] at hB1
    rw [hw1] at ho1 ⊢
    rw [hxb]
    have hM1 := HM.out.quiet ho1
    have c2 : w1.cell? ⟨db, 2, none⟩ = some (.slice (none) 0 0) := hM1.blk.cell 2
    have c5 : w1.cell? ⟨db, 5, none⟩ = some (.int .i64 p) := hM1.blk.cell 5
    have x1 : w1.cell? ⟨xb, 1, none⟩ = some (.int .i32 k) := hB1.cell 1
    have hlt := hM1.blk.lt
    have hltx := hB1.lt
    have HM1 := Lib.hid hM1
    have HO1 := Lib.hid ho1
    have HB1 := Lib.hid hB1
    clear hw1 hxb hM1 ho1 hB1
    refine (cE _).mono ?_
    rintro e we ⟨rfl, rfl⟩
    clear cE
    go_wp2_with (at_builtin; go_loud (refine wpList_append_src rfl _ _ 57 rfl w1.heap.size 21 i0 (.int .i32 0) 4 Try.underlying57 hi0 hz0 hz1 hz2 rfl _ _ _ rfl (World.ownsRow_nil _ _ _ _) pb _ (I32s []) rfl (src_zero _ _ _ _ (fun _ => rfl)) (I32s_one _) (by simp [I32s, maxLen]) (by simp [I32s]) (Nat.le_refl _) ?_))
    intro v8 w2 hown8 hob8 ho8
    have ho2 : Only Nil w1 w2 := ho8.mono (fun _ h => by cases h)
    obtain ⟨a8, cap8, rfl⟩ := sl_of_own hown8
    have hM2 := HM1.out.quiet ho2
    have d1 : w2.cell? ⟨db, 1, none⟩ = some (.slice (some ⟨vb, 0, none⟩) m.length m.length) := hM2.blk.cell 1
    have d2 : w2.cell? ⟨db, 2, none⟩ = some (.slice (none) 0 0) := ho2.cell c2 (fun h => h)
    have d3 : w2.cell? ⟨db, 3, none⟩ = some (.int .i64 (f : Nat)) := hM2.blk.cell 3
    have d4 : w2.cell? ⟨db, 4, none⟩ = some (.int .i64 (t : Nat)) := hM2.blk.cell 4
    have d5 : w2.cell? ⟨db, 5, none⟩ = some (.int .i64 p) := hM2.blk.cell 5
    have d6 : w2.cell? ⟨db, 6, none⟩ = some kv := hM2.blk.cell 6
    have d7 : w2.cell? ⟨db, 7, none⟩ = some iv := hM2.blk.cell 7
    have d8 : w2.cell? ⟨db, 8, none⟩ = some ov := hM2.blk.cell 8
    have z0 : w2.cell? ⟨xb, 0, none⟩ = some (.int .i64 1) := (HB1.out.kept ho2 (fun h => h)).cell 0
    have z1 : w2.cell? ⟨xb, 1, none⟩ = some (.int .i32 k) := (HB1.out.kept ho2 (fun h => h)).cell 1
    have hlt2 := hM2.blk.lt
    have hltx2 := (HB1.out.kept ho2 (fun h => h)).lt
    have HM2 := Lib.hid hM2
    have HO2 := Lib.hid (HO1.out.trans ho2 (fun _ _ h => h))
    have hp6 := HP6.out.kept HO2.out (fun _ h => h)
    have HC := Lib.hid (hp6)
    have HPB : Hid (0 < 0 → ¬ OwnTQ Q db vb ov.ownBlock pb ∧ pb < w2.heap.size) := Lib.hid (fun h => ⟨(HP7.out (by omega)).1, Nat.lt_of_lt_of_le (HP7.out (by omega)).2 HO2.out.size⟩)
    have HSN2 : Hid (∀ j, OwnTQ Q db vb ov.ownBlock j → j < w2.heap.size) := Lib.hid (fun j hj => Nat.lt_of_lt_of_le (HSN.out j hj) HO2.out.size)
    clear c2 c5 x1 hlt hltx ho8 hown8 hob8 ho2 hM2 hp6
    have HW3 : Hid (Only Nil w2 (w2.alloc (.cells #[Value.int .i32 (k)] 21))) := Lib.hid (Only.alloc (Only.refl _ _) _)
    have HN3 : Hid (CellsAt (w2.alloc (.cells #[Value.int .i32 (k)] 21)) w2.heap.size 0 (I32s [k])) := Lib.hid (fun i u hi => by rw [Nat.zero_add, (Blk.new w2 #[Value.int .i32 (k)] 21).cell i]; simpa [I32s] using hi)
    go_wp2_with (at_builtin; go_loud (refine wpList_append_capped rfl _ _ 57 rfl 21 i0 (.int .i32 0) 1 4 Try.underlying57 hi0 hz0 hz1 hz2 rfl (by decide) (OwnTQ Q db vb (ov).ownBlock) (fun j hj => Nat.lt_of_lt_of_le (HSN2.out j hj) HW3.out.size) 0 (I32s O) _ pb poff rfl (by rw [I32s_len, HR.out] <;> omega) (Or.inr ⟨rfl, rfl⟩) (HC.out.kept HW3.out (fun _ h => h)) (fun h => ⟨(HPB.out h).1, Nat.lt_of_lt_of_le (HPB.out h).2 HW3.out.size⟩) w2.heap.size 0 _ 1 1 (I32s [k]) rfl rfl (fun _ => rfl) HN3.out nofun (I32s_one _) (by simp [maxLen] <;> omega) (by omega) ?_))
    intro v9 w4 hR9 ho9
    have hMX := HM2.out.quiet HW3.out
    have hB4 := hMX.blk.kept ho9 (fun h => h)
    have g2 := hB4.free 2
    have g5 := hB4.free 5
    have k2 : w4.cell? ⟨db, 2, none⟩ = some _ := hB4.cell 2
    have k5 : w4.cell? ⟨db, 5, none⟩ = some _ := hB4.cell 5
    have glt := hB4.lt
    have hR9 : RdRow (OwnTQ Q db vb (ov).ownBlock) w4 v9 (O ++ [k]).length (I32s (O ++ [k])) := by rw [I32s_append, List.length_append, HR.out]; exact hR9
    obtain ⟨n9, hn9⟩ : ∃ n, (O ++ [k]).length = n := ⟨_, rfl⟩
    rw [hn9] at hR9
    obtain ⟨a9, c9, rfl⟩ := rd_shape hR9
    have HE := Lib.hid (tdo_end (TGone.of_nil (HO2.out.trans HW3.out (fun _ _ h => h))) hMX (O ++ [k]) _ (by rw [hn9]; exact hR9) ho9 (p + 1))
    clear hMX hB4 hR9 ho9 hn9
    go_wp2_with fail
    go_ret
    (try simp only [List.append_nil])
    exact ⟨_, _, _, _, rfl, HE.out.1, HE.out.2⟩


set_option maxRecDepth 10000 in
set_option maxHeartbeats 3200000 in
theorem tdo_25 (db vb : Nat) (k : Int) (hk : I32 k) (code : List Cod) (s : SS) (lv pv kv iv ov : Value) (w : World) (hQ : ∀ j, Q j → j < w.heap.size) (hM : TAt Q w db vb code s lv pv kv iv ov) (hs : s.Ok) (hol : s.out.length ≤ 1099511627776) (hA : 0 ≤ s.ops.length) (hB : s.ops.length - 0 + 0 ≤ 1000) :
    Calls Try.prog 35 #[.pointer (some ⟨db, 0, none⟩), .agg #[.int .i64 25, .int .i32 k]] w (TDoes Q w db vb code s lv ov (sExec s ⟨25, k⟩)) := by
  have cE := fun w => effectR_any 25 (by decide) (by decide) w
  rw [show ((takesV 25 : Nat) : Int) = 0 from rfl, show ((leavesV 25 : Nat) : Int) = 0 from rfl] at cE
  obtain ⟨i0, hi0, hz0, hz1, hz2⟩ := info_parts Try.info21
  have hSn0 := hM.hSn hQ
  have hnops := hs.nops
  obtain ⟨m, O, c, i, o, f, t, p, fin, trap⟩ := s
  simp only at hA hB hnops
  obtain ⟨T, hT⟩ : ∃ T, O = T := ⟨_, rfl⟩
  subst hT
  obtain ⟨r, hr⟩ : ∃ r, O.length = r := ⟨_, rfl⟩
  have hrow := hM.ops
  simp only at hrow
  rw [hr] at hrow hA hB hnops
  obtain ⟨pb, pao, pcap, poff, rfl, p2, p3, p4, p6, p7⟩ := hrow
  have l1 : decide ((r : Int) < 0) = false := by simp
  have l2 : r ≤ 1000 := by omega
  have l3 : decide ((1000 : Int) < (r : Int) + 0) = false := by simp; omega
  have l4 : decide ((1000 : Int) < (r : Int)) = false := by simp; omega
  have l5 : decide (1000 < r) = false := by simp; omega
  have q3 : (r : Int) ≤ (pcap : Int) := by omega
  have q4 : (r : Int) ≤ (pcap : Int) := by omega
  have q0 : (0 : Int) ≤ (r : Int) := Int.natCast_nonneg _
  unfold maxLen at p3
  have wk : IntKind.i64.wrap k = k := by unfold I32 at hk; rw [IntKind.wrap_i64]; omega
  have wp : IntKind.i64.wrap (p + 1) = p + 1 := by have h1 := hs.pc1; have h2 := hs.pc2; simp only at h1 h2; rw [IntKind.wrap_i64]; omega
  have HM := Lib.hid hM
  have HSN := Lib.hid hSn0
  have HS := Lib.hid hs
  have HQ := Lib.hid hQ
  have HK := Lib.hid hk
  have HR := Lib.hid hr
  have HP6 := Lib.hid p6
  have HP7 := Lib.hid p7
  have HOL := Lib.hid hol
  clear hM hs hk hQ hSn0 hr p6 p7 hol hA hB hnops
  rcases p4 with rfl | ⟨rfl, rfl⟩
  · obtain ⟨ap, hap⟩ : ∃ ap, (if pcap = r then some (⟨pb, poff, none⟩ : Addr) else some ⟨pb, poff + r, none⟩) = ap := ⟨_, rfl⟩
    have hapn : ap ≠ none := by intro h; rw [h] at hap; split at hap <;> cases hap
    have HAP := Lib.hid hapn
    clear hapn
    go_enter Try.func35, Try.ntmps35
    go_wp2_with fail
    have hB1 := Blk.new w #[Value.int .i64 25, .int .i32 k] 55
    have ho1 : Only Nil w (w.alloc (.cells #[Value.int .i64 25, .int .i32 k] 55)) := (Only.refl _ _).alloc _
    obtain ⟨w1, hw1⟩ : ∃ w1, w.alloc (.cells #[Value.int .i64 25, .int .i32 k] 55) = w1 := ⟨_, rfl⟩
    obtain ⟨xb, hxb⟩ : ∃ xb, w.heap.size = xb := ⟨_, rfl⟩
    rw [hw1, hxb] at hB1
    rw [hw1] at ho1 ⊢
    rw [hxb]
    have hM1 := HM.out.quiet ho1
    have c2 : w1.cell? ⟨db, 2, none⟩ = some (.slice (some ⟨pb, poff, none⟩) r pcap) := hM1.blk.cell 2
    have c5 : w1.cell? ⟨db, 5, none⟩ = some (.int .i64 p) := hM1.blk.cell 5
    have x1 : w1.cell? ⟨xb, 1, none⟩ = some (.int .i32 k) := hB1.cell 1
    have hlt := hM1.blk.lt
    have hltx := hB1.lt
    have HM1 := Lib.hid hM1
    have HO1 := Lib.hid ho1
    have HB1 := Lib.hid hB1
    clear hw1 hxb hM1 ho1 hB1
    refine (cE _).mono ?_
    rintro e we ⟨rfl, rfl⟩
    clear cE
    go_wp2_with (at_builtin; go_loud (refine wpList_append_src rfl _ _ 57 rfl w1.heap.size 21 i0 (.int .i32 0) 4 Try.underlying57 hi0 hz0 hz1 hz2 rfl _ _ _ rfl (World.ownsRow_nil _ _ _ _) pb _ (I32s []) rfl (src_zero _ _ _ _ (fun h => absurd h HAP.out)) (I32s_one _) (by simp [I32s, maxLen]) (by simp [I32s]) (Nat.le_refl _) ?_))
    intro v8 w2 hown8 hob8 ho8
    have ho2 : Only Nil w1 w2 := ho8.mono (fun _ h => by cases h)
    obtain ⟨a8, cap8, rfl⟩ := sl_of_own hown8
    have hM2 := HM1.out.quiet ho2
    have d1 : w2.cell? ⟨db, 1, none⟩ = some (.slice (some ⟨vb, 0, none⟩) m.length m.length) := hM2.blk.cell 1
    have d2 : w2.cell? ⟨db, 2, none⟩ = some (.slice (some ⟨pb, poff, none⟩) r pcap) := ho2.cell c2 (fun h => h)
    have d3 : w2.cell? ⟨db, 3, none⟩ = some (.int .i64 (f : Nat)) := hM2.blk.cell 3
    have d4 : w2.cell? ⟨db, 4, none⟩ = some (.int .i64 (t : Nat)) := hM2.blk.cell 4
    have d5 : w2.cell? ⟨db, 5, none⟩ = some (.int .i64 p) := hM2.blk.cell 5
    have d6 : w2.cell? ⟨db, 6, none⟩ = some kv := hM2.blk.cell 6
    have d7 : w2.cell? ⟨db, 7, none⟩ = some iv := hM2.blk.cell 7
    have d8 : w2.cell? ⟨db, 8, none⟩ = some ov := hM2.blk.cell 8
    have z0 : w2.cell? ⟨xb, 0, none⟩ = some (.int .i64 25) := (HB1.out.kept ho2 (fun h => h)).cell 0
    have z1 : w2.cell? ⟨xb, 1, none⟩ = some (.int .i32 k) := (HB1.out.kept ho2 (fun h => h)).cell 1
    have hlt2 := hM2.blk.lt
    have hltx2 := (HB1.out.kept ho2 (fun h => h)).lt
    have HM2 := Lib.hid hM2
    have HO2 := Lib.hid (HO1.out.trans ho2 (fun _ _ h => h))
    have hp6 := HP6.out.kept HO2.out (fun _ h => h)
    have HC := Lib.hid (hp6)
    have HPB : Hid (0 < r → ¬ OwnTQ Q db vb ov.ownBlock pb ∧ pb < w2.heap.size) := Lib.hid (fun h => ⟨(HP7.out (by omega)).1, Nat.lt_of_lt_of_le (HP7.out (by omega)).2 HO2.out.size⟩)
    have HSN2 : Hid (∀ j, OwnTQ Q db vb ov.ownBlock j → j < w2.heap.size) := Lib.hid (fun j hj => Nat.lt_of_lt_of_le (HSN.out j hj) HO2.out.size)
    clear c2 c5 x1 hlt hltx ho8 hown8 hob8 ho2 hM2 hp6
    have hx : sExec ⟨m, O, c, i, o, f, t, p, fin, trap⟩ ⟨25, k⟩ = some ⟨m, O, c, i, o, f, t, k, fin, trap⟩ := by kernel_rfl
    rw [hx]
    clear hx
    have HW3 : Hid (Only Nil w2 w2) := Lib.hid (Only.refl _ _)
    go_wp2_with (at_builtin; go_loud (refine wpList_append_capped rfl _ _ 57 rfl 21 i0 (.int .i32 0) 1 4 Try.underlying57 hi0 hz0 hz1 hz2 rfl (by decide) (OwnTQ Q db vb (ov).ownBlock) (fun j hj => Nat.lt_of_lt_of_le (HSN2.out j hj) HW3.out.size) r (I32s O) _ pb poff rfl (by rw [I32s_len, HR.out] <;> omega) (Or.inl rfl) (HC.out.kept HW3.out (fun _ h => h)) (fun h => ⟨(HPB.out h).1, Nat.lt_of_lt_of_le (HPB.out h).2 HW3.out.size⟩) 0 0 _ 0 0 (I32s []) rfl rfl (fun h => absurd h (Nat.lt_irrefl 0)) (fun i u hi => by simp [I32s] at hi) (fun _ => rfl) (I32s_one _) (by simp [maxLen] <;> omega) (by omega) ?_))
    intro v9 w4 hR9 ho9
    have hMX := HM2.out.quiet HW3.out
    have hB4 := hMX.blk.kept ho9 (fun h => h)
    have g2 := hB4.free 2
    have g5 := hB4.free 5
    have k2 : w4.cell? ⟨db, 2, none⟩ = some _ := hB4.cell 2
    have k5 : w4.cell? ⟨db, 5, none⟩ = some _ := hB4.cell 5
    have glt := hB4.lt
    have hR9 : RdRow (OwnTQ Q db vb (ov).ownBlock) w4 v9 (O).length (I32s (O)) := by have h := hR9; rw [show I32s ([] : List Int) = [] from rfl, List.append_nil] at h; rw [HR.out]; exact h
    obtain ⟨n9, hn9⟩ : ∃ n, (O).length = n := ⟨_, rfl⟩
    rw [hn9] at hR9
    obtain ⟨a9, c9, rfl⟩ := rd_shape hR9
    have HE := Lib.hid (tdo_end (TGone.of_nil (HO2.out.trans HW3.out (fun _ _ h => h))) hMX (O) _ (by rw [hn9]; exact hR9) ho9 (k))
    clear hMX hB4 hR9 ho9 hn9
    go_wp2_with fail
    go_ret
    (try simp only [List.append_nil])
    exact ⟨_, _, _, _, rfl, HE.out.1, HE.out.2⟩
  · obtain rfl : r = 0 := by omega
    go_enter Try.func35, Try.ntmps35
    go_wp2_with fail
    have hB1 := Blk.new w #[Value.int .i64 25, .int .i32 k] 55
    have ho1 : Only Nil w (w.alloc (.cells #[Value.int .i64 25, .int .i32 k] 55)) := (Only.refl _ _).alloc _
    obtain ⟨w1, hw1⟩ : ∃ w1, w.alloc (.cells #[Value.int .i64 25, .int .i32 k] 55) = w1 := ⟨_, rfl⟩
    obtain ⟨xb, hxb⟩ : ∃ xb, w.heap.size = xb := ⟨_, rfl⟩
    rw [hw1, hxb] at hB1
    rw [hw1] at ho1 ⊢
    rw [hxb]
    have hM1 := HM.out.quiet ho1
    have c2 : w1.cell? ⟨db, 2, none⟩ = some (.slice (none) 0 0) := hM1.blk.cell 2
    have c5 : w1.cell? ⟨db, 5, none⟩ = some (.int .i64 p) := hM1.blk.cell 5
    have x1 : w1.cell? ⟨xb, 1, none⟩ = some (.int .i32 k) := hB1.cell 1
    have hlt := hM1.blk.lt
    have hltx := hB1.lt
    have HM1 := Lib.hid hM1
    have HO1 := Lib.hid ho1
    have HB1 := Lib.hid hB1
    clear hw1 hxb hM1 ho1 hB1
    refine (cE _).mono ?_
    rintro e we ⟨rfl, rfl⟩
    clear cE
    go_wp2_with (at_builtin; go_loud (refine wpList_append_src rfl _ _ 57 rfl w1.heap.size 21 i0 (.int .i32 0) 4 Try.underlying57 hi0 hz0 hz1 hz2 rfl _ _ _ rfl (World.ownsRow_nil _ _ _ _) pb _ (I32s []) rfl (src_zero _ _ _ _ (fun _ => rfl)) (I32s_one _) (by simp [I32s, maxLen]) (by simp [I32s]) (Nat.le_refl _) ?_))
    intro v8 w2 hown8 hob8 ho8
    have ho2 : Only Nil w1 w2 := ho8.mono (fun _ h => by cases h)
    obtain ⟨a8, cap8, rfl⟩ := sl_of_own hown8
    have hM2 := HM1.out.quiet ho2
    have d1 : w2.cell? ⟨db, 1, none⟩ = some (.slice (some ⟨vb, 0, none⟩) m.length m.length) := hM2.blk.cell 1
    have d2 : w2.cell? ⟨db, 2, none⟩ = some (.slice (none) 0 0) := ho2.cell c2 (fun h => h)
    have d3 : w2.cell? ⟨db, 3, none⟩ = some (.int .i64 (f : Nat)) := hM2.blk.cell 3
    have d4 : w2.cell? ⟨db, 4, none⟩ = some (.int .i64 (t : Nat)) := hM2.blk.cell 4
    have d5 : w2.cell? ⟨db, 5, none⟩ = some (.int .i64 p) := hM2.blk.cell 5
    have d6 : w2.cell? ⟨db, 6, none⟩ = some kv := hM2.blk.cell 6
    have d7 : w2.cell? ⟨db, 7, none⟩ = some iv := hM2.blk.cell 7
    have d8 : w2.cell? ⟨db, 8, none⟩ = some ov := hM2.blk.cell 8
    have z0 : w2.cell? ⟨xb, 0, none⟩ = some (.int .i64 25) := (HB1.out.kept ho2 (fun h => h)).cell 0
    have z1 : w2.cell? ⟨xb, 1, none⟩ = some (.int .i32 k) := (HB1.out.kept ho2 (fun h => h)).cell 1
    have hlt2 := hM2.blk.lt
    have hltx2 := (HB1.out.kept ho2 (fun h => h)).lt
    have HM2 := Lib.hid hM2
    have HO2 := Lib.hid (HO1.out.trans ho2 (fun _ _ h => h))
    have hp6 := HP6.out.kept HO2.out (fun _ h => h)
    have HC := Lib.hid (hp6)
    have HPB : Hid (0 < 0 → ¬ OwnTQ Q db vb ov.ownBlock pb ∧ pb < w2.heap.size) := Lib.hid (fun h => ⟨(HP7.out (by omega)).1, Nat.lt_of_lt_of_le (HP7.out (by omega)).2 HO2.out.size⟩)
    have HSN2 : Hid (∀ j, OwnTQ Q db vb ov.ownBlock j → j < w2.heap.size) := Lib.hid (fun j hj => Nat.lt_of_lt_of_le (HSN.out j hj) HO2.out.size)
    clear c2 c5 x1 hlt hltx ho8 hown8 hob8 ho2 hM2 hp6
    have hx : sExec ⟨m, O, c, i, o, f, t, p, fin, trap⟩ ⟨25, k⟩ = some ⟨m, O, c, i, o, f, t, k, fin, trap⟩ := by kernel_rfl
    rw [hx]
    clear hx
    have HW3 : Hid (Only Nil w2 w2) := Lib.hid (Only.refl _ _)
    go_wp2_with (at_builtin; go_loud (refine wpList_append_capped rfl _ _ 57 rfl 21 i0 (.int .i32 0) 1 4 Try.underlying57 hi0 hz0 hz1 hz2 rfl (by decide) (OwnTQ Q db vb (ov).ownBlock) (fun j hj => Nat.lt_of_lt_of_le (HSN2.out j hj) HW3.out.size) 0 (I32s O) _ pb poff rfl (by rw [I32s_len, HR.out] <;> omega) (Or.inr ⟨rfl, rfl⟩) (HC.out.kept HW3.out (fun _ h => h)) (fun h => ⟨(HPB.out h).1, Nat.lt_of_lt_of_le (HPB.out h).2 HW3.out.size⟩) 0 0 _ 0 0 (I32s []) rfl rfl (fun h => absurd h (Nat.lt_irrefl 0)) (fun i u hi => by simp [I32s] at hi) (fun _ => rfl) (I32s_one _) (by simp [maxLen] <;> omega) (by omega) ?_))
    intro v9 w4 hR9 ho9
    have hMX := HM2.out.quiet HW3.out
    have hB4 := hMX.blk.kept ho9 (fun h => h)
    have g2 := hB4.free 2
    have g5 := hB4.free 5
    have k2 : w4.cell? ⟨db, 2, none⟩ = some _ := hB4.cell 2
    have k5 : w4.cell? ⟨db, 5, none⟩ = some _ := hB4.cell 5
    have glt := hB4.lt
    have hR9 : RdRow (OwnTQ Q db vb (ov).ownBlock) w4 v9 (O).length (I32s (O)) := by have h := hR9; rw [show I32s ([] : List Int) = [] from rfl, List.append_nil] at h; rw [HR.out]; exact h
    obtain ⟨n9, hn9⟩ : ∃ n, (O).length = n := ⟨_, rfl⟩
    rw [hn9] at hR9
    obtain ⟨a9, c9, rfl⟩ := rd_shape hR9
    have HE := Lib.hid (tdo_end (TGone.of_nil (HO2.out.trans HW3.out (fun _ _ h => h))) hMX (O) _ (by rw [hn9]; exact hR9) ho9 (k))
    clear hMX hB4 hR9 ho9 hn9
    go_wp2_with fail
    go_ret
    (try simp only [List.append_nil])
    exact ⟨_, _, _, _, rfl, HE.out.1, HE.out.2⟩

end Go.Proofs.Ytpnhjjihdcopnaa
