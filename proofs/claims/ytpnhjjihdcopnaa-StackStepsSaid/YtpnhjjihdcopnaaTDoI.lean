/- The document's stack machine does one instruction. -/
import Derived.Test.YtpnhjjihdcopnaaTDoB
set_option linter.unusedSimpArgs false
set_option linter.unusedVariables false
namespace Go.Proofs.Ytpnhjjihdcopnaa
open Go.RowKit M
variable {Q : Nat → Prop}


set_option maxRecDepth 10000 in
set_option maxHeartbeats 3200000 in
theorem tdo_10 (db vb : Nat) (k : Int) (hk : I32 k) (code : List Cod) (s : SS) (lv pv kv iv ov : Value) (w : World) (hQ : ∀ j, Q j → j < w.heap.size) (hM : TAt Q w db vb code s lv pv kv iv ov) (hs : s.Ok) (hol : s.out.length ≤ 1099511627776) (hA : 2 ≤ s.ops.length) (hB : s.ops.length - 2 + 1 ≤ 1000) :
    Calls Try.prog 35 #[.pointer (some ⟨db, 0, none⟩), .agg #[.int .i64 10, .int .i32 k]] w (TDoes Q w db vb code s lv ov (sExec s ⟨10, k⟩)) := by
  have cE := fun w => effectR_any 10 (by decide) (by decide) w
  rw [show ((takesV 10 : Nat) : Int) = 2 from rfl, show ((leavesV 10 : Nat) : Int) = 1 from rfl] at cE
  obtain ⟨i0, hi0, hz0, hz1, hz2⟩ := info_parts Try.info21
  have hSn0 := hM.hSn hQ
  have hnops := hs.nops
  obtain ⟨m, O, c, i, o, f, t, p, fin, trap⟩ := s
  simp only at hA hB hnops
  obtain ⟨T, a, b, rfl⟩ := snoc_two hA
  have ha : I32 a := hs.ops a (by simp)
  have hb : I32 b := hs.ops b (by simp)
  have hn : (T ++ [a, b]).length = T.length + 2 := by simp
  rw [hn] at hA hB hnops
  obtain ⟨r, hr⟩ : ∃ r, T.length = r := ⟨_, rfl⟩
  obtain ⟨n, hnr⟩ : ∃ n, r + 2 = n := ⟨_, rfl⟩
  obtain ⟨X, hX⟩ : ∃ X, sExec ⟨m, T ++ [a, b], c, i, o, f, t, p, fin, trap⟩ ⟨10, k⟩ = X := ⟨_, rfl⟩
  rw [hX]
  rw [x_two k (by decide) (by decide) (by decide) (by decide) (by omega)] at hX
  have HX := Lib.hid hX
  clear hX
  have hrow := hM.ops
  simp only at hrow
  rw [hn, hr, hnr] at hrow
  rw [hr] at hA hB hnops
  obtain ⟨pb, pao, pcap, poff, rfl, p2, p3, p4, p6, p7⟩ := hrow
  have p4 : pao = some ⟨pb, poff, none⟩ := by
    rcases p4 with h | ⟨_, h⟩
    · exact h
    · omega
  subst p4
  have e1 : (n : Int) - 2 = (r : Int) := by omega
  have l1 : decide ((n : Int) < 2) = false := by simp; omega
  have l2 : n ≤ 1000 := by omega
  have hpc : (pcap = r) = False := eq_false (by omega)
  have hrn : r ≤ n := by omega
  have l3 : decide ((1000 : Int) < (r : Int) + 1) = false := by simp; omega
  have l4 : decide ((1000 : Int) < (r : Int)) = false := by simp; omega
  have l5 : decide (1000 < r) = false := by simp; omega
  have q3 : (n : Int) ≤ (pcap : Int) := by omega
  have q4 : (r : Int) ≤ (pcap : Int) := by omega
  have q0 : (0 : Int) ≤ (r : Int) := Int.natCast_nonneg _
  unfold maxLen at p3
  have wk : IntKind.i64.wrap k = k := by unfold I32 at hk; rw [IntKind.wrap_i64]; omega
  have wp : IntKind.i64.wrap (p + 1) = p + 1 := by have h1 := hs.pc1; have h2 := hs.pc2; simp only at h1 h2; rw [IntKind.wrap_i64]; omega
  have HM := Lib.hid hM
  have HSN := Lib.hid hSn0
  have HS := Lib.hid hs
  have HQ := Lib.hid hQ
  have HK := Lib.hid hk
  have HR := Lib.hid hr
  have HP6 := Lib.hid p6
  have HP7 := Lib.hid p7
  have HOL := Lib.hid hol
  clear hM hs hk hQ hSn0 hr p6 p7 hol hA hB hnops hn
  have HNR := Lib.hid hnr
  clear hnr
  go_enter Try.func35, Try.ntmps35
  go_wp2_with fail
  have hB1 := Blk.new w #[Value.int .i64 10, .int .i32 k] 55
  have ho1 : Only Nil w (w.alloc (.cells #[Value.int .i64 10, .int .i32 k] 55)) := (Only.refl _ _).alloc _
  obtain ⟨w1, hw1⟩ : ∃ w1, w.alloc (.cells #[Value.int .i64 10, .int .i32 k] 55) = w1 := ⟨_, rfl⟩
  obtain ⟨xb, hxb⟩ : ∃ xb, w.heap.size = xb := ⟨_, rfl⟩
  rw [hw1, hxb] at hB1
  rw [hw1] at ho1 ⊢
  rw [hxb]
  have hM1 := HM.out.quiet ho1
  have c2 : w1.cell? ⟨db, 2, none⟩ = some (.slice (some ⟨pb, poff, none⟩) n pcap) := hM1.blk.cell 2
  have c5 : w1.cell? ⟨db, 5, none⟩ = some (.int .i64 p) := hM1.blk.cell 5
  have x1 : w1.cell? ⟨xb, 1, none⟩ = some (.int .i32 k) := hB1.cell 1
  have hlt := hM1.blk.lt
  have hltx := hB1.lt
  have hsrc : Src w1 pb (.slice (some ⟨pb, poff + r, none⟩) (n - r) (pcap - r)) (I32s [a, b]) := ⟨_, pcap - r, poff + r, by rw [I32s_len]; congr 1; have := HNR.out; simp; omega, fun _ => rfl, nofun, (cells_suffix HP6.out HR.out).kept ho1 (fun _ h => h)⟩
  have HM1 := Lib.hid hM1
  have HO1 := Lib.hid ho1
  have HB1 := Lib.hid hB1
  clear hw1 hxb hM1 ho1 hB1
  refine (cE _).mono ?_
  rintro e we ⟨rfl, rfl⟩
  clear cE
  go_wp2_with (at_builtin; go_loud (refine wpList_append_src rfl _ _ 57 rfl w1.heap.size 21 i0 (.int .i32 0) 4 Try.underlying57 hi0 hz0 hz1 hz2 rfl _ _ _ rfl (World.ownsRow_nil _ _ _ _) pb (.slice (some ⟨pb, poff + r, none⟩) (n - r) (pcap - r)) (I32s [a, b]) rfl hsrc (I32s_one _) (by simp [I32s, maxLen]) (by simp [I32s]) (Nat.le_refl _) ?_))
  intro v8 w2 hown8 hob8 ho8
  have ho2 : Only Nil w1 w2 := ho8.mono (fun _ h => by cases h)
  have hown9 : w2.ownsRow w1.heap.size 21 1 v8 2 (I32s [a, b]) := by simpa [I32s] using hown8
  obtain ⟨g8, cap8, rfl, hg8, hgl8, hc8⟩ := own_one hown9 (by decide)
  have y0 : w2.cell? ⟨g8, 0, none⟩ = some (.int .i32 a) := hc8 0 _ rfl
  have y1 : w2.cell? ⟨g8, 1, none⟩ = some (.int .i32 b) := hc8 1 _ rfl
  have hM2 := HM1.out.quiet ho2
  have d1 : w2.cell? ⟨db, 1, none⟩ = some (.slice (some ⟨vb, 0, none⟩) m.length m.length) := hM2.blk.cell 1
  have d2 : w2.cell? ⟨db, 2, none⟩ = some (.slice (some ⟨pb, poff, none⟩) n pcap) := ho2.cell c2 (fun h => h)
  have d3 : w2.cell? ⟨db, 3, none⟩ = some (.int .i64 (f : Nat)) := hM2.blk.cell 3
  have d4 : w2.cell? ⟨db, 4, none⟩ = some (.int .i64 (t : Nat)) := hM2.blk.cell 4
  have d5 : w2.cell? ⟨db, 5, none⟩ = some (.int .i64 p) := hM2.blk.cell 5
  have d6 : w2.cell? ⟨db, 6, none⟩ = some kv := hM2.blk.cell 6
  have d7 : w2.cell? ⟨db, 7, none⟩ = some iv := hM2.blk.cell 7
  have d8 : w2.cell? ⟨db, 8, none⟩ = some ov := hM2.blk.cell 8
  have z0 : w2.cell? ⟨xb, 0, none⟩ = some (.int .i64 10) := (HB1.out.kept ho2 (fun h => h)).cell 0
  have z1 : w2.cell? ⟨xb, 1, none⟩ = some (.int .i32 k) := (HB1.out.kept ho2 (fun h => h)).cell 1
  have hlt2 := hM2.blk.lt
  have hltx2 := (HB1.out.kept ho2 (fun h => h)).lt
  have HM2 := Lib.hid hM2
  have HO2 := Lib.hid (HO1.out.trans ho2 (fun _ _ h => h))
  have hp6 := HP6.out.kept HO2.out (fun _ h => h)
  have HC := Lib.hid (cells_prefix hp6)
  have HPB : Hid (0 < r → ¬ OwnTQ Q db vb ov.ownBlock pb ∧ pb < w2.heap.size) := Lib.hid (fun h => ⟨(HP7.out (by have := HNR.out; omega)).1, Nat.lt_of_lt_of_le (HP7.out (by have := HNR.out; omega)).2 HO2.out.size⟩)
  have HSN2 : Hid (∀ j, OwnTQ Q db vb ov.ownBlock j → j < w2.heap.size) := Lib.hid (fun j hj => Nat.lt_of_lt_of_le (HSN.out j hj) HO2.out.size)
  clear c2 c5 x1 hlt hltx ho8 hown8 hob8 ho2 hM2 hp6 hsrc hc8 hown9
  have cT := fun w => two5_any 10 a b ha hb (by decide) (by decide) (by decide) (by decide) w
  obtain ⟨R, hR⟩ : ∃ R, reck 10 a b = R := ⟨_, rfl⟩
  have hx := HX.out
  simp only [hR] at cT hx
  clear hR HX
  have g80 : (0 : Int) < (2 : Nat) := by decide
  cases R with
  | none =>
    simp only [Option.map_none] at hx
    subst hx
    go_wp2_with fail
    have cT2 : ∀ w, Calls Try.prog 52 #[.int .i64 10, .int .i32 a, .int .i32 b] w (fun e w' => e = .returned (.tuple #[.int .i32 0, .bool false]) ∧ w = w') := cT
    clear cT
    go_quiet ((go_at_call 52; exact Calls.quiet_of_same (flip_t (cT2 _))))
    go_wp2_with fail
    go_ret
    exact ⟨_, _, _, _, rfl, TGone.of_nil (HO2.out.trans (by (repeat with_reducible first | exact Only.refl _ _ | refine Only.alloc ?_ _ | refine M.Only.drewN ?_ _ | refine Only.drew ?_)) (fun _ _ h => h)), HM2.out.quiet (by (repeat with_reducible first | exact Only.refl _ _ | refine Only.alloc ?_ _ | refine M.Only.drewN ?_ _ | refine Only.drew ?_))⟩
  | some v =>
    simp only [Option.map_some] at hx
    subst hx
    go_wp2_with fail
    have cT2 : ∀ w, Calls Try.prog 52 #[.int .i64 10, .int .i32 a, .int .i32 b] w (fun e w' => e = .returned (.tuple #[.int .i32 v, .bool true]) ∧ w = w') := cT
    clear cT
    go_quiet ((go_at_call 52; exact Calls.quiet_of_same (flip_t (cT2 _))))
    have ho3 : Only Nil w2 (w2.drewN nq) := M.Only.drewN (Only.refl _ _) _
    obtain ⟨w3, hw3⟩ : ∃ w3, w2.drewN nq = w3 := ⟨_, rfl⟩
    rw [hw3] at ho3
    rw [hw3]
    clear hw3 cT2
    have HO3 := Lib.hid ho3
    have d1' := ho3.cell d1 (fun h => h)
    have d2' := ho3.cell d2 (fun h => h)
    have y0' := ho3.cell y0 (fun h => h)
    have y1' := ho3.cell y1 (fun h => h)
    have hlt2' := Nat.lt_of_lt_of_le hlt2 ho3.size
    have hltx2' := Nat.lt_of_lt_of_le hltx2 ho3.size
    have z0' := ho3.cell z0 (fun h => h)
    have z1' := ho3.cell z1 (fun h => h)
    clear d1 d2 y0 y1 hlt2 hltx2 z0 z1
    clear ho3
    have HW3 : Hid (Only Nil w2 (w3.alloc (.cells #[Value.int .i32 (v)] 21))) := Lib.hid ((Only.alloc HO3.out _))
    have HN3 : Hid (CellsAt (w3.alloc (.cells #[Value.int .i32 (v)] 21)) w3.heap.size 0 (I32s [v])) := Lib.hid (fun i u hi => by rw [Nat.zero_add, (Blk.new w3 #[Value.int .i32 (v)] 21).cell i]; simpa [I32s] using hi)
    go_wp2_with (at_builtin; go_loud (refine wpList_append_capped rfl _ _ 57 rfl 21 i0 (.int .i32 0) 1 4 Try.underlying57 hi0 hz0 hz1 hz2 rfl (by decide) (OwnTQ Q db vb (ov).ownBlock) (fun j hj => Nat.lt_of_lt_of_le (HSN2.out j hj) HW3.out.size) r (I32s T) _ pb poff rfl (by rw [I32s_len, HR.out] <;> omega) (Or.inl rfl) (HC.out.kept HW3.out (fun _ h => h)) (fun h => ⟨(HPB.out h).1, Nat.lt_of_lt_of_le (HPB.out h).2 HW3.out.size⟩) w3.heap.size 0 _ 1 1 (I32s [v]) rfl rfl (fun _ => rfl) HN3.out nofun (I32s_one _) (by simp [maxLen] <;> omega) (by omega) ?_))
    intro v9 w4 hR9 ho9
    have hMX := HM2.out.quiet HW3.out
    have hB4 := hMX.blk.kept ho9 (fun h => h)
    have g2 := hB4.free 2
    have g5 := hB4.free 5
    have k2 : w4.cell? ⟨db, 2, none⟩ = some _ := hB4.cell 2
    have k5 : w4.cell? ⟨db, 5, none⟩ = some _ := hB4.cell 5
    have glt := hB4.lt
    have hR9 : RdRow (OwnTQ Q db vb (ov).ownBlock) w4 v9 (T ++ [v]).length (I32s (T ++ [v])) := by rw [I32s_append, List.length_append, HR.out]; exact hR9
    obtain ⟨n9, hn9⟩ : ∃ n, (T ++ [v]).length = n := ⟨_, rfl⟩
    rw [hn9] at hR9
    obtain ⟨a9, c9, rfl⟩ := rd_shape hR9
    have HE := Lib.hid (tdo_end (TGone.of_nil (HO2.out.trans HW3.out (fun _ _ h => h))) hMX (T ++ [v]) _ (by rw [hn9]; exact hR9) ho9 (p + 1))
    clear hMX hB4 hR9 ho9 hn9
    go_wp2_with fail
    go_ret
    (try simp only [List.append_nil])
    exact ⟨_, _, _, _, rfl, HE.out.1, HE.out.2⟩


set_option maxRecDepth 10000 in
set_option maxHeartbeats 3200000 in
theorem tdo_11 (db vb : Nat) (k : Int) (hk : I32 k) (code : List Cod) (s : SS) (lv pv kv iv ov : Value) (w : World) (hQ : ∀ j, Q j → j < w.heap.size) (hM : TAt Q w db vb code s lv pv kv iv ov) (hs : s.Ok) (hol : s.out.length ≤ 1099511627776) (hA : 2 ≤ s.ops.length) (hB : s.ops.length - 2 + 1 ≤ 1000) :
    Calls Try.prog 35 #[.pointer (some ⟨db, 0, none⟩), .agg #[.int .i64 11, .int .i32 k]] w (TDoes Q w db vb code s lv ov (sExec s ⟨11, k⟩)) := by
  have cE := fun w => effectR_any 11 (by decide) (by decide) w
  rw [show ((takesV 11 : Nat) : Int) = 2 from rfl, show ((leavesV 11 : Nat) : Int) = 1 from rfl] at cE
  obtain ⟨i0, hi0, hz0, hz1, hz2⟩ := info_parts Try.info21
  have hSn0 := hM.hSn hQ
  have hnops := hs.nops
  obtain ⟨m, O, c, i, o, f, t, p, fin, trap⟩ := s
  simp only at hA hB hnops
  obtain ⟨T, a, b, rfl⟩ := snoc_two hA
  have ha : I32 a := hs.ops a (by simp)
  have hb : I32 b := hs.ops b (by simp)
  have hn : (T ++ [a, b]).length = T.length + 2 := by simp
  rw [hn] at hA hB hnops
  obtain ⟨r, hr⟩ : ∃ r, T.length = r := ⟨_, rfl⟩
  obtain ⟨n, hnr⟩ : ∃ n, r + 2 = n := ⟨_, rfl⟩
  obtain ⟨X, hX⟩ : ∃ X, sExec ⟨m, T ++ [a, b], c, i, o, f, t, p, fin, trap⟩ ⟨11, k⟩ = X := ⟨_, rfl⟩
  rw [hX]
  rw [x_two k (by decide) (by decide) (by decide) (by decide) (by omega)] at hX
  have HX := Lib.hid hX
  clear hX
  have hrow := hM.ops
  simp only at hrow
  rw [hn, hr, hnr] at hrow
  rw [hr] at hA hB hnops
  obtain ⟨pb, pao, pcap, poff, rfl, p2, p3, p4, p6, p7⟩ := hrow
  have p4 : pao = some ⟨pb, poff, none⟩ := by
    rcases p4 with h | ⟨_, h⟩
    · exact h
    · omega
  subst p4
  have e1 : (n : Int) - 2 = (r : Int) := by omega
  have l1 : decide ((n : Int) < 2) = false := by simp; omega
  have l2 : n ≤ 1000 := by omega
  have hpc : (pcap = r) = False := eq_false (by omega)
  have hrn : r ≤ n := by omega
  have l3 : decide ((1000 : Int) < (r : Int) + 1) = false := by simp; omega
  have l4 : decide ((1000 : Int) < (r : Int)) = false := by simp; omega
  have l5 : decide (1000 < r) = false := by simp; omega
  have q3 : (n : Int) ≤ (pcap : Int) := by omega
  have q4 : (r : Int) ≤ (pcap : Int) := by omega
  have q0 : (0 : Int) ≤ (r : Int) := Int.natCast_nonneg _
  unfold maxLen at p3
  have wk : IntKind.i64.wrap k = k := by unfold I32 at hk; rw [IntKind.wrap_i64]; omega
  have wp : IntKind.i64.wrap (p + 1) = p + 1 := by have h1 := hs.pc1; have h2 := hs.pc2; simp only at h1 h2; rw [IntKind.wrap_i64]; omega
  have HM := Lib.hid hM
  have HSN := Lib.hid hSn0
  have HS := Lib.hid hs
  have HQ := Lib.hid hQ
  have HK := Lib.hid hk
  have HR := Lib.hid hr
  have HP6 := Lib.hid p6
  have HP7 := Lib.hid p7
  have HOL := Lib.hid hol
  clear hM hs hk hQ hSn0 hr p6 p7 hol hA hB hnops hn
  have HNR := Lib.hid hnr
  clear hnr
  go_enter Try.func35, Try.ntmps35
  go_wp2_with fail
  have hB1 := Blk.new w #[Value.int .i64 11, .int .i32 k] 55
  have ho1 : Only Nil w (w.alloc (.cells #[Value.int .i64 11, .int .i32 k] 55)) := (Only.refl _ _).alloc _
  obtain ⟨w1, hw1⟩ : ∃ w1, w.alloc (.cells #[Value.int .i64 11, .int .i32 k] 55) = w1 := ⟨_, rfl⟩
  obtain ⟨xb, hxb⟩ : ∃ xb, w.heap.size = xb := ⟨_, rfl⟩
  rw [hw1, hxb] at hB1
  rw [hw1] at ho1 ⊢
  rw [hxb]
  have hM1 := HM.out.quiet ho1
  have c2 : w1.cell? ⟨db, 2, none⟩ = some (.slice (some ⟨pb, poff, none⟩) n pcap) := hM1.blk.cell 2
  have c5 : w1.cell? ⟨db, 5, none⟩ = some (.int .i64 p) := hM1.blk.cell 5
  have x1 : w1.cell? ⟨xb, 1, none⟩ = some (.int .i32 k) := hB1.cell 1
  have hlt := hM1.blk.lt
  have hltx := hB1.lt
  have hsrc : Src w1 pb (.slice (some ⟨pb, poff + r, none⟩) (n - r) (pcap - r)) (I32s [a, b]) := ⟨_, pcap - r, poff + r, by rw [I32s_len]; congr 1; have := HNR.out; simp; omega, fun _ => rfl, nofun, (cells_suffix HP6.out HR.out).kept ho1 (fun _ h => h)⟩
  have HM1 := Lib.hid hM1
  have HO1 := Lib.hid ho1
  have HB1 := Lib.hid hB1
  clear hw1 hxb hM1 ho1 hB1
  refine (cE _).mono ?_
  rintro e we ⟨rfl, rfl⟩
  clear cE
  go_wp2_with (at_builtin; go_loud (refine wpList_append_src rfl _ _ 57 rfl w1.heap.size 21 i0 (.int .i32 0) 4 Try.underlying57 hi0 hz0 hz1 hz2 rfl _ _ _ rfl (World.ownsRow_nil _ _ _ _) pb (.slice (some ⟨pb, poff + r, none⟩) (n - r) (pcap - r)) (I32s [a, b]) rfl hsrc (I32s_one _) (by simp [I32s, maxLen]) (by simp [I32s]) (Nat.le_refl _) ?_))
  intro v8 w2 hown8 hob8 ho8
  have ho2 : Only Nil w1 w2 := ho8.mono (fun _ h => by cases h)
  have hown9 : w2.ownsRow w1.heap.size 21 1 v8 2 (I32s [a, b]) := by simpa [I32s] using hown8
  obtain ⟨g8, cap8, rfl, hg8, hgl8, hc8⟩ := own_one hown9 (by decide)
  have y0 : w2.cell? ⟨g8, 0, none⟩ = some (.int .i32 a) := hc8 0 _ rfl
  have y1 : w2.cell? ⟨g8, 1, none⟩ = some (.int .i32 b) := hc8 1 _ rfl
  have hM2 := HM1.out.quiet ho2
  have d1 : w2.cell? ⟨db, 1, none⟩ = some (.slice (some ⟨vb, 0, none⟩) m.length m.length) := hM2.blk.cell 1
  have d2 : w2.cell? ⟨db, 2, none⟩ = some (.slice (some ⟨pb, poff, none⟩) n pcap) := ho2.cell c2 (fun h => h)
  have d3 : w2.cell? ⟨db, 3, none⟩ = some (.int .i64 (f : Nat)) := hM2.blk.cell 3
  have d4 : w2.cell? ⟨db, 4, none⟩ = some (.int .i64 (t : Nat)) := hM2.blk.cell 4
  have d5 : w2.cell? ⟨db, 5, none⟩ = some (.int .i64 p) := hM2.blk.cell 5
  have d6 : w2.cell? ⟨db, 6, none⟩ = some kv := hM2.blk.cell 6
  have d7 : w2.cell? ⟨db, 7, none⟩ = some iv := hM2.blk.cell 7
  have d8 : w2.cell? ⟨db, 8, none⟩ = some ov := hM2.blk.cell 8
  have z0 : w2.cell? ⟨xb, 0, none⟩ = some (.int .i64 11) := (HB1.out.kept ho2 (fun h => h)).cell 0
  have z1 : w2.cell? ⟨xb, 1, none⟩ = some (.int .i32 k) := (HB1.out.kept ho2 (fun h => h)).cell 1
  have hlt2 := hM2.blk.lt
  have hltx2 := (HB1.out.kept ho2 (fun h => h)).lt
  have HM2 := Lib.hid hM2
  have HO2 := Lib.hid (HO1.out.trans ho2 (fun _ _ h => h))
  have hp6 := HP6.out.kept HO2.out (fun _ h => h)
  have HC := Lib.hid (cells_prefix hp6)
  have HPB : Hid (0 < r → ¬ OwnTQ Q db vb ov.ownBlock pb ∧ pb < w2.heap.size) := Lib.hid (fun h => ⟨(HP7.out (by have := HNR.out; omega)).1, Nat.lt_of_lt_of_le (HP7.out (by have := HNR.out; omega)).2 HO2.out.size⟩)
  have HSN2 : Hid (∀ j, OwnTQ Q db vb ov.ownBlock j → j < w2.heap.size) := Lib.hid (fun j hj => Nat.lt_of_lt_of_le (HSN.out j hj) HO2.out.size)
  clear c2 c5 x1 hlt hltx ho8 hown8 hob8 ho2 hM2 hp6 hsrc hc8 hown9
  have cT := fun w => two5_any 11 a b ha hb (by decide) (by decide) (by decide) (by decide) w
  obtain ⟨R, hR⟩ : ∃ R, reck 11 a b = R := ⟨_, rfl⟩
  have hx := HX.out
  simp only [hR] at cT hx
  clear hR HX
  have g80 : (0 : Int) < (2 : Nat) := by decide
  cases R with
  | none =>
    simp only [Option.map_none] at hx
    subst hx
    go_wp2_with fail
    have cT2 : ∀ w, Calls Try.prog 52 #[.int .i64 11, .int .i32 a, .int .i32 b] w (fun e w' => e = .returned (.tuple #[.int .i32 0, .bool false]) ∧ w = w') := cT
    clear cT
    go_quiet ((go_at_call 52; exact Calls.quiet_of_same (flip_t (cT2 _))))
    go_wp2_with fail
    go_ret
    exact ⟨_, _, _, _, rfl, TGone.of_nil (HO2.out.trans (by (repeat with_reducible first | exact Only.refl _ _ | refine Only.alloc ?_ _ | refine M.Only.drewN ?_ _ | refine Only.drew ?_)) (fun _ _ h => h)), HM2.out.quiet (by (repeat with_reducible first | exact Only.refl _ _ | refine Only.alloc ?_ _ | refine M.Only.drewN ?_ _ | refine Only.drew ?_))⟩
  | some v =>
    simp only [Option.map_some] at hx
    subst hx
    go_wp2_with fail
    have cT2 : ∀ w, Calls Try.prog 52 #[.int .i64 11, .int .i32 a, .int .i32 b] w (fun e w' => e = .returned (.tuple #[.int .i32 v, .bool true]) ∧ w = w') := cT
    clear cT
    go_quiet ((go_at_call 52; exact Calls.quiet_of_same (flip_t (cT2 _))))
    have ho3 : Only Nil w2 (w2.drewN nq) := M.Only.drewN (Only.refl _ _) _
    obtain ⟨w3, hw3⟩ : ∃ w3, w2.drewN nq = w3 := ⟨_, rfl⟩
    rw [hw3] at ho3
    rw [hw3]
    clear hw3 cT2
    have HO3 := Lib.hid ho3
    have d1' := ho3.cell d1 (fun h => h)
    have d2' := ho3.cell d2 (fun h => h)
    have y0' := ho3.cell y0 (fun h => h)
    have y1' := ho3.cell y1 (fun h => h)
    have hlt2' := Nat.lt_of_lt_of_le hlt2 ho3.size
    have hltx2' := Nat.lt_of_lt_of_le hltx2 ho3.size
    have z0' := ho3.cell z0 (fun h => h)
    have z1' := ho3.cell z1 (fun h => h)
    clear d1 d2 y0 y1 hlt2 hltx2 z0 z1
    clear ho3
    have HW3 : Hid (Only Nil w2 (w3.alloc (.cells #[Value.int .i32 (v)] 21))) := Lib.hid ((Only.alloc HO3.out _))
    have HN3 : Hid (CellsAt (w3.alloc (.cells #[Value.int .i32 (v)] 21)) w3.heap.size 0 (I32s [v])) := Lib.hid (fun i u hi => by rw [Nat.zero_add, (Blk.new w3 #[Value.int .i32 (v)] 21).cell i]; simpa [I32s] using hi)
    go_wp2_with (at_builtin; go_loud (refine wpList_append_capped rfl _ _ 57 rfl 21 i0 (.int .i32 0) 1 4 Try.underlying57 hi0 hz0 hz1 hz2 rfl (by decide) (OwnTQ Q db vb (ov).ownBlock) (fun j hj => Nat.lt_of_lt_of_le (HSN2.out j hj) HW3.out.size) r (I32s T) _ pb poff rfl (by rw [I32s_len, HR.out] <;> omega) (Or.inl rfl) (HC.out.kept HW3.out (fun _ h => h)) (fun h => ⟨(HPB.out h).1, Nat.lt_of_lt_of_le (HPB.out h).2 HW3.out.size⟩) w3.heap.size 0 _ 1 1 (I32s [v]) rfl rfl (fun _ => rfl) HN3.out nofun (I32s_one _) (by simp [maxLen] <;> omega) (by omega) ?_))
    intro v9 w4 hR9 ho9
    have hMX := HM2.out.quiet HW3.out
    have hB4 := hMX.blk.kept ho9 (fun h => h)
    have g2 := hB4.free 2
    have g5 := hB4.free 5
    have k2 : w4.cell? ⟨db, 2, none⟩ = some _ := hB4.cell 2
    have k5 : w4.cell? ⟨db, 5, none⟩ = some _ := hB4.cell 5
    have glt := hB4.lt
    have hR9 : RdRow (OwnTQ Q db vb (ov).ownBlock) w4 v9 (T ++ [v]).length (I32s (T ++ [v])) := by rw [I32s_append, List.length_append, HR.out]; exact hR9
    obtain ⟨n9, hn9⟩ : ∃ n, (T ++ [v]).length = n := ⟨_, rfl⟩
    rw [hn9] at hR9
    obtain ⟨a9, c9, rfl⟩ := rd_shape hR9
    have HE := Lib.hid (tdo_end (TGone.of_nil (HO2.out.trans HW3.out (fun _ _ h => h))) hMX (T ++ [v]) _ (by rw [hn9]; exact hR9) ho9 (p + 1))
    clear hMX hB4 hR9 ho9 hn9
    go_wp2_with fail
    go_ret
    (try simp only [List.append_nil])
    exact ⟨_, _, _, _, rfl, HE.out.1, HE.out.2⟩


set_option maxRecDepth 10000 in
set_option maxHeartbeats 3200000 in
theorem tdo_12 (db vb : Nat) (k : Int) (hk : I32 k) (code : List Cod) (s : SS) (lv pv kv iv ov : Value) (w : World) (hQ : ∀ j, Q j → j < w.heap.size) (hM : TAt Q w db vb code s lv pv kv iv ov) (hs : s.Ok) (hol : s.out.length ≤ 1099511627776) (hA : 2 ≤ s.ops.length) (hB : s.ops.length - 2 + 1 ≤ 1000) :
    Calls Try.prog 35 #[.pointer (some ⟨db, 0, none⟩), .agg #[.int .i64 12, .int .i32 k]] w (TDoes Q w db vb code s lv ov (sExec s ⟨12, k⟩)) := by
  have cE := fun w => effectR_any 12 (by decide) (by decide) w
  rw [show ((takesV 12 : Nat) : Int) = 2 from rfl, show ((leavesV 12 : Nat) : Int) = 1 from rfl] at cE
  obtain ⟨i0, hi0, hz0, hz1, hz2⟩ := info_parts Try.info21
  have hSn0 := hM.hSn hQ
  have hnops := hs.nops
  obtain ⟨m, O, c, i, o, f, t, p, fin, trap⟩ := s
  simp only at hA hB hnops
  obtain ⟨T, a, b, rfl⟩ := snoc_two hA
  have ha : I32 a := hs.ops a (by simp)
  have hb : I32 b := hs.ops b (by simp)
  have hn : (T ++ [a, b]).length = T.length + 2 := by simp
  rw [hn] at hA hB hnops
  obtain ⟨r, hr⟩ : ∃ r, T.length = r := ⟨_, rfl⟩
  obtain ⟨n, hnr⟩ : ∃ n, r + 2 = n := ⟨_, rfl⟩
  obtain ⟨X, hX⟩ : ∃ X, sExec ⟨m, T ++ [a, b], c, i, o, f, t, p, fin, trap⟩ ⟨12, k⟩ = X := ⟨_, rfl⟩
  rw [hX]
  rw [x_two k (by decide) (by decide) (by decide) (by decide) (by omega)] at hX
  have HX := Lib.hid hX
  clear hX
  have hrow := hM.ops
  simp only at hrow
  rw [hn, hr, hnr] at hrow
  rw [hr] at hA hB hnops
  obtain ⟨pb, pao, pcap, poff, rfl, p2, p3, p4, p6, p7⟩ := hrow
  have p4 : pao = some ⟨pb, poff, none⟩ := by
    rcases p4 with h | ⟨_, h⟩
    · exact h
    · omega
  subst p4
  have e1 : (n : Int) - 2 = (r : Int) := by omega
  have l1 : decide ((n : Int) < 2) = false := by simp; omega
  have l2 : n ≤ 1000 := by omega
  have hpc : (pcap = r) = False := eq_false (by omega)
  have hrn : r ≤ n := by omega
  have l3 : decide ((1000 : Int) < (r : Int) + 1) = false := by simp; omega
  have l4 : decide ((1000 : Int) < (r : Int)) = false := by simp; omega
  have l5 : decide (1000 < r) = false := by simp; omega
  have q3 : (n : Int) ≤ (pcap : Int) := by omega
  have q4 : (r : Int) ≤ (pcap : Int) := by omega
  have q0 : (0 : Int) ≤ (r : Int) := Int.natCast_nonneg _
  unfold maxLen at p3
  have wk : IntKind.i64.wrap k = k := by unfold I32 at hk; rw [IntKind.wrap_i64]; omega
  have wp : IntKind.i64.wrap (p + 1) = p + 1 := by have h1 := hs.pc1; have h2 := hs.pc2; simp only at h1 h2; rw [IntKind.wrap_i64]; omega
  have HM := Lib.hid hM
  have HSN := Lib.hid hSn0
  have HS := Lib.hid hs
  have HQ := Lib.hid hQ
  have HK := Lib.hid hk
  have HR := Lib.hid hr
  have HP6 := Lib.hid p6
  have HP7 := Lib.hid p7
  have HOL := Lib.hid hol
  clear hM hs hk hQ hSn0 hr p6 p7 hol hA hB hnops hn
  have HNR := Lib.hid hnr
  clear hnr
  go_enter Try.func35, Try.ntmps35
  go_wp2_with fail
  have hB1 := Blk.new w #[Value.int .i64 12, .int .i32 k] 55
  have ho1 : Only Nil w (w.alloc (.cells #[Value.int .i64 12, .int .i32 k] 55)) := (Only.refl _ _).alloc _
  obtain ⟨w1, hw1⟩ : ∃ w1, w.alloc (.cells #[Value.int .i64 12, .int .i32 k] 55) = w1 := ⟨_, rfl⟩
  obtain ⟨xb, hxb⟩ : ∃ xb, w.heap.size = xb := ⟨_, rfl⟩
  rw [hw1, hxb] at hB1
  rw [hw1] at ho1 ⊢
  rw [hxb]
  have hM1 := HM.out.quiet ho1
  have c2 : w1.cell? ⟨db, 2, none⟩ = some (.slice (some ⟨pb, poff, none⟩) n pcap) := hM1.blk.cell 2
  have c5 : w1.cell? ⟨db, 5, none⟩ = some (.int .i64 p) := hM1.blk.cell 5
  have x1 : w1.cell? ⟨xb, 1, none⟩ = some (.int .i32 k) := hB1.cell 1
  have hlt := hM1.blk.lt
  have hltx := hB1.lt
  have hsrc : Src w1 pb (.slice (some ⟨pb, poff + r, none⟩) (n - r) (pcap - r)) (I32s [a, b]) := ⟨_, pcap - r, poff + r, by rw [I32s_len]; congr 1; have := HNR.out; simp; omega, fun _ => rfl, nofun, (cells_suffix HP6.out HR.out).kept ho1 (fun _ h => h)⟩
  have HM1 := Lib.hid hM1
  have HO1 := Lib.hid ho1
  have HB1 := Lib.hid hB1
  clear hw1 hxb hM1 ho1 hB1
  refine (cE _).mono ?_
  rintro e we ⟨rfl, rfl⟩
  clear cE
  go_wp2_with (at_builtin; go_loud (refine wpList_append_src rfl _ _ 57 rfl w1.heap.size 21 i0 (.int .i32 0) 4 Try.underlying57 hi0 hz0 hz1 hz2 rfl _ _ _ rfl (World.ownsRow_nil _ _ _ _) pb (.slice (some ⟨pb, poff + r, none⟩) (n - r) (pcap - r)) (I32s [a, b]) rfl hsrc (I32s_one _) (by simp [I32s, maxLen]) (by simp [I32s]) (Nat.le_refl _) ?_))
  intro v8 w2 hown8 hob8 ho8
  have ho2 : Only Nil w1 w2 := ho8.mono (fun _ h => by cases h)
  have hown9 : w2.ownsRow w1.heap.size 21 1 v8 2 (I32s [a, b]) := by simpa [I32s] using hown8
  obtain ⟨g8, cap8, rfl, hg8, hgl8, hc8⟩ := own_one hown9 (by decide)
  have y0 : w2.cell? ⟨g8, 0, none⟩ = some (.int .i32 a) := hc8 0 _ rfl
  have y1 : w2.cell? ⟨g8, 1, none⟩ = some (.int .i32 b) := hc8 1 _ rfl
  have hM2 := HM1.out.quiet ho2
  have d1 : w2.cell? ⟨db, 1, none⟩ = some (.slice (some ⟨vb, 0, none⟩) m.length m.length) := hM2.blk.cell 1
  have d2 : w2.cell? ⟨db, 2, none⟩ = some (.slice (some ⟨pb, poff, none⟩) n pcap) := ho2.cell c2 (fun h => h)
  have d3 : w2.cell? ⟨db, 3, none⟩ = some (.int .i64 (f : Nat)) := hM2.blk.cell 3
  have d4 : w2.cell? ⟨db, 4, none⟩ = some (.int .i64 (t : Nat)) := hM2.blk.cell 4
  have d5 : w2.cell? ⟨db, 5, none⟩ = some (.int .i64 p) := hM2.blk.cell 5
  have d6 : w2.cell? ⟨db, 6, none⟩ = some kv := hM2.blk.cell 6
  have d7 : w2.cell? ⟨db, 7, none⟩ = some iv := hM2.blk.cell 7
  have d8 : w2.cell? ⟨db, 8, none⟩ = some ov := hM2.blk.cell 8
  have z0 : w2.cell? ⟨xb, 0, none⟩ = some (.int .i64 12) := (HB1.out.kept ho2 (fun h => h)).cell 0
  have z1 : w2.cell? ⟨xb, 1, none⟩ = some (.int .i32 k) := (HB1.out.kept ho2 (fun h => h)).cell 1
  have hlt2 := hM2.blk.lt
  have hltx2 := (HB1.out.kept ho2 (fun h => h)).lt
  have HM2 := Lib.hid hM2
  have HO2 := Lib.hid (HO1.out.trans ho2 (fun _ _ h => h))
  have hp6 := HP6.out.kept HO2.out (fun _ h => h)
  have HC := Lib.hid (cells_prefix hp6)
  have HPB : Hid (0 < r → ¬ OwnTQ Q db vb ov.ownBlock pb ∧ pb < w2.heap.size) := Lib.hid (fun h => ⟨(HP7.out (by have := HNR.out; omega)).1, Nat.lt_of_lt_of_le (HP7.out (by have := HNR.out; omega)).2 HO2.out.size⟩)
  have HSN2 : Hid (∀ j, OwnTQ Q db vb ov.ownBlock j → j < w2.heap.size) := Lib.hid (fun j hj => Nat.lt_of_lt_of_le (HSN.out j hj) HO2.out.size)
  clear c2 c5 x1 hlt hltx ho8 hown8 hob8 ho2 hM2 hp6 hsrc hc8 hown9
  have cT := fun w => two5_any 12 a b ha hb (by decide) (by decide) (by decide) (by decide) w
  obtain ⟨R, hR⟩ : ∃ R, reck 12 a b = R := ⟨_, rfl⟩
  have hx := HX.out
  simp only [hR] at cT hx
  clear hR HX
  have g80 : (0 : Int) < (2 : Nat) := by decide
  cases R with
  | none =>
    simp only [Option.map_none] at hx
    subst hx
    go_wp2_with fail
    have cT2 : ∀ w, Calls Try.prog 52 #[.int .i64 12, .int .i32 a, .int .i32 b] w (fun e w' => e = .returned (.tuple #[.int .i32 0, .bool false]) ∧ w = w') := cT
    clear cT
    go_quiet ((go_at_call 52; exact Calls.quiet_of_same (flip_t (cT2 _))))
    go_wp2_with fail
    go_ret
    exact ⟨_, _, _, _, rfl, TGone.of_nil (HO2.out.trans (by (repeat with_reducible first | exact Only.refl _ _ | refine Only.alloc ?_ _ | refine M.Only.drewN ?_ _ | refine Only.drew ?_)) (fun _ _ h => h)), HM2.out.quiet (by (repeat with_reducible first | exact Only.refl _ _ | refine Only.alloc ?_ _ | refine M.Only.drewN ?_ _ | refine Only.drew ?_))⟩
  | some v =>
    simp only [Option.map_some] at hx
    subst hx
    go_wp2_with fail
    have cT2 : ∀ w, Calls Try.prog 52 #[.int .i64 12, .int .i32 a, .int .i32 b] w (fun e w' => e = .returned (.tuple #[.int .i32 v, .bool true]) ∧ w = w') := cT
    clear cT
    go_quiet ((go_at_call 52; exact Calls.quiet_of_same (flip_t (cT2 _))))
    have ho3 : Only Nil w2 (w2.drewN nq) := M.Only.drewN (Only.refl _ _) _
    obtain ⟨w3, hw3⟩ : ∃ w3, w2.drewN nq = w3 := ⟨_, rfl⟩
    rw [hw3] at ho3
    rw [hw3]
    clear hw3 cT2
    have HO3 := Lib.hid ho3
    have d1' := ho3.cell d1 (fun h => h)
    have d2' := ho3.cell d2 (fun h => h)
    have y0' := ho3.cell y0 (fun h => h)
    have y1' := ho3.cell y1 (fun h => h)
    have hlt2' := Nat.lt_of_lt_of_le hlt2 ho3.size
    have hltx2' := Nat.lt_of_lt_of_le hltx2 ho3.size
    have z0' := ho3.cell z0 (fun h => h)
    have z1' := ho3.cell z1 (fun h => h)
    clear d1 d2 y0 y1 hlt2 hltx2 z0 z1
    clear ho3
    have HW3 : Hid (Only Nil w2 (w3.alloc (.cells #[Value.int .i32 (v)] 21))) := Lib.hid ((Only.alloc HO3.out _))
    have HN3 : Hid (CellsAt (w3.alloc (.cells #[Value.int .i32 (v)] 21)) w3.heap.size 0 (I32s [v])) := Lib.hid (fun i u hi => by rw [Nat.zero_add, (Blk.new w3 #[Value.int .i32 (v)] 21).cell i]; simpa [I32s] using hi)
    go_wp2_with (at_builtin; go_loud (refine wpList_append_capped rfl _ _ 57 rfl 21 i0 (.int .i32 0) 1 4 Try.underlying57 hi0 hz0 hz1 hz2 rfl (by decide) (OwnTQ Q db vb (ov).ownBlock) (fun j hj => Nat.lt_of_lt_of_le (HSN2.out j hj) HW3.out.size) r (I32s T) _ pb poff rfl (by rw [I32s_len, HR.out] <;> omega) (Or.inl rfl) (HC.out.kept HW3.out (fun _ h => h)) (fun h => ⟨(HPB.out h).1, Nat.lt_of_lt_of_le (HPB.out h).2 HW3.out.size⟩) w3.heap.size 0 _ 1 1 (I32s [v]) rfl rfl (fun _ => rfl) HN3.out nofun (I32s_one _) (by simp [maxLen] <;> omega) (by omega) ?_))
    intro v9 w4 hR9 ho9
    have hMX := HM2.out.quiet HW3.out
    have hB4 := hMX.blk.kept ho9 (fun h => h)
    have g2 := hB4.free 2
    have g5 := hB4.free 5
    have k2 : w4.cell? ⟨db, 2, none⟩ = some _ := hB4.cell 2
    have k5 : w4.cell? ⟨db, 5, none⟩ = some _ := hB4.cell 5
    have glt := hB4.lt
    have hR9 : RdRow (OwnTQ Q db vb (ov).ownBlock) w4 v9 (T ++ [v]).length (I32s (T ++ [v])) := by rw [I32s_append, List.length_append, HR.out]; exact hR9
    obtain ⟨n9, hn9⟩ : ∃ n, (T ++ [v]).length = n := ⟨_, rfl⟩
    rw [hn9] at hR9
    obtain ⟨a9, c9, rfl⟩ := rd_shape hR9
    have HE := Lib.hid (tdo_end (TGone.of_nil (HO2.out.trans HW3.out (fun _ _ h => h))) hMX (T ++ [v]) _ (by rw [hn9]; exact hR9) ho9 (p + 1))
    clear hMX hB4 hR9 ho9 hn9
    go_wp2_with fail
    go_ret
    (try simp only [List.append_nil])
    exact ⟨_, _, _, _, rfl, HE.out.1, HE.out.2⟩


set_option maxRecDepth 10000 in
set_option maxHeartbeats 3200000 in
theorem tdo_13 (db vb : Nat) (k : Int) (hk : I32 k) (code : List Cod) (s : SS) (lv pv kv iv ov : Value) (w : World) (hQ : ∀ j, Q j → j < w.heap.size) (hM : TAt Q w db vb code s lv pv kv iv ov) (hs : s.Ok) (hol : s.out.length ≤ 1099511627776) (hA : 2 ≤ s.ops.length) (hB : s.ops.length - 2 + 1 ≤ 1000) :
    Calls Try.prog 35 #[.pointer (some ⟨db, 0, none⟩), .agg #[.int .i64 13, .int .i32 k]] w (TDoes Q w db vb code s lv ov (sExec s ⟨13, k⟩)) := by
  have cE := fun w => effectR_any 13 (by decide) (by decide) w
  rw [show ((takesV 13 : Nat) : Int) = 2 from rfl, show ((leavesV 13 : Nat) : Int) = 1 from rfl] at cE
  obtain ⟨i0, hi0, hz0, hz1, hz2⟩ := info_parts Try.info21
  have hSn0 := hM.hSn hQ
  have hnops := hs.nops
  obtain ⟨m, O, c, i, o, f, t, p, fin, trap⟩ := s
  simp only at hA hB hnops
  obtain ⟨T, a, b, rfl⟩ := snoc_two hA
  have ha : I32 a := hs.ops a (by simp)
  have hb : I32 b := hs.ops b (by simp)
  have hn : (T ++ [a, b]).length = T.length + 2 := by simp
  rw [hn] at hA hB hnops
  obtain ⟨r, hr⟩ : ∃ r, T.length = r := ⟨_, rfl⟩
  obtain ⟨n, hnr⟩ : ∃ n, r + 2 = n := ⟨_, rfl⟩
  obtain ⟨X, hX⟩ : ∃ X, sExec ⟨m, T ++ [a, b], c, i, o, f, t, p, fin, trap⟩ ⟨13, k⟩ = X := ⟨_, rfl⟩
  rw [hX]
  rw [x_two k (by decide) (by decide) (by decide) (by decide) (by omega)] at hX
  have HX := Lib.hid hX
  clear hX
  have hrow := hM.ops
  simp only at hrow
  rw [hn, hr, hnr] at hrow
  rw [hr] at hA hB hnops
  obtain ⟨pb, pao, pcap, poff, rfl, p2, p3, p4, p6, p7⟩ := hrow
  have p4 : pao = some ⟨pb, poff, none⟩ := by
    rcases p4 with h | ⟨_, h⟩
    · exact h
    · omega
  subst p4
  have e1 : (n : Int) - 2 = (r : Int) := by omega
  have l1 : decide ((n : Int) < 2) = false := by simp; omega
  have l2 : n ≤ 1000 := by omega
  have hpc : (pcap = r) = False := eq_false (by omega)
  have hrn : r ≤ n := by omega
  have l3 : decide ((1000 : Int) < (r : Int) + 1) = false := by simp; omega
  have l4 : decide ((1000 : Int) < (r : Int)) = false := by simp; omega
  have l5 : decide (1000 < r) = false := by simp; omega
  have q3 : (n : Int) ≤ (pcap : Int) := by omega
  have q4 : (r : Int) ≤ (pcap : Int) := by omega
  have q0 : (0 : Int) ≤ (r : Int) := Int.natCast_nonneg _
  unfold maxLen at p3
  have wk : IntKind.i64.wrap k = k := by unfold I32 at hk; rw [IntKind.wrap_i64]; omega
  have wp : IntKind.i64.wrap (p + 1) = p + 1 := by have h1 := hs.pc1; have h2 := hs.pc2; simp only at h1 h2; rw [IntKind.wrap_i64]; omega
  have HM := Lib.hid hM
  have HSN := Lib.hid hSn0
  have HS := Lib.hid hs
  have HQ := Lib.hid hQ
  have HK := Lib.hid hk
  have HR := Lib.hid hr
  have HP6 := Lib.hid p6
  have HP7 := Lib.hid p7
  have HOL := Lib.hid hol
  clear hM hs hk hQ hSn0 hr p6 p7 hol hA hB hnops hn
  have HNR := Lib.hid hnr
  clear hnr
  go_enter Try.func35, Try.ntmps35
  go_wp2_with fail
  have hB1 := Blk.new w #[Value.int .i64 13, .int .i32 k] 55
  have ho1 : Only Nil w (w.alloc (.cells #[Value.int .i64 13, .int .i32 k] 55)) := (Only.refl _ _).alloc _
  obtain ⟨w1, hw1⟩ : ∃ w1, w.alloc (.cells #[Value.int .i64 13, .int .i32 k] 55) = w1 := ⟨_, rfl⟩
  obtain ⟨xb, hxb⟩ : ∃ xb, w.heap.size = xb := ⟨_, rfl⟩
  rw [hw1, hxb] at hB1
  rw [hw1] at ho1 ⊢
  rw [hxb]
  have hM1 := HM.out.quiet ho1
  have c2 : w1.cell? ⟨db, 2, none⟩ = some (.slice (some ⟨pb, poff, none⟩) n pcap) := hM1.blk.cell 2
  have c5 : w1.cell? ⟨db, 5, none⟩ = some (.int .i64 p) := hM1.blk.cell 5
  have x1 : w1.cell? ⟨xb, 1, none⟩ = some (.int .i32 k) := hB1.cell 1
  have hlt := hM1.blk.lt
  have hltx := hB1.lt
  have hsrc : Src w1 pb (.slice (some ⟨pb, poff + r, none⟩) (n - r) (pcap - r)) (I32s [a, b]) := ⟨_, pcap - r, poff + r, by rw [I32s_len]; congr 1; have := HNR.out; simp; omega, fun _ => rfl, nofun, (cells_suffix HP6.out HR.out).kept ho1 (fun _ h => h)⟩
  have HM1 := Lib.hid hM1
  have HO1 := Lib.hid ho1
  have HB1 := Lib.hid hB1
  clear hw1 hxb hM1 ho1 hB1
  refine (cE _).mono ?_
  rintro e we ⟨rfl, rfl⟩
  clear cE
  go_wp2_with (at_builtin; go_loud (refine wpList_append_src rfl _ _ 57 rfl w1.heap.size 21 i0 (.int .i32 0) 4 Try.underlying57 hi0 hz0 hz1 hz2 rfl _ _ _ rfl (World.ownsRow_nil _ _ _ _) pb (.slice (some ⟨pb, poff + r, none⟩) (n - r) (pcap - r)) (I32s [a, b]) rfl hsrc (I32s_one _) (by simp [I32s, maxLen]) (by simp [I32s]) (Nat.le_refl _) ?_))
  intro v8 w2 hown8 hob8 ho8
  have ho2 : Only Nil w1 w2 := ho8.mono (fun _ h => by cases h)
  have hown9 : w2.ownsRow w1.heap.size 21 1 v8 2 (I32s [a, b]) := by simpa [I32s] using hown8
  obtain ⟨g8, cap8, rfl, hg8, hgl8, hc8⟩ := own_one hown9 (by decide)
  have y0 : w2.cell? ⟨g8, 0, none⟩ = some (.int .i32 a) := hc8 0 _ rfl
  have y1 : w2.cell? ⟨g8, 1, none⟩ = some (.int .i32 b) := hc8 1 _ rfl
  have hM2 := HM1.out.quiet ho2
  have d1 : w2.cell? ⟨db, 1, none⟩ = some (.slice (some ⟨vb, 0, none⟩) m.length m.length) := hM2.blk.cell 1
  have d2 : w2.cell? ⟨db, 2, none⟩ = some (.slice (some ⟨pb, poff, none⟩) n pcap) := ho2.cell c2 (fun h => h)
  have d3 : w2.cell? ⟨db, 3, none⟩ = some (.int .i64 (f : Nat)) := hM2.blk.cell 3
  have d4 : w2.cell? ⟨db, 4, none⟩ = some (.int .i64 (t : Nat)) := hM2.blk.cell 4
  have d5 : w2.cell? ⟨db, 5, none⟩ = some (.int .i64 p) := hM2.blk.cell 5
  have d6 : w2.cell? ⟨db, 6, none⟩ = some kv := hM2.blk.cell 6
  have d7 : w2.cell? ⟨db, 7, none⟩ = some iv := hM2.blk.cell 7
  have d8 : w2.cell? ⟨db, 8, none⟩ = some ov := hM2.blk.cell 8
  have z0 : w2.cell? ⟨xb, 0, none⟩ = some (.int .i64 13) := (HB1.out.kept ho2 (fun h => h)).cell 0
  have z1 : w2.cell? ⟨xb, 1, none⟩ = some (.int .i32 k) := (HB1.out.kept ho2 (fun h => h)).cell 1
  have hlt2 := hM2.blk.lt
  have hltx2 := (HB1.out.kept ho2 (fun h => h)).lt
  have HM2 := Lib.hid hM2
  have HO2 := Lib.hid (HO1.out.trans ho2 (fun _ _ h => h))
  have hp6 := HP6.out.kept HO2.out (fun _ h => h)
  have HC := Lib.hid (cells_prefix hp6)
  have HPB : Hid (0 < r → ¬ OwnTQ Q db vb ov.ownBlock pb ∧ pb < w2.heap.size) := Lib.hid (fun h => ⟨(HP7.out (by have := HNR.out; omega)).1, Nat.lt_of_lt_of_le (HP7.out (by have := HNR.out; omega)).2 HO2.out.size⟩)
  have HSN2 : Hid (∀ j, OwnTQ Q db vb ov.ownBlock j → j < w2.heap.size) := Lib.hid (fun j hj => Nat.lt_of_lt_of_le (HSN.out j hj) HO2.out.size)
  clear c2 c5 x1 hlt hltx ho8 hown8 hob8 ho2 hM2 hp6 hsrc hc8 hown9
  have cT := fun w => two5_any 13 a b ha hb (by decide) (by decide) (by decide) (by decide) w
  obtain ⟨R, hR⟩ : ∃ R, reck 13 a b = R := ⟨_, rfl⟩
  have hx := HX.out
  simp only [hR] at cT hx
  clear hR HX
  have g80 : (0 : Int) < (2 : Nat) := by decide
  cases R with
  | none =>
    simp only [Option.map_none] at hx
    subst hx
    go_wp2_with fail
    have cT2 : ∀ w, Calls Try.prog 52 #[.int .i64 13, .int .i32 a, .int .i32 b] w (fun e w' => e = .returned (.tuple #[.int .i32 0, .bool false]) ∧ w = w') := cT
    clear cT
    go_quiet ((go_at_call 52; exact Calls.quiet_of_same (flip_t (cT2 _))))
    go_wp2_with fail
    go_ret
    exact ⟨_, _, _, _, rfl, TGone.of_nil (HO2.out.trans (by (repeat with_reducible first | exact Only.refl _ _ | refine Only.alloc ?_ _ | refine M.Only.drewN ?_ _ | refine Only.drew ?_)) (fun _ _ h => h)), HM2.out.quiet (by (repeat with_reducible first | exact Only.refl _ _ | refine Only.alloc ?_ _ | refine M.Only.drewN ?_ _ | refine Only.drew ?_))⟩
  | some v =>
    simp only [Option.map_some] at hx
    subst hx
    go_wp2_with fail
    have cT2 : ∀ w, Calls Try.prog 52 #[.int .i64 13, .int .i32 a, .int .i32 b] w (fun e w' => e = .returned (.tuple #[.int .i32 v, .bool true]) ∧ w = w') := cT
    clear cT
    go_quiet ((go_at_call 52; exact Calls.quiet_of_same (flip_t (cT2 _))))
    have ho3 : Only Nil w2 (w2.drewN nq) := M.Only.drewN (Only.refl _ _) _
    obtain ⟨w3, hw3⟩ : ∃ w3, w2.drewN nq = w3 := ⟨_, rfl⟩
    rw [hw3] at ho3
    rw [hw3]
    clear hw3 cT2
    have HO3 := Lib.hid ho3
    have d1' := ho3.cell d1 (fun h => h)
    have d2' := ho3.cell d2 (fun h => h)
    have y0' := ho3.cell y0 (fun h => h)
    have y1' := ho3.cell y1 (fun h => h)
    have hlt2' := Nat.lt_of_lt_of_le hlt2 ho3.size
    have hltx2' := Nat.lt_of_lt_of_le hltx2 ho3.size
    have z0' := ho3.cell z0 (fun h => h)
    have z1' := ho3.cell z1 (fun h => h)
    clear d1 d2 y0 y1 hlt2 hltx2 z0 z1
    clear ho3
    have HW3 : Hid (Only Nil w2 (w3.alloc (.cells #[Value.int .i32 (v)] 21))) := Lib.hid ((Only.alloc HO3.out _))
    have HN3 : Hid (CellsAt (w3.alloc (.cells #[Value.int .i32 (v)] 21)) w3.heap.size 0 (I32s [v])) := Lib.hid (fun i u hi => by rw [Nat.zero_add, (Blk.new w3 #[Value.int .i32 (v)] 21).cell i]; simpa [I32s] using hi)
    go_wp2_with (at_builtin; go_loud (refine wpList_append_capped rfl _ _ 57 rfl 21 i0 (.int .i32 0) 1 4 Try.underlying57 hi0 hz0 hz1 hz2 rfl (by decide) (OwnTQ Q db vb (ov).ownBlock) (fun j hj => Nat.lt_of_lt_of_le (HSN2.out j hj) HW3.out.size) r (I32s T) _ pb poff rfl (by rw [I32s_len, HR.out] <;> omega) (Or.inl rfl) (HC.out.kept HW3.out (fun _ h => h)) (fun h => ⟨(HPB.out h).1, Nat.lt_of_lt_of_le (HPB.out h).2 HW3.out.size⟩) w3.heap.size 0 _ 1 1 (I32s [v]) rfl rfl (fun _ => rfl) HN3.out nofun (I32s_one _) (by simp [maxLen] <;> omega) (by omega) ?_))
    intro v9 w4 hR9 ho9
    have hMX := HM2.out.quiet HW3.out
    have hB4 := hMX.blk.kept ho9 (fun h => h)
    have g2 := hB4.free 2
    have g5 := hB4.free 5
    have k2 : w4.cell? ⟨db, 2, none⟩ = some _ := hB4.cell 2
    have k5 : w4.cell? ⟨db, 5, none⟩ = some _ := hB4.cell 5
    have glt := hB4.lt
    have hR9 : RdRow (OwnTQ Q db vb (ov).ownBlock) w4 v9 (T ++ [v]).length (I32s (T ++ [v])) := by rw [I32s_append, List.length_append, HR.out]; exact hR9
    obtain ⟨n9, hn9⟩ : ∃ n, (T ++ [v]).length = n := ⟨_, rfl⟩
    rw [hn9] at hR9
    obtain ⟨a9, c9, rfl⟩ := rd_shape hR9
    have HE := Lib.hid (tdo_end (TGone.of_nil (HO2.out.trans HW3.out (fun _ _ h => h))) hMX (T ++ [v]) _ (by rw [hn9]; exact hR9) ho9 (p + 1))
    clear hMX hB4 hR9 ho9 hn9
    go_wp2_with fail
    go_ret
    (try simp only [List.append_nil])
    exact ⟨_, _, _, _, rfl, HE.out.1, HE.out.2⟩

end Go.Proofs.Ytpnhjjihdcopnaa
