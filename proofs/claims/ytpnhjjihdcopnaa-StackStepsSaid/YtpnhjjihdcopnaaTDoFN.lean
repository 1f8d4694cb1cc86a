/- The document's stack machine does one instruction. -/
import Derived.Test.YtpnhjjihdcopnaaTDoB
import Derived.Test.YtpnhjjihdcopnaaGWait
import Derived.Deep.DeepCutAuto
set_option linter.unusedSimpArgs false
set_option linter.unusedVariables false
namespace Go.Proofs.Ytpnhjjihdcopnaa
open Go.RowKit M
variable {Q : Nat → Prop}

theorem infoKept5n : (Try.prog.info? 91).map (fun i => (i.zero, i.size, i.bytes)) = some (some (.agg #[.int .i64 0, .int .i64 0]), 2, 16) := by kernel_rfl


set_option maxRecDepth 10000 in
set_option maxHeartbeats 6400000 in
theorem tdo_27n (db vb : Nat) (k : Int) (hk : I32 k) (code : List Cod) (s : SS) (lv pv kv iv ov : Value) (w : World) (hQ : ∀ j, Q j → j < w.heap.size) (hM : TAt Q w db vb code s lv pv kv iv ov) (hs : s.Ok) (hol : s.out.length ≤ 1099511627776) (hA : 0 ≤ s.ops.length) (hB : s.ops.length - 0 + 0 ≤ 1000) (hp0 : 0 ≤ s.pc) (hv : ∃ n c, pv = .slice none n c) :
    Calls Try.prog 35 #[.pointer (some ⟨db, 0, none⟩), .agg #[.int .i64 27, .int .i32 k]] w (TDoes Q w db vb code s lv ov (sExec s ⟨27, k⟩)) := by
  have cE := fun w => effectR_any 27 (by decide) (by decide) w
  rw [show ((takesV 27 : Nat) : Int) = 0 from rfl, show ((leavesV 27 : Nat) : Int) = 0 from rfl] at cE
  obtain ⟨i0, hi0, hz0, hz1, hz2⟩ := info_parts Try.info21
  have hSn0 := hM.hSn hQ
  have hnops := hs.nops
  obtain ⟨m, O, c, i, o, f, t, p, fin, trap⟩ := s
  simp only at hA hB hnops
  obtain ⟨T, hT⟩ : ∃ T, O = T := ⟨_, rfl⟩
  subst hT
  obtain ⟨r, hr⟩ : ∃ r, O.length = r := ⟨_, rfl⟩
  have hp0 : 0 ≤ p := hp0
  obtain ⟨X, hX⟩ : ∃ X, sExec ⟨m, O, c, i, o, f, t, p, fin, trap⟩ ⟨27, k⟩ = X := ⟨_, rfl⟩
  rw [hX]
  rw [show sExec ⟨m, O, c, i, o, f, t, p, fin, trap⟩ ⟨27, k⟩ = (if c.length = 1000 then none else some ⟨m, O, c ++ [((p + 1).toNat, f)], i, o, f, t, k, fin, trap⟩) by kernel_rfl] at hX
  have HX := Lib.hid hX
  clear hX
  have hrow := hM.ops
  simp only at hrow
  rw [hr] at hrow hA hB hnops
  obtain ⟨pb, pao, pcap, poff, rfl, p2, p3, p4, p6, p7⟩ := hrow
  have l1 : decide ((r : Int) < 0) = false := by simp
  have l2 : r ≤ 1000 := by omega
  have l3 : decide ((1000 : Int) < (r : Int) + 0) = false := by simp; omega
  have l4 : decide ((1000 : Int) < (r : Int)) = false := by simp; omega
  have l5 : decide (1000 < r) = false := by simp; omega
  have q3 : (r : Int) ≤ (pcap : Int) := by omega
  have q4 : (r : Int) ≤ (pcap : Int) := by omega
  have q0 : (0 : Int) ≤ (r : Int) := Int.natCast_nonneg _
  unfold maxLen at p3
  have wk : IntKind.i64.wrap k = k := by unfold I32 at hk; rw [IntKind.wrap_i64]; omega
  have wp : IntKind.i64.wrap (p + 1) = p + 1 := by have h1 := hs.pc1; have h2 := hs.pc2; simp only at h1 h2; rw [IntKind.wrap_i64]; omega
  have HM := Lib.hid hM
  have HSN := Lib.hid hSn0
  have HS := Lib.hid hs
  have HQ := Lib.hid hQ
  have HK := Lib.hid hk
  have HR := Lib.hid hr
  have HP6 := Lib.hid p6
  have HP7 := Lib.hid p7
  have HOL := Lib.hid hol
  clear hM hs hk hQ hSn0 hr p6 p7 hol hA hB hnops
  rcases p4 with rfl | ⟨rfl, rfl⟩
  · exfalso; obtain ⟨n, c, e⟩ := hv; cases e
  · clear hv
    obtain rfl : r = 0 := by omega
    go_enter Try.func35, Try.ntmps35
    go_wp2_with fail
    have hB1 := Blk.new w #[Value.int .i64 27, .int .i32 k] 55
    have ho1 : Only Nil w (w.alloc (.cells #[Value.int .i64 27, .int .i32 k] 55)) := (Only.refl _ _).alloc _
    obtain ⟨w1, hw1⟩ : ∃ w1, w.alloc (.cells #[Value.int .i64 27, .int .i32 k] 55) = w1 := ⟨_, rfl⟩
    obtain ⟨xb, hxb⟩ : ∃ xb, w.heap.size = xb := ⟨_, rfl⟩
    rw [hw1, hxb] at hB1
    rw [hw1] at ho1 ⊢
    rw [hxb]
    have hM1 := HM.out.quiet ho1
    have c2 : w1.cell? ⟨db, 2, none⟩ = some (.slice (none) 0 0) := hM1.blk.cell 2
    have c5 : w1.cell? ⟨db, 5, none⟩ = some (.int .i64 p) := hM1.blk.cell 5
    have x1 : w1.cell? ⟨xb, 1, none⟩ = some (.int .i32 k) := hB1.cell 1
    have hlt := hM1.blk.lt
    have hltx := hB1.lt
    have HM1 := Lib.hid hM1
    have HO1 := Lib.hid ho1
    have HB1 := Lib.hid hB1
    clear hw1 hxb hM1 ho1 hB1
    refine (cE _).mono ?_
    rintro e we ⟨rfl, rfl⟩
    clear cE
    go_wp2_with (at_builtin; go_loud (refine wpList_append_src rfl _ _ 57 rfl w1.heap.size 21 i0 (.int .i32 0) 4 Try.underlying57 hi0 hz0 hz1 hz2 rfl _ _ _ rfl (World.ownsRow_nil _ _ _ _) pb _ (I32s []) rfl (src_zero _ _ _ _ (fun _ => rfl)) (I32s_one _) (by simp [I32s, maxLen]) (by simp [I32s]) (Nat.le_refl _) ?_))
    intro v8 w2 hown8 hob8 ho8
    have ho2 : Only Nil w1 w2 := ho8.mono (fun _ h => by cases h)
    obtain ⟨a8, cap8, rfl⟩ := sl_of_own hown8
    have hM2 := HM1.out.quiet ho2
    have d1 : w2.cell? ⟨db, 1, none⟩ = some (.slice (some ⟨vb, 0, none⟩) m.length m.length) := hM2.blk.cell 1
    have d2 : w2.cell? ⟨db, 2, none⟩ = some (.slice (none) 0 0) := ho2.cell c2 (fun h => h)
    have d3 : w2.cell? ⟨db, 3, none⟩ = some (.int .i64 (f : Nat)) := hM2.blk.cell 3
    have d4 : w2.cell? ⟨db, 4, none⟩ = some (.int .i64 (t : Nat)) := hM2.blk.cell 4
    have d5 : w2.cell? ⟨db, 5, none⟩ = some (.int .i64 p) := hM2.blk.cell 5
    have d6 : w2.cell? ⟨db, 6, none⟩ = some kv := hM2.blk.cell 6
    have d7 : w2.cell? ⟨db, 7, none⟩ = some iv := hM2.blk.cell 7
    have d8 : w2.cell? ⟨db, 8, none⟩ = some ov := hM2.blk.cell 8
    have z0 : w2.cell? ⟨xb, 0, none⟩ = some (.int .i64 27) := (HB1.out.kept ho2 (fun h => h)).cell 0
    have z1 : w2.cell? ⟨xb, 1, none⟩ = some (.int .i32 k) := (HB1.out.kept ho2 (fun h => h)).cell 1
    have hlt2 := hM2.blk.lt
    have hltx2 := (HB1.out.kept ho2 (fun h => h)).lt
    have HM2 := Lib.hid hM2
    have HO2 := Lib.hid (HO1.out.trans ho2 (fun _ _ h => h))
    have hp6 := HP6.out.kept HO2.out (fun _ h => h)
    have HC := Lib.hid (hp6)
    have HPB : Hid (0 < 0 → ¬ OwnTQ Q db vb ov.ownBlock pb ∧ pb < w2.heap.size) := Lib.hid (fun h => ⟨(HP7.out (by omega)).1, Nat.lt_of_lt_of_le (HP7.out (by omega)).2 HO2.out.size⟩)
    have HSN2 : Hid (∀ j, OwnTQ Q db vb ov.ownBlock j → j < w2.heap.size) := Lib.hid (fun j hj => Nat.lt_of_lt_of_le (HSN.out j hj) HO2.out.size)
    clear c2 c5 x1 hlt hltx ho8 hown8 hob8 ho2 hM2 hp6
    have hcl := HM2.out.cls
    simp only at hcl
    obtain ⟨kb, kao, kcap, koff, rfl, j2, j3, j4, j6, j7⟩ := hcl
    obtain ⟨nc, hnc⟩ : ∃ nc, c.length = nc := ⟨_, rfl⟩
    have hnc1 : c.length ≤ 1000 := HS.out.ncalls
    rw [hnc] at d6 j2 j7 hnc1
    unfold maxLen at j3
    by_cases h0 : nc = 1000
    · have hx := HX.out
      rw [if_pos (by rw [hnc]; exact h0)] at hx
      subst hx
      have l9 : decide ((1000 : Int) ≤ (nc : Int)) = true := by simp; omega
      have l8 : (1000 : Int) ≤ (nc : Int) := by omega
      clear h0 HX hnc j2 j3 j4 j6 j7 hnc1
      go_wp2_with fail
      go_ret
      exact ⟨_, _, _, _, rfl, TGone.of_nil (HO2.out.trans (by (repeat with_reducible first | exact Only.refl _ _ | refine Only.alloc ?_ _ | refine M.Only.drewN ?_ _ | refine Only.drew ?_)) (fun _ _ h => h)), HM2.out.quiet (by (repeat with_reducible first | exact Only.refl _ _ | refine Only.alloc ?_ _ | refine M.Only.drewN ?_ _ | refine Only.drew ?_))⟩
    · have l9 : decide ((1000 : Int) ≤ (nc : Int)) = false := by simp; omega
      have l8 : decide (1000 ≤ nc) = false := by simp; omega
      obtain ⟨q, hq⟩ : ∃ q, (p + 1).toNat = q := ⟨_, rfl⟩
      have eq1 : p + 1 = (q : Int) := by omega
      have hx := HX.out
      rw [if_neg (by rw [hnc]; exact h0), hq] at hx
      subst hx
      have wp' : IntKind.i64.wrap (q : Int) = (q : Int) := by rw [← eq1]; exact wp
      obtain ⟨ik, hik, hk0, hk1, hk2⟩ := info_parts infoKept5n
      have hao : kao = some ⟨kb, koff, none⟩ ∨ (kao = none ∧ nc = 0) := j4.imp id (fun h => ⟨h.1, by omega⟩)
      have HNC := Lib.hid hnc
      have j6' := HO2.out
      have hxc : Hid (CellsAt (w2.alloc (.cells #[Value.int .i64 (q : Nat), .int .i64 (f : Nat)] 91)).drew w2.heap.size 0 [.int .i64 (q : Nat), .int .i64 (f : Nat)]) := Lib.hid (fun i u hi => by
        have hB := (Blk.new w2 #[Value.int .i64 (q : Nat), .int .i64 (f : Nat)] 91).drew
        rw [Nat.zero_add]
        have := hB.cell i
        rw [this]
        simpa using hi)
      have hkc : Hid (CellsAt (w2.alloc (.cells #[Value.int .i64 (q : Nat), .int .i64 (f : Nat)] 91)).drew kb koff (kCells c)) := Lib.hid (j6.kept ((Only.refl Nil w2).alloc _).drew (fun _ h => h))
      have h1c : Hid (∀ u ∈ [Value.int .i64 (q : Nat), .int .i64 (f : Nat)], u.oneCell' = true) := Lib.hid (fun u hu => by
        simp only [List.mem_cons, List.not_mem_nil, or_false] at hu
        rcases hu with rfl | rfl <;> rfl)
      have hkl : Hid ((kCells c).length = nc * 2) := Lib.hid (by rw [kCells_len, hnc])
      have hao := Lib.hid hao
      have hkb : Hid (0 < nc → ¬ OwnTQ Q db vb ov.ownBlock kb ∧ kb < (w2.alloc (.cells #[Value.int .i64 (q : Nat), .int .i64 (f : Nat)] 91)).drew.heap.size) := Lib.hid (fun h => ⟨(j7 h).1, by have := (j7 h).2; have h9 := (((Only.refl Nil w2).alloc (.cells #[Value.int .i64 (q : Nat), .int .i64 (f : Nat)] 91)).drew).size; omega⟩)
      have hsz : Hid (∀ j, OwnTQ Q db vb ov.ownBlock j → j < (w2.alloc (.cells #[Value.int .i64 (q : Nat), .int .i64 (f : Nat)] 91)).drew.heap.size) := Lib.hid (fun j hj => by have := HSN2.out j hj; have h9 := (((Only.refl Nil w2).alloc (.cells #[Value.int .i64 (q : Nat), .int .i64 (f : Nat)] 91)).drew).size; omega)
      have s1 : Hid (nc + 1 ≤ maxLen) := Lib.hid (by simp [maxLen]; omega)
      have s2 : Hid ((nc + 1) * 16 ≤ 140737488355328) := Lib.hid (by omega)
      have q5 : (nc : Int) ≤ (kcap : Int) := by omega
      have q6 : (0 : Int) ≤ (nc : Int) := Int.natCast_nonneg _
      have hB2 := Lib.hid (HM2.out.blk.alloc (.cells #[Value.int .i64 (q : Nat), .int .i64 (f : Nat)] 91)).drew
      clear h0 hq HX hnc j6 j7 j4 j6' hnc1
      have d3d : w2.drew.cell? ⟨db, 3, none⟩ = some (.int .i64 (f : Nat)) := d3
      go_wp2_with fail
      have hSA : Only Nil w2 (w2.alloc (.cells #[Value.int .i64 (q : Nat), .int .i64 (f : Nat)] 91)).drew := ((Only.refl Nil w2).alloc _).drew
      go_cut [] (fun wx => ∃ a9 c9', TAt Q wx db vb code ⟨m, O, c ++ [(q, f)], i, o, f, t, p, fin, trap⟩ lv (.slice none 0 0) (.slice a9 (nc + 1) c9') iv ov ∧ TGone w2 wx db vb ov ov ∧ Only (M.One db) w2 wx)
      case first =>
        have hS : Only Nil w2 w2.drew := (Only.refl Nil w2).drew
        refine wp_region_T (fun w' => Only Nil w2 w') [26] (by kernel_rfl) ?_
        refine wpAnyT_take 0 (v := ?_) rfl (by kernel_rfl) (by kernel_rfl) (by kernel_rfl) (fun _ _ _ h => h) (by kernel_rfl) (by kernel_rfl) (Or.inl ⟨by kernel_rfl, ?_⟩) hS ?_
        rotate_left
        · (intro w' hw'; have d3' := M.Only.cell hw' d3 (fun h => h); have d6' := M.Only.cell hw' d6 (fun h => h); have hl' := Nat.lt_of_lt_of_le hlt2 hw'.size; go_simp; (try with_reducible rfl))
        refine wpAnyT_take 1 (v := ?_) rfl (by kernel_rfl) (by kernel_rfl) (by kernel_rfl) (fun _ _ _ h => h) (by kernel_rfl) (by kernel_rfl) (Or.inl ⟨by kernel_rfl, ?_⟩) hS ?_
        rotate_left
        · (intro w' hw'; have d3' := M.Only.cell hw' d3 (fun h => h); have d6' := M.Only.cell hw' d6 (fun h => h); have hl' := Nat.lt_of_lt_of_le hlt2 hw'.size; go_simp; (try with_reducible rfl))
        refine wpAnyT_take 2 (v := ?_) rfl (by kernel_rfl) (by kernel_rfl) (by kernel_rfl) (fun _ _ _ h => h) (by kernel_rfl) (by kernel_rfl) (Or.inl ⟨by kernel_rfl, ?_⟩) hS ?_
        rotate_left
        · (intro w' hw'; have d3' := M.Only.cell hw' d3 (fun h => h); have d6' := M.Only.cell hw' d6 (fun h => h); have hl' := Nat.lt_of_lt_of_le hlt2 hw'.size; go_simp; (try with_reducible rfl))
        refine wpAnyT_take 3 (v := ?_) rfl (by kernel_rfl) (by kernel_rfl) (by kernel_rfl) (fun _ _ _ h => h) (by kernel_rfl) (by kernel_rfl) (Or.inl ⟨by kernel_rfl, ?_⟩) hS ?_
        rotate_left
        · (intro w' hw'; have d3' := M.Only.cell hw' d3 (fun h => h); have d6' := M.Only.cell hw' d6 (fun h => h); have hl' := Nat.lt_of_lt_of_le hlt2 hw'.size; go_simp; (try with_reducible rfl))
        refine wpAnyT_take 4 (v := ?_) rfl (by kernel_rfl) (by kernel_rfl) (by kernel_rfl) (fun _ _ _ h => h) (by kernel_rfl) (by kernel_rfl) (Or.inl ⟨by kernel_rfl, ?_⟩) hS ?_
        rotate_left
        · (intro w' hw'; have d3' := M.Only.cell hw' d3 (fun h => h); have d6' := M.Only.cell hw' d6 (fun h => h); have hl' := Nat.lt_of_lt_of_le hlt2 hw'.size; go_simp; (try with_reducible rfl))
        refine wpAnyT_take 5 (v := ?_) rfl (by kernel_rfl) (by kernel_rfl) (by kernel_rfl) (fun _ _ _ h => h) (by kernel_rfl) (by kernel_rfl) (Or.inl ⟨by kernel_rfl, ?_⟩) hS ?_
        rotate_left
        · (intro w' hw'; have d3' := M.Only.cell hw' d3 (fun h => h); have d6' := M.Only.cell hw' d6 (fun h => h); have hl' := Nat.lt_of_lt_of_le hlt2 hw'.size; go_simp; (try with_reducible rfl))
        refine wpAnyT_take 6 (v := ?_) rfl (by kernel_rfl) (by kernel_rfl) (by kernel_rfl) (fun _ _ _ h => h) (by kernel_rfl) (by kernel_rfl) (Or.inl ⟨by kernel_rfl, ?_⟩) hS ?_
        rotate_left
        · (intro w' hw'; have d3' := M.Only.cell hw' d3 (fun h => h); have d6' := M.Only.cell hw' d6 (fun h => h); have hl' := Nat.lt_of_lt_of_le hlt2 hw'.size; go_simp; (try with_reducible rfl))
        refine wpAnyT_take 7 (v := ?_) rfl (by kernel_rfl) (by kernel_rfl) (by kernel_rfl) (fun _ _ _ h => h) (by kernel_rfl) (by kernel_rfl) (Or.inl ⟨by kernel_rfl, ?_⟩) hS ?_
        rotate_left
        · (intro w' hw'; have d3' := M.Only.cell hw' d3 (fun h => h); have d6' := M.Only.cell hw' d6 (fun h => h); have hl' := Nat.lt_of_lt_of_le hlt2 hw'.size; go_simp; (try with_reducible rfl))
        refine wpAnyT_take 8 (v := ?_) rfl (by kernel_rfl) (by kernel_rfl) (by kernel_rfl) (fun _ _ _ h => h) (by kernel_rfl) (by kernel_rfl) (Or.inl ⟨by kernel_rfl, ?_⟩) hS ?_
        rotate_left
        · (intro w' hw'; have d3' := M.Only.cell hw' d3 (fun h => h); have d6' := M.Only.cell hw' d6 (fun h => h); have hl' := Nat.lt_of_lt_of_le hlt2 hw'.size; go_simp; (try with_reducible rfl))
        refine wpAnyT_take 9 (v := ?_) rfl (by kernel_rfl) (by kernel_rfl) (by kernel_rfl) (fun _ _ _ h => h) (by kernel_rfl) (by kernel_rfl) (Or.inl ⟨by kernel_rfl, ?_⟩) hS ?_
        rotate_left
        · (intro w' hw'; have d3' := M.Only.cell hw' d3 (fun h => h); have d6' := M.Only.cell hw' d6 (fun h => h); have hl' := Nat.lt_of_lt_of_le hlt2 hw'.size; go_simp; (try with_reducible rfl))
        refine wpAnyT_take 10 (v := ?_) rfl (by kernel_rfl) (by kernel_rfl) (by kernel_rfl) (fun _ _ _ h => h) (by kernel_rfl) (by kernel_rfl) (Or.inl ⟨by kernel_rfl, ?_⟩) hS ?_
        rotate_left
        · (intro w' hw'; have d3' := M.Only.cell hw' d3 (fun h => h); have d6' := M.Only.cell hw' d6 (fun h => h); have hl' := Nat.lt_of_lt_of_le hlt2 hw'.size; go_simp; (try with_reducible rfl))
        refine wpAnyT_take 11 (v := ?_) rfl (by kernel_rfl) (by kernel_rfl) (by kernel_rfl) (fun _ _ _ h => h) (by kernel_rfl) (by kernel_rfl) (Or.inl ⟨by kernel_rfl, ?_⟩) hS ?_
        rotate_left
        · (intro w' hw'; have d3' := M.Only.cell hw' d3 (fun h => h); have d6' := M.Only.cell hw' d6 (fun h => h); have hl' := Nat.lt_of_lt_of_le hlt2 hw'.size; go_simp; (try with_reducible rfl))
        refine wpAnyT_take 12 (v := ?_) rfl (by kernel_rfl) (by kernel_rfl) (by kernel_rfl) (fun _ _ _ h => h) (by kernel_rfl) (by kernel_rfl) (Or.inl ⟨by kernel_rfl, ?_⟩) hS ?_
        rotate_left
        · (intro w' hw'; have d3' := M.Only.cell hw' d3 (fun h => h); have d6' := M.Only.cell hw' d6 (fun h => h); have hl' := Nat.lt_of_lt_of_le hlt2 hw'.size; go_simp; (try with_reducible rfl))
        refine wpAnyT_take 13 (v := ?_) rfl (by kernel_rfl) (by kernel_rfl) (by kernel_rfl) (fun _ _ _ h => h) (by kernel_rfl) (by kernel_rfl) (Or.inl ⟨by kernel_rfl, ?_⟩) hS ?_
        rotate_left
        · (intro w' hw'; have d3' := M.Only.cell hw' d3 (fun h => h); have d6' := M.Only.cell hw' d6 (fun h => h); have hl' := Nat.lt_of_lt_of_le hlt2 hw'.size; go_simp; (try with_reducible rfl))
        refine wpAnyT_take 14 (v := ?_) rfl (by kernel_rfl) (by kernel_rfl) (by kernel_rfl) (fun _ _ _ h => h) (by kernel_rfl) (by kernel_rfl) (Or.inl ⟨by kernel_rfl, ?_⟩) hS ?_
        rotate_left
        · (intro w' hw'; have d3' := M.Only.cell hw' d3 (fun h => h); have d6' := M.Only.cell hw' d6 (fun h => h); have hl' := Nat.lt_of_lt_of_le hlt2 hw'.size; go_simp; (try with_reducible rfl))
        refine wpAnyT_take 15 (v := ?_) rfl (by kernel_rfl) (by kernel_rfl) (by kernel_rfl) (fun _ _ _ h => h) (by kernel_rfl) (by kernel_rfl) (Or.inl ⟨by kernel_rfl, ?_⟩) hS ?_
        rotate_left
        · (intro w' hw'; have d3' := M.Only.cell hw' d3 (fun h => h); have d6' := M.Only.cell hw' d6 (fun h => h); have hl' := Nat.lt_of_lt_of_le hlt2 hw'.size; go_simp; (try with_reducible rfl))
        refine wpAnyT_take 16 (v := ?_) rfl (by kernel_rfl) (by kernel_rfl) (by kernel_rfl) (fun _ _ _ h => h) (by kernel_rfl) (by kernel_rfl) (Or.inl ⟨by kernel_rfl, ?_⟩) hS ?_
        rotate_left
        · (intro w' hw'; have d3' := M.Only.cell hw' d3 (fun h => h); have d6' := M.Only.cell hw' d6 (fun h => h); have hl' := Nat.lt_of_lt_of_le hlt2 hw'.size; go_simp; (try with_reducible rfl))
        refine wpAnyT_take 17 (v := ?_) rfl (by kernel_rfl) (by kernel_rfl) (by kernel_rfl) (fun _ _ _ h => h) (by kernel_rfl) (by kernel_rfl) (Or.inl ⟨by kernel_rfl, ?_⟩) hS ?_
        rotate_left
        · (intro w' hw'; have d3' := M.Only.cell hw' d3 (fun h => h); have d6' := M.Only.cell hw' d6 (fun h => h); have hl' := Nat.lt_of_lt_of_le hlt2 hw'.size; go_simp; (try with_reducible rfl))
        refine wpAnyT_take 18 (v := ?_) rfl (by kernel_rfl) (by kernel_rfl) (by kernel_rfl) (fun _ _ _ h => h) (by kernel_rfl) (by kernel_rfl) (Or.inl ⟨by kernel_rfl, ?_⟩) hS ?_
        rotate_left
        · (intro w' hw'; have d3' := M.Only.cell hw' d3 (fun h => h); have d6' := M.Only.cell hw' d6 (fun h => h); have hl' := Nat.lt_of_lt_of_le hlt2 hw'.size; go_simp; (try with_reducible rfl))
        refine wpAnyT_take 19 (v := ?_) rfl (by kernel_rfl) (by kernel_rfl) (by kernel_rfl) (fun _ _ _ h => h) (by kernel_rfl) (by kernel_rfl) (Or.inl ⟨by kernel_rfl, ?_⟩) hS ?_
        rotate_left
        · (intro w' hw'; have d3' := M.Only.cell hw' d3 (fun h => h); have d6' := M.Only.cell hw' d6 (fun h => h); have hl' := Nat.lt_of_lt_of_le hlt2 hw'.size; go_simp; (try with_reducible rfl))
        refine wpAnyT_take 20 (v := ?_) rfl (by kernel_rfl) (by kernel_rfl) (by kernel_rfl) (fun _ _ _ h => h) (by kernel_rfl) (by kernel_rfl) (Or.inl ⟨by kernel_rfl, ?_⟩) hS ?_
        rotate_left
        · (intro w' hw'; have d3' := M.Only.cell hw' d3 (fun h => h); have d6' := M.Only.cell hw' d6 (fun h => h); have hl' := Nat.lt_of_lt_of_le hlt2 hw'.size; go_simp; (try with_reducible rfl))
        refine wpAnyT_take 21 (v := ?_) rfl (by kernel_rfl) (by kernel_rfl) (by kernel_rfl) (fun _ _ _ h => h) (by kernel_rfl) (by kernel_rfl) (Or.inl ⟨by kernel_rfl, ?_⟩) hS ?_
        rotate_left
        · (intro w' hw'; have d3' := M.Only.cell hw' d3 (fun h => h); have d6' := M.Only.cell hw' d6 (fun h => h); have hl' := Nat.lt_of_lt_of_le hlt2 hw'.size; go_simp; (try with_reducible rfl))
        refine wpAnyT_one (i := 22) rfl (by kernel_rfl) (fun K hK => ?_)
        go_simp
        refine hK.out _ _ (fun _ => hSA) ?_
        clear hK K
        refine wpAnyT_one (i := 23) rfl (by kernel_rfl) (fun K hK => ?_)
        refine step_append_capped rfl (.tmp 259) (.tmp 266) 64 rfl 91 ik (.agg #[.int .i64 0, .int .i64 0]) 2 16 Try.underlying64 hik hk0 hk1 hk2 rfl (by decide) (OwnTQ Q db vb ov.ownBlock) hsz.out nc (kCells c) kao kb koff (by simp [Act.eval, Act.put]) hkl.out hao.out hkc.out hkb.out w2.heap.size 0 _ 1 1 [.int .i64 (q : Nat), .int .i64 (f : Nat)] (by simp [Act.eval, Act.put, eq1]) rfl (fun _ => rfl) hxc.out nofun h1c.out s1.out s2.out ?_
        intro v9 w9 hR9 ho9
        have hB9 := hB2.out.kept ho9 (fun h => h)
        have c9 : w9.cell? ⟨db, 6, none⟩ = some (.slice kao nc kcap) := (by rw [← HNC.out]; exact hB9.cell 6)
        have f9 : w9.frozen? ⟨db, 6, none⟩ = false := hB9.free 6
        obtain ⟨a9, c9', rfl⟩ := rd_shape hR9
        have hS9 : Only Nil w2 w9 := hSA.trans ho9 (fun _ _ h => h)
        refine hK.out _ _ (fun _ => hS9) ?_
        clear hK K
        refine wpAnyT_take 24 (v := ?_) rfl (by kernel_rfl) (by kernel_rfl) (by kernel_rfl) (fun _ _ _ h => h) (by kernel_rfl) (by kernel_rfl) (Or.inl ⟨by kernel_rfl, ?_⟩) hS9 ?_
        rotate_left
        · (intro w' hw'; have hl' := Nat.lt_of_lt_of_le hlt2 hw'.size; go_simp; (try with_reducible rfl))
        refine wpAnyT_take 25 (v := ?_) rfl (by kernel_rfl) (by kernel_rfl) (by kernel_rfl) (fun _ _ _ h => h) (by kernel_rfl) (by kernel_rfl) (Or.inl ⟨by kernel_rfl, ?_⟩) hS9 ?_
        rotate_left
        · (intro w' hw'; have hl' := Nat.lt_of_lt_of_le hlt2 hw'.size; go_simp; (try with_reducible rfl))
        refine wpAnyT_one (i := 26) rfl (by kernel_rfl) (fun K hK => ?_)
        go_simp
        refine hK.out _ _ (fun h => by cases h) ?_
        clear hK K
        refine wpAnyT_done (by kernel_rfl) ?_
        all_goals
          have ho29 : ∃ wa, Only Nil w2 wa ∧ Only Nil wa w9 := ⟨_, (by (repeat with_reducible first | exact Only.refl _ _ | refine Only.alloc ?_ _ | refine Only.drew ?_)), ho9⟩
          obtain ⟨wa, hoa, hob⟩ := ho29
          have hoW : Only Nil w2 w9 := hoa.trans hob (fun _ _ h => h)
          have e9 : kCells c ++ [.int .i64 (q : Nat), .int .i64 (f : Nat)] = kCells (c ++ [(q, f)]) := by rw [kCells_append]; rfl
          rw [e9] at hR9
          have hN := TAt.newCls HM2.out hoW (.slice a9 (nc + 1) c9') (c ++ [(q, f)]) (by rw [List.length_append, HNC.out]; exact hR9)
          have ho5 : Only (M.One db) w2 (w9.setCell ⟨db, 6, none⟩ (.slice a9 (nc + 1) c9')) := (hoW.mono (T := M.One db) (fun _ h => h.elim)).trans (Only.setOne (Only.refl (M.One db) _) _ _) (fun _ _ h => h)
          have HN := Lib.hid hN
          have HO5' := Lib.hid ho5
          clear hN ho5 hR9 ho9 hB9 c9 f9 hoa hob hoW e9
          go_wp2_with fail
          go_meet
          exact ⟨a9, c9', HN.out.1, HN.out.2, HO5'.out⟩
      case rest =>
        obtain ⟨a9, c9', hM5, hG5', ho5⟩ := hcut
        have hG5 := (TGone.of_nil HO2.out).trans hG5'
        obtain ⟨w5, rfl⟩ : ∃ w5, w5 = wc := ⟨_, rfl⟩
        clear hG5' d3d d1 d2 d3 d4 d5 d6 d7 d8 hxc hkc h1c hkl hao hkb hsz s1 s2 hB2
        have HM5 := Lib.hid (hM5)
        have HG5 := Lib.hid (hG5)
        have HO5 := Lib.hid (ho5)
        have HC5 := Lib.hid (cells_own HC.out HR.out HO5.out (S := OwnTQ Q db vb ov.ownBlock) (fun _ h => Or.inl (Or.inl h)) (fun h => (HPB.out h).1))
        have HPB5 : Hid (0 < 0 → ¬ OwnTQ Q db vb ov.ownBlock pb ∧ pb < w5.heap.size) := Lib.hid (fun h => ⟨(HPB.out h).1, Nat.lt_of_lt_of_le (HPB.out h).2 HO5.out.size⟩)
        have HSN5 : Hid (∀ j, OwnTQ Q db vb ov.ownBlock j → j < w5.heap.size) := Lib.hid (fun j hj => Nat.lt_of_lt_of_le (HSN2.out j hj) HO5.out.size)
        have e2 : w5.cell? ⟨db, 2, none⟩ = some (.slice none 0 0) := HM5.out.blk.cell 2
        have hlt5 := HM5.out.blk.lt
        clear hM5 hG5 ho5
        have HW3 : Hid (Only Nil w5 w5) := Lib.hid (Only.refl _ _)
        go_wp2_with (at_builtin; go_loud (refine wpList_append_capped rfl _ _ 57 rfl 21 i0 (.int .i32 0) 1 4 Try.underlying57 hi0 hz0 hz1 hz2 rfl (by decide) (OwnTQ Q db vb (ov).ownBlock) (fun j hj => Nat.lt_of_lt_of_le (HSN5.out j hj) HW3.out.size) 0 (I32s O) _ pb poff rfl (by rw [I32s_len, HR.out] <;> omega) (Or.inr ⟨rfl, rfl⟩) (HC5.out.kept HW3.out (fun _ h => h)) (fun h => ⟨(HPB5.out h).1, Nat.lt_of_lt_of_le (HPB5.out h).2 HW3.out.size⟩) 0 0 _ 0 0 (I32s []) rfl rfl (fun h => absurd h (Nat.lt_irrefl 0)) (fun i u hi => by simp [I32s] at hi) (fun _ => rfl) (I32s_one _) (by simp [maxLen] <;> omega) (by omega) ?_))
        intro v9 w4 hR9 ho9
        have hMX := HM5.out.quiet HW3.out
        have hB4 := hMX.blk.kept ho9 (fun h => h)
        have g2 := hB4.free 2
        have g5 := hB4.free 5
        have k2 : w4.cell? ⟨db, 2, none⟩ = some _ := hB4.cell 2
        have k5 : w4.cell? ⟨db, 5, none⟩ = some _ := hB4.cell 5
        have glt := hB4.lt
        have hR9 : RdRow (OwnTQ Q db vb (ov).ownBlock) w4 v9 (O).length (I32s (O)) := by have h := hR9; rw [show I32s ([] : List Int) = [] from rfl, List.append_nil] at h; rw [HR.out]; exact h
        obtain ⟨n9, hn9⟩ : ∃ n, (O).length = n := ⟨_, rfl⟩
        rw [hn9] at hR9
        obtain ⟨a9, c9, rfl⟩ := rd_shape hR9
        have HE := Lib.hid (tdo_end (HG5.out.trans (TGone.of_nil HW3.out)) hMX (O) _ (by rw [hn9]; exact hR9) ho9 (k))
        clear hMX hB4 hR9 ho9 hn9
        go_wp2_with fail
        go_ret
        (try simp only [List.append_nil])
        exact ⟨_, _, _, _, rfl, HE.out.1, HE.out.2⟩

end Go.Proofs.Ytpnhjjihdcopnaa
