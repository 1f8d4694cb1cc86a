/- The document's stack machine does one instruction. -/
import Derived.Test.YtpnhjjihdcopnaaTDoB
set_option linter.unusedSimpArgs false
set_option linter.unusedVariables false
namespace Go.Proofs.Ytpnhjjihdcopnaa
open Go.RowKit M
variable {Q : Nat → Prop}

theorem x_enter {m : List Int} {O : List Int} {c : List (Nat × Nat)} {i o : List Nat} {f t : Nat} {p : Int} {e r : Nat} (k : Int) : sExec ⟨m, O, c, i, o, f, t, p, e, r⟩ ⟨28, k⟩ = if k < 0 ∨ (m.length : Int) < t + k then none else some ⟨cleared m t k.toNat, O, c, i, o, t, t + k.toNat, p + 1, e, r⟩ := by
  have e1 : sExec ⟨m, O, c, i, o, f, t, p, e, r⟩ ⟨28, k⟩ = (sEnter ⟨m, O, c, i, o, f, t, p, e, r⟩ k).map sNext := by kernel_rfl
  rw [e1]
  unfold sEnter
  split <;> rfl
theorem cleared_set (m : List Int) (t z y : Nat) (hy : y = t + z) (h : y < m.length) : (cleared m t z).set y 0 = cleared m t (z + 1) := by
  subst hy
  unfold cleared
  have hm : min t m.length = t := by omega
  apply List.ext_getElem?
  intro j
  rw [List.getElem?_set]
  simp only [List.getElem?_append, List.length_append, List.length_take, List.length_replicate, List.getElem?_take, List.getElem?_drop, List.getElem?_replicate, hm]
  by_cases e : t + z = j
  · subst e
    simp only [List.length_drop]
    rw [if_pos trivial, if_pos (by omega), if_pos (by omega), if_neg (by omega), if_pos (by omega)]
  · rw [if_neg e]
    by_cases h1 : j < t
    · rw [if_pos (show j < t + z by omega), if_pos (show j < t + (z + 1) by omega)]
      simp only [h1, if_true]
    · by_cases h2 : j < t + z
      · rw [if_pos h2, if_pos (show j < t + (z + 1) by omega)]
        simp only [h1, if_false, show j - t < z by omega, show j - t < z + 1 by omega, if_true]
      · rw [if_neg h2, if_neg (show ¬ j < t + (z + 1) by omega)]
        congr 1
        omega


set_option maxRecDepth 10000 in
set_option maxHeartbeats 3200000 in
theorem tdo_28 (db vb : Nat) (k : Int) (hk : I32 k) (code : List Cod) (s : SS) (lv pv kv iv ov : Value) (w : World) (hQ : ∀ j, Q j → j < w.heap.size) (hM : TAt Q w db vb code s lv pv kv iv ov) (hs : s.Ok) (hol : s.out.length ≤ 1099511627776) (hA : 0 ≤ s.ops.length) (hB : s.ops.length - 0 + 0 ≤ 1000) :
    Calls Try.prog 35 #[.pointer (some ⟨db, 0, none⟩), .agg #[.int .i64 28, .int .i32 k]] w (TDoes Q w db vb code s lv ov (sExec s ⟨28, k⟩)) := by
  have cE := fun w => effectR_any 28 (by decide) (by decide) w
  rw [show ((takesV 28 : Nat) : Int) = 0 from rfl, show ((leavesV 28 : Nat) : Int) = 0 from rfl] at cE
  obtain ⟨i0, hi0, hz0, hz1, hz2⟩ := info_parts Try.info21
  have hSn0 := hM.hSn hQ
  have hnops := hs.nops
  obtain ⟨m, O, c, i, o, f, t, p, fin, trap⟩ := s
  simp only at hA hB hnops
  obtain ⟨T, hT⟩ : ∃ T, O = T := ⟨_, rfl⟩
  subst hT
  obtain ⟨r, hr⟩ : ∃ r, O.length = r := ⟨_, rfl⟩
  obtain ⟨X, hX⟩ : ∃ X, sExec ⟨m, O, c, i, o, f, t, p, fin, trap⟩ ⟨28, k⟩ = X := ⟨_, rfl⟩
  rw [hX]
  rw [x_enter k] at hX
  have HX := Lib.hid hX
  clear hX
  have hrow := hM.ops
  simp only at hrow
  rw [hr] at hrow hA hB hnops
  obtain ⟨pb, pao, pcap, poff, rfl, p2, p3, p4, p6, p7⟩ := hrow
  have l1 : decide ((r : Int) < 0) = false := by simp
  have l2 : r ≤ 1000 := by omega
  have l3 : decide ((1000 : Int) < (r : Int) + 0) = false := by simp; omega
  have l4 : decide ((1000 : Int) < (r : Int)) = false := by simp; omega
  have l5 : decide (1000 < r) = false := by simp; omega
  have q3 : (r : Int) ≤ (pcap : Int) := by omega
  have q4 : (r : Int) ≤ (pcap : Int) := by omega
  have q0 : (0 : Int) ≤ (r : Int) := Int.natCast_nonneg _
  unfold maxLen at p3
  have wk : IntKind.i64.wrap k = k := by unfold I32 at hk; rw [IntKind.wrap_i64]; omega
  have wp : IntKind.i64.wrap (p + 1) = p + 1 := by have h1 := hs.pc1; have h2 := hs.pc2; simp only at h1 h2; rw [IntKind.wrap_i64]; omega
  have HM := Lib.hid hM
  have HSN := Lib.hid hSn0
  have HS := Lib.hid hs
  have HQ := Lib.hid hQ
  have HK := Lib.hid hk
  have HR := Lib.hid hr
  have HP6 := Lib.hid p6
  have HP7 := Lib.hid p7
  have HOL := Lib.hid hol
  clear hM hs hk hQ hSn0 hr p6 p7 hol hA hB hnops
  rcases p4 with rfl | ⟨rfl, rfl⟩
  · obtain ⟨ap, hap⟩ : ∃ ap, (if pcap = r then some (⟨pb, poff, none⟩ : Addr) else some ⟨pb, poff + r, none⟩) = ap := ⟨_, rfl⟩
    have hapn : ap ≠ none := by intro h; rw [h] at hap; split at hap <;> cases hap
    have HAP := Lib.hid hapn
    clear hapn
    go_enter Try.func35, Try.ntmps35
    go_wp2_with fail
    have hB1 := Blk.new w #[Value.int .i64 28, .int .i32 k] 55
    have ho1 : Only Nil w (w.alloc (.cells #[Value.int .i64 28, .int .i32 k] 55)) := (Only.refl _ _).alloc _
    obtain ⟨w1, hw1⟩ : ∃ w1, w.alloc (.cells #[Value.int .i64 28, .int .i32 k] 55) = w1 := ⟨_, rfl⟩
    obtain ⟨xb, hxb⟩ : ∃ xb, w.heap.size = xb := ⟨_, rfl⟩
    rw [hw1, hxb] at hB1
    rw [hw1] at ho1 ⊢
    rw [hxb]
    have hM1 := HM.out.quiet ho1
    have c2 : w1.cell? ⟨db, 2, none⟩ = some (.slice (some ⟨pb, poff, none⟩) r pcap) := hM1.blk.cell 2
    have c5 : w1.cell? ⟨db, 5, none⟩ = some (.int .i64 p) := hM1.blk.cell 5
    have x1 : w1.cell? ⟨xb, 1, none⟩ = some (.int .i32 k) := hB1.cell 1
    have hlt := hM1.blk.lt
    have hltx := hB1.lt
    have HM1 := Lib.hid hM1
    have HO1 := Lib.hid ho1
    have HB1 := Lib.hid hB1
    clear hw1 hxb hM1 ho1 hB1
    refine (cE _).mono ?_
    rintro e we ⟨rfl, rfl⟩
    clear cE
    go_wp2_with (at_builtin; go_loud (refine wpList_append_src rfl _ _ 57 rfl w1.heap.size 21 i0 (.int .i32 0) 4 Try.underlying57 hi0 hz0 hz1 hz2 rfl _ _ _ rfl (World.ownsRow_nil _ _ _ _) pb _ (I32s []) rfl (src_zero _ _ _ _ (fun h => absurd h HAP.out)) (I32s_one _) (by simp [I32s, maxLen]) (by simp [I32s]) (Nat.le_refl _) ?_))
    intro v8 w2 hown8 hob8 ho8
    have ho2 : Only Nil w1 w2 := ho8.mono (fun _ h => by cases h)
    obtain ⟨a8, cap8, rfl⟩ := sl_of_own hown8
    have hM2 := HM1.out.quiet ho2
    have d1 : w2.cell? ⟨db, 1, none⟩ = some (.slice (some ⟨vb, 0, none⟩) m.length m.length) := hM2.blk.cell 1
    have d2 : w2.cell? ⟨db, 2, none⟩ = some (.slice (some ⟨pb, poff, none⟩) r pcap) := ho2.cell c2 (fun h => h)
    have d3 : w2.cell? ⟨db, 3, none⟩ = some (.int .i64 (f : Nat)) := hM2.blk.cell 3
    have d4 : w2.cell? ⟨db, 4, none⟩ = some (.int .i64 (t : Nat)) := hM2.blk.cell 4
    have d5 : w2.cell? ⟨db, 5, none⟩ = some (.int .i64 p) := hM2.blk.cell 5
    have d6 : w2.cell? ⟨db, 6, none⟩ = some kv := hM2.blk.cell 6
    have d7 : w2.cell? ⟨db, 7, none⟩ = some iv := hM2.blk.cell 7
    have d8 : w2.cell? ⟨db, 8, none⟩ = some ov := hM2.blk.cell 8
    have z0 : w2.cell? ⟨xb, 0, none⟩ = some (.int .i64 28) := (HB1.out.kept ho2 (fun h => h)).cell 0
    have z1 : w2.cell? ⟨xb, 1, none⟩ = some (.int .i32 k) := (HB1.out.kept ho2 (fun h => h)).cell 1
    have hlt2 := hM2.blk.lt
    have hltx2 := (HB1.out.kept ho2 (fun h => h)).lt
    have HM2 := Lib.hid hM2
    have HO2 := Lib.hid (HO1.out.trans ho2 (fun _ _ h => h))
    have hp6 := HP6.out.kept HO2.out (fun _ h => h)
    have HC := Lib.hid (hp6)
    have HPB : Hid (0 < r → ¬ OwnTQ Q db vb ov.ownBlock pb ∧ pb < w2.heap.size) := Lib.hid (fun h => ⟨(HP7.out (by omega)).1, Nat.lt_of_lt_of_le (HP7.out (by omega)).2 HO2.out.size⟩)
    have HSN2 : Hid (∀ j, OwnTQ Q db vb ov.ownBlock j → j < w2.heap.size) := Lib.hid (fun j hj => Nat.lt_of_lt_of_le (HSN.out j hj) HO2.out.size)
    clear c2 c5 x1 hlt hltx ho8 hown8 hob8 ho2 hM2 hp6
    have hlm : m.length ≤ 1048576 := HS.out.len
    have htop : t ≤ m.length := HS.out.top
    have hk32 := HK.out
    unfold I32 at hk32
    by_cases h0 : k < 0
    · have hx := HX.out
      rw [if_pos (Or.inl h0)] at hx
      subst hx
      have t0 : decide (k < 0) = true := by simp [h0]
      clear HX hlm htop hk32
      go_wp2_with fail
      go_region
      go_wp2_with fail
      go_ret
      exact ⟨_, _, _, _, rfl, TGone.of_nil (HO2.out.trans (by (repeat with_reducible first | exact Only.refl _ _ | refine Only.alloc ?_ _ | refine M.Only.drewN ?_ _ | refine Only.drew ?_)) (fun _ _ h => h)), HM2.out.quiet (by (repeat with_reducible first | exact Only.refl _ _ | refine Only.alloc ?_ _ | refine M.Only.drewN ?_ _ | refine Only.drew ?_))⟩
    · obtain ⟨K, rfl⟩ : ∃ K : Nat, k = (K : Int) := ⟨k.toNat, by omega⟩
      obtain ⟨ml, hml⟩ : ∃ ml, m.length = ml := ⟨_, rfl⟩
      rw [hml] at d1 hlm htop
      obtain ⟨u, hu⟩ : ∃ u, t + K = u := ⟨_, rfl⟩
      have wu : IntKind.i64.wrap ((t : Int) + (K : Int)) = (u : Int) := by rw [IntKind.wrap_i64]; omega
      have wu2 : (t : Int) + (K : Int) = (u : Int) := by omega
      have wu3 : IntKind.i64.wrap (u : Int) = (u : Int) := by rw [IntKind.wrap_i64]; omega
      by_cases h1 : ml < u
      · have hx := HX.out
        rw [if_pos (Or.inr (by rw [hml]; omega))] at hx
        subst hx
        have t1 : decide ((K : Int) < 0) = false := by simp
        have t2 : (ml : Int) < (u : Int) := by omega
        have t3 : decide ((ml : Int) < (u : Int)) = true := by simp; omega
        clear HX hlm htop hk32 hu hml h0
        go_wp2_with fail
        go_quiet (fail)
        go_wp2_with fail
        go_ret
        exact ⟨_, _, _, _, rfl, TGone.of_nil (HO2.out.trans (by (repeat with_reducible first | exact Only.refl _ _ | refine Only.alloc ?_ _ | refine M.Only.drewN ?_ _ | refine Only.drew ?_)) (fun _ _ h => h)), HM2.out.quiet (by (repeat with_reducible first | exact Only.refl _ _ | refine Only.alloc ?_ _ | refine M.Only.drewN ?_ _ | refine Only.drew ?_))⟩
      · have hx := HX.out
        rw [if_neg (by rw [hml]; omega)] at hx
        simp only [Int.toNat_natCast, hu] at hx
        subst hx
        have t2 : (u : Int) ≤ (ml : Int) := by omega
        have t3 : decide ((ml : Int) < (u : Int)) = false := by simp; omega
        have t1 : decide ((K : Int) < 0) = false := by simp
        have HU := Lib.hid hu
        have HML := Lib.hid hml
        have HT2 := Lib.hid (show u ≤ ml by omega)
        clear h0 h1 hu hml HX
        go_wp2_with fail
        go_quiet (fail)
        have ho3 : Only Nil w2 (w2.drewN nq) := M.Only.drewN (Only.refl _ _) _
        obtain ⟨w3, hw3⟩ : ∃ w3, w2.drewN nq = w3 := ⟨_, rfl⟩
        rw [hw3] at ho3
        rw [hw3]
        have hM3 := HM2.out.quiet ho3
        have f3' := hM3.blk.free 3
        have f4' := hM3.blk.free 4
        have HM3 := Lib.hid hM3
        have HO3 := Lib.hid ho3
        have d1' := ho3.cell d1 (fun h => h)
        have d3' := ho3.cell d3 (fun h => h)
        have d4' := ho3.cell d4 (fun h => h)
        have hlt2' := Nat.lt_of_lt_of_le hlt2 ho3.size
        have hltx2' := Nat.lt_of_lt_of_le hltx2 ho3.size
        clear d1 d3 d4 hlt2 hltx2
        clear hw3 hM3 ho3 d2 d5 d6 d7 d8 z0 z1
        go_wp2_with fail
        have hB4 := (HM3.out.blk.setCell 3 (.int .i64 (t : Nat))).setCell 4 (.int .i64 (u : Nat))
        rw [tcells_fp, tcells_top] at hB4
        have ho4 : Only (M.One db) w3 ((w3.setCell ⟨db, 3, none⟩ (.int .i64 (t : Nat))).setCell ⟨db, 4, none⟩ (.int .i64 (u : Nat))) := Only.twoCells 3 4 _ _
        have hM4 := HM3.out.one (s' := ⟨m, O, c, i, o, t, u, p, fin, trap⟩) ho4 hB4 rfl rfl rfl rfl rfl
        have hO4 : Only (fun j => j = db ∨ j = vb) w2 ((w3.setCell ⟨db, 3, none⟩ (.int .i64 (t : Nat))).setCell ⟨db, 4, none⟩ (.int .i64 (u : Nat))) := (HO3.out.mono (T := fun j => j = db ∨ j = vb) (fun _ h => h.elim)).trans ho4 (fun _ _ h => Or.inl h)
        have HM4 := Lib.hid hM4
        have HO4 := Lib.hid hO4
        clear hB4 ho4 hM4 hO4 d1' d3' d4' f3' f4'
        go_loopg [13] K (fun g xv wr => ∃ (z y : Nat), xv = .int .i64 (y : Int) ∧ y = t + z ∧ z ≤ K ∧ g = K - z ∧ TAt Q wr db vb code ⟨cleared m t z, O, c, i, o, t, u, p, fin, trap⟩ lv (.slice (some ⟨pb, poff, none⟩) r pcap) kv iv ov ∧ Only (fun j => j = db ∨ j = vb) w2 wr)
        case atStart => exact ⟨0, t, rfl, rfl, Nat.zero_le _, rfl, by rw [show cleared m t 0 = m by simp [cleared]]; exact HM4.out, HO4.out⟩
        case round =>
          clear HM4 HO4
          obtain ⟨z, y, rfl, hy, hz, hg, hM, ho⟩ := hrel
          have HG := Lib.hid hg
          have HY := Lib.hid hy
          have hcl : (cleared m t z).length = ml := by rw [cleared_len m t z (by rw [HML.out]; have := HU.out; have := HT2.out; omega)]; exact HML.out
          by_cases hzk : z < K
          · have y1 : (y : Int) < (u : Int) := by have := HU.out; omega
            have y2 : (y : Int) < (ml : Int) := by omega
            have y0 : (0 : Int) ≤ (y : Int) := Int.natCast_nonneg _
            have ylm : y < ml := by omega
            have c1 : wr.cell? ⟨db, 1, none⟩ = some (.slice (some ⟨vb, 0, none⟩) ml ml) := by have := hM.blk.cell 1; rw [← hcl]; exact this
            have c4 : wr.cell? ⟨db, 4, none⟩ = some (.int .i64 (u : Nat)) := hM.blk.cell 4
            have hl1 := hM.blk.lt
            have hl2 := hM.wrd.lt
            obtain ⟨xx, hxx⟩ : ∃ xx, (cleared m t z).getD y 0 = xx := ⟨_, rfl⟩
            have cv : wr.cell? ⟨vb, y, none⟩ = some (.int .i32 xx) := by rw [hM.wrd.cell y, ← hxx]; simp [I32s, List.getD, show y < (cleared m t z).length by omega]
            have fv := hM.wrd.free y
            have hS := TAt.store hM y 0
            have e9 : (cleared m t z).set y 0 = cleared m t (z + 1) := cleared_set m t z y hy (by rw [HML.out]; exact ylm)
            simp only [e9] at hS
            have hlim : y < 1048576 := by omega
            have HS1 := Lib.hid hS.1
            have HO1' := Lib.hid (ho.trans (Only.setOne (Only.refl (M.One vb) wr) y (.int .i32 0)) (fun _ _ h => Or.inr h))
            clear hM ho hg hy hcl hxx hS e9
            go_wp2_with fail
            go_roundg (K - (z + 1))
            case measure => have := HG.out; omega
            case rel => exact ⟨z + 1, y + 1, by go_num, by have := HY.out; omega, by omega, rfl, HS1.out, HO1'.out⟩
          · have hzk' : z = K := by omega
            subst hzk'
            have hyu : y = u := by have := HU.out; omega
            subst hyu
            have c4 : wr.cell? ⟨db, 4, none⟩ = some (.int .i64 (y : Nat)) := hM.blk.cell 4
            obtain ⟨w5, rfl⟩ : ∃ w5, w5 = wr := ⟨_, rfl⟩
            have hG5 : TGone w w5 db vb ov ov := (TGone.of_nil HO2.out).trans ⟨ho.mono (fun _ h => h.elim Or.inl (fun h => Or.inr (Or.inl h))), Or.inl rfl⟩
            have hM5 := hM
            have ho5 := ho
            clear hM ho hg hy hcl
            have HM5 := Lib.hid (hM5)
            have HG5 := Lib.hid (hG5)
            have HO5 := Lib.hid (ho5)
            have HC5 := Lib.hid (cells_own HC.out HR.out HO5.out (S := OwnTQ Q db vb ov.ownBlock) (fun _ h => Or.inl (h.elim Or.inl (fun h => Or.inr (Or.inl h)))) (fun h => (HPB.out h).1))
            have HPB5 : Hid (0 < r → ¬ OwnTQ Q db vb ov.ownBlock pb ∧ pb < w5.heap.size) := Lib.hid (fun h => ⟨(HPB.out h).1, Nat.lt_of_lt_of_le (HPB.out h).2 HO5.out.size⟩)
            have HSN5 : Hid (∀ j, OwnTQ Q db vb ov.ownBlock j → j < w5.heap.size) := Lib.hid (fun j hj => Nat.lt_of_lt_of_le (HSN2.out j hj) HO5.out.size)
            have e2 : w5.cell? ⟨db, 2, none⟩ = some (.slice (some ⟨pb, poff, none⟩) r pcap) := HM5.out.blk.cell 2
            have hlt5 := HM5.out.blk.lt
            clear hM5 hG5 ho5
            have HW3 : Hid (Only Nil w5 w5) := Lib.hid (Only.refl _ _)
            go_wp2_with (at_builtin; go_loud (refine wpList_append_capped rfl _ _ 57 rfl 21 i0 (.int .i32 0) 1 4 Try.underlying57 hi0 hz0 hz1 hz2 rfl (by decide) (OwnTQ Q db vb (ov).ownBlock) (fun j hj => Nat.lt_of_lt_of_le (HSN5.out j hj) HW3.out.size) r (I32s O) _ pb poff rfl (by rw [I32s_len, HR.out] <;> omega) (Or.inl rfl) (HC5.out.kept HW3.out (fun _ h => h)) (fun h => ⟨(HPB5.out h).1, Nat.lt_of_lt_of_le (HPB5.out h).2 HW3.out.size⟩) 0 0 _ 0 0 (I32s []) rfl rfl (fun h => absurd h (Nat.lt_irrefl 0)) (fun i u hi => by simp [I32s] at hi) (fun _ => rfl) (I32s_one _) (by simp [maxLen] <;> omega) (by omega) ?_))
            intro v9 w4 hR9 ho9
            have hMX := HM5.out.quiet HW3.out
            have hB4 := hMX.blk.kept ho9 (fun h => h)
            have g2 := hB4.free 2
            have g5 := hB4.free 5
            have k2 : w4.cell? ⟨db, 2, none⟩ = some _ := hB4.cell 2
            have k5 : w4.cell? ⟨db, 5, none⟩ = some _ := hB4.cell 5
            have glt := hB4.lt
            have hR9 : RdRow (OwnTQ Q db vb (ov).ownBlock) w4 v9 (O).length (I32s (O)) := by have h := hR9; rw [show I32s ([] : List Int) = [] from rfl, List.append_nil] at h; rw [HR.out]; exact h
            obtain ⟨n9, hn9⟩ : ∃ n, (O).length = n := ⟨_, rfl⟩
            rw [hn9] at hR9
            obtain ⟨a9, c9, rfl⟩ := rd_shape hR9
            have HE := Lib.hid (tdo_end (HG5.out.trans (TGone.of_nil HW3.out)) hMX (O) _ (by rw [hn9]; exact hR9) ho9 (p + 1))
            clear hMX hB4 hR9 ho9 hn9
            go_wp2_with fail
            go_ret
            (try simp only [List.append_nil])
            exact ⟨_, _, _, _, rfl, HE.out.1, HE.out.2⟩
  · obtain rfl : r = 0 := by omega
    go_enter Try.func35, Try.ntmps35
    go_wp2_with fail
    have hB1 := Blk.new w #[Value.int .i64 28, .int .i32 k] 55
    have ho1 : Only Nil w (w.alloc (.cells #[Value.int .i64 28, .int .i32 k] 55)) := (Only.refl _ _).alloc _
    obtain ⟨w1, hw1⟩ : ∃ w1, w.alloc (.cells #[Value.int .i64 28, .int .i32 k] 55) = w1 := ⟨_, rfl⟩
    obtain ⟨xb, hxb⟩ : ∃ xb, w.heap.size = xb := ⟨_, rfl⟩
    rw [hw1, hxb] at hB1
    rw [hw1] at ho1 ⊢
    rw [hxb]
    have hM1 := HM.out.quiet ho1
    have c2 : w1.cell? ⟨db, 2, none⟩ = some (.slice (none) 0 0) := hM1.blk.cell 2
    have c5 : w1.cell? ⟨db, 5, none⟩ = some (.int .i64 p) := hM1.blk.cell 5
    have x1 : w1.cell? ⟨xb, 1, none⟩ = some (.int .i32 k) := hB1.cell 1
    have hlt := hM1.blk.lt
    have hltx := hB1.lt
    have HM1 := Lib.hid hM1
    have HO1 := Lib.hid ho1
    have HB1 := Lib.hid hB1
    clear hw1 hxb hM1 ho1 hB1
    refine (cE _).mono ?_
    rintro e we ⟨rfl, rfl⟩
    clear cE
    go_wp2_with (at_builtin; go_loud (refine wpList_append_src rfl _ _ 57 rfl w1.heap.size 21 i0 (.int .i32 0) 4 Try.underlying57 hi0 hz0 hz1 hz2 rfl _ _ _ rfl (World.ownsRow_nil _ _ _ _) pb _ (I32s []) rfl (src_zero _ _ _ _ (fun _ => rfl)) (I32s_one _) (by simp [I32s, maxLen]) (by simp [I32s]) (Nat.le_refl _) ?_))
    intro v8 w2 hown8 hob8 ho8
    have ho2 : Only Nil w1 w2 := ho8.mono (fun _ h => by cases h)
    obtain ⟨a8, cap8, rfl⟩ := sl_of_own hown8
    have hM2 := HM1.out.quiet ho2
    have d1 : w2.cell? ⟨db, 1, none⟩ = some (.slice (some ⟨vb, 0, none⟩) m.length m.length) := hM2.blk.cell 1
    have d2 : w2.cell? ⟨db, 2, none⟩ = some (.slice (none) 0 0) := ho2.cell c2 (fun h => h)
    have d3 : w2.cell? ⟨db, 3, none⟩ = some (.int .i64 (f : Nat)) := hM2.blk.cell 3
    have d4 : w2.cell? ⟨db, 4, none⟩ = some (.int .i64 (t : Nat)) := hM2.blk.cell 4
    have d5 : w2.cell? ⟨db, 5, none⟩ = some (.int .i64 p) := hM2.blk.cell 5
    have d6 : w2.cell? ⟨db, 6, none⟩ = some kv := hM2.blk.cell 6
    have d7 : w2.cell? ⟨db, 7, none⟩ = some iv := hM2.blk.cell 7
    have d8 : w2.cell? ⟨db, 8, none⟩ = some ov := hM2.blk.cell 8
    have z0 : w2.cell? ⟨xb, 0, none⟩ = some (.int .i64 28) := (HB1.out.kept ho2 (fun h => h)).cell 0
    have z1 : w2.cell? ⟨xb, 1, none⟩ = some (.int .i32 k) := (HB1.out.kept ho2 (fun h => h)).cell 1
    have hlt2 := hM2.blk.lt
    have hltx2 := (HB1.out.kept ho2 (fun h => h)).lt
    have HM2 := Lib.hid hM2
    have HO2 := Lib.hid (HO1.out.trans ho2 (fun _ _ h => h))
    have hp6 := HP6.out.kept HO2.out (fun _ h => h)
    have HC := Lib.hid (hp6)
    have HPB : Hid (0 < 0 → ¬ OwnTQ Q db vb ov.ownBlock pb ∧ pb < w2.heap.size) := Lib.hid (fun h => ⟨(HP7.out (by omega)).1, Nat.lt_of_lt_of_le (HP7.out (by omega)).2 HO2.out.size⟩)
    have HSN2 : Hid (∀ j, OwnTQ Q db vb ov.ownBlock j → j < w2.heap.size) := Lib.hid (fun j hj => Nat.lt_of_lt_of_le (HSN.out j hj) HO2.out.size)
    clear c2 c5 x1 hlt hltx ho8 hown8 hob8 ho2 hM2 hp6
    have hlm : m.length ≤ 1048576 := HS.out.len
    have htop : t ≤ m.length := HS.out.top
    have hk32 := HK.out
    unfold I32 at hk32
    by_cases h0 : k < 0
    · have hx := HX.out
      rw [if_pos (Or.inl h0)] at hx
      subst hx
      have t0 : decide (k < 0) = true := by simp [h0]
      clear HX hlm htop hk32
      go_wp2_with fail
      go_region
      go_wp2_with fail
      go_ret
      exact ⟨_, _, _, _, rfl, TGone.of_nil (HO2.out.trans (by (repeat with_reducible first | exact Only.refl _ _ | refine Only.alloc ?_ _ | refine M.Only.drewN ?_ _ | refine Only.drew ?_)) (fun _ _ h => h)), HM2.out.quiet (by (repeat with_reducible first | exact Only.refl _ _ | refine Only.alloc ?_ _ | refine M.Only.drewN ?_ _ | refine Only.drew ?_))⟩
    · obtain ⟨K, rfl⟩ : ∃ K : Nat, k = (K : Int) := ⟨k.toNat, by omega⟩
      obtain ⟨ml, hml⟩ : ∃ ml, m.length = ml := ⟨_, rfl⟩
      rw [hml] at d1 hlm htop
      obtain ⟨u, hu⟩ : ∃ u, t + K = u := ⟨_, rfl⟩
      have wu : IntKind.i64.wrap ((t : Int) + (K : Int)) = (u : Int) := by rw [IntKind.wrap_i64]; omega
      have wu2 : (t : Int) + (K : Int) = (u : Int) := by omega
      have wu3 : IntKind.i64.wrap (u : Int) = (u : Int) := by rw [IntKind.wrap_i64]; omega
      by_cases h1 : ml < u
      · have hx := HX.out
        rw [if_pos (Or.inr (by rw [hml]; omega))] at hx
        subst hx
        have t1 : decide ((K : Int) < 0) = false := by simp
        have t2 : (ml : Int) < (u : Int) := by omega
        have t3 : decide ((ml : Int) < (u : Int)) = true := by simp; omega
        clear HX hlm htop hk32 hu hml h0
        go_wp2_with fail
        go_quiet (fail)
        go_wp2_with fail
        go_ret
        exact ⟨_, _, _, _, rfl, TGone.of_nil (HO2.out.trans (by (repeat with_reducible first | exact Only.refl _ _ | refine Only.alloc ?_ _ | refine M.Only.drewN ?_ _ | refine Only.drew ?_)) (fun _ _ h => h)), HM2.out.quiet (by (repeat with_reducible first | exact Only.refl _ _ | refine Only.alloc ?_ _ | refine M.Only.drewN ?_ _ | refine Only.drew ?_))⟩
      · have hx := HX.out
        rw [if_neg (by rw [hml]; omega)] at hx
        simp only [Int.toNat_natCast, hu] at hx
        subst hx
        have t2 : (u : Int) ≤ (ml : Int) := by omega
        have t3 : decide ((ml : Int) < (u : Int)) = false := by simp; omega
        have t1 : decide ((K : Int) < 0) = false := by simp
        have HU := Lib.hid hu
        have HML := Lib.hid hml
        have HT2 := Lib.hid (show u ≤ ml by omega)
        clear h0 h1 hu hml HX
        go_wp2_with fail
        go_quiet (fail)
        have ho3 : Only Nil w2 (w2.drewN nq) := M.Only.drewN (Only.refl _ _) _
        obtain ⟨w3, hw3⟩ : ∃ w3, w2.drewN nq = w3 := ⟨_, rfl⟩
        rw [hw3] at ho3
        rw [hw3]
        have hM3 := HM2.out.quiet ho3
        have f3' := hM3.blk.free 3
        have f4' := hM3.blk.free 4
        have HM3 := Lib.hid hM3
        have HO3 := Lib.hid ho3
        have d1' := ho3.cell d1 (fun h => h)
        have d3' := ho3.cell d3 (fun h => h)
        have d4' := ho3.cell d4 (fun h => h)
        have hlt2' := Nat.lt_of_lt_of_le hlt2 ho3.size
        have hltx2' := Nat.lt_of_lt_of_le hltx2 ho3.size
        clear d1 d3 d4 hlt2 hltx2
        clear hw3 hM3 ho3 d2 d5 d6 d7 d8 z0 z1
        go_wp2_with fail
        have hB4 := (HM3.out.blk.setCell 3 (.int .i64 (t : Nat))).setCell 4 (.int .i64 (u : Nat))
        rw [tcells_fp, tcells_top] at hB4
        have ho4 : Only (M.One db) w3 ((w3.setCell ⟨db, 3, none⟩ (.int .i64 (t : Nat))).setCell ⟨db, 4, none⟩ (.int .i64 (u : Nat))) := Only.twoCells 3 4 _ _
        have hM4 := HM3.out.one (s' := ⟨m, O, c, i, o, t, u, p, fin, trap⟩) ho4 hB4 rfl rfl rfl rfl rfl
        have hO4 : Only (fun j => j = db ∨ j = vb) w2 ((w3.setCell ⟨db, 3, none⟩ (.int .i64 (t : Nat))).setCell ⟨db, 4, none⟩ (.int .i64 (u : Nat))) := (HO3.out.mono (T := fun j => j = db ∨ j = vb) (fun _ h => h.elim)).trans ho4 (fun _ _ h => Or.inl h)
        have HM4 := Lib.hid hM4
        have HO4 := Lib.hid hO4
        clear hB4 ho4 hM4 hO4 d1' d3' d4' f3' f4'
        go_loopg [13] K (fun g xv wr => ∃ (z y : Nat), xv = .int .i64 (y : Int) ∧ y = t + z ∧ z ≤ K ∧ g = K - z ∧ TAt Q wr db vb code ⟨cleared m t z, O, c, i, o, t, u, p, fin, trap⟩ lv (.slice none 0 0) kv iv ov ∧ Only (fun j => j = db ∨ j = vb) w2 wr)
        case atStart => exact ⟨0, t, rfl, rfl, Nat.zero_le _, rfl, by rw [show cleared m t 0 = m by simp [cleared]]; exact HM4.out, HO4.out⟩
        case round =>
          clear HM4 HO4
          obtain ⟨z, y, rfl, hy, hz, hg, hM, ho⟩ := hrel
          have HG := Lib.hid hg
          have HY := Lib.hid hy
          have hcl : (cleared m t z).length = ml := by rw [cleared_len m t z (by rw [HML.out]; have := HU.out; have := HT2.out; omega)]; exact HML.out
          by_cases hzk : z < K
          · have y1 : (y : Int) < (u : Int) := by have := HU.out; omega
            have y2 : (y : Int) < (ml : Int) := by omega
            have y0 : (0 : Int) ≤ (y : Int) := Int.natCast_nonneg _
            have ylm : y < ml := by omega
            have c1 : wr.cell? ⟨db, 1, none⟩ = some (.slice (some ⟨vb, 0, none⟩) ml ml) := by have := hM.blk.cell 1; rw [← hcl]; exact this
            have c4 : wr.cell? ⟨db, 4, none⟩ = some (.int .i64 (u : Nat)) := hM.blk.cell 4
            have hl1 := hM.blk.lt
            have hl2 := hM.wrd.lt
            obtain ⟨xx, hxx⟩ : ∃ xx, (cleared m t z).getD y 0 = xx := ⟨_, rfl⟩
            have cv : wr.cell? ⟨vb, y, none⟩ = some (.int .i32 xx) := by rw [hM.wrd.cell y, ← hxx]; simp [I32s, List.getD, show y < (cleared m t z).length by omega]
            have fv := hM.wrd.free y
            have hS := TAt.store hM y 0
            have e9 : (cleared m t z).set y 0 = cleared m t (z + 1) := cleared_set m t z y hy (by rw [HML.out]; exact ylm)
            simp only [e9] at hS
            have hlim : y < 1048576 := by omega
            have HS1 := Lib.hid hS.1
            have HO1' := Lib.hid (ho.trans (Only.setOne (Only.refl (M.One vb) wr) y (.int .i32 0)) (fun _ _ h => Or.inr h))
            clear hM ho hg hy hcl hxx hS e9
            go_wp2_with fail
            go_roundg (K - (z + 1))
            case measure => have := HG.out; omega
            case rel => exact ⟨z + 1, y + 1, by go_num, by have := HY.out; omega, by omega, rfl, HS1.out, HO1'.out⟩
          · have hzk' : z = K := by omega
            subst hzk'
            have hyu : y = u := by have := HU.out; omega
            subst hyu
            have c4 : wr.cell? ⟨db, 4, none⟩ = some (.int .i64 (y : Nat)) := hM.blk.cell 4
            obtain ⟨w5, rfl⟩ : ∃ w5, w5 = wr := ⟨_, rfl⟩
            have hG5 : TGone w w5 db vb ov ov := (TGone.of_nil HO2.out).trans ⟨ho.mono (fun _ h => h.elim Or.inl (fun h => Or.inr (Or.inl h))), Or.inl rfl⟩
            have hM5 := hM
            have ho5 := ho
            clear hM ho hg hy hcl
            have HM5 := Lib.hid (hM5)
            have HG5 := Lib.hid (hG5)
            have HO5 := Lib.hid (ho5)
            have HC5 := Lib.hid (cells_own HC.out HR.out HO5.out (S := OwnTQ Q db vb ov.ownBlock) (fun _ h => Or.inl (h.elim Or.inl (fun h => Or.inr (Or.inl h)))) (fun h => (HPB.out h).1))
            have HPB5 : Hid (0 < 0 → ¬ OwnTQ Q db vb ov.ownBlock pb ∧ pb < w5.heap.size) := Lib.hid (fun h => ⟨(HPB.out h).1, Nat.lt_of_lt_of_le (HPB.out h).2 HO5.out.size⟩)
            have HSN5 : Hid (∀ j, OwnTQ Q db vb ov.ownBlock j → j < w5.heap.size) := Lib.hid (fun j hj => Nat.lt_of_lt_of_le (HSN2.out j hj) HO5.out.size)
            have e2 : w5.cell? ⟨db, 2, none⟩ = some (.slice none 0 0) := HM5.out.blk.cell 2
            have hlt5 := HM5.out.blk.lt
            clear hM5 hG5 ho5
            have HW3 : Hid (Only Nil w5 w5) := Lib.hid (Only.refl _ _)
            go_wp2_with (at_builtin; go_loud (refine wpList_append_capped rfl _ _ 57 rfl 21 i0 (.int .i32 0) 1 4 Try.underlying57 hi0 hz0 hz1 hz2 rfl (by decide) (OwnTQ Q db vb (ov).ownBlock) (fun j hj => Nat.lt_of_lt_of_le (HSN5.out j hj) HW3.out.size) 0 (I32s O) _ pb poff rfl (by rw [I32s_len, HR.out] <;> omega) (Or.inr ⟨rfl, rfl⟩) (HC5.out.kept HW3.out (fun _ h => h)) (fun h => ⟨(HPB5.out h).1, Nat.lt_of_lt_of_le (HPB5.out h).2 HW3.out.size⟩) 0 0 _ 0 0 (I32s []) rfl rfl (fun h => absurd h (Nat.lt_irrefl 0)) (fun i u hi => by simp [I32s] at hi) (fun _ => rfl) (I32s_one _) (by simp [maxLen] <;> omega) (by omega) ?_))
            intro v9 w4 hR9 ho9
            have hMX := HM5.out.quiet HW3.out
            have hB4 := hMX.blk.kept ho9 (fun h => h)
            have g2 := hB4.free 2
            have g5 := hB4.free 5
            have k2 : w4.cell? ⟨db, 2, none⟩ = some _ := hB4.cell 2
            have k5 : w4.cell? ⟨db, 5, none⟩ = some _ := hB4.cell 5
            have glt := hB4.lt
            have hR9 : RdRow (OwnTQ Q db vb (ov).ownBlock) w4 v9 (O).length (I32s (O)) := by have h := hR9; rw [show I32s ([] : List Int) = [] from rfl, List.append_nil] at h; rw [HR.out]; exact h
            obtain ⟨n9, hn9⟩ : ∃ n, (O).length = n := ⟨_, rfl⟩
            rw [hn9] at hR9
            obtain ⟨a9, c9, rfl⟩ := rd_shape hR9
            have HE := Lib.hid (tdo_end (HG5.out.trans (TGone.of_nil HW3.out)) hMX (O) _ (by rw [hn9]; exact hR9) ho9 (p + 1))
            clear hMX hB4 hR9 ho9 hn9
            go_wp2_with fail
            go_ret
            (try simp only [List.append_nil])
            exact ⟨_, _, _, _, rfl, HE.out.1, HE.out.2⟩

end Go.Proofs.Ytpnhjjihdcopnaa
