/- The document's stack machine does one instruction. -/
import Derived.Test.YtpnhjjihdcopnaaTDoB
set_option linter.unusedSimpArgs false
set_option linter.unusedVariables false
namespace Go.Proofs.Ytpnhjjihdcopnaa
open Go.RowKit M
variable {Q : Nat → Prop}


set_option maxRecDepth 10000 in
set_option maxHeartbeats 3200000 in
theorem tdo_33 (db vb : Nat) (k : Int) (hk : I32 k) (code : List Cod) (s : SS) (lv pv kv iv ov : Value) (w : World) (hQ : ∀ j, Q j → j < w.heap.size) (hM : TAt Q w db vb code s lv pv kv iv ov) (hs : s.Ok) (hol : s.out.length ≤ 1099511627776) (hA : 1 ≤ s.ops.length) (hB : s.ops.length - 1 + 0 ≤ 1000) :
    Calls Try.prog 35 #[.pointer (some ⟨db, 0, none⟩), .agg #[.int .i64 33, .int .i32 k]] w (TDoes Q w db vb code s lv ov (sExec s ⟨33, k⟩)) := by
  have cE := fun w => effectR_any 33 (by decide) (by decide) w
  rw [show ((takesV 33 : Nat) : Int) = 1 from rfl, show ((leavesV 33 : Nat) : Int) = 0 from rfl] at cE
  obtain ⟨i0, hi0, hz0, hz1, hz2⟩ := info_parts Try.info21
  have hSn0 := hM.hSn hQ
  have hnops := hs.nops
  obtain ⟨m, O, c, i, o, f, t, p, fin, trap⟩ := s
  simp only at hA hB hnops
  obtain ⟨T, a, rfl⟩ := snoc_one hA
  have ha : I32 a := hs.ops a (by simp)
  have hn : (T ++ [a]).length = T.length + 1 := by simp
  rw [hn] at hA hB hnops
  obtain ⟨r, hr⟩ : ∃ r, T.length = r := ⟨_, rfl⟩
  obtain ⟨n, hnr⟩ : ∃ n, r + 1 = n := ⟨_, rfl⟩
  obtain ⟨X, hX⟩ : ∃ X, sExec ⟨m, T ++ [a], c, i, o, f, t, p, fin, trap⟩ ⟨33, k⟩ = X := ⟨_, rfl⟩
  rw [hX]
  rw [x_putc k (by omega)] at hX
  have HX := Lib.hid hX
  clear hX
  have hrow := hM.ops
  simp only at hrow
  rw [hn, hr, hnr] at hrow
  rw [hr] at hA hB hnops
  obtain ⟨pb, pao, pcap, poff, rfl, p2, p3, p4, p6, p7⟩ := hrow
  have p4 : pao = some ⟨pb, poff, none⟩ := by
    rcases p4 with h | ⟨_, h⟩
    · exact h
    · omega
  subst p4
  have e1 : (n : Int) - 1 = (r : Int) := by omega
  have l1 : decide ((n : Int) < 1) = false := by simp; omega
  have l2 : n ≤ 1000 := by omega
  have hpc : (pcap = r) = False := eq_false (by omega)
  have hrn : r ≤ n := by omega
  have l3 : decide ((1000 : Int) < (r : Int) + 0) = false := by simp; omega
  have l4 : decide ((1000 : Int) < (r : Int)) = false := by simp; omega
  have l5 : decide (1000 < r) = false := by simp; omega
  have q3 : (n : Int) ≤ (pcap : Int) := by omega
  have q4 : (r : Int) ≤ (pcap : Int) := by omega
  have q0 : (0 : Int) ≤ (r : Int) := Int.natCast_nonneg _
  unfold maxLen at p3
  have wk : IntKind.i64.wrap k = k := by unfold I32 at hk; rw [IntKind.wrap_i64]; omega
  have wp : IntKind.i64.wrap (p + 1) = p + 1 := by have h1 := hs.pc1; have h2 := hs.pc2; simp only at h1 h2; rw [IntKind.wrap_i64]; omega
  have HM := Lib.hid hM
  have HSN := Lib.hid hSn0
  have HS := Lib.hid hs
  have HQ := Lib.hid hQ
  have HK := Lib.hid hk
  have HR := Lib.hid hr
  have HP6 := Lib.hid p6
  have HP7 := Lib.hid p7
  have HOL := Lib.hid hol
  clear hM hs hk hQ hSn0 hr p6 p7 hol hA hB hnops hn
  have HNR := Lib.hid hnr
  clear hnr
  go_enter Try.func35, Try.ntmps35
  go_wp2_with fail
  have hB1 := Blk.new w #[Value.int .i64 33, .int .i32 k] 55
  have ho1 : Only Nil w (w.alloc (.cells #[Value.int .i64 33, .int .i32 k] 55)) := (Only.refl _ _).alloc _
  obtain ⟨w1, hw1⟩ : ∃ w1, w.alloc (.cells #[Value.int .i64 33, .int .i32 k] 55) = w1 := ⟨_, rfl⟩
  obtain ⟨xb, hxb⟩ : ∃ xb, w.heap.size = xb := ⟨_, rfl⟩
  rw [hw1, hxb] at hB1
  rw [hw1] at ho1 ⊢
  rw [hxb]
  have hM1 := HM.out.quiet ho1
  have c2 : w1.cell? ⟨db, 2, none⟩ = some (.slice (some ⟨pb, poff, none⟩) n pcap) := hM1.blk.cell 2
  have c5 : w1.cell? ⟨db, 5, none⟩ = some (.int .i64 p) := hM1.blk.cell 5
  have x1 : w1.cell? ⟨xb, 1, none⟩ = some (.int .i32 k) := hB1.cell 1
  have hlt := hM1.blk.lt
  have hltx := hB1.lt
  have hsrc : Src w1 pb (.slice (some ⟨pb, poff + r, none⟩) (n - r) (pcap - r)) (I32s [a]) := ⟨_, pcap - r, poff + r, by rw [I32s_len]; congr 1; have := HNR.out; simp; omega, fun _ => rfl, nofun, (cells_suffix HP6.out HR.out).kept ho1 (fun _ h => h)⟩
  have HM1 := Lib.hid hM1
  have HO1 := Lib.hid ho1
  have HB1 := Lib.hid hB1
  clear hw1 hxb hM1 ho1 hB1
  refine (cE _).mono ?_
  rintro e we ⟨rfl, rfl⟩
  clear cE
  go_wp2_with (at_builtin; go_loud (refine wpList_append_src rfl _ _ 57 rfl w1.heap.size 21 i0 (.int .i32 0) 4 Try.underlying57 hi0 hz0 hz1 hz2 rfl _ _ _ rfl (World.ownsRow_nil _ _ _ _) pb (.slice (some ⟨pb, poff + r, none⟩) (n - r) (pcap - r)) (I32s [a]) rfl hsrc (I32s_one _) (by simp [I32s, maxLen]) (by simp [I32s]) (Nat.le_refl _) ?_))
  intro v8 w2 hown8 hob8 ho8
  have ho2 : Only Nil w1 w2 := ho8.mono (fun _ h => by cases h)
  have hown9 : w2.ownsRow w1.heap.size 21 1 v8 1 (I32s [a]) := by simpa [I32s] using hown8
  obtain ⟨g8, cap8, rfl, hg8, hgl8, hc8⟩ := own_one hown9 (by decide)
  have y0 : w2.cell? ⟨g8, 0, none⟩ = some (.int .i32 a) := hc8 0 _ rfl
  have hM2 := HM1.out.quiet ho2
  have d1 : w2.cell? ⟨db, 1, none⟩ = some (.slice (some ⟨vb, 0, none⟩) m.length m.length) := hM2.blk.cell 1
  have d2 : w2.cell? ⟨db, 2, none⟩ = some (.slice (some ⟨pb, poff, none⟩) n pcap) := ho2.cell c2 (fun h => h)
  have d3 : w2.cell? ⟨db, 3, none⟩ = some (.int .i64 (f : Nat)) := hM2.blk.cell 3
  have d4 : w2.cell? ⟨db, 4, none⟩ = some (.int .i64 (t : Nat)) := hM2.blk.cell 4
  have d5 : w2.cell? ⟨db, 5, none⟩ = some (.int .i64 p) := hM2.blk.cell 5
  have d6 : w2.cell? ⟨db, 6, none⟩ = some kv := hM2.blk.cell 6
  have d7 : w2.cell? ⟨db, 7, none⟩ = some iv := hM2.blk.cell 7
  have d8 : w2.cell? ⟨db, 8, none⟩ = some ov := hM2.blk.cell 8
  have z0 : w2.cell? ⟨xb, 0, none⟩ = some (.int .i64 33) := (HB1.out.kept ho2 (fun h => h)).cell 0
  have z1 : w2.cell? ⟨xb, 1, none⟩ = some (.int .i32 k) := (HB1.out.kept ho2 (fun h => h)).cell 1
  have hlt2 := hM2.blk.lt
  have hltx2 := (HB1.out.kept ho2 (fun h => h)).lt
  have HM2 := Lib.hid hM2
  have HO2 := Lib.hid (HO1.out.trans ho2 (fun _ _ h => h))
  have hp6 := HP6.out.kept HO2.out (fun _ h => h)
  have HC := Lib.hid (cells_prefix hp6)
  have HPB : Hid (0 < r → ¬ OwnTQ Q db vb ov.ownBlock pb ∧ pb < w2.heap.size) := Lib.hid (fun h => ⟨(HP7.out (by have := HNR.out; omega)).1, Nat.lt_of_lt_of_le (HP7.out (by have := HNR.out; omega)).2 HO2.out.size⟩)
  have HSN2 : Hid (∀ j, OwnTQ Q db vb ov.ownBlock j → j < w2.heap.size) := Lib.hid (fun j hj => Nat.lt_of_lt_of_le (HSN.out j hj) HO2.out.size)
  clear c2 c5 x1 hlt hltx ho8 hown8 hob8 ho2 hM2 hp6 hsrc hc8 hown9
  have hown0 : w2.ownsRow 0 5 1 ov o.length (U8s o) := HM2.out.out
  obtain ⟨no, hno⟩ : ∃ n, o.length = n := ⟨_, rfl⟩
  have hol2 : o.length ≤ 1099511627776 := HOL.out
  rw [hno] at hown0 hol2
  obtain ⟨iu, hiu, hu0, hu1, hu2⟩ := info_parts Try.info5
  obtain ⟨x, hx9⟩ : ∃ x, (a % 256).toNat = x := ⟨_, rfl⟩
  have eX : IntKind.u8.wrap a = ((x : Nat) : Int) := by rw [IntKind.wrap_u8]; omega
  have eX' : a % 256 = ((x : Nat) : Int) := by omega
  have hx := HX.out
  rw [hx9] at hx
  subst hx
  have f8 := HM2.out.blk.free 8
  have hown2 : w2.drew.ownsRow 0 5 1 ov no (U8s o) := ownsRow_only hown0 (Only.refl Nil w2).drew (fun _ _ h => h)
  have hnews : Hid (∀ j u, [Value.int .u8 (x : Nat)][j]? = some u → (w2.drew.alloc (.cells #[Value.int .u8 (x : Nat)] 5)).cell? ((⟨w2.heap.size, 0, none⟩ : Addr).add j) = some u) := by
    refine Lib.hid fun j u hj => ?_
    match j, hj with
    | 0, hj => simp at hj; subst hj; exact (Blk.new w2.drew #[Value.int .u8 (x : Nat)] 5).cell 0
  have h1c : Hid (∀ u ∈ [Value.int .u8 (x : Nat)], u.oneCell' = true) := Lib.hid (fun u hu => by simp at hu; subst hu; rfl)
  have s1 : Hid (no + 1 ≤ maxLen) := Lib.hid (by simp [maxLen]; omega)
  have s2 : Hid ((no + 1) * 1 ≤ 140737488355328) := Lib.hid (by omega)
  have HNO := Lib.hid hno
  have hB2 := Lib.hid (HM2.out.blk.drew.alloc (.cells #[Value.int .u8 (x : Nat)] 5))
  clear hx9 hno hol2 hown0 HX
  go_wp2_with fail
  go_region_law (first
    | (refine step_append_lies _ rfl (.tmp 410) (.tmp 415) 23 rfl 0 5 iu (.int .u8 0) 1 1 Try.underlying23 hiu hu0 hu1 hu2 rfl (by decide) ov no (U8s o) (by simp [Act.eval, Act.put]) (hown2.alloc _) ⟨w2.heap.size, 0, none⟩ 1 1 [.int .u8 (x : Nat)] (by simp [Act.eval, Act.put]) rfl hnews.out h1c.out (by decide) s1.out s2.out (Nat.zero_le _) _ rfl ?_; intro g cap9 w9 hown9 hg9 hgb hlt9; have hB9 := hB2.out.kept (Only.of_grown hg9) (fun h => HM2.out.od h.symm); have c9 : w9.cell? ⟨db, 8, none⟩ = some ov := hB9.cell 8; have f9 : w9.frozen? ⟨db, 8, none⟩ = false := hB9.free 8))
  all_goals
    have hoA0 : ∃ wa, Only Nil w2 wa ∧ Only (M.Own ov.ownBlock) wa w9 ∧ (ov.ownBlock = some g ∨ g = wa.heap.size) := ⟨_, (by (repeat with_reducible first | exact Only.refl _ _ | refine Only.alloc ?_ _ | refine Only.drew ?_)), Only.of_grown hg9, hgb⟩
    clear hg9 hgb
    obtain ⟨wa, hoa, hoA, hgb⟩ := hoA0
    have hoW : Only (M.Own ov.ownBlock) w2 w9 := (hoa.mono (T := M.Own ov.ownBlock) (fun _ h => h.elim)).trans hoA (fun _ _ h => h)
    have hgw : (Value.slice (some ⟨g, 0, none⟩) (no + 1) cap9).ownBlock = ov.ownBlock ∨ ∃ k, (Value.slice (some ⟨g, 0, none⟩) (no + 1) cap9).ownBlock = some k ∧ w2.heap.size ≤ k := hgb.imp (fun h => h.symm) (fun h => ⟨g, rfl, Nat.le_trans hoa.size (Nat.le_of_eq h.symm)⟩)
    have e9 : U8s o ++ [.int .u8 (x : Nat)] = U8s (o ++ [x]) := by rw [U8s_append]; rfl
    rw [e9] at hown9
    have hN := TAt.newOut (l := o ++ [x]) HM2.out hoW (by rw [List.length_append, HNO.out]; exact hown9) hgw
    obtain ⟨w5, hw5⟩ : ∃ w5, w9.setCell ⟨db, 8, none⟩ (Value.slice (some ⟨g, 0, none⟩) (no + 1) cap9) = w5 := ⟨_, rfl⟩
    rw [hw5] at hN
    rw [hw5]
    have HM5 := Lib.hid hN.1
    have HG5 := Lib.hid ((TGone.of_nil HO2.out).trans hN.2)
    have HO5 := Lib.hid hN.2.only
    have HGW := Lib.hid hgw
    have HL5 := Lib.hid (show g < w5.heap.size by rw [← hw5]; simpa [World.setCell] using hlt9)
    clear hN hgw hoW hoa hoA hgb hown9 hB9 c9 f9 f8 hown2 hnews h1c s1 s2 hw5 hB2 e9 hlt9
    have HC5 := Lib.hid (cells_own HC.out HR.out HO5.out (S := OwnTQ Q db vb ov.ownBlock) (fun _ h => Or.inl h) (fun h => (HPB.out h).1))
    have HPB5 : Hid (0 < r → ¬ OwnTQ Q db vb (Value.slice (some ⟨g, 0, none⟩) (no + 1) cap9).ownBlock pb ∧ pb < w5.heap.size) := Lib.hid (fun h => ⟨fun hh => by
      have h1 := HPB.out h
      rcases hh with (h2 | h2 | h2) | h2
      · exact h1.1 (Or.inl (Or.inl h2))
      · exact h1.1 (Or.inl (Or.inr (Or.inl h2)))
      · rcases HGW.out with h3 | ⟨k9, h3, h4⟩
        · exact h1.1 (Or.inl (Or.inr (Or.inr (by rw [← h3]; exact h2))))
        · rw [h3] at h2
          injection h2 with h2
          have := h1.2
          omega
      · exact h1.1 (Or.inr h2), Nat.lt_of_lt_of_le (HPB.out h).2 HO5.out.size⟩)
    have HSN5 : Hid (∀ j, OwnTQ Q db vb (Value.slice (some ⟨g, 0, none⟩) (no + 1) cap9).ownBlock j → j < w5.heap.size) := Lib.hid (fun j hh => by
      have h5 := HO5.out.size
      rcases hh with (h2 | h2 | h2) | h2
      · exact Nat.lt_of_lt_of_le (HSN2.out j (Or.inl (Or.inl h2))) h5
      · exact Nat.lt_of_lt_of_le (HSN2.out j (Or.inl (Or.inr (Or.inl h2)))) h5
      · have h3 : some j = some g := h2
        injection h3 with h3
        rw [h3]; exact HL5.out
      · exact Nat.lt_of_lt_of_le (HSN2.out j (Or.inr h2)) h5)
    have e2 : w5.cell? ⟨db, 2, none⟩ = some (.slice (some ⟨pb, poff, none⟩) n pcap) := HM5.out.blk.cell 2
    have hlt5 := HM5.out.blk.lt
    have HW3 : Hid (Only Nil w5 w5) := Lib.hid (Only.refl _ _)
    go_wp2_with (at_builtin; go_loud (refine wpList_append_capped rfl _ _ 57 rfl 21 i0 (.int .i32 0) 1 4 Try.underlying57 hi0 hz0 hz1 hz2 rfl (by decide) (OwnTQ Q db vb ((Value.slice (some ⟨g, 0, none⟩) (no + 1) cap9)).ownBlock) (fun j hj => Nat.lt_of_lt_of_le (HSN5.out j hj) HW3.out.size) r (I32s T) _ pb poff rfl (by rw [I32s_len, HR.out] <;> omega) (Or.inl rfl) (HC5.out.kept HW3.out (fun _ h => h)) (fun h => ⟨(HPB5.out h).1, Nat.lt_of_lt_of_le (HPB5.out h).2 HW3.out.size⟩) 0 0 _ 0 0 (I32s []) rfl rfl (fun h => absurd h (Nat.lt_irrefl 0)) (fun i u hi => by simp [I32s] at hi) (fun _ => rfl) (I32s_one _) (by simp [maxLen] <;> omega) (by omega) ?_))
    intro v9 w4 hR9 ho9
    have hMX := HM5.out.quiet HW3.out
    have hB4 := hMX.blk.kept ho9 (fun h => h)
    have g2 := hB4.free 2
    have g5 := hB4.free 5
    have k2 : w4.cell? ⟨db, 2, none⟩ = some _ := hB4.cell 2
    have k5 : w4.cell? ⟨db, 5, none⟩ = some _ := hB4.cell 5
    have glt := hB4.lt
    have hR9 : RdRow (OwnTQ Q db vb ((Value.slice (some ⟨g, 0, none⟩) (no + 1) cap9)).ownBlock) w4 v9 (T).length (I32s (T)) := by have h := hR9; rw [show I32s ([] : List Int) = [] from rfl, List.append_nil] at h; rw [HR.out]; exact h
    obtain ⟨n9, hn9⟩ : ∃ n, (T).length = n := ⟨_, rfl⟩
    rw [hn9] at hR9
    obtain ⟨a9, c9, rfl⟩ := rd_shape hR9
    have HE := Lib.hid (tdo_end (HG5.out.trans (TGone.of_nil HW3.out)) hMX (T) _ (by rw [hn9]; exact hR9) ho9 (p + 1))
    clear hMX hB4 hR9 ho9 hn9
    go_wp2_with fail
    go_ret
    (try simp only [List.append_nil])
    exact ⟨_, _, _, _, rfl, HE.out.1, HE.out.2⟩

end Go.Proofs.Ytpnhjjihdcopnaa
