/- The document's stack machine does one instruction. -/
import Derived.Test.YtpnhjjihdcopnaaTDoB
set_option linter.unusedSimpArgs false
set_option linter.unusedVariables false
namespace Go.Proofs.Ytpnhjjihdcopnaa
open Go.RowKit M
variable {Q : Nat → Prop}

theorem copy_moved (w : World) (vb : Nat) (m : List Int) (A B K o1 : Nat) (hB : Blk w vb (I32s m).toArray 21) (hop : o1 = A ∨ K = 0) {sb : Nat} {aoA : Option Addr} {capA : Nat} (hs : Src w sb (.slice aoA K capA) (I32s ((m.drop B).take K))) (h1 : A + K ≤ m.length) (h2 : B + K ≤ m.length) (dC : Nat) :
    ∃ w', (∀ ty, (Builtin.copy_ #[57, 57] ty #[.slice (some ⟨vb, o1, none⟩) (m.length - A) dC, .slice aoA K capA]).run Try.prog w = .ok (goInt K) w') ∧ Blk w' vb (I32s (moved m A B K)).toArray 21 ∧ Only (M.One vb) w w' := by
  have hl : ((m.drop B).take K).length = K := by rw [List.length_take, List.length_drop]; omega
  obtain ⟨ao, cap, off, hv, q1, q2, q3⟩ := hs
  simp only [Value.slice.injEq] at hv
  obtain ⟨rfl, _, rfl⟩ := hv
  rw [I32s_len, hl] at q1
  by_cases h0 : K = 0
  · subst h0
    refine ⟨w, fun ty => run_copy_none (P := Try.prog) w _ _ ty 21 _ _ _ _ _ _ Try.underlying57 (by kernel_rfl) (by simp), ?_, Only.refl _ _⟩
    rw [show moved m A B 0 = m by simp [moved]]
    exact hB
  · have e1 := q1 (by omega)
    subst e1
    have e2 : o1 = A := by omega
    subst e2
    have hrow := setRow_blk (cs' := (I32s (moved m o1 B K)).toArray) hB
    refine ⟨_, fun ty => ?_, hrow.1, hrow.2⟩
    rw [run_copy_row (P := Try.prog) w _ _ ty 21 vb o1 _ dC ⟨sb, off, none⟩ K capA (I32s m).toArray 21 (I32s ((m.drop B).take K)) Try.underlying57 (by kernel_rfl) hB
      (by rw [I32s_len, hl]; show K = min K (m.length - o1); omega) (fun j v hj => by rw [M.addr_add]; exact q3 j v hj) (by rw [I32s_len, hl]; simp only [List.size_toArray, I32s_len]; omega) (I32s_one _)]
    have e3 : (I32s ((m.drop B).take K)).length = K := by rw [I32s_len, hl]
    rw [e3]
    congr 3
    unfold moved
    simp [I32s, List.map_append, List.map_take, List.map_drop]


set_option maxRecDepth 10000 in
set_option maxHeartbeats 3200000 in
theorem tdo_8 (db vb : Nat) (k : Int) (hk : I32 k) (code : List Cod) (s : SS) (lv pv kv iv ov : Value) (w : World) (hQ : ∀ j, Q j → j < w.heap.size) (hM : TAt Q w db vb code s lv pv kv iv ov) (hs : s.Ok) (hol : s.out.length ≤ 1099511627776) (hA : 2 ≤ s.ops.length) (hB : s.ops.length - 2 + 0 ≤ 1000) :
    Calls Try.prog 35 #[.pointer (some ⟨db, 0, none⟩), .agg #[.int .i64 8, .int .i32 k]] w (TDoes Q w db vb code s lv ov (sExec s ⟨8, k⟩)) := by
  have cE := fun w => effectR_any 8 (by decide) (by decide) w
  rw [show ((takesV 8 : Nat) : Int) = 2 from rfl, show ((leavesV 8 : Nat) : Int) = 0 from rfl] at cE
  obtain ⟨i0, hi0, hz0, hz1, hz2⟩ := info_parts Try.info21
  have hSn0 := hM.hSn hQ
  have hnops := hs.nops
  obtain ⟨m, O, c, i, o, f, t, p, fin, trap⟩ := s
  simp only at hA hB hnops
  obtain ⟨T, a, b, rfl⟩ := snoc_two hA
  have ha : I32 a := hs.ops a (by simp)
  have hb : I32 b := hs.ops b (by simp)
  have hn : (T ++ [a, b]).length = T.length + 2 := by simp
  rw [hn] at hA hB hnops
  obtain ⟨r, hr⟩ : ∃ r, T.length = r := ⟨_, rfl⟩
  obtain ⟨n, hnr⟩ : ∃ n, r + 2 = n := ⟨_, rfl⟩
  obtain ⟨X, hX⟩ : ∃ X, sExec ⟨m, T ++ [a, b], c, i, o, f, t, p, fin, trap⟩ ⟨8, k⟩ = X := ⟨_, rfl⟩
  rw [hX]
  rw [x_move k (by omega)] at hX
  have HX := Lib.hid hX
  clear hX
  have hrow := hM.ops
  simp only at hrow
  rw [hn, hr, hnr] at hrow
  rw [hr] at hA hB hnops
  obtain ⟨pb, pao, pcap, poff, rfl, p2, p3, p4, p6, p7⟩ := hrow
  have p4 : pao = some ⟨pb, poff, none⟩ := by
    rcases p4 with h | ⟨_, h⟩
    · exact h
    · omega
  subst p4
  have e1 : (n : Int) - 2 = (r : Int) := by omega
  have l1 : decide ((n : Int) < 2) = false := by simp; omega
  have l2 : n ≤ 1000 := by omega
  have hpc : (pcap = r) = False := eq_false (by omega)
  have hrn : r ≤ n := by omega
  have l3 : decide ((1000 : Int) < (r : Int) + 0) = false := by simp; omega
  have l4 : decide ((1000 : Int) < (r : Int)) = false := by simp; omega
  have l5 : decide (1000 < r) = false := by simp; omega
  have q3 : (n : Int) ≤ (pcap : Int) := by omega
  have q4 : (r : Int) ≤ (pcap : Int) := by omega
  have q0 : (0 : Int) ≤ (r : Int) := Int.natCast_nonneg _
  unfold maxLen at p3
  have wk : IntKind.i64.wrap k = k := by unfold I32 at hk; rw [IntKind.wrap_i64]; omega
  have wp : IntKind.i64.wrap (p + 1) = p + 1 := by have h1 := hs.pc1; have h2 := hs.pc2; simp only at h1 h2; rw [IntKind.wrap_i64]; omega
  have HM := Lib.hid hM
  have HSN := Lib.hid hSn0
  have HS := Lib.hid hs
  have HQ := Lib.hid hQ
  have HK := Lib.hid hk
  have HR := Lib.hid hr
  have HP6 := Lib.hid p6
  have HP7 := Lib.hid p7
  have HOL := Lib.hid hol
  clear hM hs hk hQ hSn0 hr p6 p7 hol hA hB hnops hn
  have HNR := Lib.hid hnr
  clear hnr
  go_enter Try.func35, Try.ntmps35
  go_wp2_with fail
  have hB1 := Blk.new w #[Value.int .i64 8, .int .i32 k] 55
  have ho1 : Only Nil w (w.alloc (.cells #[Value.int .i64 8, .int .i32 k] 55)) := (Only.refl _ _).alloc _
  obtain ⟨w1, hw1⟩ : ∃ w1, w.alloc (.cells #[Value.int .i64 8, .int .i32 k] 55) = w1 := ⟨_, rfl⟩
  obtain ⟨xb, hxb⟩ : ∃ xb, w.heap.size = xb := ⟨_, rfl⟩
  rw [hw1, hxb] at hB1
  rw [hw1] at ho1 ⊢
  rw [hxb]
  have hM1 := HM.out.quiet ho1
  have c2 : w1.cell? ⟨db, 2, none⟩ = some (.slice (some ⟨pb, poff, none⟩) n pcap) := hM1.blk.cell 2
  have c5 : w1.cell? ⟨db, 5, none⟩ = some (.int .i64 p) := hM1.blk.cell 5
  have x1 : w1.cell? ⟨xb, 1, none⟩ = some (.int .i32 k) := hB1.cell 1
  have hlt := hM1.blk.lt
  have hltx := hB1.lt
  have hsrc : Src w1 pb (.slice (some ⟨pb, poff + r, none⟩) (n - r) (pcap - r)) (I32s [a, b]) := ⟨_, pcap - r, poff + r, by rw [I32s_len]; congr 1; have := HNR.out; simp; omega, fun _ => rfl, nofun, (cells_suffix HP6.out HR.out).kept ho1 (fun _ h => h)⟩
  have HM1 := Lib.hid hM1
  have HO1 := Lib.hid ho1
  have HB1 := Lib.hid hB1
  clear hw1 hxb hM1 ho1 hB1
  refine (cE _).mono ?_
  rintro e we ⟨rfl, rfl⟩
  clear cE
  go_wp2_with (at_builtin; go_loud (refine wpList_append_src rfl _ _ 57 rfl w1.heap.size 21 i0 (.int .i32 0) 4 Try.underlying57 hi0 hz0 hz1 hz2 rfl _ _ _ rfl (World.ownsRow_nil _ _ _ _) pb (.slice (some ⟨pb, poff + r, none⟩) (n - r) (pcap - r)) (I32s [a, b]) rfl hsrc (I32s_one _) (by simp [I32s, maxLen]) (by simp [I32s]) (Nat.le_refl _) ?_))
  intro v8 w2 hown8 hob8 ho8
  have ho2 : Only Nil w1 w2 := ho8.mono (fun _ h => by cases h)
  have hown9 : w2.ownsRow w1.heap.size 21 1 v8 2 (I32s [a, b]) := by simpa [I32s] using hown8
  obtain ⟨g8, cap8, rfl, hg8, hgl8, hc8⟩ := own_one hown9 (by decide)
  have y0 : w2.cell? ⟨g8, 0, none⟩ = some (.int .i32 a) := hc8 0 _ rfl
  have y1 : w2.cell? ⟨g8, 1, none⟩ = some (.int .i32 b) := hc8 1 _ rfl
  have hM2 := HM1.out.quiet ho2
  have d1 : w2.cell? ⟨db, 1, none⟩ = some (.slice (some ⟨vb, 0, none⟩) m.length m.length) := hM2.blk.cell 1
  have d2 : w2.cell? ⟨db, 2, none⟩ = some (.slice (some ⟨pb, poff, none⟩) n pcap) := ho2.cell c2 (fun h => h)
  have d3 : w2.cell? ⟨db, 3, none⟩ = some (.int .i64 (f : Nat)) := hM2.blk.cell 3
  have d4 : w2.cell? ⟨db, 4, none⟩ = some (.int .i64 (t : Nat)) := hM2.blk.cell 4
  have d5 : w2.cell? ⟨db, 5, none⟩ = some (.int .i64 p) := hM2.blk.cell 5
  have d6 : w2.cell? ⟨db, 6, none⟩ = some kv := hM2.blk.cell 6
  have d7 : w2.cell? ⟨db, 7, none⟩ = some iv := hM2.blk.cell 7
  have d8 : w2.cell? ⟨db, 8, none⟩ = some ov := hM2.blk.cell 8
  have z0 : w2.cell? ⟨xb, 0, none⟩ = some (.int .i64 8) := (HB1.out.kept ho2 (fun h => h)).cell 0
  have z1 : w2.cell? ⟨xb, 1, none⟩ = some (.int .i32 k) := (HB1.out.kept ho2 (fun h => h)).cell 1
  have hlt2 := hM2.blk.lt
  have hltx2 := (HB1.out.kept ho2 (fun h => h)).lt
  have HM2 := Lib.hid hM2
  have HO2 := Lib.hid (HO1.out.trans ho2 (fun _ _ h => h))
  have hp6 := HP6.out.kept HO2.out (fun _ h => h)
  have HC := Lib.hid (cells_prefix hp6)
  have HPB : Hid (0 < r → ¬ OwnTQ Q db vb ov.ownBlock pb ∧ pb < w2.heap.size) := Lib.hid (fun h => ⟨(HP7.out (by have := HNR.out; omega)).1, Nat.lt_of_lt_of_le (HP7.out (by have := HNR.out; omega)).2 HO2.out.size⟩)
  have HSN2 : Hid (∀ j, OwnTQ Q db vb ov.ownBlock j → j < w2.heap.size) := Lib.hid (fun j hj => Nat.lt_of_lt_of_le (HSN.out j hj) HO2.out.size)
  clear c2 c5 x1 hlt hltx ho8 hown8 hob8 ho2 hM2 hp6 hsrc hc8 hown9
  have cP := place5_any (Q := Q) db vb a k code ⟨m, T ++ [a, b], c, i, o, f, t, p, fin, trap⟩ lv (.slice (some ⟨pb, poff, none⟩) n pcap) kv iv ov w2 HM2.out ha HK.out HS.out.len
  simp only at cP
  by_cases hp : 0 ≤ k ∧ 0 ≤ a ∧ 0 ≤ b ∧ a + k ≤ m.length ∧ b + k ≤ m.length
  · have hx := HX.out
    rw [if_pos hp] at hx
    have e0 : placeOk m.length a k = true := by unfold placeOk; simp; omega
    have e1b : placeOk m.length b k = true := by unfold placeOk; simp; omega
    rw [e0] at cP
    have hlm : m.length ≤ 1048576 := HS.out.len
    obtain ⟨A, rfl⟩ : ∃ A : Nat, a = (A : Int) := ⟨a.toNat, by omega⟩
    obtain ⟨B, rfl⟩ : ∃ B : Nat, b = (B : Int) := ⟨b.toNat, by omega⟩
    obtain ⟨K, rfl⟩ : ∃ K : Nat, k = (K : Int) := ⟨k.toNat, by omega⟩
    simp only [Int.toNat_natCast] at hx
    subst hx
    obtain ⟨ml, hml⟩ : ∃ ml, m.length = ml := ⟨_, rfl⟩
    have hA1 : A + K ≤ ml := by omega
    have hB1 : B + K ≤ ml := by omega
    rw [hml] at d1 hlm
    have hlv : vb < w2.heap.size := HM2.out.wrd.lt
    have wA : IntKind.i64.wrap (A : Int) = (A : Int) := by rw [IntKind.wrap_i64]; omega
    have wB : IntKind.i64.wrap (B : Int) = (B : Int) := by rw [IntKind.wrap_i64]; omega
    obtain ⟨qa, hqa⟩ : ∃ qa, B + K = qa := ⟨_, rfl⟩
    have wq1 : IntKind.i64.wrap (qa : Int) = (qa : Int) := by rw [IntKind.wrap_i64]; omega
    have wq2 : (B : Int) + (K : Int) = (qa : Int) := by omega
    have wq3 : (qa : Int) ≤ (ml : Int) := by omega
    have wq4 : B ≤ qa := by omega
    have wq5 : (0 : Int) ≤ (qa : Int) := Int.natCast_nonneg _
    have a0 : (0 : Int) ≤ (A : Int) := Int.natCast_nonneg _
    have b0 : (0 : Int) ≤ (B : Int) := Int.natCast_nonneg _
    have a1 : (A : Int) ≤ (ml : Int) := by omega
    have b1 : (B : Int) ≤ (ml : Int) := by omega
    obtain ⟨o1, ho1, hop⟩ : ∃ o1, (if ml = A then some (⟨vb, 0, none⟩ : Addr) else some ⟨vb, A, none⟩) = some ⟨vb, o1, none⟩ ∧ (o1 = A ∨ K = 0) := by
      by_cases e : ml = A
      · exact ⟨0, by rw [if_pos e], Or.inr (by omega)⟩
      · exact ⟨A, by rw [if_neg e], Or.inl rfl⟩
    obtain ⟨o2, ho2, hoq⟩ : ∃ o2, (if ml = B then some (⟨vb, 0, none⟩ : Addr) else some ⟨vb, B, none⟩) = some ⟨vb, o2, none⟩ ∧ (o2 = B ∨ K = 0) := by
      by_cases e : ml = B
      · exact ⟨0, by rw [if_pos e], Or.inr (by omega)⟩
      · exact ⟨B, by rw [if_neg e], Or.inl rfl⟩
    have HML := Lib.hid hml
    have HA1 := Lib.hid hA1
    have HB1' := Lib.hid hB1
    have HQA := Lib.hid hqa
    have HOP := Lib.hid hop
    have HOQ := Lib.hid hoq
    have hE : Hid (((m.drop B).take K).length = K) := Lib.hid (by rw [List.length_take, List.length_drop, hml]; omega)
    have hsrc : Hid (∀ w', Only Nil w2 w' → Src w' vb (.slice (some ⟨vb, o2, none⟩) (qa - B) (ml - B)) (I32s ((m.drop B).take K))) := Lib.hid (fun w' ho' => by
      have hB := HM2.out.wrd.kept ho' (fun h => h)
      refine ⟨_, ml - B, o2, by rw [I32s_len, hE.out]; congr 1; omega, fun _ => rfl, nofun, fun j u hj => ?_⟩
      have hjl := (List.getElem?_eq_some_iff.1 hj).1
      rw [I32s_len, hE.out] at hjl
      have e2 : o2 = B := by omega
      subst e2
      rw [hB.cell, List.getElem?_toArray, ← hj]
      simp [I32s, List.getElem?_take, show j < K by omega])
    have sE1 : Hid (0 + (I32s ((m.drop B).take K)).length ≤ maxLen) := Lib.hid (by rw [I32s_len, hE.out]; simp [maxLen]; omega)
    have sE2 : Hid ((0 + (I32s ((m.drop B).take K)).length) * 4 ≤ 140737488355328) := Lib.hid (by rw [I32s_len, hE.out]; omega)
    clear hp e0 HX hml hA1 hB1 hqa hop hoq hlm
    go_wp2_with fail
    refine cP.mono ?_
    rintro e w3 ⟨rfl, ho3⟩
    clear cP
    have HO3 := Lib.hid ho3
    have y1' := ho3.cell y1 (fun h => h)
    have hlg := World.block_lt_of_cell? w3 _ y1'
    have cP2 := place5_any (Q := Q) db vb (B : Int) (K : Int) code ⟨m, T ++ [(A : Int), (B : Int)], c, i, o, f, t, p, fin, trap⟩ lv (.slice (some ⟨pb, poff, none⟩) n pcap) kv iv ov w3 (HM2.out.quiet ho3) hb HK.out HS.out.len
    simp only at cP2
    rw [e1b] at cP2
    clear ho3 e1b
    go_wp2_with fail
    refine cP2.mono ?_
    rintro e w4 ⟨rfl, ho4⟩
    have HO4 := Lib.hid (HO3.out.trans ho4 (fun _ _ h => h))
    have ho34 := HO4.out
    clear cP2 ho4 y1' hlg
    have d1' := ho34.cell d1 (fun h => h)
    have d2' := ho34.cell d2 (fun h => h)
    have d5' := ho34.cell d5 (fun h => h)
    have y0' := ho34.cell y0 (fun h => h)
    have y1' := ho34.cell y1 (fun h => h)
    have hlt2' := Nat.lt_of_lt_of_le hlt2 ho34.size
    have hltx2' := Nat.lt_of_lt_of_le hltx2 ho34.size
    have hlv' := Nat.lt_of_lt_of_le hlv ho34.size
    have z0' := ho34.cell z0 (fun h => h)
    have z1' := ho34.cell z1 (fun h => h)
    clear d1 d2 d5 y0 y1 hlt2 hltx2 hlv z0 z1
    clear ho34
    have hly := World.block_lt_of_cell? w4 _ y0'
    go_wp2_with fail
    go_region_law (first
      | (refine step_append_from rfl (.const (.slice none 0 0)) (.tmp 199) 57 rfl w4.heap.size 21 i0 (.int .i32 0) 4 Try.underlying57 hi0 hz0 hz1 hz2 rfl _ 0 [] rfl (World.ownsRow_nil _ _ _ _) vb _ (I32s ((m.drop B).take K)) (by simp [Act.eval, Act.put]) (hsrc.out _ (HO4.out.trans (by (repeat with_reducible first | exact Only.refl _ _ | refine Only.drew ?_)) (fun _ _ h => h))) (I32s_one _) sE1.out sE2.out (by first | exact Nat.le_refl _ | simp) ?_; intro vA wA hownA hoA; have hoA2 : Only Nil w4 wA := Only.trans (by (repeat with_reducible first | exact Only.refl _ _ | refine Only.drew ?_)) hoA (fun _ _ h => by cases h)))
    all_goals
      rw [I32s_len, hE.out, Nat.zero_add] at hownA
      obtain ⟨aoA, capA, rfl⟩ := sl_of_own hownA
      have ho3 := HO4.out.trans hoA2 (fun _ _ h => h)
      have hsA : Src wA.drew _ (.slice aoA K capA) (I32s ((m.drop B).take K)) := (Src.of_own hownA).kept (Only.refl Nil wA).drew (fun _ h => h)
      obtain ⟨wC, hcp, hBC, hoC⟩ := copy_moved wA.drew vb m A B K o1 (HM2.out.wrd.kept ho3 (fun h => h)).drew HOP.out hsA (by rw [HML.out]; exact HA1.out) (by rw [HML.out]; exact HB1'.out) (ml - A)
      rw [HML.out] at hcp
      have HCP := Lib.hid hcp
      have HO3A := Lib.hid ho3
      have HBC := Lib.hid hBC
      have HOC := Lib.hid hoC
      have d1'' := hoA2.cell d1' (fun h => h)
      have d2'' := hoA2.cell d2' (fun h => h)
      have d5'' := hoA2.cell d5' (fun h => h)
      have y0'' := hoA2.cell y0' (fun h => h)
      have y1'' := hoA2.cell y1' (fun h => h)
      have hlt2'' := Nat.lt_of_lt_of_le hlt2' hoA2.size
      have hltx2'' := Nat.lt_of_lt_of_le hltx2' hoA2.size
      have hlv'' := Nat.lt_of_lt_of_le hlv' hoA2.size
      have z0'' := hoA2.cell z0' (fun h => h)
      have z1'' := hoA2.cell z1' (fun h => h)
      have hly' := Nat.lt_of_lt_of_le hly hoA2.size
      clear d1' d2' d5' y0' y1' hlt2' hltx2' hlv' z0' z1' hly
      clear hownA hoA hoA2 ho3 hsA hcp hBC hoC
      go_wp2_with fail
      go_region_law (refine step_copy_known rfl (.tmp 209) (.tmp 210) 57 57 rfl _ _ _ (by simp [Act.eval, Act.put]) (by simp [Act.eval, Act.put]) (HCP.out _) ?_)
      all_goals
        have hM5 := ((HM2.out.quiet HO3A.out).quiet (Only.refl Nil wA).drew).words HBC.out HOC.out (moved_len m A B K (by rw [HML.out]; exact HA1.out) (by rw [HML.out]; exact HB1'.out))
        have hG5 := ((TGone.of_nil (HO2.out.trans HO3A.out (fun _ _ h => h))).trans (TGone.of_nil (Only.refl Nil wA).drew)).trans hM5.2
        have ho5 : Only (M.One vb) w2 wC := (HO3A.out.drew.mono (T := M.One vb) (fun _ h => h.elim)).trans HOC.out (fun _ _ h => h)
        have hM5 := hM5.1
        obtain ⟨w5, rfl⟩ : ∃ w5, w5 = wC := ⟨_, rfl⟩
        clear HCP HBC HOC
        have HM5 := Lib.hid (hM5)
        have HG5 := Lib.hid (hG5)
        have HO5 := Lib.hid (ho5)
        have HC5 := Lib.hid (cells_own HC.out HR.out HO5.out (S := OwnTQ Q db vb ov.ownBlock) (fun _ h => Or.inl (Or.inr (Or.inl h))) (fun h => (HPB.out h).1))
        have HPB5 : Hid (0 < r → ¬ OwnTQ Q db vb ov.ownBlock pb ∧ pb < w5.heap.size) := Lib.hid (fun h => ⟨(HPB.out h).1, Nat.lt_of_lt_of_le (HPB.out h).2 HO5.out.size⟩)
        have HSN5 : Hid (∀ j, OwnTQ Q db vb ov.ownBlock j → j < w5.heap.size) := Lib.hid (fun j hj => Nat.lt_of_lt_of_le (HSN2.out j hj) HO5.out.size)
        have e2 : w5.cell? ⟨db, 2, none⟩ = some (.slice (some ⟨pb, poff, none⟩) n pcap) := HM5.out.blk.cell 2
        have hlt5 := HM5.out.blk.lt
        clear hM5 hG5 ho5
        have HW3 : Hid (Only Nil w5 w5) := Lib.hid (Only.refl _ _)
        go_wp2_with (at_builtin; go_loud (refine wpList_append_capped rfl _ _ 57 rfl 21 i0 (.int .i32 0) 1 4 Try.underlying57 hi0 hz0 hz1 hz2 rfl (by decide) (OwnTQ Q db vb (ov).ownBlock) (fun j hj => Nat.lt_of_lt_of_le (HSN5.out j hj) HW3.out.size) r (I32s T) _ pb poff rfl (by rw [I32s_len, HR.out] <;> omega) (Or.inl rfl) (HC5.out.kept HW3.out (fun _ h => h)) (fun h => ⟨(HPB5.out h).1, Nat.lt_of_lt_of_le (HPB5.out h).2 HW3.out.size⟩) 0 0 _ 0 0 (I32s []) rfl rfl (fun h => absurd h (Nat.lt_irrefl 0)) (fun i u hi => by simp [I32s] at hi) (fun _ => rfl) (I32s_one _) (by simp [maxLen] <;> omega) (by omega) ?_))
        intro v9 w4 hR9 ho9
        have hMX := HM5.out.quiet HW3.out
        have hB4 := hMX.blk.kept ho9 (fun h => h)
        have g2 := hB4.free 2
        have g5 := hB4.free 5
        have k2 : w4.cell? ⟨db, 2, none⟩ = some _ := hB4.cell 2
        have k5 : w4.cell? ⟨db, 5, none⟩ = some _ := hB4.cell 5
        have glt := hB4.lt
        have hR9 : RdRow (OwnTQ Q db vb (ov).ownBlock) w4 v9 (T).length (I32s (T)) := by have h := hR9; rw [show I32s ([] : List Int) = [] from rfl, List.append_nil] at h; rw [HR.out]; exact h
        obtain ⟨n9, hn9⟩ : ∃ n, (T).length = n := ⟨_, rfl⟩
        rw [hn9] at hR9
        obtain ⟨a9, c9, rfl⟩ := rd_shape hR9
        have HE := Lib.hid (tdo_end (HG5.out.trans (TGone.of_nil HW3.out)) hMX (T) _ (by rw [hn9]; exact hR9) ho9 (p + 1))
        clear hMX hB4 hR9 ho9 hn9
        go_wp2_with fail
        go_ret
        (try simp only [List.append_nil])
        exact ⟨_, _, _, _, rfl, HE.out.1, HE.out.2⟩
  · have hx := HX.out
    rw [if_neg hp] at hx
    subst hx
    by_cases hq : 0 ≤ a ∧ 0 ≤ k ∧ a + k ≤ m.length
    · have e0 : placeOk m.length a k = true := by unfold placeOk; simp; omega
      have e1b : placeOk m.length b k = false := by unfold placeOk; simp; omega
      rw [e0] at cP
      clear hp hq e0 HX
      go_wp2_with fail
      refine cP.mono ?_
      rintro e w3 ⟨rfl, ho3⟩
      clear cP
      have HO3 := Lib.hid ho3
      have y1' := ho3.cell y1 (fun h => h)
      have hlg := World.block_lt_of_cell? w3 _ y1'
      have cP2 := place5_any (Q := Q) db vb b k code ⟨m, T ++ [a, b], c, i, o, f, t, p, fin, trap⟩ lv (.slice (some ⟨pb, poff, none⟩) n pcap) kv iv ov w3 (HM2.out.quiet ho3) hb HK.out HS.out.len
      simp only at cP2
      rw [e1b] at cP2
      clear ho3 e1b
      go_wp2_with fail
      refine cP2.mono ?_
      rintro e w4 ⟨rfl, ho4⟩
      have HO4 := Lib.hid (HO3.out.trans ho4 (fun _ _ h => h))
      clear cP2 ho4
      go_wp2_with fail
      go_ret
      exact ⟨_, _, _, _, rfl, TGone.of_nil (HO2.out.trans HO4.out (fun _ _ h => h)), HM2.out.quiet HO4.out⟩
    · have e0 : placeOk m.length a k = false := by unfold placeOk; simp; omega
      rw [e0] at cP
      clear hp hq e0 HX
      go_wp2_with fail
      refine cP.mono ?_
      rintro e w3 ⟨rfl, ho3⟩
      have HO3 := Lib.hid ho3
      clear cP ho3
      go_wp2_with fail
      go_ret
      exact ⟨_, _, _, _, rfl, TGone.of_nil (HO2.out.trans (by (repeat with_reducible first | exact HO3.out | exact Only.refl _ _ | refine Only.alloc ?_ _ | refine M.Only.drewN ?_ _ | refine Only.drew ?_)) (fun _ _ h => h)), HM2.out.quiet (by (repeat with_reducible first | exact HO3.out | exact Only.refl _ _ | refine Only.alloc ?_ _ | refine M.Only.drewN ?_ _ | refine Only.drew ?_))⟩

end Go.Proofs.Ytpnhjjihdcopnaa
