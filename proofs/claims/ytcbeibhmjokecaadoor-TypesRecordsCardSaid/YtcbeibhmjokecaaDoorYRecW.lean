/- Which fields, bases, words records have: TypesRecords' walk. -/
import Derived.Test.YtcbeibhmjokecaaDoorYVars
set_option linter.unusedSimpArgs false
set_option linter.unusedVariables false
namespace Go.Proofs.YtcbeibhmjokecaaDoor
open Go.RowKit M

/-- Four types in a block of their own. -/
theorem four_of {w : World} {b : Nat} {t : TypeId} {t0 t1 t2 t3 : Ty} {v0 v1 v2 v3 : Value} (hB : Blk w b (tyCells t0 v0 ++ (tyCells t1 v1 ++ (tyCells t2 v2 ++ (tyCells t3 v3 ++ [])))).toArray t)
    (h0 : TyS Any w v0 t0.of) (h1 : TyS Any w v1 t1.of) (h2 : TyS Any w v2 t2.of) (h3 : TyS Any w v3 t3.of)
    (n0 : t0.name.size ≤ maxLen) (n1 : t1.name.size ≤ maxLen) (n2 : t2.name.size ≤ maxLen) (n3 : t3.name.size ≤ maxLen) : TyS Any w (.slice (some ⟨b, 0, none⟩) 4 4) [t0, t1, t2, t3] := by
  refine TyS.of_blk [t0, t1, t2, t3] (fun i => if i = 0 then v0 else if i = 1 then v1 else if i = 2 then v2 else v3) hB (fun i x hi => ?_) (fun x hx => ?_) (by show 4 * 56 ≤ _; decide)
  · match i, hi with
    | 0, hi => simp only [List.getElem?_cons_zero, Option.some.injEq] at hi; subst hi; exact h0
    | 1, hi => simp only [List.getElem?_cons_zero, List.getElem?_cons_succ, Option.some.injEq] at hi; subst hi; exact h1
    | 2, hi => simp only [List.getElem?_cons_zero, List.getElem?_cons_succ, Option.some.injEq] at hi; subst hi; exact h2
    | 3, hi => simp only [List.getElem?_cons_zero, List.getElem?_cons_succ, Option.some.injEq] at hi; subst hi; exact h3
    | i + 4, hi => simp at hi
  · simp only [List.mem_cons, List.not_mem_nil, or_false] at hx
    rcases hx with rfl | rfl | rfl | rfl <;> assumption
set_option maxRecDepth 20000 in
set_option maxHeartbeats 12800000 in
theorem records_any {U : Nat → Prop} {v vt : Value} {l : List Rin} {lt : List Ty} (a b kk : Nat) (ha : a < 256) (hb : b < 256) (hk : kk < 256) (tf tn : Int) (ts : ByteArray) (hts : ts.size ≤ maxLen) (w : World) (hT : Tabs w) (hl : RinS w v l) (htt : TyS U w vt lt) :
    Calls Tryd.prog 3 #[v, .int .u8 (a : Int), .int .u8 (b : Int), .int .u8 (kk : Int), .agg #[.int .i64 tf, .int .i64 tn, .string ts, vt]] w fun e w' => e = .returned (.bool true) ∧ Only Nil w w' := by
  have HT := Lib.hid hT
  have HL := Lib.hid hl
  have HTT := Lib.hid htt
  have HTS := Lib.hid hts
  have HA := Lib.hid ha
  have HB := Lib.hid hb
  have HK := Lib.hid hk
  obtain ⟨ao, cap, off, bl, rfl, hl0, hln, hel⟩ := hl
  obtain ⟨n, hn⟩ : ∃ z, l.length = z := ⟨_, rfl⟩
  rw [hn] at HL hl0 hln ⊢
  have HN := Lib.hid hn
  have HL0 := Lib.hid hl0
  have HLN := Lib.hid hln
  have HEL := Lib.hid hel
  obtain ⟨aoT, capT, rfl⟩ := htt.slice
  obtain ⟨nT, hnT⟩ : ∃ z, lt.length = z := ⟨_, rfl⟩
  rw [hnT] at HTT ⊢
  have CL1 := Lib.hid (fun w' (h : Only Nil w w') => light_any HTT.out tf tn ts 20 w' (by decide) h)
  clear hT htt hts ha hb hk hl0 hln hel hn hnT
  have hB1 := Blk.new w #[.int .i64 tf, .int .i64 tn, .string ts, .slice aoT nT capT] 25
  have o1 := alloc0 w (.cells #[.int .i64 tf, .int .i64 tn, .string ts, .slice aoT nT capT] 25)
  obtain ⟨w2, hw2⟩ : ∃ z, w.alloc (.cells #[.int .i64 tf, .int .i64 tn, .string ts, .slice aoT nT capT] 25) = z := ⟨_, rfl⟩
  rw [hw2] at hB1 o1
  have HB1 := Lib.hid hB1
  have O2 := Lib.hid o1
  have HW2 := Lib.hid hw2
  clear hB1 o1 hw2
  go_enter Tryd.func3, Tryd.ntmps3
  go_upto_region 1 with fail
  rw [HW2.out]
  go_wp2_with fail
  refine (known12_any _ (HT.out.kept O2.out)).mono ?_
  rintro e w4 ⟨rfl, ho3⟩
  have O4 := Lib.hid (Nil.trans O2.out ho3)
  have hB1 := HB1.out.kept ho3 (fun h => h)
  have HB41 := Lib.hid hB1
  have c0 : w4.cell? ⟨w.heap.size, 0, none⟩ = some (.int .i64 tf) := hB1.cell 0
  have c1 : w4.cell? ⟨w.heap.size, 1, none⟩ = some (.int .i64 tn) := hB1.cell 1
  have c2 : w4.cell? ⟨w.heap.size, 2, none⟩ = some (.string ts) := hB1.cell 2
  have c3 : w4.cell? ⟨w.heap.size, 3, none⟩ = some (.slice aoT nT capT) := hB1.cell 3
  clear ho3 hB1 HW2 HB1
  go_wp2_with fail
  refine (CL1.out _ O4.out).mono ?_
  rintro e w5 ⟨⟨bb, rfl⟩, ho5⟩
  have O5 := Lib.hid (Nil.trans O4.out ho5)
  have HB51 := Lib.hid (HB41.out.kept ho5 (fun h => h))
  clear ho5 c0 c1 c2 c3 HB41
  cases bb
  · go_wp2_with fail
    go_ret
    exact ⟨rfl, O5.out⟩
  go_wp2_with fail
  go_loopg [11] n (fun g i wr => ∃ k : Nat, i = .int .i64 (k : Int) ∧ k ≤ n ∧ g = n - k ∧ Only Nil w5 wr)
  case atStart => exact ⟨0, rfl, Nat.zero_le _, rfl, Only.refl _ _⟩
  case round =>
    obtain ⟨k, rfl, hk, hg, ho⟩ := hrel
    have HG := Lib.hid hg
    have HO := Lib.hid ho
    have k0 : (0 : Int) ≤ (k : Int) := Int.natCast_nonneg _
    by_cases hkn : k < n
    · have k1 : (k : Int) < (n : Int) := by omega
      obtain ⟨r, hr⟩ : ∃ r, l[k]? = some r := ⟨_, List.getElem?_eq_getElem (by rw [HN.out]; exact hkn)⟩
      have e1 := HL0.out (by omega)
      subst e1
      have hO := Nil.trans O5.out ho
      obtain ⟨fvl, ovl, fb, a1, _, hTy, _, _, _, _⟩ := (HEL.out k r hr).go hO
      obtain ⟨aoR, capR, eR⟩ := hTy.slice
      obtain ⟨nR, hnR⟩ : ∃ z, r.t.of.length = z := ⟨_, rfl⟩
      rw [hnR] at eR
      subst eR
      unfold rinCells at a1
      have y2 : wr.cell? ⟨bl, off + k * 6 + 2, none⟩ = some (.int .i64 r.t.form) := a1.get 2 rfl
      have y3 : wr.cell? ⟨bl, off + k * 6 + 3, none⟩ = some (.int .i64 r.t.n) := a1.get 3 rfl
      have y4 : wr.cell? ⟨bl, off + k * 6 + 4, none⟩ = some (.string r.t.name) := a1.get 4 rfl
      have y5 : wr.cell? ⟨bl, off + k * 6 + 5, none⟩ = some (.slice aoR nR capR) := a1.get 5 rfl
      have CL := Lib.hid (fun w' (h : Only Nil wr w') => light_any hTy r.t.form r.t.n r.t.name 20 w' (by decide) h)
      clear a1 hTy hr hO hg ho hk hnR
      go_wp2_with fail
      refine (CL.out _ (Only.refl _ _)).mono ?_
      rintro e w6 ⟨⟨bb, rfl⟩, ho6⟩
      have HO6 := Lib.hid (Nil.trans HO.out ho6)
      clear ho6 CL y2 y3 y4 y5
      cases bb
      · go_wp2_with fail
        go_ret
        exact ⟨rfl, Nil.trans O5.out HO6.out⟩
      · have wk : IntKind.i64.wrap ((k : Int) + 1) = ((k + 1 : Nat) : Int) := by have := HLN.out; rw [IntKind.wrap]; simp [IntKind.bits, IntKind.signed]; omega
        go_wp2_with fail
        go_roundg (n - (k + 1))
        case measure => have := HG.out; omega
        case rel => exact ⟨k + 1, rfl, by omega, rfl, HO6.out⟩
    · have hkn' : k = n := by omega
      subst hkn'
      have k1 : (k : Int) ≤ (k : Int) := Int.le_refl _
      have CM := made_any HL.out wr (Nil.trans O5.out ho)
      have HCM := Lib.hid CM
      clear hg ho hk CM
      go_wp2_with fail
      refine HCM.out.mono ?_
      rintro e w5m ⟨mb, m, R, fv, rfl, hR, hm6, hF5, hom⟩
      have OM := Lib.hid (Nil.trans HO.out hom)
      have HR := Lib.hid hR
      have HF5 := Lib.hid hF5
      have HM6 := Lib.hid hm6
      obtain ⟨wz, hwz⟩ : ∃ z, w5m = z := ⟨_, rfl⟩
      have hO5 := Nil.trans O5.out OM.out
      have hB1 := HB51.out.kept OM.out (fun h => h)
      rw [hwz] at HR OM hO5 hB1 ⊢
      clear hwz hR hm6 hF5 hom HCM
      have HO5 := Lib.hid hO5
      have HBz := Lib.hid hB1
      clear hB1 hO5
      have HCa := Lib.hid (show 48 + (a : Int) % 8 = ((48 + a % 8 : Nat) : Int) by simp)
      have HCb := Lib.hid (show 48 + (b : Int) % 8 = ((48 + b % 8 : Nat) : Int) by simp)
      have ta : (a : Int).tmod 8 = (a : Int) % 8 := Int.tmod_eq_emod_of_nonneg (Int.natCast_nonneg _)
      have tb : (b : Int).tmod 8 = (b : Int) % 8 := Int.tmod_eq_emod_of_nonneg (Int.natCast_nonneg _)
      have wa : IntKind.u8.wrap (48 + (a : Int) % 8) = 48 + (a : Int) % 8 := by simp [IntKind.wrap, IntKind.bits, IntKind.signed]; omega
      have wb : IntKind.u8.wrap (48 + (b : Int) % 8) = 48 + (b : Int) % 8 := by simp [IntKind.wrap, IntKind.bits, IntKind.signed]; omega
      have sA := ch_size (48 + a % 8)
      obtain ⟨SA, hSA⟩ : ∃ S, ch (48 + a % 8) = S := ⟨_, rfl⟩
      rw [hSA] at sA
      have sB := ch_size (48 + b % 8)
      obtain ⟨SB, hSB⟩ : ∃ S, ch (48 + b % 8) = S := ⟨_, rfl⟩
      rw [hSB] at sB
      have HSA := Lib.hid hSA
      have HSB := Lib.hid hSB
      clear hSA hSB
      go_upto_region 11 with fail
      go_cut [13, 14] (fun s13 s14 wx => ∃ (x y : ByteArray), s13 = .string x ∧ s14 = .string y ∧ x.size ≤ 100 ∧ y.size ≤ 100 ∧ Only Nil wz wx)
      case first =>
        have hq : Only Nil wz wz.drew := (Only.refl Nil wz).drew
        refine wp_region_T (fun w' => Only Nil wz w') [] (by kernel_rfl) ?_
        refine wpAnyT_sub (S' := fun w' => Only Nil wz.drew w') (fun _ h => Nil.trans hq h) ?_
        obtain ⟨wd, hwd⟩ : ∃ z, wz.drew = z := ⟨_, rfl⟩
        rw [hwd] at hq  ⊢
        clear hwd
        refine wpAnyT_take 0 (v := ?_) rfl (by kernel_rfl) (by kernel_rfl) (by kernel_rfl) (fun _ _ _ h => h) (by kernel_rfl) (by kernel_rfl) (Or.inl ⟨by kernel_rfl, ?_⟩) (Only.refl Nil _) ?_
        rotate_left
        · (intro w' hw'; go_simp; (try with_reducible rfl))
        refine wpAnyT_take 1 (v := ?_) rfl (by kernel_rfl) (by kernel_rfl) (by kernel_rfl) (fun _ _ _ h => h) (by kernel_rfl) (by kernel_rfl) (Or.inl ⟨by kernel_rfl, ?_⟩) (Only.refl Nil _) ?_
        rotate_left
        · (intro w' hw'; go_simp; (try with_reducible rfl))
        refine wpAnyT_take 2 (v := ?_) rfl (by kernel_rfl) (by kernel_rfl) (by kernel_rfl) (fun _ _ _ h => h) (by kernel_rfl) (by kernel_rfl) (Or.inl ⟨by kernel_rfl, ?_⟩) (Only.refl Nil _) ?_
        rotate_left
        · (intro w' hw'; go_simp; (try with_reducible rfl))
        refine wpAnyT_take 6 (v := ?_) rfl (by kernel_rfl) (by kernel_rfl) (by kernel_rfl) (fun _ _ _ h => h) (by kernel_rfl) (by kernel_rfl) (Or.inl ⟨by kernel_rfl, ?_⟩) (Only.refl Nil _) ?_
        rotate_left
        · (intro w' hw'; go_simp; (try with_reducible rfl))
        refine wpAnyT_take 7 (v := ?_) rfl (by kernel_rfl) (by kernel_rfl) (by kernel_rfl) (fun _ _ _ h => h) (by kernel_rfl) (by kernel_rfl) (Or.inl ⟨by kernel_rfl, ?_⟩) (Only.refl Nil _) ?_
        rotate_left
        · (intro w' hw'; go_simp; (try with_reducible rfl))
        refine wpAnyT_take 8 (v := ?_) rfl (by kernel_rfl) (by kernel_rfl) (by kernel_rfl) (fun _ _ _ h => h) (by kernel_rfl) (by kernel_rfl) (Or.inl ⟨by kernel_rfl, ?_⟩) (Only.refl Nil _) ?_
        rotate_left
        · (intro w' hw'; go_simp; (try with_reducible rfl))
        refine wpAnyT_two (i := 3) (j := 9) rfl rfl (by kernel_rfl) (fun K hK => ?_) (fun K hK => ?_)
        · go_simp
          refine hK.out _ _ (fun _ => (Only.refl Nil wd).alloc _) ?_
          clear hK K
          have q_a := Blk.new wd #[.int .u8 (48 + (a : Int) % 8)] 5
          have ho1x := alloc0 wd (.cells #[.int .u8 (48 + (a : Int) % 8)] 5)
          obtain ⟨b_a, hb_a⟩ : ∃ z, wd.heap.size = z := ⟨_, rfl⟩
          have g_a : wz.heap.size ≤ b_a := by rw [← hb_a]; exact hq.size
          have l_a : b_a < (wd.alloc (.cells #[.int .u8 (48 + (a : Int) % 8)] 5)).heap.size := by rw [← hb_a]; simp
          obtain ⟨w1x, hw1x⟩ : ∃ z, wd.alloc (.cells #[.int .u8 (48 + (a : Int) % 8)] 5) = z := ⟨_, rfl⟩
          rw [hb_a] at q_a ⊢
          rw [hw1x] at q_a ho1x l_a   ⊢
          clear hb_a hw1x
          refine wpAnyT_sub (S' := fun w' => Only Nil w1x w') (fun _ h => Nil.trans ho1x h) ?_
          replace hq := Nil.trans hq ho1x
          clear ho1x
          refine wpAnyT_take 4 (v := ?_) rfl (by kernel_rfl) (by kernel_rfl) (by kernel_rfl) (fun _ _ _ h => h) (by kernel_rfl) (by kernel_rfl) (Or.inl ⟨by kernel_rfl, ?_⟩) (Only.refl Nil _) ?_
          rotate_left
          · (intro w' hw'; have cv := conv_blk (c := 48 + a % 8) (by have h := q_a.kept hw' (fun h => h); rwa [HCa.out] at h); rw [HSA.out] at cv; go_simp; (try with_reducible rfl))
          refine wpAnyT_take 5 (v := ?_) rfl (by kernel_rfl) (by kernel_rfl) (by kernel_rfl) (fun _ _ _ h => h) (by kernel_rfl) (by kernel_rfl) (Or.inl ⟨by kernel_rfl, ?_⟩) (Only.refl Nil _) ?_
          rotate_left
          · (intro w' hw'; go_simp; (try with_reducible rfl))
          refine wpAnyT_take 12 (v := ?_) rfl (by kernel_rfl) (by kernel_rfl) (by kernel_rfl) (fun _ _ _ h => h) (by kernel_rfl) (by kernel_rfl) (Or.inl ⟨by kernel_rfl, ?_⟩) (Only.refl Nil _) ?_
          rotate_left
          · (intro w' hw'; go_simp; (try with_reducible rfl))
          refine wpAnyT_one (i := 9) rfl (by kernel_rfl) (fun K hK => ?_)
          go_simp
          refine hK.out _ _ (fun _ => (Only.refl Nil w1x).alloc _) ?_
          clear hK K
          have q_b := Blk.new w1x #[.int .u8 (48 + (b : Int) % 8)] 5
          have ho2x := alloc0 w1x (.cells #[.int .u8 (48 + (b : Int) % 8)] 5)
          replace q_a := q_a.kept ho2x (fun h => h)
          obtain ⟨b_b, hb_b⟩ : ∃ z, w1x.heap.size = z := ⟨_, rfl⟩
          have g_b : wz.heap.size ≤ b_b := by rw [← hb_b]; exact hq.size
          have n_a_b : b_a ≠ b_b := by rw [← hb_b]; exact Nat.ne_of_lt l_a
          have l_b : b_b < (w1x.alloc (.cells #[.int .u8 (48 + (b : Int) % 8)] 5)).heap.size := by rw [← hb_b]; simp
          replace l_a := Nat.lt_of_lt_of_le l_a ho2x.size
          obtain ⟨w2x, hw2x⟩ : ∃ z, w1x.alloc (.cells #[.int .u8 (48 + (b : Int) % 8)] 5) = z := ⟨_, rfl⟩
          rw [hb_b] at q_b ⊢
          rw [hw2x] at q_b ho2x l_b q_a l_a ⊢
          clear hb_b hw2x
          refine wpAnyT_sub (S' := fun w' => Only Nil w2x w') (fun _ h => Nil.trans ho2x h) ?_
          replace hq := Nil.trans hq ho2x
          clear ho2x
          refine wpAnyT_take 10 (v := ?_) rfl (by kernel_rfl) (by kernel_rfl) (by kernel_rfl) (fun _ _ _ h => h) (by kernel_rfl) (by kernel_rfl) (Or.inl ⟨by kernel_rfl, ?_⟩) (Only.refl Nil _) ?_
          rotate_left
          · (intro w' hw'; have cv := conv_blk (c := 48 + b % 8) (by have h := q_b.kept hw' (fun h => h); rwa [HCb.out] at h); rw [HSB.out] at cv; go_simp; (try with_reducible rfl))
          refine wpAnyT_take 11 (v := ?_) rfl (by kernel_rfl) (by kernel_rfl) (by kernel_rfl) (fun _ _ _ h => h) (by kernel_rfl) (by kernel_rfl) (Or.inl ⟨by kernel_rfl, ?_⟩) (Only.refl Nil _) ?_
          rotate_left
          · (intro w' hw'; go_simp; (try with_reducible rfl))
          refine wpAnyT_take 13 (v := ?_) rfl (by kernel_rfl) (by kernel_rfl) (by kernel_rfl) (fun _ _ _ h => h) (by kernel_rfl) (by kernel_rfl) (Or.inl ⟨by kernel_rfl, ?_⟩) (Only.refl Nil _) ?_
          rotate_left
          · (intro w' hw'; go_simp; (try with_reducible rfl))
          refine wpAnyT_done (by kernel_rfl) ?_
          have HQ := Lib.hid hq
          clear q_a q_b g_a g_b l_a l_b hq
          go_wp2_with fail
          go_meet
          exact ⟨_, _, rfl, rfl, by rw [ByteArray.size_append, sA]; exact Nat.le_of_ble_eq_true rfl, by rw [ByteArray.size_append, sB]; exact Nat.le_of_ble_eq_true rfl, HQ.out⟩
        · go_simp
          refine hK.out _ _ (fun _ => (Only.refl Nil wd).alloc _) ?_
          clear hK K
          have q_b := Blk.new wd #[.int .u8 (48 + (b : Int) % 8)] 5
          have ho1x := alloc0 wd (.cells #[.int .u8 (48 + (b : Int) % 8)] 5)
          obtain ⟨b_b, hb_b⟩ : ∃ z, wd.heap.size = z := ⟨_, rfl⟩
          have g_b : wz.heap.size ≤ b_b := by rw [← hb_b]; exact hq.size
          have l_b : b_b < (wd.alloc (.cells #[.int .u8 (48 + (b : Int) % 8)] 5)).heap.size := by rw [← hb_b]; simp
          obtain ⟨w1x, hw1x⟩ : ∃ z, wd.alloc (.cells #[.int .u8 (48 + (b : Int) % 8)] 5) = z := ⟨_, rfl⟩
          rw [hb_b] at q_b ⊢
          rw [hw1x] at q_b ho1x l_b   ⊢
          clear hb_b hw1x
          refine wpAnyT_sub (S' := fun w' => Only Nil w1x w') (fun _ h => Nil.trans ho1x h) ?_
          replace hq := Nil.trans hq ho1x
          clear ho1x
          refine wpAnyT_take 10 (v := ?_) rfl (by kernel_rfl) (by kernel_rfl) (by kernel_rfl) (fun _ _ _ h => h) (by kernel_rfl) (by kernel_rfl) (Or.inl ⟨by kernel_rfl, ?_⟩) (Only.refl Nil _) ?_
          rotate_left
          · (intro w' hw'; have cv := conv_blk (c := 48 + b % 8) (by have h := q_b.kept hw' (fun h => h); rwa [HCb.out] at h); rw [HSB.out] at cv; go_simp; (try with_reducible rfl))
          refine wpAnyT_take 11 (v := ?_) rfl (by kernel_rfl) (by kernel_rfl) (by kernel_rfl) (fun _ _ _ h => h) (by kernel_rfl) (by kernel_rfl) (Or.inl ⟨by kernel_rfl, ?_⟩) (Only.refl Nil _) ?_
          rotate_left
          · (intro w' hw'; go_simp; (try with_reducible rfl))
          refine wpAnyT_one (i := 3) rfl (by kernel_rfl) (fun K hK => ?_)
          go_simp
          refine hK.out _ _ (fun _ => (Only.refl Nil w1x).alloc _) ?_
          clear hK K
          have q_a := Blk.new w1x #[.int .u8 (48 + (a : Int) % 8)] 5
          have ho2x := alloc0 w1x (.cells #[.int .u8 (48 + (a : Int) % 8)] 5)
          replace q_b := q_b.kept ho2x (fun h => h)
          obtain ⟨b_a, hb_a⟩ : ∃ z, w1x.heap.size = z := ⟨_, rfl⟩
          have g_a : wz.heap.size ≤ b_a := by rw [← hb_a]; exact hq.size
          have n_b_a : b_b ≠ b_a := by rw [← hb_a]; exact Nat.ne_of_lt l_b
          have l_a : b_a < (w1x.alloc (.cells #[.int .u8 (48 + (a : Int) % 8)] 5)).heap.size := by rw [← hb_a]; simp
          replace l_b := Nat.lt_of_lt_of_le l_b ho2x.size
          obtain ⟨w2x, hw2x⟩ : ∃ z, w1x.alloc (.cells #[.int .u8 (48 + (a : Int) % 8)] 5) = z := ⟨_, rfl⟩
          rw [hb_a] at q_a ⊢
          rw [hw2x] at q_a ho2x l_a q_b l_b ⊢
          clear hb_a hw2x
          refine wpAnyT_sub (S' := fun w' => Only Nil w2x w') (fun _ h => Nil.trans ho2x h) ?_
          replace hq := Nil.trans hq ho2x
          clear ho2x
          refine wpAnyT_take 4 (v := ?_) rfl (by kernel_rfl) (by kernel_rfl) (by kernel_rfl) (fun _ _ _ h => h) (by kernel_rfl) (by kernel_rfl) (Or.inl ⟨by kernel_rfl, ?_⟩) (Only.refl Nil _) ?_
          rotate_left
          · (intro w' hw'; have cv := conv_blk (c := 48 + a % 8) (by have h := q_a.kept hw' (fun h => h); rwa [HCa.out] at h); rw [HSA.out] at cv; go_simp; (try with_reducible rfl))
          refine wpAnyT_take 5 (v := ?_) rfl (by kernel_rfl) (by kernel_rfl) (by kernel_rfl) (fun _ _ _ h => h) (by kernel_rfl) (by kernel_rfl) (Or.inl ⟨by kernel_rfl, ?_⟩) (Only.refl Nil _) ?_
          rotate_left
          · (intro w' hw'; go_simp; (try with_reducible rfl))
          refine wpAnyT_take 12 (v := ?_) rfl (by kernel_rfl) (by kernel_rfl) (by kernel_rfl) (fun _ _ _ h => h) (by kernel_rfl) (by kernel_rfl) (Or.inl ⟨by kernel_rfl, ?_⟩) (Only.refl Nil _) ?_
          rotate_left
          · (intro w' hw'; go_simp; (try with_reducible rfl))
          refine wpAnyT_take 13 (v := ?_) rfl (by kernel_rfl) (by kernel_rfl) (by kernel_rfl) (fun _ _ _ h => h) (by kernel_rfl) (by kernel_rfl) (Or.inl ⟨by kernel_rfl, ?_⟩) (Only.refl Nil _) ?_
          rotate_left
          · (intro w' hw'; go_simp; (try with_reducible rfl))
          refine wpAnyT_done (by kernel_rfl) ?_
          have HQ := Lib.hid hq
          clear q_a q_b g_a g_b l_a l_b hq
          go_wp2_with fail
          go_meet
          exact ⟨_, _, rfl, rfl, by rw [ByteArray.size_append, sA]; exact Nat.le_of_ble_eq_true rfl, by rw [ByteArray.size_append, sB]; exact Nat.le_of_ble_eq_true rfl, HQ.out⟩
      case rest =>
        obtain ⟨x, y, rfl, rfl, hx, hy, hoc⟩ := hcut
        obtain ⟨w6, hw6⟩ : ∃ z, wc = z := ⟨_, rfl⟩
        rw [hw6] at hoc ⊢
        clear hw6 ta tb wa wb sA sB HSA HSB HCa HCb
        have hbig : 100 ≤ maxLen := by decide
        have HXS := Lib.hid (Nat.le_trans hx hbig)
        have HYS := Lib.hid (Nat.le_trans hy hbig)
        have HO6 := Lib.hid (Nil.trans HO5.out hoc)
        have HB6 := Lib.hid (HBz.out.kept hoc (fun h => h))
        have HRM := Lib.hid (HR.out.go hoc).rmap
        have HF9 : Hid (∀ s r, R s = some r → r.fields.length ≤ 1000) := Lib.hid (fun s r h => Nat.le_trans (HF5.out s r h) (by decide))
        have HM9 : Hid (m ≤ 20000) := Lib.hid (Nat.le_trans HM6.out (by decide))
        clear hx hy hbig hoc HBz
        have CF := fieldsP_any HRM.out HF9.out HM9.out x HXS.out w6 (Only.refl _ _)
        have CG := fun w' (h : Only Nil w6 w') => fieldsR_any HRM.out HF9.out HM9.out x HXS.out w' h
        obtain ⟨Fo, hFo⟩ : ∃ z, fieldsM R m x = z := ⟨_, rfl⟩
        rw [hFo] at CF CG
        have HCF := Lib.hid CF
        have HCG := Lib.hid CG
        clear CF CG hFo
        go_wp2_with fail
        refine HCF.out.mono ?_
        rintro e w7 ⟨fv1, rfl, hv1, ho7⟩
        have HV1 := Lib.hid hv1
        have H7 := Lib.hid ho7
        obtain ⟨ao1, cap1, e1⟩ := hv1.slice
        obtain ⟨nf1, hnf1⟩ : ∃ z, (Fo.getD []).length = z := ⟨_, rfl⟩
        rw [hnf1] at e1
        subst e1
        clear hv1 ho7
        go_wp2_with fail
        refine (HCG.out _ H7.out).mono ?_
        rintro e w8 ⟨fv2, rfl, hv2, ho8⟩
        have HV2 := Lib.hid hv2
        have H8 := Lib.hid (Nil.trans H7.out ho8)
        obtain ⟨ao2, cap2, e2⟩ := hv2.slice
        rw [hnf1] at e2
        subst e2
        have CV := Lib.hid (fun w' (h : Only Nil w8 w') => vars_any (HV1.out.go ho8) HV2.out w' h)
        obtain ⟨bo, hbo⟩ : ∃ z, Fo.isSome = z := ⟨_, rfl⟩
        rw [hbo]
        have nb : (bo != bo) = false := by simp
        have CE1 := Lib.hid (fun w' (h : Only Nil w6 w') => extP_any HRM.out y x HXS.out w' h)
        have CE2 := Lib.hid (fun w' (h : Only Nil w6 w') => extR_any HRM.out y x HXS.out w' h)
        obtain ⟨be, hbe⟩ : ∃ z, extM R y (m + 1) x = z := ⟨_, rfl⟩
        rw [hbe] at CE1 CE2
        have ne : (be != be) = false := by simp
        clear hv2 ho8 hnf1 hbo hbe HCF HCG
        go_wp2_with fail
        refine (CV.out _ (Only.refl _ _)).mono ?_
        rintro e w8a ⟨rfl, ho8a⟩
        have H8a := Lib.hid (Nil.trans H8.out ho8a)
        clear ho8a CV
        go_wp2_with fail
        refine (CE1.out _ H8a.out).mono ?_
        rintro e w8b ⟨rfl, ho8b⟩
        have H8b := Lib.hid (Nil.trans H8a.out ho8b)
        clear ho8b CE1
        go_wp2_with fail
        refine (CE2.out _ H8b.out).mono ?_
        rintro e w9 ⟨rfl, ho9⟩
        have H9 := Lib.hid (Nil.trans H8b.out ho9)
        clear ho9 CE2
        go_upto_region 16 with fail
        have HO9 := Lib.hid (Nil.trans HO6.out H9.out)
        have hB9 := HB6.out.kept H9.out (fun h => h)
        have c0 : w9.cell? ⟨w.heap.size, 0, none⟩ = some (.int .i64 tf) := hB9.cell 0
        have c1 : w9.cell? ⟨w.heap.size, 1, none⟩ = some (.int .i64 tn) := hB9.cell 1
        have c2 : w9.cell? ⟨w.heap.size, 2, none⟩ = some (.string ts) := hB9.cell 2
        have c3 : w9.cell? ⟨w.heap.size, 3, none⟩ = some (.slice aoT nT capT) := hB9.cell 3
        have HCA := Lib.hid (fun w' (h : Only Nil w9 w') => typeOf_any kk HK.out tf tn ts HTS.out _ _ w' (HTT.out.go (Nil.trans HO9.out h)))
        have wkk : IntKind.i64.wrap (kk : Int) = (kk : Int) := by have := HK.out; rw [IntKind.wrap]; simp [IntKind.bits, IntKind.signed]; omega
        have wkk2 : wrap64 (kk : Int) = (kk : Int) := by have := HK.out; unfold wrap64; omega
        clear hB9 nb ne
        go_cut [100, 101, 102] (fun s100 s101 s102 wx => ∃ (bA : Nat) (T4 : List Ty), s100 = .slice (some ⟨bA, 0, none⟩) 4 4 ∧ s101 = .int .i64 4 ∧ s102 = .int .i64 0 ∧ T4.length = 4 ∧ TyS Any wx (.slice (some ⟨bA, 0, none⟩) 4 4) T4 ∧ Only Nil w9 wx)
        case first =>
            have hq : Only Nil w9 w9.drew := (Only.refl Nil w9).drew
            refine wp_region_T (fun w' => Only Nil w9 w') [] (by kernel_rfl) ?_
            refine wpAnyT_sub (S' := fun w' => Only Nil w9.drew w') (fun _ h => Nil.trans hq h) ?_
            obtain ⟨wd, hwd⟩ : ∃ z, w9.drew = z := ⟨_, rfl⟩
            rw [hwd] at hq  ⊢
            clear hwd
            refine wpAnyT_take 0 (v := ?_) rfl (by kernel_rfl) (by kernel_rfl) (by kernel_rfl) (fun _ _ _ h => h) (by kernel_rfl) (by kernel_rfl) (Or.inl ⟨by kernel_rfl, ?_⟩) (Only.refl Nil _) ?_
            rotate_left
            · (intro w' hw'; have e0 := M.Only.cell hw' (M.Only.cell hq c0 (fun h => h)) (fun h => h); have e1 := M.Only.cell hw' (M.Only.cell hq c1 (fun h => h)) (fun h => h); have e2 := M.Only.cell hw' (M.Only.cell hq c2 (fun h => h)) (fun h => h); have e3 := M.Only.cell hw' (M.Only.cell hq c3 (fun h => h)) (fun h => h); go_simp; (try with_reducible rfl))
            refine wpAnyT_take 1 (v := ?_) rfl (by kernel_rfl) (by kernel_rfl) (by kernel_rfl) (fun _ _ _ h => h) (by kernel_rfl) (by kernel_rfl) (Or.inl ⟨by kernel_rfl, ?_⟩) (Only.refl Nil _) ?_
            rotate_left
            · (intro w' hw'; have e0 := M.Only.cell hw' (M.Only.cell hq c0 (fun h => h)) (fun h => h); have e1 := M.Only.cell hw' (M.Only.cell hq c1 (fun h => h)) (fun h => h); have e2 := M.Only.cell hw' (M.Only.cell hq c2 (fun h => h)) (fun h => h); have e3 := M.Only.cell hw' (M.Only.cell hq c3 (fun h => h)) (fun h => h); go_simp; (try with_reducible rfl))
            refine wpAnyT_take 2 (v := ?_) rfl (by kernel_rfl) (by kernel_rfl) (by kernel_rfl) (fun _ _ _ h => h) (by kernel_rfl) (by kernel_rfl) (Or.inl ⟨by kernel_rfl, ?_⟩) (Only.refl Nil _) ?_
            rotate_left
            · (intro w' hw'; have e0 := M.Only.cell hw' (M.Only.cell hq c0 (fun h => h)) (fun h => h); have e1 := M.Only.cell hw' (M.Only.cell hq c1 (fun h => h)) (fun h => h); have e2 := M.Only.cell hw' (M.Only.cell hq c2 (fun h => h)) (fun h => h); have e3 := M.Only.cell hw' (M.Only.cell hq c3 (fun h => h)) (fun h => h); go_simp; (try with_reducible rfl))
            refine wpAnyT_take 4 (v := ?_) rfl (by kernel_rfl) (by kernel_rfl) (by kernel_rfl) (fun _ _ _ h => h) (by kernel_rfl) (by kernel_rfl) (Or.inl ⟨by kernel_rfl, ?_⟩) (Only.refl Nil _) ?_
            rotate_left
            · (intro w' hw'; have e0 := M.Only.cell hw' (M.Only.cell hq c0 (fun h => h)) (fun h => h); have e1 := M.Only.cell hw' (M.Only.cell hq c1 (fun h => h)) (fun h => h); have e2 := M.Only.cell hw' (M.Only.cell hq c2 (fun h => h)) (fun h => h); have e3 := M.Only.cell hw' (M.Only.cell hq c3 (fun h => h)) (fun h => h); go_simp; (try with_reducible rfl))
            refine wpAnyT_take 5 (v := ?_) rfl (by kernel_rfl) (by kernel_rfl) (by kernel_rfl) (fun _ _ _ h => h) (by kernel_rfl) (by kernel_rfl) (Or.inl ⟨by kernel_rfl, ?_⟩) (Only.refl Nil _) ?_
            rotate_left
            · (intro w' hw'; have e0 := M.Only.cell hw' (M.Only.cell hq c0 (fun h => h)) (fun h => h); have e1 := M.Only.cell hw' (M.Only.cell hq c1 (fun h => h)) (fun h => h); have e2 := M.Only.cell hw' (M.Only.cell hq c2 (fun h => h)) (fun h => h); have e3 := M.Only.cell hw' (M.Only.cell hq c3 (fun h => h)) (fun h => h); go_simp; (try with_reducible rfl))
            refine wpAnyT_take 6 (v := ?_) rfl (by kernel_rfl) (by kernel_rfl) (by kernel_rfl) (fun _ _ _ h => h) (by kernel_rfl) (by kernel_rfl) (Or.inl ⟨by kernel_rfl, ?_⟩) (Only.refl Nil _) ?_
            rotate_left
            · (intro w' hw'; have e0 := M.Only.cell hw' (M.Only.cell hq c0 (fun h => h)) (fun h => h); have e1 := M.Only.cell hw' (M.Only.cell hq c1 (fun h => h)) (fun h => h); have e2 := M.Only.cell hw' (M.Only.cell hq c2 (fun h => h)) (fun h => h); have e3 := M.Only.cell hw' (M.Only.cell hq c3 (fun h => h)) (fun h => h); go_simp; (try with_reducible rfl))
            refine wpAnyT_take 7 (v := ?_) rfl (by kernel_rfl) (by kernel_rfl) (by kernel_rfl) (fun _ _ _ h => h) (by kernel_rfl) (by kernel_rfl) (Or.inl ⟨by kernel_rfl, ?_⟩) (Only.refl Nil _) ?_
            rotate_left
            · (intro w' hw'; have e0 := M.Only.cell hw' (M.Only.cell hq c0 (fun h => h)) (fun h => h); have e1 := M.Only.cell hw' (M.Only.cell hq c1 (fun h => h)) (fun h => h); have e2 := M.Only.cell hw' (M.Only.cell hq c2 (fun h => h)) (fun h => h); have e3 := M.Only.cell hw' (M.Only.cell hq c3 (fun h => h)) (fun h => h); go_simp; (try with_reducible rfl))
            refine wpAnyT_take 8 (v := ?_) rfl (by kernel_rfl) (by kernel_rfl) (by kernel_rfl) (fun _ _ _ h => h) (by kernel_rfl) (by kernel_rfl) (Or.inl ⟨by kernel_rfl, ?_⟩) (Only.refl Nil _) ?_
            rotate_left
            · (intro w' hw'; have e0 := M.Only.cell hw' (M.Only.cell hq c0 (fun h => h)) (fun h => h); have e1 := M.Only.cell hw' (M.Only.cell hq c1 (fun h => h)) (fun h => h); have e2 := M.Only.cell hw' (M.Only.cell hq c2 (fun h => h)) (fun h => h); have e3 := M.Only.cell hw' (M.Only.cell hq c3 (fun h => h)) (fun h => h); go_simp; (try with_reducible rfl))
            refine wpAnyT_take 9 (v := ?_) rfl (by kernel_rfl) (by kernel_rfl) (by kernel_rfl) (fun _ _ _ h => h) (by kernel_rfl) (by kernel_rfl) (Or.inl ⟨by kernel_rfl, ?_⟩) (Only.refl Nil _) ?_
            rotate_left
            · (intro w' hw'; have e0 := M.Only.cell hw' (M.Only.cell hq c0 (fun h => h)) (fun h => h); have e1 := M.Only.cell hw' (M.Only.cell hq c1 (fun h => h)) (fun h => h); have e2 := M.Only.cell hw' (M.Only.cell hq c2 (fun h => h)) (fun h => h); have e3 := M.Only.cell hw' (M.Only.cell hq c3 (fun h => h)) (fun h => h); go_simp; (try with_reducible rfl))
            refine wpAnyT_take 13 (v := ?_) rfl (by kernel_rfl) (by kernel_rfl) (by kernel_rfl) (fun _ _ _ h => h) (by kernel_rfl) (by kernel_rfl) (Or.inl ⟨by kernel_rfl, ?_⟩) (Only.refl Nil _) ?_
            rotate_left
            · (intro w' hw'; have e0 := M.Only.cell hw' (M.Only.cell hq c0 (fun h => h)) (fun h => h); have e1 := M.Only.cell hw' (M.Only.cell hq c1 (fun h => h)) (fun h => h); have e2 := M.Only.cell hw' (M.Only.cell hq c2 (fun h => h)) (fun h => h); have e3 := M.Only.cell hw' (M.Only.cell hq c3 (fun h => h)) (fun h => h); go_simp; (try with_reducible rfl))
            refine wpAnyT_one (i := 3) rfl (by kernel_rfl) (fun K hK => ?_)
            go_simp
            go_wp2_with (go_at_call 16; refine (HCA.out _ hq).mono ?_; rintro e w1x ⟨tt1, ov1, rfl, hS10, hN1, ho1x⟩; have HN1 := Lib.hid hN1; have hS1 := hS10.any; clear hS10 hN1; obtain ⟨ao1, cap1, eT1⟩ := hS1.slice; obtain ⟨nT1, hnT1⟩ : ∃ z, tt1.of.length = z := ⟨_, rfl⟩; rw [hnT1] at eT1; subst eT1)
            refine hK.out _ _ (fun _ => ho1x) ?_
            clear hK K
            refine wpAnyT_sub (S' := fun w' => Only Nil w1x w') (fun _ h => Nil.trans ho1x h) ?_
            replace hq := Nil.trans hq ho1x
            clear ho1x
            refine wpAnyT_one (i := 10) rfl (by kernel_rfl) (fun K hK => ?_)
            go_simp
            go_wp2_with (go_at_call 17; (try rw [wkk]); refine (arrR_any (U := Any) (kk : Int) 8 0 y HYS.out (.slice none 0 0) [] w1x (TyS.nil Any w1x)).mono ?_; rintro e w2x ⟨g2, rfl, hS2, ho2x⟩)
            refine hK.out _ _ (fun _ => ho2x) ?_
            clear hK K
            replace hS1 := hS1.go ho2x
            refine wpAnyT_sub (S' := fun w' => Only Nil w2x w') (fun _ h => Nil.trans ho2x h) ?_
            replace hq := Nil.trans hq ho2x
            clear ho2x
            refine wpAnyT_one (i := 11) rfl (by kernel_rfl) (fun K hK => ?_)
            go_simp
            refine hK.out _ _ (fun _ => (Only.refl Nil w2x).alloc _) ?_
            clear hK K
            have hBA := Blk.new w2x #[.int .i64 tf, .int .i64 tn, .string ts, .slice aoT nT capT, .int .i64 tt1.form, .int .i64 tt1.n, .string tt1.name, .slice ao1 nT1 cap1, .int .i64 8, .int .i64 0, .string x, .slice none 0 0, .int .i64 7, .int .i64 (kk : Int), .string ⟨#[]⟩, .slice (some ⟨g2, 0, none⟩) 1 1] 25
            have hoA := alloc0 w2x (.cells #[.int .i64 tf, .int .i64 tn, .string ts, .slice aoT nT capT, .int .i64 tt1.form, .int .i64 tt1.n, .string tt1.name, .slice ao1 nT1 cap1, .int .i64 8, .int .i64 0, .string x, .slice none 0 0, .int .i64 7, .int .i64 (kk : Int), .string ⟨#[]⟩, .slice (some ⟨g2, 0, none⟩) 1 1] 25)
            have hoq := Nil.trans hq hoA
            have h4 := four_of (t0 := .mk tf tn ts lt) (t1 := tt1) (t2 := .mk 8 0 x []) (t3 := .mk 7 (kk : Int) ⟨#[]⟩ [.mk 8 0 y []]) hBA (HTT.out.go (Nil.trans HO9.out hoq)).any (hS1.go hoA) (TyS.nil _ _) (hS2.go hoA) HTS.out HN1.out HXS.out (Nat.zero_le _)
            have H4 := Lib.hid h4
            have HOQ := Lib.hid hoq
            clear hBA hoA hoq h4 hS1 hS2
            refine wpAnyT_one (i := 12) rfl (by kernel_rfl) (fun K hK => ?_)
            go_simp
            refine hK.out _ _ (fun _ => (Only.refl Nil w2x).alloc _) ?_
            clear hK K
            refine wpAnyT_done (by kernel_rfl) ?_
            go_wp2_with fail
            go_meet
            exact ⟨_, _, rfl, rfl, rfl, rfl, H4.out, HOQ.out⟩
        case rest =>
          obtain ⟨bA, T4, rfl, rfl, rfl, hlen, hT4, hO4⟩ := hcut
          obtain ⟨wA, hwA⟩ : ∃ z, wc = z := ⟨_, rfl⟩
          rw [hwA] at hT4 hO4 ⊢
          clear hwA c0 c1 c2 c3 HCA wkk wkk2
          obtain ⟨ao4, cap4, off4, b4, ovs, e4, p0, ps, pc, pr⟩ := hT4.inv
          have e0 := p0 (by omega)
          rw [hlen] at e4
          subst e0
          simp only [Value.slice.injEq, Option.some.injEq, Addr.mk.injEq, and_true, true_and] at e4
          obtain ⟨⟨rfl, rfl⟩, rfl⟩ := e4
          have HLEN := Lib.hid hlen
          have HPS := Lib.hid ps
          have HPC := Lib.hid pc
          have HPR := Lib.hid pr
          have HRA := Lib.hid ((HRM.out.go H9.out).go hO4)
          have HOA := Lib.hid (Nil.trans HO9.out hO4)
          clear hT4 hO4 hlen p0 ps pc pr
          go_wp2_with fail
          go_loopg [102] 4 (fun g v wr => ∃ i : Nat, v = .int .i64 (i : Int) ∧ i ≤ 4 ∧ g = 4 - i ∧ Only Nil wA wr)
          case atStart => exact ⟨0, rfl, Nat.zero_le _, rfl, Only.refl _ _⟩
          case round =>
            obtain ⟨i, rfl, hi, hg, ho⟩ := hrel
            have HG2 := Lib.hid hg
            have HOi := Lib.hid ho
            have i0 : (0 : Int) ≤ (i : Int) := Int.natCast_nonneg _
            by_cases hi6 : i < 4
            · have i1 : (i : Int) < 4 := by omega
              obtain ⟨t, ht⟩ : ∃ t, T4[i]? = some t := ⟨_, List.getElem?_eq_getElem (by rw [HLEN.out]; exact hi6)⟩
              have a1 := (HPC.out i t ht).kept ho (fun _ h => h)
              unfold tyCells at a1
              rw [Nat.zero_add] at a1
              have b0 := a1.get0
              have b1 := a1.get 1 rfl
              have b2 := a1.get 2 rfl
              have b3 := a1.get 3 rfl
              have CP := fun w' (h : Only Nil wA w') => wordsP_any HRA.out HF9.out HM9.out (HPR.out i t ht) t.form t.n t.name (HPS.out t (List.mem_of_getElem? ht)) w' h
              have CR := fun w' (h : Only Nil wA w') => wordsR_any HRA.out HF9.out HM9.out (HPR.out i t ht) t.form t.n t.name (HPS.out t (List.mem_of_getElem? ht)) w' h
              obtain ⟨X, hX⟩ : ∃ x, wordsM R m (Ty.mk t.form t.n t.name t.of) = x := ⟨_, rfl⟩
              rw [hX] at CP CR
              obtain ⟨aoE, capE, eE⟩ := (HPR.out i t ht).slice
              obtain ⟨nE, hnE⟩ : ∃ z, t.of.length = z := ⟨_, rfl⟩
              rw [hnE] at eE
              rw [eE] at b3 CP CR
              have HCP := Lib.hid CP
              have HCR := Lib.hid CR
              have wi : IntKind.i64.wrap ((i : Int) + 1) = ((i + 1 : Nat) : Int) := by rw [IntKind.wrap]; simp [IntKind.bits, IntKind.signed]; omega
              obtain ⟨tf1, htf1⟩ : ∃ z, t.form = z := ⟨_, rfl⟩
              obtain ⟨tn1, htn1⟩ : ∃ z, t.n = z := ⟨_, rfl⟩
              obtain ⟨ts1, hts1⟩ : ∃ z, t.name = z := ⟨_, rfl⟩
              rw [htf1] at b0 HCP HCR
              rw [htn1] at b1 HCP HCR
              rw [hts1] at b2 HCP HCR
              obtain ⟨bx, hbx⟩ : ∃ z, wr.heap.size = z := ⟨_, rfl⟩
              have hBx := Blk.new wr #[.int .i64 tf1, .int .i64 tn1, .string ts1, .slice aoE nE capE] 25
              rw [hbx] at hBx
              have HBX := Lib.hid hBx
              have HBXE := Lib.hid hbx
              clear a1 ht CP CR hX eE hnE htf1 htn1 hts1 hBx hbx hg hi ho
              go_wp2_with fail
              refine (HCP.out _ (HOi.out.alloc _)).mono ?_
              rintro e wB ⟨rfl, hoB⟩
              have HOB := Lib.hid (Nil.trans (HOi.out.alloc _) hoB)
              have hBx := HBX.out.kept hoB (fun h => h)
              rw [HBXE.out]
              have d0 : wB.cell? ⟨bx, 0, none⟩ = some (.int .i64 tf1) := hBx.cell 0
              have d1 : wB.cell? ⟨bx, 1, none⟩ = some (.int .i64 tn1) := hBx.cell 1
              have d2 : wB.cell? ⟨bx, 2, none⟩ = some (.string ts1) := hBx.cell 2
              have d3 : wB.cell? ⟨bx, 3, none⟩ = some (.slice aoE nE capE) := hBx.cell 3
              clear hoB hBx HCP b0 b1 b2 b3 HBX HBXE
              cases X with
              | none =>
                simp only [Option.getD_none, Option.isSome_none]
                go_wp2_with fail
                refine (HCR.out _ HOB.out).mono ?_
                rintro e wC ⟨mm, rfl, _, hoC⟩
                have HOC := Lib.hid (Nil.trans HOB.out hoC)
                obtain ⟨cm, hcm⟩ : ∃ c, ((0 : Int) != mm) = c := ⟨_, rfl⟩
                simp only [Option.isSome_none]
                clear hoC HCR d0 d1 d2 d3
                cases cm
                all_goals
                  go_wp2_with fail
                  go_roundg (4 - (i + 1))
                  case measure => have := HG2.out; omega
                  case rel => exact ⟨i + 1, rfl, by omega, rfl, HOC.out⟩
              | some z =>
                simp only [Option.getD_some, Option.isSome_some]
                go_wp2_with fail
                refine (HCR.out _ HOB.out).mono ?_
                rintro e wC ⟨mm, rfl, hmm, hoC⟩
                have HOC := Lib.hid (Nil.trans HOB.out hoC)
                have hmz := hmm z rfl
                subst hmz
                have zz : ((z : Int) != (z : Int)) = false := by simp
                simp only [Option.isSome_some]
                clear hoC HCR d0 d1 d2 d3 hmm
                go_wp2_with fail
                go_roundg (4 - (i + 1))
                case measure => have := HG2.out; omega
                case rel => exact ⟨i + 1, rfl, by omega, rfl, HOC.out⟩
            · have hi7 : i = 4 := by omega
              subst hi7
              clear hg hi ho i0
              go_wp2_with fail
              go_ret
              exact ⟨rfl, Nil.trans HOA.out HOi.out⟩
end Go.Proofs.YtcbeibhmjokecaaDoor
