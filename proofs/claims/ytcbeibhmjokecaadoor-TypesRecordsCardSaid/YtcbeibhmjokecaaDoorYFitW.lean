/- What may come where any type is: TypesFit's walk. -/
import Derived.Test.YtcbeibhmjokecaaDoorYMade
set_option linter.unusedSimpArgs false
set_option linter.unusedVariables false
namespace Go.Proofs.YtcbeibhmjokecaaDoor
open Go.RowKit M

set_option maxRecDepth 20000 in
set_option maxHeartbeats 12800000 in
theorem fit_any {U V : Nat → Prop} {v vt vu : Value} {l : List Rin} {lt lu : List Ty} (a b : Nat) (ha : a < 256) (hb : b < 256) (tf tn uf un : Int) (ts us : ByteArray) (hts : ts.size ≤ maxLen) (hus : us.size ≤ maxLen) (w : World) (hT : Tabs w) (hl : RinS w v l) (htt : TyS U w vt lt) (htu : TyS V w vu lu) :
    Calls Tryd.prog 4 #[v, .int .u8 (a : Int), .int .u8 (b : Int), .agg #[.int .i64 tf, .int .i64 tn, .string ts, vt], .agg #[.int .i64 uf, .int .i64 un, .string us, vu]] w fun e w' => e = .returned (.bool true) ∧ Only Nil w w' := by
  have HT := Lib.hid hT
  have HL := Lib.hid hl
  have HTT := Lib.hid htt
  have HTU := Lib.hid htu
  have HTS := Lib.hid hts
  have HUS := Lib.hid hus
  have HA := Lib.hid ha
  have HB := Lib.hid hb
  obtain ⟨ao, cap, off, bl, rfl, hl0, hln, hel⟩ := hl
  obtain ⟨n, hn⟩ : ∃ z, l.length = z := ⟨_, rfl⟩
  rw [hn] at HL hl0 hln ⊢
  have HN := Lib.hid hn
  have HL0 := Lib.hid hl0
  have HLN := Lib.hid hln
  have HEL := Lib.hid hel
  obtain ⟨aoT, capT, rfl⟩ := htt.slice
  obtain ⟨nT, hnT⟩ : ∃ z, lt.length = z := ⟨_, rfl⟩
  rw [hnT] at HTT ⊢
  obtain ⟨aoU, capU, rfl⟩ := htu.slice
  obtain ⟨nU, hnU⟩ : ∃ z, lu.length = z := ⟨_, rfl⟩
  rw [hnU] at HTU ⊢
  have CL1 := Lib.hid (fun w' (h : Only Nil w w') => light_any HTT.out tf tn ts 20 w' (by decide) h)
  have CL2 := Lib.hid (fun w' (h : Only Nil w w') => light_any HTU.out uf un us 20 w' (by decide) h)
  clear hT htt htu hts hus ha hb hl0 hln hel hn hnT hnU
  have s1 : (w.alloc (.cells #[.int .i64 tf, .int .i64 tn, .string ts, .slice aoT nT capT] 25)).heap.size = w.heap.size + 1 := by simp
  have hB1 := Blk.new w #[.int .i64 tf, .int .i64 tn, .string ts, .slice aoT nT capT] 25
  have o1 := alloc0 w (.cells #[.int .i64 tf, .int .i64 tn, .string ts, .slice aoT nT capT] 25)
  obtain ⟨w1, hw1⟩ : ∃ z, w.alloc (.cells #[.int .i64 tf, .int .i64 tn, .string ts, .slice aoT nT capT] 25) = z := ⟨_, rfl⟩
  rw [hw1] at s1 hB1 o1
  have hB2 := Blk.new w1 #[.int .i64 uf, .int .i64 un, .string us, .slice aoU nU capU] 25
  have o2 := alloc0 w1 (.cells #[.int .i64 uf, .int .i64 un, .string us, .slice aoU nU capU] 25)
  rw [s1] at hB2
  obtain ⟨w2, hw2⟩ : ∃ z, w1.alloc (.cells #[.int .i64 uf, .int .i64 un, .string us, .slice aoU nU capU] 25) = z := ⟨_, rfl⟩
  rw [hw2] at hB2 o2
  have HB1 := Lib.hid (hB1.kept o2 (fun h => h))
  have HB2 := Lib.hid hB2
  have O2 := Lib.hid (Nil.trans o1 o2)
  have HW1 := Lib.hid hw1
  have HW2 := Lib.hid hw2
  clear s1 hB1 o1 hw1 hB2 o2 hw2
  go_enter Tryd.func4, Tryd.ntmps4
  go_upto_region 1 with fail
  rw [HW1.out, HW2.out]
  go_wp2_with fail
  refine (known12_any _ (HT.out.kept O2.out)).mono ?_
  rintro e w3 ⟨rfl, ho3⟩
  have O3 := Lib.hid (Nil.trans O2.out ho3)
  have hB1 := HB1.out.kept ho3 (fun h => h)
  have hB2 := HB2.out.kept ho3 (fun h => h)
  have HB31 := Lib.hid hB1
  have HB32 := Lib.hid hB2
  have c0 : w3.cell? ⟨w.heap.size, 0, none⟩ = some (.int .i64 tf) := hB1.cell 0
  have c1 : w3.cell? ⟨w.heap.size, 1, none⟩ = some (.int .i64 tn) := hB1.cell 1
  have c2 : w3.cell? ⟨w.heap.size, 2, none⟩ = some (.string ts) := hB1.cell 2
  have c3 : w3.cell? ⟨w.heap.size, 3, none⟩ = some (.slice aoT nT capT) := hB1.cell 3
  clear ho3 hB1 hB2 HW1 HW2 HB1 HB2
  go_wp2_with fail
  refine (CL1.out _ O3.out).mono ?_
  rintro e w4 ⟨⟨bb, rfl⟩, ho4⟩
  have O4 := Lib.hid (Nil.trans O3.out ho4)
  have hB1 := HB31.out.kept ho4 (fun h => h)
  have hB2 := HB32.out.kept ho4 (fun h => h)
  have HB41 := Lib.hid hB1
  have HB42 := Lib.hid hB2
  have d0 : w4.cell? ⟨w.heap.size + 1, 0, none⟩ = some (.int .i64 uf) := hB2.cell 0
  have d1 : w4.cell? ⟨w.heap.size + 1, 1, none⟩ = some (.int .i64 un) := hB2.cell 1
  have d2 : w4.cell? ⟨w.heap.size + 1, 2, none⟩ = some (.string us) := hB2.cell 2
  have d3 : w4.cell? ⟨w.heap.size + 1, 3, none⟩ = some (.slice aoU nU capU) := hB2.cell 3
  clear ho4 hB1 hB2 c0 c1 c2 c3 HB31 HB32
  cases bb
  · go_wp2_with fail
    go_ret
    exact ⟨rfl, O4.out⟩
  go_wp2_with fail
  refine (CL2.out _ O4.out).mono ?_
  rintro e w5 ⟨⟨bb, rfl⟩, ho5⟩
  have O5 := Lib.hid (Nil.trans O4.out ho5)
  have HB51 := Lib.hid (HB41.out.kept ho5 (fun h => h))
  have HB52 := Lib.hid (HB42.out.kept ho5 (fun h => h))
  clear ho5 d0 d1 d2 d3 HB41 HB42
  cases bb
  · go_wp2_with fail
    go_ret
    exact ⟨rfl, O5.out⟩
  go_wp2_with fail
  go_loopg [11] n (fun g i wr => ∃ k : Nat, i = .int .i64 (k : Int) ∧ k ≤ n ∧ g = n - k ∧ Only Nil w5 wr)
  case atStart => exact ⟨0, rfl, Nat.zero_le _, rfl, Only.refl _ _⟩
  case round =>
    obtain ⟨k, rfl, hk, hg, ho⟩ := hrel
    have HG := Lib.hid hg
    have HO := Lib.hid ho
    have k0 : (0 : Int) ≤ (k : Int) := Int.natCast_nonneg _
    by_cases hkn : k < n
    · have k1 : (k : Int) < (n : Int) := by omega
      obtain ⟨r, hr⟩ : ∃ r, l[k]? = some r := ⟨_, List.getElem?_eq_getElem (by rw [HN.out]; exact hkn)⟩
      have e1 := HL0.out (by omega)
      subst e1
      have hO := Nil.trans O5.out ho
      obtain ⟨fvl, ovl, fb, a1, _, hTy, _, _, _, _⟩ := (HEL.out k r hr).go hO
      obtain ⟨aoR, capR, eR⟩ := hTy.slice
      obtain ⟨nR, hnR⟩ : ∃ z, r.t.of.length = z := ⟨_, rfl⟩
      rw [hnR] at eR
      subst eR
      unfold rinCells at a1
      have y2 : wr.cell? ⟨bl, off + k * 6 + 2, none⟩ = some (.int .i64 r.t.form) := a1.get 2 rfl
      have y3 : wr.cell? ⟨bl, off + k * 6 + 3, none⟩ = some (.int .i64 r.t.n) := a1.get 3 rfl
      have y4 : wr.cell? ⟨bl, off + k * 6 + 4, none⟩ = some (.string r.t.name) := a1.get 4 rfl
      have y5 : wr.cell? ⟨bl, off + k * 6 + 5, none⟩ = some (.slice aoR nR capR) := a1.get 5 rfl
      have CL := Lib.hid (fun w' (h : Only Nil wr w') => light_any hTy r.t.form r.t.n r.t.name 20 w' (by decide) h)
      clear a1 hTy hr hO hg ho hk hnR
      go_wp2_with fail
      refine (CL.out _ (Only.refl _ _)).mono ?_
      rintro e w6 ⟨⟨bb, rfl⟩, ho6⟩
      have HO6 := Lib.hid (Nil.trans HO.out ho6)
      clear ho6 CL y2 y3 y4 y5
      cases bb
      · go_wp2_with fail
        go_ret
        exact ⟨rfl, Nil.trans O5.out HO6.out⟩
      · have wk : IntKind.i64.wrap ((k : Int) + 1) = ((k + 1 : Nat) : Int) := by have := HLN.out; rw [IntKind.wrap]; simp [IntKind.bits, IntKind.signed]; omega
        go_wp2_with fail
        go_roundg (n - (k + 1))
        case measure => have := HG.out; omega
        case rel => exact ⟨k + 1, rfl, by omega, rfl, HO6.out⟩
    · have hkn' : k = n := by omega
      subst hkn'
      have k1 : (k : Int) ≤ (k : Int) := Int.le_refl _
      have CM := made_any HL.out wr (Nil.trans O5.out ho)
      have HCM := Lib.hid CM
      clear hg ho hk CM
      go_wp2_with fail
      refine HCM.out.mono ?_
      rintro e w5m ⟨mb, m, R, fv, rfl, hR, hm6, hF5, hom⟩
      have OM := Lib.hid (Nil.trans HO.out hom)
      have HR := Lib.hid hR
      have HF5 := Lib.hid hF5
      have HM6 := Lib.hid hm6
      obtain ⟨wz, hwz⟩ : ∃ z, w5m = z := ⟨_, rfl⟩
      have hO5 := Nil.trans O5.out OM.out
      have hB1 := HB51.out.kept OM.out (fun h => h)
      have hB2 := HB52.out.kept OM.out (fun h => h)
      rw [hwz] at HR OM hO5 hB1 hB2 ⊢
      clear hwz hR hm6 hF5 hom HCM
      have HO5 := Lib.hid hO5
      have c0 : wz.cell? ⟨w.heap.size, 0, none⟩ = some (.int .i64 tf) := hB1.cell 0
      have c1 : wz.cell? ⟨w.heap.size, 1, none⟩ = some (.int .i64 tn) := hB1.cell 1
      have c2 : wz.cell? ⟨w.heap.size, 2, none⟩ = some (.string ts) := hB1.cell 2
      have c3 : wz.cell? ⟨w.heap.size, 3, none⟩ = some (.slice aoT nT capT) := hB1.cell 3
      have d0 : wz.cell? ⟨w.heap.size + 1, 0, none⟩ = some (.int .i64 uf) := hB2.cell 0
      have d1 : wz.cell? ⟨w.heap.size + 1, 1, none⟩ = some (.int .i64 un) := hB2.cell 1
      have d2 : wz.cell? ⟨w.heap.size + 1, 2, none⟩ = some (.string us) := hB2.cell 2
      have d3 : wz.cell? ⟨w.heap.size + 1, 3, none⟩ = some (.slice aoU nU capU) := hB2.cell 3
      have HCA := Lib.hid (fun w' (h : Only Nil wz w') => typeOf_any a HA.out tf tn ts HTS.out _ _ w' (HTT.out.go (Nil.trans HO5.out h)))
      have HCB := Lib.hid (fun w' (h : Only Nil wz w') => typeOf_any b HB.out uf un us HUS.out _ _ w' (HTU.out.go (Nil.trans HO5.out h)))
      clear hB1 hB2 hO5
      go_upto_region 11 with fail
      go_cut [13] (fun s13 wx => ∃ (bA : Nat) (T6 : List Ty), s13 = .slice (some ⟨bA, 0, none⟩) 6 6 ∧ T6.length = 6 ∧ TyS Any wx (.slice (some ⟨bA, 0, none⟩) 6 6) T6 ∧ Only Nil wz wx)
      case first =>
        have hq : Only Nil wz wz.drew := (Only.refl Nil wz).drew
        refine wp_region_T (fun w' => Only Nil wz w') [] (by kernel_rfl) ?_
        refine wpAnyT_sub (S' := fun w' => Only Nil wz.drew w') (fun _ h => Nil.trans hq h) ?_
        obtain ⟨wd, hwd⟩ : ∃ z, wz.drew = z := ⟨_, rfl⟩
        rw [hwd] at hq  ⊢
        clear hwd
        refine wpAnyT_take 0 (v := ?_) rfl (by kernel_rfl) (by kernel_rfl) (by kernel_rfl) (fun _ _ _ h => h) (by kernel_rfl) (by kernel_rfl) (Or.inl ⟨by kernel_rfl, ?_⟩) (Only.refl Nil _) ?_
        rotate_left
        · (intro w' hw'; have e0 := M.Only.cell hw' (M.Only.cell hq c0 (fun h => h)) (fun h => h); have e1 := M.Only.cell hw' (M.Only.cell hq c1 (fun h => h)) (fun h => h); have e2 := M.Only.cell hw' (M.Only.cell hq c2 (fun h => h)) (fun h => h); have e3 := M.Only.cell hw' (M.Only.cell hq c3 (fun h => h)) (fun h => h); have f0 := M.Only.cell hw' (M.Only.cell hq d0 (fun h => h)) (fun h => h); have f1 := M.Only.cell hw' (M.Only.cell hq d1 (fun h => h)) (fun h => h); have f2 := M.Only.cell hw' (M.Only.cell hq d2 (fun h => h)) (fun h => h); have f3 := M.Only.cell hw' (M.Only.cell hq d3 (fun h => h)) (fun h => h); go_simp; (try with_reducible rfl))
        refine wpAnyT_take 1 (v := ?_) rfl (by kernel_rfl) (by kernel_rfl) (by kernel_rfl) (fun _ _ _ h => h) (by kernel_rfl) (by kernel_rfl) (Or.inl ⟨by kernel_rfl, ?_⟩) (Only.refl Nil _) ?_
        rotate_left
        · (intro w' hw'; have e0 := M.Only.cell hw' (M.Only.cell hq c0 (fun h => h)) (fun h => h); have e1 := M.Only.cell hw' (M.Only.cell hq c1 (fun h => h)) (fun h => h); have e2 := M.Only.cell hw' (M.Only.cell hq c2 (fun h => h)) (fun h => h); have e3 := M.Only.cell hw' (M.Only.cell hq c3 (fun h => h)) (fun h => h); have f0 := M.Only.cell hw' (M.Only.cell hq d0 (fun h => h)) (fun h => h); have f1 := M.Only.cell hw' (M.Only.cell hq d1 (fun h => h)) (fun h => h); have f2 := M.Only.cell hw' (M.Only.cell hq d2 (fun h => h)) (fun h => h); have f3 := M.Only.cell hw' (M.Only.cell hq d3 (fun h => h)) (fun h => h); go_simp; (try with_reducible rfl))
        refine wpAnyT_take 2 (v := ?_) rfl (by kernel_rfl) (by kernel_rfl) (by kernel_rfl) (fun _ _ _ h => h) (by kernel_rfl) (by kernel_rfl) (Or.inl ⟨by kernel_rfl, ?_⟩) (Only.refl Nil _) ?_
        rotate_left
        · (intro w' hw'; have e0 := M.Only.cell hw' (M.Only.cell hq c0 (fun h => h)) (fun h => h); have e1 := M.Only.cell hw' (M.Only.cell hq c1 (fun h => h)) (fun h => h); have e2 := M.Only.cell hw' (M.Only.cell hq c2 (fun h => h)) (fun h => h); have e3 := M.Only.cell hw' (M.Only.cell hq c3 (fun h => h)) (fun h => h); have f0 := M.Only.cell hw' (M.Only.cell hq d0 (fun h => h)) (fun h => h); have f1 := M.Only.cell hw' (M.Only.cell hq d1 (fun h => h)) (fun h => h); have f2 := M.Only.cell hw' (M.Only.cell hq d2 (fun h => h)) (fun h => h); have f3 := M.Only.cell hw' (M.Only.cell hq d3 (fun h => h)) (fun h => h); go_simp; (try with_reducible rfl))
        refine wpAnyT_take 3 (v := ?_) rfl (by kernel_rfl) (by kernel_rfl) (by kernel_rfl) (fun _ _ _ h => h) (by kernel_rfl) (by kernel_rfl) (Or.inl ⟨by kernel_rfl, ?_⟩) (Only.refl Nil _) ?_
        rotate_left
        · (intro w' hw'; have e0 := M.Only.cell hw' (M.Only.cell hq c0 (fun h => h)) (fun h => h); have e1 := M.Only.cell hw' (M.Only.cell hq c1 (fun h => h)) (fun h => h); have e2 := M.Only.cell hw' (M.Only.cell hq c2 (fun h => h)) (fun h => h); have e3 := M.Only.cell hw' (M.Only.cell hq c3 (fun h => h)) (fun h => h); have f0 := M.Only.cell hw' (M.Only.cell hq d0 (fun h => h)) (fun h => h); have f1 := M.Only.cell hw' (M.Only.cell hq d1 (fun h => h)) (fun h => h); have f2 := M.Only.cell hw' (M.Only.cell hq d2 (fun h => h)) (fun h => h); have f3 := M.Only.cell hw' (M.Only.cell hq d3 (fun h => h)) (fun h => h); go_simp; (try with_reducible rfl))
        refine wpAnyT_take 5 (v := ?_) rfl (by kernel_rfl) (by kernel_rfl) (by kernel_rfl) (fun _ _ _ h => h) (by kernel_rfl) (by kernel_rfl) (Or.inl ⟨by kernel_rfl, ?_⟩) (Only.refl Nil _) ?_
        rotate_left
        · (intro w' hw'; have e0 := M.Only.cell hw' (M.Only.cell hq c0 (fun h => h)) (fun h => h); have e1 := M.Only.cell hw' (M.Only.cell hq c1 (fun h => h)) (fun h => h); have e2 := M.Only.cell hw' (M.Only.cell hq c2 (fun h => h)) (fun h => h); have e3 := M.Only.cell hw' (M.Only.cell hq c3 (fun h => h)) (fun h => h); have f0 := M.Only.cell hw' (M.Only.cell hq d0 (fun h => h)) (fun h => h); have f1 := M.Only.cell hw' (M.Only.cell hq d1 (fun h => h)) (fun h => h); have f2 := M.Only.cell hw' (M.Only.cell hq d2 (fun h => h)) (fun h => h); have f3 := M.Only.cell hw' (M.Only.cell hq d3 (fun h => h)) (fun h => h); go_simp; (try with_reducible rfl))
        refine wpAnyT_take 6 (v := ?_) rfl (by kernel_rfl) (by kernel_rfl) (by kernel_rfl) (fun _ _ _ h => h) (by kernel_rfl) (by kernel_rfl) (Or.inl ⟨by kernel_rfl, ?_⟩) (Only.refl Nil _) ?_
        rotate_left
        · (intro w' hw'; have e0 := M.Only.cell hw' (M.Only.cell hq c0 (fun h => h)) (fun h => h); have e1 := M.Only.cell hw' (M.Only.cell hq c1 (fun h => h)) (fun h => h); have e2 := M.Only.cell hw' (M.Only.cell hq c2 (fun h => h)) (fun h => h); have e3 := M.Only.cell hw' (M.Only.cell hq c3 (fun h => h)) (fun h => h); have f0 := M.Only.cell hw' (M.Only.cell hq d0 (fun h => h)) (fun h => h); have f1 := M.Only.cell hw' (M.Only.cell hq d1 (fun h => h)) (fun h => h); have f2 := M.Only.cell hw' (M.Only.cell hq d2 (fun h => h)) (fun h => h); have f3 := M.Only.cell hw' (M.Only.cell hq d3 (fun h => h)) (fun h => h); go_simp; (try with_reducible rfl))
        refine wpAnyT_one (i := 4) rfl (by kernel_rfl) (fun K hK => ?_)
        go_simp
        go_wp2_with (go_at_call 16; refine (HCA.out _ hq).mono ?_; rintro e w1x ⟨tt1, ov1, rfl, hS10, hN1, ho1x⟩; have HN1 := Lib.hid hN1; have hS1 := hS10.any; clear hS10 hN1; obtain ⟨ao1, cap1, eT1⟩ := hS1.slice; obtain ⟨nT1, hnT1⟩ : ∃ z, tt1.of.length = z := ⟨_, rfl⟩; rw [hnT1] at eT1; subst eT1)
        refine hK.out _ _ (fun _ => ho1x) ?_
        clear hK K
        refine wpAnyT_sub (S' := fun w' => Only Nil w1x w') (fun _ h => Nil.trans ho1x h) ?_
        replace hq := Nil.trans hq ho1x
        clear ho1x
        refine wpAnyT_one (i := 7) rfl (by kernel_rfl) (fun K hK => ?_)
        go_simp
        go_wp2_with (go_at_call 16; refine (HCB.out _ hq).mono ?_; rintro e w2x ⟨tt2, ov2, rfl, hS20, hN2, ho2x⟩; have HN2 := Lib.hid hN2; have hS2 := hS20.any; clear hS20 hN2; obtain ⟨ao2, cap2, eT2⟩ := hS2.slice; obtain ⟨nT2, hnT2⟩ : ∃ z, tt2.of.length = z := ⟨_, rfl⟩; rw [hnT2] at eT2; subst eT2)
        refine hK.out _ _ (fun _ => ho2x) ?_
        clear hK K
        replace hS1 := hS1.go ho2x
        refine wpAnyT_sub (S' := fun w' => Only Nil w2x w') (fun _ h => Nil.trans ho2x h) ?_
        replace hq := Nil.trans hq ho2x
        clear ho2x
        refine wpAnyT_one (i := 8) rfl (by kernel_rfl) (fun K hK => ?_)
        go_simp
        go_wp2_with (go_at_call 20; refine (basicR_any 5 _).mono ?_; rintro e w3x ⟨rfl, ho3x⟩)
        refine hK.out _ _ (fun _ => ho3x) ?_
        clear hK K
        replace hS1 := hS1.go ho3x
        replace hS2 := hS2.go ho3x
        refine wpAnyT_sub (S' := fun w' => Only Nil w3x w') (fun _ h => Nil.trans ho3x h) ?_
        replace hq := Nil.trans hq ho3x
        clear ho3x
        refine wpAnyT_one (i := 9) rfl (by kernel_rfl) (fun K hK => ?_)
        go_simp
        go_wp2_with (go_at_call 20; refine (basicR_any 6 _).mono ?_; rintro e w4x ⟨rfl, ho4x⟩)
        refine hK.out _ _ (fun _ => ho4x) ?_
        clear hK K
        replace hS1 := hS1.go ho4x
        replace hS2 := hS2.go ho4x
        refine wpAnyT_sub (S' := fun w' => Only Nil w4x w') (fun _ h => Nil.trans ho4x h) ?_
        replace hq := Nil.trans hq ho4x
        clear ho4x
        refine wpAnyT_one (i := 10) rfl (by kernel_rfl) (fun K hK => ?_)
        go_simp
        refine hK.out _ _ (fun _ => (Only.refl Nil w4x).alloc _) ?_
        clear hK K
        have hBA := Blk.new w4x #[.int .i64 tf, .int .i64 tn, .string ts, .slice aoT nT capT, .int .i64 uf, .int .i64 un, .string us, .slice aoU nU capU, .int .i64 tt1.form, .int .i64 tt1.n, .string tt1.name, .slice ao1 nT1 cap1, .int .i64 tt2.form, .int .i64 tt2.n, .string tt2.name, .slice ao2 nT2 cap2, .int .i64 5, .int .i64 0, .string ⟨#[]⟩, .slice none 0 0, .int .i64 6, .int .i64 0, .string ⟨#[]⟩, .slice none 0 0] 25
        have hoA := alloc0 w4x (.cells #[.int .i64 tf, .int .i64 tn, .string ts, .slice aoT nT capT, .int .i64 uf, .int .i64 un, .string us, .slice aoU nU capU, .int .i64 tt1.form, .int .i64 tt1.n, .string tt1.name, .slice ao1 nT1 cap1, .int .i64 tt2.form, .int .i64 tt2.n, .string tt2.name, .slice ao2 nT2 cap2, .int .i64 5, .int .i64 0, .string ⟨#[]⟩, .slice none 0 0, .int .i64 6, .int .i64 0, .string ⟨#[]⟩, .slice none 0 0] 25)
        have hoq := Nil.trans hq hoA
        have h6 := six_of (t0 := .mk tf tn ts lt) (t1 := .mk uf un us lu) (t2 := tt1) (t3 := tt2) (t4 := .mk 5 0 ⟨#[]⟩ []) (t5 := .mk 6 0 ⟨#[]⟩ []) hBA (HTT.out.go (Nil.trans HO5.out hoq)).any (HTU.out.go (Nil.trans HO5.out hoq)).any (hS1.go hoA) (hS2.go hoA) (TyS.nil _ _) (TyS.nil _ _) HTS.out HUS.out HN1.out HN2.out (Nat.zero_le _) (Nat.zero_le _)
        have H6 := Lib.hid h6
        have HOQ := Lib.hid hoq
        clear hBA hoA hoq h6 hS1 hS2
        refine wpAnyT_one (i := 11) rfl (by kernel_rfl) (fun K hK => ?_)
        go_simp
        refine hK.out _ _ (fun _ => (Only.refl Nil w4x).alloc _) ?_
        clear hK K
        refine wpAnyT_done (by kernel_rfl) ?_
        go_wp2_with fail
        go_meet
        exact ⟨_, _, rfl, rfl, H6.out, HOQ.out⟩
      case rest =>
        obtain ⟨bA, T6, rfl, hlen, hT6, hO6⟩ := hcut
        obtain ⟨w6, hw6⟩ : ∃ z, wc = z := ⟨_, rfl⟩
        rw [hw6] at hT6 hO6 ⊢
        clear hw6 c0 c1 c2 c3 d0 d1 d2 d3 HCA HCB
        obtain ⟨ao6, cap6, off6, b6, ovs, e6, p0, ps, pc, pr⟩ := hT6.inv
        have e0 := p0 (by omega)
        rw [hlen] at e6
        subst e0
        simp only [Value.slice.injEq, Option.some.injEq, Addr.mk.injEq, and_true, true_and] at e6
        obtain ⟨⟨rfl, rfl⟩, rfl⟩ := e6
        have HLEN := Lib.hid hlen
        have HPS := Lib.hid ps
        have HPC := Lib.hid pc
        have HPR := Lib.hid pr
        have HR6 := Lib.hid (HR.out.go hO6).rmap
        have HO6 := Lib.hid (Nil.trans HO5.out hO6)
        clear hT6 hO6 hlen p0 ps pc pr
        go_wp2_with fail
        go_loopg [14] 6 (fun g v wr => ∃ i : Nat, v = .int .i64 (i : Int) ∧ i ≤ 6 ∧ g = 6 - i ∧ Only Nil w6 wr)
        case atStart => exact ⟨0, rfl, Nat.zero_le _, rfl, Only.refl _ _⟩
        case round =>
          obtain ⟨i, rfl, hi, hg, ho⟩ := hrel
          have HG2 := Lib.hid hg
          have HOi := Lib.hid ho
          have i0 : (0 : Int) ≤ (i : Int) := Int.natCast_nonneg _
          by_cases hi6 : i < 6
          · have i1 : (i : Int) < 6 := by omega
            clear hg hi
            go_wp2_with fail
            go_loopg [15] 6 (fun g v w7 => ∃ k : Nat, v = .int .i64 (k : Int) ∧ k ≤ 6 ∧ g = 6 - k ∧ Only Nil w6 w7)
            case atStart => exact ⟨0, rfl, Nat.zero_le _, rfl, HOi.out⟩
            case round =>
              obtain ⟨k, rfl, hk, hg3, ho7⟩ := hrel
              have HG3 := Lib.hid hg3
              have HO7 := Lib.hid ho7
              have k0 : (0 : Int) ≤ (k : Int) := Int.natCast_nonneg _
              by_cases hk6 : k < 6
              · have k1 : (k : Int) < 6 := by omega
                obtain ⟨t, ht⟩ : ∃ t, T6[i]? = some t := ⟨_, List.getElem?_eq_getElem (by rw [HLEN.out]; exact hi6)⟩
                obtain ⟨t2, ht2⟩ : ∃ t, T6[k]? = some t := ⟨_, List.getElem?_eq_getElem (by rw [HLEN.out]; exact hk6)⟩
                have a1 := (HPC.out i t ht).kept ho7 (fun _ h => h)
                have a2 := (HPC.out k t2 ht2).kept ho7 (fun _ h => h)
                unfold tyCells at a1 a2
                rw [Nat.zero_add] at a1 a2
                have b0 := fun n : NilW wr => n.cell a1.get0
                have b1 := fun n : NilW wr => n.cell (a1.get 1 rfl)
                have b2 := fun n : NilW wr => n.cell (a1.get 2 rfl)
                have b3 := fun n : NilW wr => n.cell (a1.get 3 rfl)
                have c0 := fun n : NilW wr => n.cell a2.get0
                have c1 := fun n : NilW wr => n.cell (a2.get 1 rfl)
                have c2 := fun n : NilW wr => n.cell (a2.get 2 rfl)
                have c3 := fun n : NilW wr => n.cell (a2.get 3 rfl)
                have CP := fun n : NilW wr => fitsP_any HR6.out (HPR.out i t ht) (HPR.out k t2 ht2) t.form t.n t2.form t2.n t.name t2.name (HPS.out t2 (List.mem_of_getElem? ht2)) n.at (Nil.trans HO7.out n.only)
                have CR := fun n : NilW wr => fitsR_any HR6.out (HPR.out i t ht) (HPR.out k t2 ht2) t.form t.n t2.form t2.n t.name t2.name (HPS.out t2 (List.mem_of_getElem? ht2)) n.at (Nil.trans HO7.out n.only)
                obtain ⟨X, hX⟩ : ∃ x, fitsM R m (Ty.mk t.form t.n t.name t.of) (Ty.mk t2.form t2.n t2.name t2.of) = x := ⟨_, rfl⟩
                rw [hX] at CP CR
                have HCP := Lib.hid CP
                have HCR := Lib.hid CR
                have wk : IntKind.i64.wrap ((k : Int) + 1) = ((k + 1 : Nat) : Int) := by rw [IntKind.wrap]; simp [IntKind.bits, IntKind.signed]; omega
                clear a1 a2 ht ht2 CP CR hX hg3 hk ho7
                go_wp2_with fail
                refine wp_region_nilq (by kernel_rfl) (by kernel_rfl) ?_
                repeat (quiet_step (first
                  | (go_at_call 21; exact Calls.nilq_of (HCP.out _))
                  | (go_at_call 22; exact Calls.nilq_of (HCR.out _))))
                refine wpQuiet_nil ?_
                intro w9 h9
                obtain ⟨n3, e3⟩ := h9
                have h9 := n3.only
                rw [← e3] at h9
                clear e3 n3
                have HO9 := Lib.hid (Nil.trans HO7.out h9)
                clear b0 b1 b2 b3 c0 c1 c2 c3 h9 HCP HCR
                have hXX : (X != X) = false := by simp
                go_wp2_with fail
                go_roundg (6 - (k + 1))
                case measure => have := HG3.out; omega
                case rel => exact ⟨k + 1, rfl, by omega, rfl, HO9.out⟩
              · have hk7 : k = 6 := by omega
                subst hk7
                have wi : IntKind.i64.wrap ((i : Int) + 1) = ((i + 1 : Nat) : Int) := by rw [IntKind.wrap]; simp [IntKind.bits, IntKind.signed]; omega
                clear hg3 hk ho7 k0
                go_wp2_with fail
                go_roundg (6 - (i + 1))
                case measure => have := HG2.out; omega
                case rel => exact ⟨i + 1, rfl, by omega, rfl, HO7.out⟩
          · have hi7 : i = 6 := by omega
            subst hi7
            clear hg hi ho i0
            go_wp2_with fail
            go_ret
            exact ⟨rfl, Nil.trans HO6.out HOi.out⟩
end Go.Proofs.YtcbeibhmjokecaaDoor
