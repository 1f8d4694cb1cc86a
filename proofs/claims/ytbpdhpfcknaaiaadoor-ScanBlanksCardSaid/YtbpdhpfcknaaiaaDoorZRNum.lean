/- Symbols: a number, the document's. -/
import Derived.Test.YtbpdhpfcknaaiaaDoorZRLeaf
import Derived.Deep.CutBlock
set_option linter.unusedSimpArgs false
set_option linter.unusedVariables false
namespace Go.Proofs.YtbpdhpfcknaaiaaDoor
open Go.RowKit M

def satM : Nat := 1099511627776
/-- What the document's symbol functions tell, the error as a number. -/
theorem hexI_of (c : Nat) (h : hexB c = true) : hexI c = (hexV c : Int) := by unfold hexI; rw [if_pos h]
theorem hexI_no (c : Nat) (h : hexB c = false) : hexI c = -1 := by unfold hexI; rw [if_neg (by rw [h]; decide)]

theorem u64_of (y : Nat) (h : y < 18446744073709551616) : IntKind.u64.wrap (y : Int) = (y : Int) := by
  simp [IntKind.wrap, IntKind.bits, IntKind.signed]; omega
theorem sat_go (b : Nat) (hb1 : 1 ≤ b) (hb : b ≤ 16) (v hv x : Nat) (h : min v satM = hv) (hx : x < 16) : min (IntKind.u64.wrap (IntKind.u64.wrap ((b : Int) * (hv : Int)) + (x : Int))) 1099511627776 = ((min (v * b + x) satM : Nat) : Int) := by
  rw [← sat_step v b x satM hb1, h]
  have h1 : hv ≤ 1099511627776 := by rw [← h]; exact Nat.min_le_right _ _
  obtain ⟨y, hy⟩ : ∃ y, b * hv = y := ⟨_, rfl⟩
  have hyb : y ≤ 16 * 1099511627776 := by rw [← hy]; exact Nat.mul_le_mul hb h1
  have hyc : (b : Int) * (hv : Int) = (y : Int) := by rw [← hy]; simp
  rw [hyc, hy]
  clear hyc hy h
  rw [u64_of y (by omega), show (y : Int) + (x : Int) = ((y + x : Nat) : Int) by omega, u64_of (y + x) (by omega)]
  unfold satM
  omega
theorem sat_16 (v hv x : Nat) (h : min v satM = hv) (hx : x < 16) : min (IntKind.u64.wrap (IntKind.u64.wrap (16 * (hv : Int)) + (x : Int))) 1099511627776 = ((min (v * 16 + x) satM : Nat) : Int) := sat_go 16 (by decide) (by decide) v hv x h hx
theorem sat_10 (v hv x : Nat) (h : min v satM = hv) (hx : x < 16) : min (IntKind.u64.wrap (IntKind.u64.wrap (10 * (hv : Int)) + (x : Int))) 1099511627776 = ((min (v * 10 + x) satM : Nat) : Int) := sat_go 10 (by decide) (by decide) v hv x h hx
theorem valS_next (t : Txt) (b i j : Nat) (h : i ≤ j) : valS t b i (j + 1 - i) = valS t b i (j - i) * b + hexV (t.g j) := by
  rw [show j + 1 - i = j - i + 1 by omega, valS, show i + (j - i) = j by omega]
theorem plainS_next (t : Txt) (i j : Nat) (h : i ≤ j) : plainS t i (j + 1 - i) = (plainS t i (j - i) && decide (hexV (t.g j) < 10)) := by
  rw [show j + 1 - i = j - i + 1 by omega, plainS, show i + (j - i) = j by omega]
theorem retNumI (s : ByteArray) (r : Except Nat Tk) (k i f : Nat) (v : Int) (h : r = .ok ⟨k, i, f, i, i, v⟩) : Ending.returned (.tuple #[.agg #[.int .i64 (k : Nat), .int .i64 (i : Nat), .int .i64 (f : Nat), .string ⟨#[]⟩, .int .i32 v], .int .i64 0]) = .returned (symV s r) := by
  rw [h, show symV s (.ok ⟨k, i, f, i, i, v⟩) = .tuple #[tokV s ⟨k, i, f, i, i, v⟩, .int .i64 0] from rfl]
  unfold tokV
  rw [ext_nil]; rfl
theorem u32_of (v : Nat) (h : v ≤ 4294967295) : IntKind.u32.wrap (v : Int) = (v : Int) := by
  simp [IntKind.wrap, IntKind.bits, IntKind.signed]; omega
theorem big_no (m : Int) (v : Nat) (h : (v : Int) ≤ m) : decide (m < (v : Int)) = false := by simp; omega
theorem dec_ten (x : Nat) : decide ((x : Int) < 10) = decide (x < 10) := by rw [decide_eq_decide]; omega

set_option maxRecDepth 10000 in
set_option maxHeartbeats 1600000 in
theorem numberR_any (s : ByteArray) (n i : Nat) (hn : s.size = n) (hi : i < n) (hb : n ≤ 1000000) (hl : digB (bt s i) = true) (w : World) :
    Calls Tryd.prog 26 #[.string s, .int .i64 i] w fun e w' => e = .returned (symV s (numS (tx s) i)) ∧ Only Nil w w' := by
  have e1 : (tx s).n = n := hn
  have hE1 := hexEnd_pos (tx s) i (by omega) hl
  have hEn := hexEnd_le (tx s) i (by omega)
  obtain ⟨R, hR⟩ : ∃ R, numS (tx s) i = R := ⟨_, rfl⟩
  rw [hR]
  unfold numS at hR
  simp only [e1, show (tx s).g = bt s from rfl] at hR
  have hE : hexEnd (tx s) i = upto (fun j => hexB (bt s j)) (n - i) i := by unfold hexEnd; rw [e1]; rfl
  obtain ⟨E, hEE⟩ : ∃ E, hexEnd (tx s) i = E := ⟨_, rfl⟩
  rw [hEE] at hE hE1 hEn hR
  rw [e1] at hEn
  have HR := Lib.hid hR
  have HE := Lib.hid hE
  clear hE hEE hR e1 hl
  go_enter Tryd.func26, Tryd.ntmps26
  go_upto_block 0 with fail
  have hB0 := Blk.new w #[Value.int .i64 0, .int .i64 0, .int .i64 0, .string ⟨#[]⟩, .int .i32 0] 35
  have ho0 : Only Nil w (w.alloc (.cells #[Value.int .i64 0, .int .i64 0, .int .i64 0, .string ⟨#[]⟩, .int .i32 0] 35)) := (Only.refl _ _).alloc _
  obtain ⟨w1, hw1⟩ : ∃ w1, w.alloc (.cells #[Value.int .i64 0, .int .i64 0, .int .i64 0, .string ⟨#[]⟩, .int .i32 0] 35) = w1 := ⟨_, rfl⟩
  rw [hw1] at hB0 ho0 ⊢
  obtain ⟨rb, hrb⟩ : ∃ rb, w.heap.size = rb := ⟨_, rfl⟩
  rw [hrb] at hB0 ⊢
  clear hw1
  go_cut [6, 7, 8, 9] (fun s6 s7 s8 s9 wx => s6 = .int .i64 (E : Int) ∧ s7 = .bool (plainS (tx s) i (E - i)) ∧ s8 = .int .u64 (min (valS (tx s) 16 i (E - i)) satM : Nat) ∧ s9 = .int .u64 (min (valS (tx s) 10 i (E - i)) satM : Nat) ∧ wx = w1)
  case first =>
    go_wp2_with fail
    go_loopg [6, 7, 8, 9] (n - i) (fun g o p h d wr => wr = w1 ∧ ∃ (j : Nat) (pl : Bool) (hv dv : Nat), o = .int .i64 (j : Int) ∧ p = .bool pl ∧ h = .int .u64 (hv : Int) ∧ d = .int .u64 (dv : Int) ∧ i ≤ j ∧ j ≤ n ∧ g = n - j ∧ upto (fun j => hexB (bt s j)) g j = E ∧ plainS (tx s) i (j - i) = pl ∧ min (valS (tx s) 16 i (j - i)) satM = hv ∧ min (valS (tx s) 10 i (j - i)) satM = dv)
    case atStart =>
      refine ⟨rfl, i, true, 0, 0, rfl, rfl, rfl, rfl, Nat.le_refl _, by omega, rfl, HE.out.symm, ?_, ?_, ?_⟩
      · rw [Nat.sub_self]; rfl
      · rw [Nat.sub_self]; rfl
      · rw [Nat.sub_self]; rfl
    case round =>
      obtain ⟨rfl, j, pl, hv, dv, rfl, rfl, rfl, rfl, hij, hj, hg, hc, hpl, hhv, hdv⟩ := hrel
      have HG := Lib.hid hg
      have HPL := Lib.hid hpl
      have HHV := Lib.hid hhv
      have HDV := Lib.hid hdv
      clear hg HE hpl hhv hdv
      have j0 : (0 : Int) ≤ (j : Int) := Int.natCast_nonneg _
      by_cases hjn : j < n
      · have j1 : (j : Int) < (n : Int) := by omega
        have ix := fun w => ix_at s n j hn hjn w
        have cX := fun w => hexR_any (bt s j) w
        obtain ⟨g, rfl⟩ : ∃ g', gk = g' + 1 := ⟨gk - 1, by have := HG.out; omega⟩
        rw [upto] at hc
        obtain ⟨c, hcc⟩ : ∃ c, bt s j = c := ⟨_, rfl⟩
        have HCC := Lib.hid hcc
        rw [hcc] at ix cX hc
        clear hcc
        obtain ⟨q, hq⟩ : ∃ q, hexB c = q := ⟨_, rfl⟩
        rw [hq] at hc
        cases q
        · rw [if_neg (by decide)] at hc
          rw [hexI_no c hq] at cX
          have HC := Lib.hid hc
          clear hc hq
          go_wp2_with (go_at_call 45; refine (cX _).mono ?_; rintro e w1 ⟨rfl, rfl⟩)
          go_meet
          exact ⟨by rw [HC.out], by rw [← HC.out, HPL.out], by rw [← HC.out, HHV.out], by rw [← HC.out, HDV.out], rfl⟩
        · rw [if_pos rfl] at hc
          rw [hexI_of c hq] at cX
          have hd16 := hexV_lt c hq
          obtain ⟨x, hx⟩ : ∃ x, hexV c = x := ⟨_, rfl⟩
          rw [hx] at cX hd16
          have HC := Lib.hid hc
          have HX := Lib.hid hx
          have x0 : (0 : Int) ≤ (x : Int) := Int.natCast_nonneg _
          clear hc hq hx
          cases pl
          all_goals
            go_wp2_with (go_at_call 45; refine (cX _).mono ?_; rintro e w1 ⟨rfl, rfl⟩)
            go_roundg g
            case measure => exact Nat.lt_succ_self _
            case rel =>
              have hg2 : (tx s).g = bt s := rfl
              refine ⟨rfl, j + 1, _, _, _, by go_num, ?_, ?_, ?_, by omega, by omega, by have := HG.out; omega, HC.out, rfl, rfl, rfl⟩
              · rw [plainS_next _ _ _ hij, HPL.out, hg2, HCC.out, HX.out]
                first | rfl | (rw [dec_ten]; rfl)
              · rw [valS_next _ _ _ _ hij, hg2, HCC.out, HX.out, sat_16 _ _ _ HHV.out hd16]
              · rw [valS_next _ _ _ _ hij, hg2, HCC.out, HX.out, sat_10 _ _ _ HDV.out hd16]
      · have hjn' : j = n := by omega
        subst hjn'
        have hg0 : gk = 0 := by have := HG.out; omega
        subst hg0
        have HC := Lib.hid (show j = E from hc)
        clear hc
        go_wp2_with fail
        go_meet
        exact ⟨by rw [HC.out], by rw [← HC.out, HPL.out], by rw [← HC.out, HHV.out], by rw [← HC.out, HDV.out], rfl⟩
  case rest =>
    obtain ⟨rfl, rfl, rfl, rfl, rfl⟩ := hcut
    obtain ⟨hm, hhm⟩ : ∃ hm, min (valS (tx s) 16 i (E - i)) satM = hm := ⟨_, rfl⟩
    obtain ⟨dm, hdm⟩ : ∃ dm, min (valS (tx s) 10 i (E - i)) satM = dm := ⟨_, rfl⟩
    obtain ⟨pl, hpl⟩ : ∃ pl, plainS (tx s) i (E - i) = pl := ⟨_, rfl⟩
    rw [hhm, hdm, hpl]
    have hR := HR.out
    rw [hpl] at hR
    obtain ⟨v, hv⟩ : ∃ v, valS (tx s) 16 i (E - i) = v := ⟨_, rfl⟩
    obtain ⟨u, hu⟩ : ∃ u, valS (tx s) 10 i (E - i) = u := ⟨_, rfl⟩
    rw [hv] at hhm hR
    rw [hu] at hdm hR
    clear hv hu hpl HR HE
    have hE0 : (0 : Int) ≤ (E : Int) := Int.natCast_nonneg _
    by_cases gE : E < n
    · have e1 : (E : Int) < (n : Int) := by omega
      have ix := fun w => ix_at s n E hn gE w
      by_cases g1 : bt s E = 72
      · rw [g1] at ix
        rw [if_pos ⟨gE, g1⟩] at hR
        clear g1 hdm
        by_cases g2 : v ≤ 4294967295
        · rw [if_pos g2] at hR
          have hvm : hm = v := by rw [← hhm]; unfold satM; omega
          subst hvm
          have HR2 := Lib.hid hR
          have k1 := big_no 4294967295 hm (by omega)
          have c1 := u32_of hm g2
          have c2 := i32_of hm g2
          clear hR hhm g2
          go_upto_if 64 with fail
          have hBt := Blk.new wc #[Value.int .i64 2, .int .i64 (i : Int), .int .i64 (E : Int), .string ⟨#[]⟩, .int .i32 0] 35
          have hBr := hB0.alloc (.cells #[Value.int .i64 2, .int .i64 (i : Int), .int .i64 (E : Int), .string ⟨#[]⟩, .int .i32 0] 35)
          have ho2 : Only Nil w (wc.alloc (.cells #[Value.int .i64 2, .int .i64 (i : Int), .int .i64 (E : Int), .string ⟨#[]⟩, .int .i32 0] 35)) := ho0.alloc _
          obtain ⟨w2, hw2⟩ : ∃ w2, wc.alloc (.cells #[Value.int .i64 2, .int .i64 (i : Int), .int .i64 (E : Int), .string ⟨#[]⟩, .int .i32 0] 35) = w2 := ⟨_, rfl⟩
          rw [hw2] at hBt hBr ho2 ⊢
          obtain ⟨tb, htb⟩ : ∃ tb, wc.heap.size = tb := ⟨_, rfl⟩
          have hlt : rb < tb := by rw [← htb]; exact hB0.lt
          have htw : w.heap.size ≤ tb := by rw [hrb]; exact Nat.le_of_lt hlt
          rw [htb] at hBt ⊢
          clear hw2 htb hB0 ho0
          obtain ⟨⟨z0, z1, z2, z3, z4⟩, y0, y1, y2, y3, y4⟩ := hBr.five
          obtain ⟨⟨t0, t1, t2, t3, t4⟩, x0, x1, x2, x3, x4⟩ := hBt.five
          have ne1 : tb ≠ rb := Nat.ne_of_gt hlt
          have ne2 : rb ≠ tb := Nat.ne_of_lt hlt
          have HO := Lib.hid ho2
          have HTW := Lib.hid htw
          have hq : ∀ S : Nat → Prop, tb < w.heap.size → S tb := fun _ h => absurd h (Nat.not_lt.2 HTW.out)
          have HQ := Lib.hid hq
          clear ho2 hlt htw hq
          go_wp2_with fail
          refine bodyPost_ret (results_row_tmp rfl _ _ rb 35 _ (0, 0) _ _ rfl rfl (((hBr.setOther ⟨tb, _, none⟩ _ ne2).setOther ⟨tb, _, none⟩ _ ne2).put5 _ _ _ _ _) Tryd.underlying35 rfl (by kernel_rfl)) rfl ?_
          exact ⟨retNumI s _ 2 _ (E + 1) _ HR2.out.symm, ((HO.out.setCell (HQ.out _) _).setCell (HQ.out _) _).put5 (Nat.le_of_eq hrb) _ _ _ _ _⟩
        · rw [if_neg g2] at hR
          have k1 : (4294967295 : Int) < (hm : Int) := by rw [← hhm]; unfold satM; omega
          have HR2 := Lib.hid hR
          clear hR hhm g2
          go_upto_if 64 with fail
          have hBt := Blk.new wc #[Value.int .i64 2, .int .i64 (i : Int), .int .i64 (E : Int), .string ⟨#[]⟩, .int .i32 0] 35
          have hBr := hB0.alloc (.cells #[Value.int .i64 2, .int .i64 (i : Int), .int .i64 (E : Int), .string ⟨#[]⟩, .int .i32 0] 35)
          have ho2 : Only Nil w (wc.alloc (.cells #[Value.int .i64 2, .int .i64 (i : Int), .int .i64 (E : Int), .string ⟨#[]⟩, .int .i32 0] 35)) := ho0.alloc _
          obtain ⟨w2, hw2⟩ : ∃ w2, wc.alloc (.cells #[Value.int .i64 2, .int .i64 (i : Int), .int .i64 (E : Int), .string ⟨#[]⟩, .int .i32 0] 35) = w2 := ⟨_, rfl⟩
          rw [hw2] at hBt hBr ho2 ⊢
          obtain ⟨tb, htb⟩ : ∃ tb, wc.heap.size = tb := ⟨_, rfl⟩
          have hlt : rb < tb := by rw [← htb]; exact hB0.lt
          have htw : w.heap.size ≤ tb := by rw [hrb]; exact Nat.le_of_lt hlt
          rw [htb] at hBt ⊢
          clear hw2 htb hB0 ho0
          obtain ⟨⟨z0, z1, z2, z3, z4⟩, y0, y1, y2, y3, y4⟩ := hBr.five
          obtain ⟨⟨t0, t1, t2, t3, t4⟩, x0, x1, x2, x3, x4⟩ := hBt.five
          have ne1 : tb ≠ rb := Nat.ne_of_gt hlt
          have ne2 : rb ≠ tb := Nat.ne_of_lt hlt
          have HO := Lib.hid ho2
          have HTW := Lib.hid htw
          have hq : ∀ S : Nat → Prop, tb < w.heap.size → S tb := fun _ h => absurd h (Nat.not_lt.2 HTW.out)
          have HQ := Lib.hid hq
          clear ho2 hlt htw hq
          go_wp2_with fail
          refine bodyPost_ret (results_row_tmp rfl _ _ rb 35 _ (0, 0) _ _ rfl rfl (((hBr.setOther ⟨tb, _, none⟩ _ ne2).setOther ⟨tb, _, none⟩ _ ne2).put5 _ _ _ _ _) Tryd.underlying35 rfl (by kernel_rfl)) rfl ?_
          exact ⟨retNo (s := s) (e := 30) HR2.out.symm, ((HO.out.setCell (HQ.out _) _).setCell (HQ.out _) _).put5 (Nat.le_of_eq hrb) _ _ _ _ _⟩
      · rw [if_neg (fun h => g1 h.2)] at hR
        by_cases g3 : bt s E = 88
        · rw [g3] at ix
          rw [if_pos ⟨gE, g3⟩] at hR
          clear g1 g3 hdm
          by_cases g2 : v ≤ 255
          · rw [if_pos g2] at hR
            have hvm : hm = v := by rw [← hhm]; unfold satM; omega
            subst hvm
            have HR2 := Lib.hid hR
            have k1 := big_no 4294967295 hm (by omega)
            have k2 := big_no 255 hm (by omega)
            have c1 := u32_of hm (by omega)
            have c2 := i32_low hm (by omega)
            clear hR hhm g2
            go_upto_if 64 with fail
            have hBt := Blk.new wc #[Value.int .i64 2, .int .i64 (i : Int), .int .i64 (E : Int), .string ⟨#[]⟩, .int .i32 0] 35
            have hBr := hB0.alloc (.cells #[Value.int .i64 2, .int .i64 (i : Int), .int .i64 (E : Int), .string ⟨#[]⟩, .int .i32 0] 35)
            have ho2 : Only Nil w (wc.alloc (.cells #[Value.int .i64 2, .int .i64 (i : Int), .int .i64 (E : Int), .string ⟨#[]⟩, .int .i32 0] 35)) := ho0.alloc _
            obtain ⟨w2, hw2⟩ : ∃ w2, wc.alloc (.cells #[Value.int .i64 2, .int .i64 (i : Int), .int .i64 (E : Int), .string ⟨#[]⟩, .int .i32 0] 35) = w2 := ⟨_, rfl⟩
            rw [hw2] at hBt hBr ho2 ⊢
            obtain ⟨tb, htb⟩ : ∃ tb, wc.heap.size = tb := ⟨_, rfl⟩
            have hlt : rb < tb := by rw [← htb]; exact hB0.lt
            have htw : w.heap.size ≤ tb := by rw [hrb]; exact Nat.le_of_lt hlt
            rw [htb] at hBt ⊢
            clear hw2 htb hB0 ho0
            obtain ⟨⟨z0, z1, z2, z3, z4⟩, y0, y1, y2, y3, y4⟩ := hBr.five
            obtain ⟨⟨t0, t1, t2, t3, t4⟩, x0, x1, x2, x3, x4⟩ := hBt.five
            have ne1 : tb ≠ rb := Nat.ne_of_gt hlt
            have ne2 : rb ≠ tb := Nat.ne_of_lt hlt
            have HO := Lib.hid ho2
            have HTW := Lib.hid htw
            have hq : ∀ S : Nat → Prop, tb < w.heap.size → S tb := fun _ h => absurd h (Nat.not_lt.2 HTW.out)
            have HQ := Lib.hid hq
            clear ho2 hlt htw hq
            go_wp2_with fail
            refine bodyPost_ret (results_row_tmp rfl _ _ rb 35 _ (0, 0) _ _ rfl rfl ((((hBr.setOther ⟨tb, _, none⟩ _ ne2).setOther ⟨tb, _, none⟩ _ ne2).setOther ⟨tb, _, none⟩ _ ne2).put5 _ _ _ _ _) Tryd.underlying35 rfl (by kernel_rfl)) rfl ?_
            exact ⟨retNumI s _ 3 _ (E + 1) _ HR2.out.symm, (((HO.out.setCell (HQ.out _) _).setCell (HQ.out _) _).setCell (HQ.out _) _).put5 (Nat.le_of_eq hrb) _ _ _ _ _⟩
          · rw [if_neg g2] at hR
            have k1 : (255 : Int) < (hm : Int) := by rw [← hhm]; unfold satM; omega
            have HR2 := Lib.hid hR
            clear hR hhm g2
            go_upto_if 64 with fail
            have hBt := Blk.new wc #[Value.int .i64 2, .int .i64 (i : Int), .int .i64 (E : Int), .string ⟨#[]⟩, .int .i32 0] 35
            have hBr := hB0.alloc (.cells #[Value.int .i64 2, .int .i64 (i : Int), .int .i64 (E : Int), .string ⟨#[]⟩, .int .i32 0] 35)
            have ho2 : Only Nil w (wc.alloc (.cells #[Value.int .i64 2, .int .i64 (i : Int), .int .i64 (E : Int), .string ⟨#[]⟩, .int .i32 0] 35)) := ho0.alloc _
            obtain ⟨w2, hw2⟩ : ∃ w2, wc.alloc (.cells #[Value.int .i64 2, .int .i64 (i : Int), .int .i64 (E : Int), .string ⟨#[]⟩, .int .i32 0] 35) = w2 := ⟨_, rfl⟩
            rw [hw2] at hBt hBr ho2 ⊢
            obtain ⟨tb, htb⟩ : ∃ tb, wc.heap.size = tb := ⟨_, rfl⟩
            have hlt : rb < tb := by rw [← htb]; exact hB0.lt
            have htw : w.heap.size ≤ tb := by rw [hrb]; exact Nat.le_of_lt hlt
            rw [htb] at hBt ⊢
            clear hw2 htb hB0 ho0
            obtain ⟨⟨z0, z1, z2, z3, z4⟩, y0, y1, y2, y3, y4⟩ := hBr.five
            obtain ⟨⟨t0, t1, t2, t3, t4⟩, x0, x1, x2, x3, x4⟩ := hBt.five
            have ne1 : tb ≠ rb := Nat.ne_of_gt hlt
            have ne2 : rb ≠ tb := Nat.ne_of_lt hlt
            have HO := Lib.hid ho2
            have HTW := Lib.hid htw
            have hq : ∀ S : Nat → Prop, tb < w.heap.size → S tb := fun _ h => absurd h (Nat.not_lt.2 HTW.out)
            have HQ := Lib.hid hq
            clear ho2 hlt htw hq
            go_wp2_with fail
            refine bodyPost_ret (results_row_tmp rfl _ _ rb 35 _ (0, 0) _ _ rfl rfl ((((hBr.setOther ⟨tb, _, none⟩ _ ne2).setOther ⟨tb, _, none⟩ _ ne2).setOther ⟨tb, _, none⟩ _ ne2).put5 _ _ _ _ _) Tryd.underlying35 rfl (by kernel_rfl)) rfl ?_
            exact ⟨retNo (s := s) (e := 30) HR2.out.symm, (((HO.out.setCell (HQ.out _) _).setCell (HQ.out _) _).setCell (HQ.out _) _).put5 (Nat.le_of_eq hrb) _ _ _ _ _⟩
        · rw [if_neg (fun h => g3 h.2)] at hR
          have q1 : ((bt s E : Int) == 72) = false := not_beq (by omega)
          have q2 : ((bt s E : Int) == 88) = false := not_beq (by omega)
          obtain ⟨c, hc⟩ : ∃ c, bt s E = c := ⟨_, rfl⟩
          rw [hc] at ix q1 q2
          clear g1 g3 hc hhm
          cases pl
          · rw [if_neg (by simp)] at hR
            have HR2 := Lib.hid hR
            clear hR hdm
            go_upto_if 64 with fail
            have hBt := Blk.new wc #[Value.int .i64 2, .int .i64 (i : Int), .int .i64 (E : Int), .string ⟨#[]⟩, .int .i32 0] 35
            have hBr := hB0.alloc (.cells #[Value.int .i64 2, .int .i64 (i : Int), .int .i64 (E : Int), .string ⟨#[]⟩, .int .i32 0] 35)
            have ho2 : Only Nil w (wc.alloc (.cells #[Value.int .i64 2, .int .i64 (i : Int), .int .i64 (E : Int), .string ⟨#[]⟩, .int .i32 0] 35)) := ho0.alloc _
            obtain ⟨w2, hw2⟩ : ∃ w2, wc.alloc (.cells #[Value.int .i64 2, .int .i64 (i : Int), .int .i64 (E : Int), .string ⟨#[]⟩, .int .i32 0] 35) = w2 := ⟨_, rfl⟩
            rw [hw2] at hBt hBr ho2 ⊢
            obtain ⟨tb, htb⟩ : ∃ tb, wc.heap.size = tb := ⟨_, rfl⟩
            have hlt : rb < tb := by rw [← htb]; exact hB0.lt
            have htw : w.heap.size ≤ tb := by rw [hrb]; exact Nat.le_of_lt hlt
            rw [htb] at hBt ⊢
            clear hw2 htb hB0 ho0
            obtain ⟨⟨z0, z1, z2, z3, z4⟩, y0, y1, y2, y3, y4⟩ := hBr.five
            obtain ⟨⟨t0, t1, t2, t3, t4⟩, x0, x1, x2, x3, x4⟩ := hBt.five
            have ne1 : tb ≠ rb := Nat.ne_of_gt hlt
            have ne2 : rb ≠ tb := Nat.ne_of_lt hlt
            have HO := Lib.hid ho2
            have HTW := Lib.hid htw
            have hq : ∀ S : Nat → Prop, tb < w.heap.size → S tb := fun _ h => absurd h (Nat.not_lt.2 HTW.out)
            have HQ := Lib.hid hq
            clear ho2 hlt htw hq
            go_wp2_with fail
            refine bodyPost_ret (results_row_tmp rfl _ _ rb 35 _ (0, 0) _ _ rfl rfl (hBr.put5 _ _ _ _ _) Tryd.underlying35 rfl (by kernel_rfl)) rfl ?_
            exact ⟨retNo (s := s) (e := 30) HR2.out.symm, HO.out.put5 (Nat.le_of_eq hrb) _ _ _ _ _⟩
          · by_cases g2 : u ≤ 2147483647
            · rw [if_pos ⟨rfl, g2⟩] at hR
              have hvm : dm = u := by rw [← hdm]; unfold satM; omega
              subst hvm
              have HR2 := Lib.hid hR
              have k1 := big_no 2147483647 dm (by omega)
              have c2 := i32_low dm g2
              clear hR hdm g2
              go_upto_if 64 with fail
              have hBt := Blk.new wc #[Value.int .i64 2, .int .i64 (i : Int), .int .i64 (E : Int), .string ⟨#[]⟩, .int .i32 0] 35
              have hBr := hB0.alloc (.cells #[Value.int .i64 2, .int .i64 (i : Int), .int .i64 (E : Int), .string ⟨#[]⟩, .int .i32 0] 35)
              have ho2 : Only Nil w (wc.alloc (.cells #[Value.int .i64 2, .int .i64 (i : Int), .int .i64 (E : Int), .string ⟨#[]⟩, .int .i32 0] 35)) := ho0.alloc _
              obtain ⟨w2, hw2⟩ : ∃ w2, wc.alloc (.cells #[Value.int .i64 2, .int .i64 (i : Int), .int .i64 (E : Int), .string ⟨#[]⟩, .int .i32 0] 35) = w2 := ⟨_, rfl⟩
              rw [hw2] at hBt hBr ho2 ⊢
              obtain ⟨tb, htb⟩ : ∃ tb, wc.heap.size = tb := ⟨_, rfl⟩
              have hlt : rb < tb := by rw [← htb]; exact hB0.lt
              have htw : w.heap.size ≤ tb := by rw [hrb]; exact Nat.le_of_lt hlt
              rw [htb] at hBt ⊢
              clear hw2 htb hB0 ho0
              obtain ⟨⟨z0, z1, z2, z3, z4⟩, y0, y1, y2, y3, y4⟩ := hBr.five
              obtain ⟨⟨t0, t1, t2, t3, t4⟩, x0, x1, x2, x3, x4⟩ := hBt.five
              have ne1 : tb ≠ rb := Nat.ne_of_gt hlt
              have ne2 : rb ≠ tb := Nat.ne_of_lt hlt
              have HO := Lib.hid ho2
              have HTW := Lib.hid htw
              have hq : ∀ S : Nat → Prop, tb < w.heap.size → S tb := fun _ h => absurd h (Nat.not_lt.2 HTW.out)
              have HQ := Lib.hid hq
              clear ho2 hlt htw hq
              go_wp2_with fail
              refine bodyPost_ret (results_row_tmp rfl _ _ rb 35 _ (0, 0) _ _ rfl rfl ((hBr.setOther ⟨tb, _, none⟩ _ ne2).put5 _ _ _ _ _) Tryd.underlying35 rfl (by kernel_rfl)) rfl ?_
              exact ⟨retNumI s _ 2 _ E _ HR2.out.symm, (HO.out.setCell (HQ.out _) _).put5 (Nat.le_of_eq hrb) _ _ _ _ _⟩
            · rw [if_neg (fun h => g2 h.2)] at hR
              have k1 : (2147483647 : Int) < (dm : Int) := by rw [← hdm]; unfold satM; omega
              have HR2 := Lib.hid hR
              clear hR hdm g2
              go_upto_if 64 with fail
              have hBt := Blk.new wc #[Value.int .i64 2, .int .i64 (i : Int), .int .i64 (E : Int), .string ⟨#[]⟩, .int .i32 0] 35
              have hBr := hB0.alloc (.cells #[Value.int .i64 2, .int .i64 (i : Int), .int .i64 (E : Int), .string ⟨#[]⟩, .int .i32 0] 35)
              have ho2 : Only Nil w (wc.alloc (.cells #[Value.int .i64 2, .int .i64 (i : Int), .int .i64 (E : Int), .string ⟨#[]⟩, .int .i32 0] 35)) := ho0.alloc _
              obtain ⟨w2, hw2⟩ : ∃ w2, wc.alloc (.cells #[Value.int .i64 2, .int .i64 (i : Int), .int .i64 (E : Int), .string ⟨#[]⟩, .int .i32 0] 35) = w2 := ⟨_, rfl⟩
              rw [hw2] at hBt hBr ho2 ⊢
              obtain ⟨tb, htb⟩ : ∃ tb, wc.heap.size = tb := ⟨_, rfl⟩
              have hlt : rb < tb := by rw [← htb]; exact hB0.lt
              have htw : w.heap.size ≤ tb := by rw [hrb]; exact Nat.le_of_lt hlt
              rw [htb] at hBt ⊢
              clear hw2 htb hB0 ho0
              obtain ⟨⟨z0, z1, z2, z3, z4⟩, y0, y1, y2, y3, y4⟩ := hBr.five
              obtain ⟨⟨t0, t1, t2, t3, t4⟩, x0, x1, x2, x3, x4⟩ := hBt.five
              have ne1 : tb ≠ rb := Nat.ne_of_gt hlt
              have ne2 : rb ≠ tb := Nat.ne_of_lt hlt
              have HO := Lib.hid ho2
              have HTW := Lib.hid htw
              have hq : ∀ S : Nat → Prop, tb < w.heap.size → S tb := fun _ h => absurd h (Nat.not_lt.2 HTW.out)
              have HQ := Lib.hid hq
              clear ho2 hlt htw hq
              go_wp2_with fail
              refine bodyPost_ret (results_row_tmp rfl _ _ rb 35 _ (0, 0) _ _ rfl rfl (hBr.put5 _ _ _ _ _) Tryd.underlying35 rfl (by kernel_rfl)) rfl ?_
              exact ⟨retNo (s := s) (e := 30) HR2.out.symm, HO.out.put5 (Nat.le_of_eq hrb) _ _ _ _ _⟩
    · rw [if_neg (fun h => gE h.1), if_neg (fun h => gE h.1)] at hR
      have hE' : E = n := by omega
      clear hhm gE
      subst hE'
      cases pl
      · rw [if_neg (by simp)] at hR
        have HR2 := Lib.hid hR
        clear hR hdm
        go_upto_if 64 with fail
        have hBt := Blk.new wc #[Value.int .i64 2, .int .i64 (i : Int), .int .i64 (E : Int), .string ⟨#[]⟩, .int .i32 0] 35
        have hBr := hB0.alloc (.cells #[Value.int .i64 2, .int .i64 (i : Int), .int .i64 (E : Int), .string ⟨#[]⟩, .int .i32 0] 35)
        have ho2 : Only Nil w (wc.alloc (.cells #[Value.int .i64 2, .int .i64 (i : Int), .int .i64 (E : Int), .string ⟨#[]⟩, .int .i32 0] 35)) := ho0.alloc _
        obtain ⟨w2, hw2⟩ : ∃ w2, wc.alloc (.cells #[Value.int .i64 2, .int .i64 (i : Int), .int .i64 (E : Int), .string ⟨#[]⟩, .int .i32 0] 35) = w2 := ⟨_, rfl⟩
        rw [hw2] at hBt hBr ho2 ⊢
        obtain ⟨tb, htb⟩ : ∃ tb, wc.heap.size = tb := ⟨_, rfl⟩
        have hlt : rb < tb := by rw [← htb]; exact hB0.lt
        have htw : w.heap.size ≤ tb := by rw [hrb]; exact Nat.le_of_lt hlt
        rw [htb] at hBt ⊢
        clear hw2 htb hB0 ho0
        obtain ⟨⟨z0, z1, z2, z3, z4⟩, y0, y1, y2, y3, y4⟩ := hBr.five
        obtain ⟨⟨t0, t1, t2, t3, t4⟩, x0, x1, x2, x3, x4⟩ := hBt.five
        have ne1 : tb ≠ rb := Nat.ne_of_gt hlt
        have ne2 : rb ≠ tb := Nat.ne_of_lt hlt
        have HO := Lib.hid ho2
        have HTW := Lib.hid htw
        have hq : ∀ S : Nat → Prop, tb < w.heap.size → S tb := fun _ h => absurd h (Nat.not_lt.2 HTW.out)
        have HQ := Lib.hid hq
        clear ho2 hlt htw hq
        go_wp2_with fail
        refine bodyPost_ret (results_row_tmp rfl _ _ rb 35 _ (0, 0) _ _ rfl rfl (hBr.put5 _ _ _ _ _) Tryd.underlying35 rfl (by kernel_rfl)) rfl ?_
        exact ⟨retNo (s := s) (e := 30) HR2.out.symm, HO.out.put5 (Nat.le_of_eq hrb) _ _ _ _ _⟩
      · by_cases g2 : u ≤ 2147483647
        · rw [if_pos ⟨rfl, g2⟩] at hR
          have hvm : dm = u := by rw [← hdm]; unfold satM; omega
          subst hvm
          have HR2 := Lib.hid hR
          have k1 := big_no 2147483647 dm (by omega)
          have c2 := i32_low dm g2
          clear hR hdm g2
          go_upto_if 64 with fail
          have hBt := Blk.new wc #[Value.int .i64 2, .int .i64 (i : Int), .int .i64 (E : Int), .string ⟨#[]⟩, .int .i32 0] 35
          have hBr := hB0.alloc (.cells #[Value.int .i64 2, .int .i64 (i : Int), .int .i64 (E : Int), .string ⟨#[]⟩, .int .i32 0] 35)
          have ho2 : Only Nil w (wc.alloc (.cells #[Value.int .i64 2, .int .i64 (i : Int), .int .i64 (E : Int), .string ⟨#[]⟩, .int .i32 0] 35)) := ho0.alloc _
          obtain ⟨w2, hw2⟩ : ∃ w2, wc.alloc (.cells #[Value.int .i64 2, .int .i64 (i : Int), .int .i64 (E : Int), .string ⟨#[]⟩, .int .i32 0] 35) = w2 := ⟨_, rfl⟩
          rw [hw2] at hBt hBr ho2 ⊢
          obtain ⟨tb, htb⟩ : ∃ tb, wc.heap.size = tb := ⟨_, rfl⟩
          have hlt : rb < tb := by rw [← htb]; exact hB0.lt
          have htw : w.heap.size ≤ tb := by rw [hrb]; exact Nat.le_of_lt hlt
          rw [htb] at hBt ⊢
          clear hw2 htb hB0 ho0
          obtain ⟨⟨z0, z1, z2, z3, z4⟩, y0, y1, y2, y3, y4⟩ := hBr.five
          obtain ⟨⟨t0, t1, t2, t3, t4⟩, x0, x1, x2, x3, x4⟩ := hBt.five
          have ne1 : tb ≠ rb := Nat.ne_of_gt hlt
          have ne2 : rb ≠ tb := Nat.ne_of_lt hlt
          have HO := Lib.hid ho2
          have HTW := Lib.hid htw
          have hq : ∀ S : Nat → Prop, tb < w.heap.size → S tb := fun _ h => absurd h (Nat.not_lt.2 HTW.out)
          have HQ := Lib.hid hq
          clear ho2 hlt htw hq
          go_wp2_with fail
          refine bodyPost_ret (results_row_tmp rfl _ _ rb 35 _ (0, 0) _ _ rfl rfl ((hBr.setOther ⟨tb, _, none⟩ _ ne2).put5 _ _ _ _ _) Tryd.underlying35 rfl (by kernel_rfl)) rfl ?_
          exact ⟨retNumI s _ 2 _ E _ HR2.out.symm, (HO.out.setCell (HQ.out _) _).put5 (Nat.le_of_eq hrb) _ _ _ _ _⟩
        · rw [if_neg (fun h => g2 h.2)] at hR
          have k1 : (2147483647 : Int) < (dm : Int) := by rw [← hdm]; unfold satM; omega
          have HR2 := Lib.hid hR
          clear hR hdm g2
          go_upto_if 64 with fail
          have hBt := Blk.new wc #[Value.int .i64 2, .int .i64 (i : Int), .int .i64 (E : Int), .string ⟨#[]⟩, .int .i32 0] 35
          have hBr := hB0.alloc (.cells #[Value.int .i64 2, .int .i64 (i : Int), .int .i64 (E : Int), .string ⟨#[]⟩, .int .i32 0] 35)
          have ho2 : Only Nil w (wc.alloc (.cells #[Value.int .i64 2, .int .i64 (i : Int), .int .i64 (E : Int), .string ⟨#[]⟩, .int .i32 0] 35)) := ho0.alloc _
          obtain ⟨w2, hw2⟩ : ∃ w2, wc.alloc (.cells #[Value.int .i64 2, .int .i64 (i : Int), .int .i64 (E : Int), .string ⟨#[]⟩, .int .i32 0] 35) = w2 := ⟨_, rfl⟩
          rw [hw2] at hBt hBr ho2 ⊢
          obtain ⟨tb, htb⟩ : ∃ tb, wc.heap.size = tb := ⟨_, rfl⟩
          have hlt : rb < tb := by rw [← htb]; exact hB0.lt
          have htw : w.heap.size ≤ tb := by rw [hrb]; exact Nat.le_of_lt hlt
          rw [htb] at hBt ⊢
          clear hw2 htb hB0 ho0
          obtain ⟨⟨z0, z1, z2, z3, z4⟩, y0, y1, y2, y3, y4⟩ := hBr.five
          obtain ⟨⟨t0, t1, t2, t3, t4⟩, x0, x1, x2, x3, x4⟩ := hBt.five
          have ne1 : tb ≠ rb := Nat.ne_of_gt hlt
          have ne2 : rb ≠ tb := Nat.ne_of_lt hlt
          have HO := Lib.hid ho2
          have HTW := Lib.hid htw
          have hq : ∀ S : Nat → Prop, tb < w.heap.size → S tb := fun _ h => absurd h (Nat.not_lt.2 HTW.out)
          have HQ := Lib.hid hq
          clear ho2 hlt htw hq
          go_wp2_with fail
          refine bodyPost_ret (results_row_tmp rfl _ _ rb 35 _ (0, 0) _ _ rfl rfl (hBr.put5 _ _ _ _ _) Tryd.underlying35 rfl (by kernel_rfl)) rfl ?_
          exact ⟨retNo (s := s) (e := 30) HR2.out.symm, HO.out.put5 (Nat.le_of_eq hrb) _ _ _ _ _⟩
end Go.Proofs.YtbpdhpfcknaaiaaDoor
