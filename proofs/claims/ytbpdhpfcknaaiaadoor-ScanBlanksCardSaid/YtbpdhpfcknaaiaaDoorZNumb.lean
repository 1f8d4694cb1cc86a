/- Symbols: a number, the program's. -/
import Derived.Test.YtbpdhpfcknaaiaaDoorZNum
import Derived.Deep.CutBlock
set_option linter.unusedSimpArgs false
set_option linter.unusedVariables false
namespace Go.Proofs.YtbpdhpfcknaaiaaDoor
open Go.RowKit M

theorem bt_to (s : ByteArray) (k i : Nat) (h : i < k) (hk : k ≤ s.size) : bt (s.extract 0 k) i = bt s i := by
  unfold bt; rw [ext_list, List.drop_zero, Nat.sub_zero, List.getElem?_take_of_lt h]
theorem to_size (s : ByteArray) (k : Nat) (hk : k ≤ s.size) : (s.extract 0 k).size = k := by
  rw [← size_list, ext_list, List.length_take, List.drop_zero, size_list]; omega
theorem valE_to (s : ByteArray) (k base most : Nat) (hk : k ≤ s.size) : valE (tx (s.extract 0 k)) base most k = valE (tx s) base most k := by
  have h : ∀ j, j < k → (tx (s.extract 0 k)).g (0 + j) = (tx s).g (0 + j) := fun j hj => by rw [Nat.zero_add]; exact bt_to s k j hj hk
  unfold valE
  rw [lowS_cong _ _ _ _ _ h, valS_cong _ _ _ _ _ h]
theorem i32_of (v : Nat) (h : v ≤ 4294967295) : IntKind.i32.wrap (v : Int) = w32 v := by
  rw [IntKind.wrap_i32]; unfold w32; split <;> omega
theorem i32_low (v : Nat) (h : v ≤ 2147483647) : IntKind.i32.wrap (v : Int) = (v : Int) := by
  rw [IntKind.wrap_i32]; omega

theorem retNum (s : ByteArray) (r : Except Nat Tk) (k f : Nat) (v : Int) (h : r = .ok ⟨k, 0, f, 0, 0, v⟩) : Ending.returned (.tuple #[.agg #[.int .i64 (k : Nat), .int .i64 0, .int .i64 (f : Nat), .string ⟨#[]⟩, .int .i32 v], .int .i64 0]) = .returned (symV s r) := by
  rw [h, show symV s (.ok ⟨k, 0, f, 0, 0, v⟩) = .tuple #[tokV s ⟨k, 0, f, 0, 0, v⟩, .int .i64 0] from rfl]
  unfold tokV
  rw [ext_nil]; rfl

set_option maxRecDepth 10000 in
set_option maxHeartbeats 1600000 in
theorem number_any (s : ByteArray) (n : Nat) (hn : s.size = n) (h0 : 0 < n) (hb : n ≤ 1000000) (hl : digB (bt s 0) = true) (w : World) :
    Calls Tryd.prog 35 #[.string s] w fun e w' => e = .returned (symV s (numS (tx s) 0)) ∧ Only Nil w w' := by
  have e1 : (tx s).n = n := hn
  have hE : hexEnd (tx s) 0 = upto (fun j => hexB (bt s j)) (n - 1) 1 := by
    rw [hexEnd_gt (tx s) 0 (by omega) hl, e1]; rfl
  have hIn : ∀ i, i < hexEnd (tx s) 0 → hexB (bt s i) = true := fun i hi => upto_in (fun j => hexB ((tx s).g j)) _ 0 i (by omega) hi
  have hE1 := hexEnd_pos (tx s) 0 (by omega) hl
  have hEn := hexEnd_le (tx s) 0 (by omega)
  have hlow : lowS (tx s) 16 0 (hexEnd (tx s) 0) = true := lowS_hex _ _ _ (fun j hj => by rw [Nat.zero_add]; exact hIn j hj)
  obtain ⟨R, hR⟩ : ∃ R, numS (tx s) 0 = R := ⟨_, rfl⟩
  rw [hR]
  unfold numS at hR
  simp only [Nat.sub_zero, e1, show (tx s).g = bt s from rfl] at hR
  obtain ⟨E, hEE⟩ : ∃ E, hexEnd (tx s) 0 = E := ⟨_, rfl⟩
  rw [hEE] at hE hIn hE1 hEn hlow hR
  rw [e1] at hEn
  have cV := fun b m hb hb2 hm w => value_any (s.extract 0 E) E (to_size s E (by omega)) (by omega) (fun j hj => by rw [bt_to s E j hj (by omega)]; exact hIn j hj) b m hb hb2 hm w
  have hVE : ∀ base most, valE (tx (s.extract 0 E)) base most E = valE (tx s) base most E := fun base most => valE_to s E base most (by omega)
  simp only [hVE] at cV
  have c16 : ∀ m, valE (tx s) 16 m E = if valS (tx s) 16 0 E ≤ m then some (valS (tx s) 16 0 E) else none := fun m => by unfold valE; simp only [hlow, true_and]
  have c10 : ∀ m, valE (tx s) 10 m E = if plainS (tx s) 0 E = true ∧ valS (tx s) 10 0 E ≤ m then some (valS (tx s) 10 0 E) else none := fun m => by unfold valE; rw [lowS_ten]
  have cH := cV 16 4294967295 (by decide) (by decide) (by decide)
  have cX := cV 16 255 (by decide) (by decide) (by decide)
  have cD := cV 10 2147483647 (by decide) (by decide) (by decide)
  rw [c16] at cH cX
  rw [c10] at cD
  have one := fun a w => one_any s E a w
  rw [hn] at one
  have HR := Lib.hid hR
  have HE := Lib.hid hE
  have CH := Lib.hid cH
  have CX := Lib.hid cX
  have CD := Lib.hid cD
  have ONE := Lib.hid one
  clear hE hEE hR e1 hl hIn hlow cV hVE c16 c10 cH cX cD one
  go_enter Tryd.func35, Tryd.ntmps35
  go_upto_block 0 with fail
  have hB0 := Blk.new w #[Value.int .i64 0, .int .i64 0, .int .i64 0, .string ⟨#[]⟩, .int .i32 0] 35
  have ho0 : Only Nil w (w.alloc (.cells #[Value.int .i64 0, .int .i64 0, .int .i64 0, .string ⟨#[]⟩, .int .i32 0] 35)) := (Only.refl _ _).alloc _
  obtain ⟨w1, hw1⟩ : ∃ w1, w.alloc (.cells #[Value.int .i64 0, .int .i64 0, .int .i64 0, .string ⟨#[]⟩, .int .i32 0] 35) = w1 := ⟨_, rfl⟩
  rw [hw1] at hB0 ho0 ⊢
  obtain ⟨rb, hrb⟩ : ∃ rb, w.heap.size = rb := ⟨_, rfl⟩
  rw [hrb] at hB0 ⊢
  clear hw1
  have hEn1 : (E : Int) ≤ (n : Int) := by omega
  have hE0 : (0 : Int) ≤ (E : Int) := by omega
  go_cut [4] (fun s4 wx => s4 = .int .i64 (E : Int) ∧ wx = w1)
  case first =>
    go_wp2_with fail
    go_loopg [4] (n - 1) (fun g i wr => wr = w1 ∧ ∃ (j : Nat), i = .int .i64 (j : Int) ∧ 1 ≤ j ∧ j ≤ n ∧ g = n - j ∧ upto (fun j => hexB (bt s j)) g j = E)
    case atStart => exact ⟨rfl, 1, rfl, by omega, by omega, rfl, HE.out.symm⟩
    case round =>
      obtain ⟨rfl, j, rfl, hj1, hj, hg, hc⟩ := hrel
      have HG := Lib.hid hg
      clear hg HE hE0 hEn1
      have j0 : (0 : Int) ≤ (j : Int) := Int.natCast_nonneg _
      by_cases hjn : j < n
      · have j1 : (j : Int) < (n : Int) := by omega
        have ix := fun w => ix_at s n j hn hjn w
        have cQ := fun w => isDigit_any (bt s j) w
        obtain ⟨g, rfl⟩ : ∃ g', gk = g' + 1 := ⟨gk - 1, by have := HG.out; omega⟩
        rw [upto] at hc
        obtain ⟨c, hcc⟩ : ∃ c, bt s j = c := ⟨_, rfl⟩
        rw [hcc] at ix cQ hc
        have hx : hexB c = (digB c || (decide (65 ≤ c) && decide (c ≤ 70))) := rfl
        obtain ⟨q, hq⟩ : ∃ q, digB c = q := ⟨_, rfl⟩
        rw [hq] at cQ hx
        rw [hx] at hc
        clear hx hq hcc
        cases q
        · by_cases k1 : 65 ≤ c
          · by_cases k2 : c ≤ 70
            · simp only [k1, k2, decide_true, Bool.and_self, Bool.or_true, if_true] at hc
              have HC := Lib.hid hc
              clear hc
              go_wp2_with (go_at_call 34; refine (cQ _).mono ?_; rintro e w1 ⟨rfl, rfl⟩)
              go_roundg g
              case measure => exact Nat.lt_succ_self _
              case rel => exact ⟨rfl, j + 1, by go_num, by omega, by omega, by have := HG.out; omega, HC.out⟩
            · simp only [k1, k2, decide_true, decide_false, Bool.and_false, Bool.or_self, Bool.false_eq_true, if_false] at hc
              have k2' : decide (c ≤ 70) = false := by simpa using k2
              have HC := Lib.hid hc
              clear hc
              go_wp2_with (go_at_call 34; refine (cQ _).mono ?_; rintro e w1 ⟨rfl, rfl⟩)
              go_meet
              exact ⟨by rw [HC.out], rfl⟩
          · simp only [k1, decide_false, Bool.false_and, Bool.or_self, Bool.false_eq_true, if_false] at hc
            have k1' : decide (65 ≤ c) = false := by simpa using k1
            have HC := Lib.hid hc
            clear hc
            go_wp2_with (go_at_call 34; refine (cQ _).mono ?_; rintro e w1 ⟨rfl, rfl⟩)
            go_meet
            exact ⟨by rw [HC.out], rfl⟩
        · simp only [Bool.true_or, if_true] at hc
          have HC := Lib.hid hc
          clear hc
          go_wp2_with (go_at_call 34; refine (cQ _).mono ?_; rintro e w1 ⟨rfl, rfl⟩)
          go_roundg g
          case measure => exact Nat.lt_succ_self _
          case rel => exact ⟨rfl, j + 1, by go_num, by omega, by omega, by have := HG.out; omega, HC.out⟩
      · have hjn' : j = n := by omega
        subst hjn'
        have hg0 : gk = 0 := by have := HG.out; omega
        subst hg0
        have HC := Lib.hid (show j = E from hc)
        clear hc
        go_wp2_with fail
        go_meet
        exact ⟨by rw [HC.out], rfl⟩
  case rest =>
    obtain ⟨rfl, rfl⟩ := hcut
    obtain ⟨⟨z0, z1, z2, z3, z4⟩, y0, y1, y2, y3, y4⟩ := hB0.five
    have HO := Lib.hid ho0
    clear ho0 HE
    by_cases g1 : E < n ∧ bt s E = 72
    · have c1 : ∀ w, Calls Tryd.prog 30 #[.string (s.extract E n), .string ⟨#[72]⟩] w fun e w' => e = .returned (.bool true) ∧ w = w' := fun w => by
        have := ONE.out 72 w; rwa [decide_eq_true (show E < n ∧ bt s E = (72 : UInt8).toNat from g1)] at this
      have hR := HR.out
      rw [if_pos g1] at hR
      by_cases g2 : valS (tx s) 16 0 E ≤ 4294967295
      · rw [if_pos g2] at hR
        have cH := CH.out
        rw [if_pos g2] at cH
        obtain ⟨v, hv⟩ : ∃ v, valS (tx s) 16 0 E = v := ⟨_, rfl⟩
        rw [hv] at hR cH g2
        have hi := i32_of v g2
        have HRR := Lib.hid hR
        clear hR HR CH CX CD g1 g2 hv ONE
        go_wp2_with fail
        refine (c1 _).mono ?_
        rintro e w1 ⟨rfl, rfl⟩
        go_wp2_with fail
        refine (cH _).mono ?_
        rintro e w1 ⟨rfl, rfl⟩
        simp only [valV]
        go_wp2_with fail
        refine bodyPost_ret (results_row_tmp rfl _ _ rb 35 _ (0, 0) _ _ rfl rfl (hB0.put5 _ _ _ _ _) Tryd.underlying35 rfl (by kernel_rfl)) rfl ?_
        exact ⟨retNum s _ 2 (E + 1) _ HRR.out.symm, HO.out.put5 (Nat.le_of_eq hrb) _ _ _ _ _⟩
      · rw [if_neg g2] at hR
        have cH := CH.out
        rw [if_neg g2] at cH
        have HRR := Lib.hid hR
        clear hR HR CH CX CD g1 g2 ONE
        go_wp2_with fail
        refine (c1 _).mono ?_
        rintro e w1 ⟨rfl, rfl⟩
        go_wp2_with fail
        refine (cH _).mono ?_
        rintro e w1 ⟨rfl, rfl⟩
        simp only [valV]
        go_wp2_with fail
        refine bodyPost_ret (results_row_tmp rfl _ _ rb 35 _ (0, 0) _ _ rfl rfl (hB0.put5 _ _ _ _ _) Tryd.underlying35 rfl (by kernel_rfl)) rfl ?_
        exact ⟨retNo (s := s) (e := 30) HRR.out.symm, HO.out.put5 (Nat.le_of_eq hrb) _ _ _ _ _⟩
    · have c1 : ∀ w, Calls Tryd.prog 30 #[.string (s.extract E n), .string ⟨#[72]⟩] w fun e w' => e = .returned (.bool false) ∧ w = w' := fun w => by
        have := ONE.out 72 w; rwa [decide_eq_false (show ¬ (E < n ∧ bt s E = (72 : UInt8).toNat) from g1)] at this
      have hR := HR.out
      rw [if_neg g1] at hR
      by_cases g3 : E < n ∧ bt s E = 88
      · have c2 : ∀ w, Calls Tryd.prog 30 #[.string (s.extract E n), .string ⟨#[88]⟩] w fun e w' => e = .returned (.bool true) ∧ w = w' := fun w => by
          have := ONE.out 88 w; rwa [decide_eq_true (show E < n ∧ bt s E = (88 : UInt8).toNat from g3)] at this
        rw [if_pos g3] at hR
        by_cases g2 : valS (tx s) 16 0 E ≤ 255
        · rw [if_pos g2] at hR
          have cH := CX.out
          rw [if_pos g2] at cH
          obtain ⟨v, hv⟩ : ∃ v, valS (tx s) 16 0 E = v := ⟨_, rfl⟩
          rw [hv] at hR cH g2
          have hi := i32_low v (by omega)
          have HRR := Lib.hid hR
          clear hR HR CH CX CD g1 g2 g3 hv ONE
          go_wp2_with fail
          refine (c1 _).mono ?_
          rintro e w1 ⟨rfl, rfl⟩
          go_wp2_with fail
          refine (c2 _).mono ?_
          rintro e w1 ⟨rfl, rfl⟩
          go_wp2_with fail
          refine (cH _).mono ?_
          rintro e w1 ⟨rfl, rfl⟩
          simp only [valV]
          go_wp2_with fail
          refine bodyPost_ret (results_row_tmp rfl _ _ rb 35 _ (0, 0) _ _ rfl rfl (hB0.put5 _ _ _ _ _) Tryd.underlying35 rfl (by kernel_rfl)) rfl ?_
          exact ⟨retNum s _ 3 (E + 1) _ HRR.out.symm, HO.out.put5 (Nat.le_of_eq hrb) _ _ _ _ _⟩
        · rw [if_neg g2] at hR
          have cH := CX.out
          rw [if_neg g2] at cH
          have HRR := Lib.hid hR
          clear hR HR CH CX CD g1 g2 g3 ONE
          go_wp2_with fail
          refine (c1 _).mono ?_
          rintro e w1 ⟨rfl, rfl⟩
          go_wp2_with fail
          refine (c2 _).mono ?_
          rintro e w1 ⟨rfl, rfl⟩
          go_wp2_with fail
          refine (cH _).mono ?_
          rintro e w1 ⟨rfl, rfl⟩
          simp only [valV]
          go_wp2_with fail
          refine bodyPost_ret (results_row_tmp rfl _ _ rb 35 _ (0, 0) _ _ rfl rfl (hB0.put5 _ _ _ _ _) Tryd.underlying35 rfl (by kernel_rfl)) rfl ?_
          exact ⟨retNo (s := s) (e := 30) HRR.out.symm, HO.out.put5 (Nat.le_of_eq hrb) _ _ _ _ _⟩
      · have c2 : ∀ w, Calls Tryd.prog 30 #[.string (s.extract E n), .string ⟨#[88]⟩] w fun e w' => e = .returned (.bool false) ∧ w = w' := fun w => by
          have := ONE.out 88 w; rwa [decide_eq_false (show ¬ (E < n ∧ bt s E = (88 : UInt8).toNat) from g3)] at this
        rw [if_neg g3] at hR
        by_cases g2 : plainS (tx s) 0 E = true ∧ valS (tx s) 10 0 E ≤ 2147483647
        · rw [if_pos g2] at hR
          have cH := CD.out
          rw [if_pos g2] at cH
          replace g2 := g2.2
          obtain ⟨v, hv⟩ : ∃ v, valS (tx s) 10 0 E = v := ⟨_, rfl⟩
          rw [hv] at hR cH g2
          have hi := i32_low v g2
          have HRR := Lib.hid hR
          clear hR HR CH CX CD g1 g2 g3 hv ONE
          go_wp2_with fail
          refine (c1 _).mono ?_
          rintro e w1 ⟨rfl, rfl⟩
          go_wp2_with fail
          refine (c2 _).mono ?_
          rintro e w1 ⟨rfl, rfl⟩
          go_wp2_with fail
          refine (cH _).mono ?_
          rintro e w1 ⟨rfl, rfl⟩
          simp only [valV]
          go_wp2_with fail
          refine bodyPost_ret (results_row_tmp rfl _ _ rb 35 _ (0, 0) _ _ rfl rfl (hB0.put5 _ _ _ _ _) Tryd.underlying35 rfl (by kernel_rfl)) rfl ?_
          exact ⟨retNum s _ 2 E _ HRR.out.symm, HO.out.put5 (Nat.le_of_eq hrb) _ _ _ _ _⟩
        · rw [if_neg g2] at hR
          have cH := CD.out
          rw [if_neg g2] at cH
          have HRR := Lib.hid hR
          clear hR HR CH CX CD g1 g2 g3 ONE
          go_wp2_with fail
          refine (c1 _).mono ?_
          rintro e w1 ⟨rfl, rfl⟩
          go_wp2_with fail
          refine (c2 _).mono ?_
          rintro e w1 ⟨rfl, rfl⟩
          go_wp2_with fail
          refine (cH _).mono ?_
          rintro e w1 ⟨rfl, rfl⟩
          simp only [valV]
          go_wp2_with fail
          refine bodyPost_ret (results_row_tmp rfl _ _ rb 35 _ (0, 0) _ _ rfl rfl (hB0.put5 _ _ _ _ _) Tryd.underlying35 rfl (by kernel_rfl)) rfl ?_
          exact ⟨retNo (s := s) (e := 30) HRR.out.symm, HO.out.put5 (Nat.le_of_eq hrb) _ _ _ _ _⟩
end Go.Proofs.YtbpdhpfcknaaiaaDoor
