/- Symbols: a name or keyword, the document's (the branch of symbol on a letter). -/
import Derived.Test.YtbpdhpfcknaaiaaDoorZRNum
import Derived.Test.YtbpdhpfcknaaiaaDoorZRQuo
import Derived.Test.YtbpdhpfcknaaiaaDoorZRKey
set_option linter.unusedSimpArgs false
set_option linter.unusedVariables false
namespace Go.Proofs.YtbpdhpfcknaaiaaDoor
open Go.RowKit M

/-- The symbol at i, keywords told apart. -/
def symK (s : ByteArray) (i : Nat) : Except Nat Tk := (symS (tx s) i).map (Tk.key fun a b => kwB (s.extract a b))
theorem retTokI (s : ByteArray) (r : Except Nat Tk) (k i f a b : Nat) (h : r = .ok ⟨k, i, f, a, b, 0⟩) : Ending.returned (.tuple #[.agg #[.int .i64 (k : Nat), .int .i64 (i : Nat), .int .i64 (f : Nat), .string (s.extract a b), .int .i32 0], .int .i64 0]) = .returned (symV s r) := by
  rw [h]; rfl

set_option maxRecDepth 10000 in
set_option maxHeartbeats 1600000 in
theorem symR_name (s : ByteArray) (n i : Nat) (hn : s.size = n) (hi : i < n) (hb : n ≤ 1000000) (hl : letB (bt s i) = true) (w : World) :
    Calls Tryd.prog 15 #[.string s, .int .i64 i] w fun e w' => e = .returned (symV s (symK s i)) ∧ Only Nil w w' := by
  have e1 : (tx s).n = n := hn
  have hE : worEnd (tx s) i = upto (fun j => worB (bt s j)) (n - i) i := by unfold worEnd; rw [e1]; rfl
  have hE1 := worEnd_pos (tx s) i (by omega) hl
  have hEn := worEnd_le (tx s) i (by omega)
  have hR : symK s i = if 32 < worEnd (tx s) i - i then .error 34 else .ok ⟨if kwB (s.extract i (worEnd (tx s) i)) then 6 else 1, i, worEnd (tx s) i, i, worEnd (tx s) i, 0⟩ := by
    unfold symK symS
    rw [if_pos (show letB ((tx s).g i) = true from hl)]
    unfold namS
    by_cases h : 32 < worEnd (tx s) i - i
    · rw [if_pos h, if_pos h]; rfl
    · rw [if_neg h, if_neg h]
      show Except.ok (Tk.key _ _) = _
      unfold Tk.key
      simp only [true_and]
      cases kwB (s.extract i (worEnd (tx s) i)) <;> rfl
  obtain ⟨E, hEE⟩ : ∃ E, worEnd (tx s) i = E := ⟨_, rfl⟩
  rw [hEE] at hE hE1 hEn hR
  rw [e1] at hEn
  obtain ⟨R, hRR⟩ : ∃ R, symK s i = R := ⟨_, rfl⟩
  rw [hRR] at hR ⊢
  have HR := Lib.hid hR
  have HE := Lib.hid hE
  have ix0 := fun w => ix_at s n i hn hi w
  have cL0 := fun w => letter_any (bt s i) w
  rw [hl] at cL0
  have i0 : (0 : Int) ≤ (i : Int) := Int.natCast_nonneg _
  have i1 : (i : Int) < (n : Int) := by omega
  clear hE hEE hR hRR e1 hl
  go_enter Tryd.func15, Tryd.ntmps15
  go_wp2_with fail
  have hB0 := Blk.new w #[Value.int .i64 0, .int .i64 0, .int .i64 0, .string ⟨#[]⟩, .int .i32 0] 35
  have ho0 : Only Nil w (w.alloc (.cells #[Value.int .i64 0, .int .i64 0, .int .i64 0, .string ⟨#[]⟩, .int .i32 0] 35)) := (Only.refl _ _).alloc _
  obtain ⟨w1, hw1⟩ : ∃ w1, w.alloc (.cells #[Value.int .i64 0, .int .i64 0, .int .i64 0, .string ⟨#[]⟩, .int .i32 0] 35) = w1 := ⟨_, rfl⟩
  rw [hw1] at hB0 ho0 ⊢
  obtain ⟨rb, hrb⟩ : ∃ rb, w.heap.size = rb := ⟨_, rfl⟩
  rw [hrb] at hB0 ⊢
  clear hw1
  refine (cL0 _).mono ?_
  rintro e wq ⟨rfl, rfl⟩
  clear cL0 ix0
  go_wp2_with fail
  go_loopg [7] (n - i) (fun g o wr => wr = w1 ∧ ∃ (j : Nat), o = .int .i64 (j : Int) ∧ i ≤ j ∧ j ≤ n ∧ g = n - j ∧ upto (fun j => worB (bt s j)) g j = E)
  case atStart => exact ⟨rfl, i, rfl, Nat.le_refl _, by omega, rfl, HE.out.symm⟩
  case round =>
    obtain ⟨rfl, j, rfl, hij, hj, hg, hc⟩ := hrel
    have HG := Lib.hid hg
    have HO := Lib.hid ho0
    obtain ⟨⟨z0, z1, z2, z3, z4⟩, y0, y1, y2, y3, y4⟩ := hB0.five
    clear hg HE ho0
    have j0 : (0 : Int) ≤ (j : Int) := Int.natCast_nonneg _
    have ij : (i : Int) ≤ (j : Int) := by omega
    have jn : (j : Int) ≤ (n : Int) := by omega
    by_cases hjn : j < n
    · have j1 : (j : Int) < (n : Int) := by omega
      have ix := fun w => ix_at s n j hn hjn w
      have cL := fun w => letter_any (bt s j) w
      have cD := fun w => digit_any (bt s j) w
      obtain ⟨g, rfl⟩ : ∃ g', gk = g' + 1 := ⟨gk - 1, by have := HG.out; omega⟩
      rw [upto] at hc
      obtain ⟨q, hq⟩ : ∃ q, letB (bt s j) = q := ⟨_, rfl⟩
      obtain ⟨r, hr⟩ : ∃ r, digB (bt s j) = r := ⟨_, rfl⟩
      have hw : worB (bt s j) = (q || r) := by unfold worB; rw [hq, hr]
      rw [hw] at hc
      rw [hq] at cL
      rw [hr] at cD
      clear hq hr hw
      cases q <;> cases r
      · simp only [Bool.or_self, Bool.false_eq_true, if_false] at hc
        subst hc
        by_cases hE : 32 < j - i
        · have e := HR.out
          rw [if_pos hE] at e
          have HEE := Lib.hid e
          have hE' : (32 : Int) < (j : Int) - (i : Int) := by omega
          clear e HR hE
          go_wp2_with (first | (go_at_call 23; refine (cL _).mono ?_; rintro e w1 ⟨rfl, rfl⟩) | (go_at_call 24; refine (cD _).mono ?_; rintro e w1 ⟨rfl, rfl⟩))
          refine bodyPost_ret (results_row_tmp rfl _ _ rb 35 _ (0, 0) _ _ rfl rfl (hB0.put5 _ _ _ _ _) Tryd.underlying35 rfl (by kernel_rfl)) rfl ?_
          exact ⟨retNo (s := s) (e := 34) HEE.out, HO.out.put5 (Nat.le_of_eq hrb) _ _ _ _ _⟩
        · have e := HR.out
          rw [if_neg hE] at e
          have HEE := Lib.hid e
          have hE' : ¬ (32 : Int) < (j : Int) - (i : Int) := by omega
          clear e HR hE
          go_wp2_with (first | (go_at_call 23; refine (cL _).mono ?_; rintro e w1 ⟨rfl, rfl⟩) | (go_at_call 24; refine (cD _).mono ?_; rintro e w1 ⟨rfl, rfl⟩))
          have hBt := Blk.new wr #[Value.int .i64 1, .int .i64 (i : Int), .int .i64 (j : Int), .string (s.extract i j), .int .i32 0] 35
          have hBr := hB0.alloc (.cells #[Value.int .i64 1, .int .i64 (i : Int), .int .i64 (j : Int), .string (s.extract i j), .int .i32 0] 35)
          have ho2 := HO.out.alloc (.cells #[Value.int .i64 1, .int .i64 (i : Int), .int .i64 (j : Int), .string (s.extract i j), .int .i32 0] 35)
          obtain ⟨w2, hw2⟩ : ∃ w2, wr.alloc (.cells #[Value.int .i64 1, .int .i64 (i : Int), .int .i64 (j : Int), .string (s.extract i j), .int .i32 0] 35) = w2 := ⟨_, rfl⟩
          rw [hw2] at hBt hBr ho2 ⊢
          obtain ⟨tb, htb⟩ : ∃ tb, wr.heap.size = tb := ⟨_, rfl⟩
          have hlt : rb < tb := by rw [← htb]; exact hB0.lt
          have htw : w.heap.size ≤ tb := by rw [hrb]; exact Nat.le_of_lt hlt
          rw [htb] at hBt ⊢
          clear hw2 htb hB0 z0 z1 z2 z3 z4 y0 y1 y2 y3 y4
          have cK := keywordR_any (s.extract i j) w2
          obtain ⟨kw, hkw⟩ : ∃ kw, kwB (s.extract i j) = kw := ⟨_, rfl⟩
          have HEE2 := HEE.out
          rw [hkw] at cK HEE2
          refine cK.mono ?_
          rintro e w3 ⟨rfl, ho3⟩
          have hBt3 := hBt.kept ho3 (fun h => h)
          have hBr3 := hBr.kept ho3 (fun h => h)
          obtain ⟨⟨z0, z1, z2, z3, z4⟩, y0, y1, y2, y3, y4⟩ := hBr3.five
          obtain ⟨⟨t0, t1, t2, t3, t4⟩, x0, x1, x2, x3, x4⟩ := hBt3.five
          have ne1 : tb ≠ rb := Nat.ne_of_gt hlt
          have ne2 : rb ≠ tb := Nat.ne_of_lt hlt
          have HO3 := Lib.hid (ho2.trans ho3 (fun _ _ h => h))
          have HQ := Lib.hid (show ∀ S : Nat → Prop, tb < w.heap.size → S tb from fun _ h => absurd h (Nat.not_lt.2 htw))
          have HE3 := Lib.hid HEE2
          clear ho2 hlt htw hBt hBr hBt3 ho3 HEE2 HEE hkw cK
          cases kw
          · go_wp2_with fail
            refine bodyPost_ret (results_row_tmp rfl _ _ rb 35 _ (0, 0) _ _ rfl rfl (hBr3.put5 _ _ _ _ _) Tryd.underlying35 rfl (by kernel_rfl)) rfl ?_
            exact ⟨retTokI s _ 1 i j i j HE3.out, HO3.out.put5 (Nat.le_of_eq hrb) _ _ _ _ _⟩
          · go_wp2_with fail
            refine bodyPost_ret (results_row_tmp rfl _ _ rb 35 _ (0, 0) _ _ rfl rfl ((hBr3.setOther ⟨tb, _, none⟩ _ ne2).put5 _ _ _ _ _) Tryd.underlying35 rfl (by kernel_rfl)) rfl ?_
            exact ⟨retTokI s _ 6 i j i j HE3.out, (HO3.out.setCell (HQ.out _) _).put5 (Nat.le_of_eq hrb) _ _ _ _ _⟩
      all_goals
        simp only [Bool.or_self, Bool.or_true, Bool.true_or, if_true] at hc
        have HC := Lib.hid hc
        clear hc
        go_wp2_with (first | (go_at_call 23; refine (cL _).mono ?_; rintro e w1 ⟨rfl, rfl⟩) | (go_at_call 24; refine (cD _).mono ?_; rintro e w1 ⟨rfl, rfl⟩))
        go_roundg g
        case measure => exact Nat.lt_succ_self _
        case rel => exact ⟨rfl, j + 1, by go_num, by omega, by omega, by have := HG.out; omega, HC.out⟩
    · have hjn' : j = n := by omega
      subst hjn'
      have hg0 : gk = 0 := by have := HG.out; omega
      subst hg0
      have hc' : j = E := hc
      subst hc'
      clear hc
      by_cases hE : 32 < j - i
      · have e := HR.out
        rw [if_pos hE] at e
        have HEE := Lib.hid e
        have hE' : (32 : Int) < (j : Int) - (i : Int) := by omega
        clear e HR hE
        go_wp2_with fail
        refine bodyPost_ret (results_row_tmp rfl _ _ rb 35 _ (0, 0) _ _ rfl rfl (hB0.put5 _ _ _ _ _) Tryd.underlying35 rfl (by kernel_rfl)) rfl ?_
        exact ⟨retNo (s := s) (e := 34) HEE.out, HO.out.put5 (Nat.le_of_eq hrb) _ _ _ _ _⟩
      · have e := HR.out
        rw [if_neg hE] at e
        have HEE := Lib.hid e
        have hE' : ¬ (32 : Int) < (j : Int) - (i : Int) := by omega
        clear e HR hE
        go_wp2_with fail
        have hBt := Blk.new wr #[Value.int .i64 1, .int .i64 (i : Int), .int .i64 (j : Int), .string (s.extract i j), .int .i32 0] 35
        have hBr := hB0.alloc (.cells #[Value.int .i64 1, .int .i64 (i : Int), .int .i64 (j : Int), .string (s.extract i j), .int .i32 0] 35)
        have ho2 := HO.out.alloc (.cells #[Value.int .i64 1, .int .i64 (i : Int), .int .i64 (j : Int), .string (s.extract i j), .int .i32 0] 35)
        obtain ⟨w2, hw2⟩ : ∃ w2, wr.alloc (.cells #[Value.int .i64 1, .int .i64 (i : Int), .int .i64 (j : Int), .string (s.extract i j), .int .i32 0] 35) = w2 := ⟨_, rfl⟩
        rw [hw2] at hBt hBr ho2 ⊢
        obtain ⟨tb, htb⟩ : ∃ tb, wr.heap.size = tb := ⟨_, rfl⟩
        have hlt : rb < tb := by rw [← htb]; exact hB0.lt
        have htw : w.heap.size ≤ tb := by rw [hrb]; exact Nat.le_of_lt hlt
        rw [htb] at hBt ⊢
        clear hw2 htb hB0 z0 z1 z2 z3 z4 y0 y1 y2 y3 y4
        have cK := keywordR_any (s.extract i j) w2
        obtain ⟨kw, hkw⟩ : ∃ kw, kwB (s.extract i j) = kw := ⟨_, rfl⟩
        have HEE2 := HEE.out
        rw [hkw] at cK HEE2
        refine cK.mono ?_
        rintro e w3 ⟨rfl, ho3⟩
        have hBt3 := hBt.kept ho3 (fun h => h)
        have hBr3 := hBr.kept ho3 (fun h => h)
        obtain ⟨⟨z0, z1, z2, z3, z4⟩, y0, y1, y2, y3, y4⟩ := hBr3.five
        obtain ⟨⟨t0, t1, t2, t3, t4⟩, x0, x1, x2, x3, x4⟩ := hBt3.five
        have ne1 : tb ≠ rb := Nat.ne_of_gt hlt
        have ne2 : rb ≠ tb := Nat.ne_of_lt hlt
        have HO3 := Lib.hid (ho2.trans ho3 (fun _ _ h => h))
        have HQ := Lib.hid (show ∀ S : Nat → Prop, tb < w.heap.size → S tb from fun _ h => absurd h (Nat.not_lt.2 htw))
        have HE3 := Lib.hid HEE2
        clear ho2 hlt htw hBt hBr hBt3 ho3 HEE2 HEE hkw cK
        cases kw
        · go_wp2_with fail
          refine bodyPost_ret (results_row_tmp rfl _ _ rb 35 _ (0, 0) _ _ rfl rfl (hBr3.put5 _ _ _ _ _) Tryd.underlying35 rfl (by kernel_rfl)) rfl ?_
          exact ⟨retTokI s _ 1 i j i j HE3.out, HO3.out.put5 (Nat.le_of_eq hrb) _ _ _ _ _⟩
        · go_wp2_with fail
          refine bodyPost_ret (results_row_tmp rfl _ _ rb 35 _ (0, 0) _ _ rfl rfl ((hBr3.setOther ⟨tb, _, none⟩ _ ne2).put5 _ _ _ _ _) Tryd.underlying35 rfl (by kernel_rfl)) rfl ?_
          exact ⟨retTokI s _ 6 i j i j HE3.out, (HO3.out.setCell (HQ.out _) _).put5 (Nat.le_of_eq hrb) _ _ _ _ _⟩
end Go.Proofs.YtbpdhpfcknaaiaaDoor
