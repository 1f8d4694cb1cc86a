/- Symbols: any symbol, the document's. -/
import Derived.Test.YtbpdhpfcknaaiaaDoorZRSym
import Derived.Test.YtbpdhpfcknaaiaaDoorZSym
set_option linter.unusedSimpArgs false
set_option linter.unusedVariables false
namespace Go.Proofs.YtbpdhpfcknaaiaaDoor
open Go.RowKit M

theorem key_num (t : Txt) (i : Nat) (kw) : (numS t i).map (Tk.key kw) = numS t i := by
  unfold numS; simp only
  split
  · split <;> rfl
  split
  · split <;> rfl
  split <;> rfl
theorem key_quo (t : Txt) (i : Nat) (kw) : (quoS t i).map (Tk.key kw) = quoS t i := by
  unfold quoS; simp only
  split
  · rfl
  split <;> rfl
theorem key_sig (t : Txt) (i : Nat) (kw) : (sigS t i).map (Tk.key kw) = sigS t i := by
  unfold sigS
  split
  · rfl
  split <;> rfl
theorem two_eq (s : ByteArray) (n i : Nat) (hn : s.size = n) (h : i + 1 < n) (a b : UInt8) : ((s.extract i (i + 2)).toList == [a, b]) = decide (bt s i = a.toNat ∧ bt s (i + 1) = b.toNat) := by
  have hl := size_list s
  rw [Lib.toList_data, ext_list, show i + 2 - i = 2 by omega]
  unfold bt
  rw [List.drop_eq_getElem_cons (show i < s.data.toList.length by omega), List.drop_eq_getElem_cons (show i + 1 < s.data.toList.length by omega), List.getElem?_eq_getElem (show i < s.data.toList.length by omega), List.getElem?_eq_getElem (show i + 1 < s.data.toList.length by omega)]
  simp only [List.take_succ_cons, List.take_zero, Option.getD_some]
  rw [Bool.eq_iff_iff]
  simp only [beq_iff_eq, decide_eq_true_eq, List.cons.injEq, and_true]
  constructor
  · rintro ⟨h1, h2⟩; rw [h1, h2]; exact ⟨rfl, rfl⟩
  · rintro ⟨h1, h2⟩; exact ⟨UInt8.toNat_inj.1 h1, UInt8.toNat_inj.1 h2⟩

set_option maxRecDepth 10000 in
set_option maxHeartbeats 3200000 in
theorem symbolR_any (s : ByteArray) (n i : Nat) (hn : s.size = n) (hi : i < n) (hb : n ≤ 1000000) (w : World) :
    Calls Tryd.prog 15 #[.string s, .int .i64 i] w fun e w' => e = .returned (symV s (symK s i)) ∧ Only Nil w w' := by
  by_cases hl : letB (bt s i) = true
  · exact symR_name s n i hn hi hb hl w
  have hl' : letB (bt s i) = false := by simpa using hl
  have hK : symK s i = if digB (bt s i) then numS (tx s) i else if bt s i = 34 then quoS (tx s) i else sigS (tx s) i := by
    unfold symK symS
    rw [if_neg (show ¬ letB ((tx s).g i) = true from hl)]
    show Except.map _ (if digB (bt s i) then numS (tx s) i else if bt s i = 34 then quoS (tx s) i else sigS (tx s) i) = _
    split
    · exact key_num _ _ _
    split
    · exact key_quo _ _ _
    · exact key_sig _ _ _
  have ix0 := fun w => ix_at s n i hn hi w
  have cL0 := fun w => letter_any (bt s i) w
  rw [hl'] at cL0
  have cD0 := fun w => digit_any (bt s i) w
  have cM := fun h w => numberR_any s n i hn hi hb h w
  have cT := fun w => quotedR_any s n i hn hi hb w
  have cS := fun w => has_sig (bt s i) w
  have i0 : (0 : Int) ≤ (i : Int) := Int.natCast_nonneg _
  have i1 : (i : Int) < (n : Int) := by omega
  obtain ⟨R, hRR⟩ : ∃ R, symK s i = R := ⟨_, rfl⟩
  rw [hRR] at hK ⊢
  obtain ⟨vk, vp, vf, vz, vn, vu, hv⟩ := symV_parts s R
  have hG : sigS (tx s) i = if i + 1 < n ∧ twoB (bt s i) (bt s (i + 1)) = true then .ok ⟨5, i, i + 2, i, i + 2, 0⟩ else if sigB (bt s i) then .ok ⟨5, i, i + 1, i, i + 1, 0⟩ else .error 30 := by
    unfold sigS; rw [show (tx s).n = n from hn]; rfl
  have h2 := fun h a b => two_eq s n i hn h a b
  obtain ⟨d, hd⟩ : ∃ d, bt s (i + 1) = d := ⟨_, rfl⟩
  obtain ⟨c, hc⟩ : ∃ c, bt s i = c := ⟨_, rfl⟩
  rw [hc] at ix0 cL0 cD0 cM cS hK hG
  simp only [hc, hd] at h2
  rw [hd] at hG
  obtain ⟨r, hr⟩ : ∃ r, digB c = r := ⟨_, rfl⟩
  rw [hr] at cD0 cM hK
  clear hl hl' hRR hc hr hd
  go_enter Tryd.func15, Tryd.ntmps15
  go_wp2_with fail
  have hB0 := Blk.new w #[Value.int .i64 0, .int .i64 0, .int .i64 0, .string ⟨#[]⟩, .int .i32 0] 35
  have ho0 : Only Nil w (w.alloc (.cells #[Value.int .i64 0, .int .i64 0, .int .i64 0, .string ⟨#[]⟩, .int .i32 0] 35)) := (Only.refl _ _).alloc _
  obtain ⟨w1, hw1⟩ : ∃ w1, w.alloc (.cells #[Value.int .i64 0, .int .i64 0, .int .i64 0, .string ⟨#[]⟩, .int .i32 0] 35) = w1 := ⟨_, rfl⟩
  rw [hw1] at hB0 ho0 ⊢
  obtain ⟨rb, hrb⟩ : ∃ rb, w.heap.size = rb := ⟨_, rfl⟩
  rw [hrb] at hB0 ⊢
  clear hw1
  refine (cL0 _).mono ?_
  rintro e wq ⟨rfl, rfl⟩
  go_wp2_with fail
  refine (cD0 _).mono ?_
  rintro e wq ⟨rfl, rfl⟩
  cases r
  · rw [if_neg (by decide)] at hK
    by_cases g : c = 34
    · rw [if_pos g] at hK
      rw [← hK, hv] at cT
      have g' : ((c : Int) == 34) = true := by rw [g]; rfl
      have HK := Lib.hid hv
      clear hK g cM cS cL0 cD0 hG h2
      go_wp2_with fail
      refine (cT _).mono ?_
      rintro e w2 ⟨rfl, ho2⟩
      have hB2 := hB0.kept ho2 (fun h => h)
      obtain ⟨⟨z0, z1, z2, z3, z4⟩, y0, y1, y2, y3, y4⟩ := hB2.five
      have HO := Lib.hid (ho0.trans ho2 (fun _ _ h => h))
      clear ho0 ho2 hB0
      go_wp2_with fail
      refine bodyPost_ret (results_row_tmp rfl _ _ rb 35 _ (0, 0) _ _ rfl rfl (hB2.put5 _ _ _ _ _) Tryd.underlying35 rfl (by kernel_rfl)) rfl ?_
      exact ⟨by rw [HK.out]; rfl, HO.out.put5 (Nat.le_of_eq hrb) _ _ _ _ _⟩
    · rw [if_neg g, hG] at hK
      have g' : ((c : Int) == 34) = false := not_beq (by omega)
      obtain ⟨⟨z0, z1, z2, z3, z4⟩, y0, y1, y2, y3, y4⟩ := hB0.five
      have HO := Lib.hid ho0
      obtain ⟨q, hq⟩ : ∃ q, sigB c = q := ⟨_, rfl⟩
      rw [hq] at cS hK
      clear hv cT cM cL0 cD0 hG ho0 hq
      by_cases g1 : i + 1 < n
      · have e2 : (i : Int) + 2 ≤ (n : Int) := by omega
        have e3 : (i : Int) + 1 < (n : Int) := by omega
        have e4 : (i : Int) + 1 ≤ (n : Int) := by omega
        have e5 : ((i : Int) + 1).toNat = i + 1 := by omega
        replace h2 := h2 g1
        obtain ⟨z, hz⟩ : ∃ z, s.extract i (i + 2) = z := ⟨_, rfl⟩
        rw [hz] at h2
        have RT : Hid (twoB c d = true → Ending.returned (.tuple #[.agg #[.int .i64 5, .int .i64 (i : Int), .int .i64 ((i : Int) + 2), .string z, .int .i32 0], .int .i64 0]) = .returned (symV s R)) := Lib.hid (fun h => by
          rw [← hz]; exact retTokI s _ 5 i (i + 2) i (i + 2) (by rw [hK, if_pos ⟨g1, h⟩]))
        have HK2 : Hid (twoB c d = false → (if q = true then .ok ⟨5, i, i + 1, i, i + 1, 0⟩ else .error 30) = R) := Lib.hid (fun h => by
          have hK' := hK
          rw [if_neg (show ¬ (i + 1 < n ∧ twoB c d = true) by rw [h]; simp)] at hK'
          exact hK'.symm)
        clear hK
        go_wp2_with fail
        all_goals first
          | (have ht : twoB c d = true := by (unfold twoB; simp; omega)
             refine bodyPost_ret (results_row_tmp rfl _ _ rb 35 _ (0, 0) _ _ rfl rfl (hB0.put5 _ _ _ _ _) Tryd.underlying35 rfl (by kernel_rfl)) rfl ?_
             exact ⟨RT.out ht, HO.out.put5 (Nat.le_of_eq hrb) _ _ _ _ _⟩)
          | skip
        have ht : twoB c d = false := by
          unfold twoB; simp; omega
        have hK := HK2.out ht
        clear ht HK2 RT
        refine (cS _).mono ?_
        rintro e wq ⟨rfl, rfl⟩
        clear cS
        cases q
        · rw [if_neg (by decide)] at hK
          have HR2 := Lib.hid hK
          clear hK
          go_wp2_with fail
          refine bodyPost_ret (results_row_tmp rfl _ _ rb 35 _ (0, 0) _ _ rfl rfl (hB0.put5 _ _ _ _ _) Tryd.underlying35 rfl (by kernel_rfl)) rfl ?_
          exact ⟨retNo (s := s) (e := 30) HR2.out.symm, HO.out.put5 (Nat.le_of_eq hrb) _ _ _ _ _⟩
        · rw [if_pos rfl] at hK
          have HR2 := Lib.hid hK
          clear hK
          go_wp2_with fail
          refine bodyPost_ret (results_row_tmp rfl _ _ rb 35 _ (0, 0) _ _ rfl rfl (hB0.put5 _ _ _ _ _) Tryd.underlying35 rfl (by kernel_rfl)) rfl ?_
          exact ⟨retTokI s _ 5 i (i + 1) i (i + 1) HR2.out.symm, HO.out.put5 (Nat.le_of_eq hrb) _ _ _ _ _⟩
      · have e3 : ¬ (i : Int) + 1 < (n : Int) := by omega
        have e4 : (i : Int) + 1 ≤ (n : Int) := by omega
        have e5 : ((i : Int) + 1).toNat = i + 1 := by omega
        rw [if_neg (fun h => g1 h.1)] at hK
        replace hK := hK.symm
        clear h2
        go_wp2_with fail
        refine (cS _).mono ?_
        rintro e wq ⟨rfl, rfl⟩
        clear cS
        cases q
        · rw [if_neg (by decide)] at hK
          have HR2 := Lib.hid hK
          clear hK
          go_wp2_with fail
          refine bodyPost_ret (results_row_tmp rfl _ _ rb 35 _ (0, 0) _ _ rfl rfl (hB0.put5 _ _ _ _ _) Tryd.underlying35 rfl (by kernel_rfl)) rfl ?_
          exact ⟨retNo (s := s) (e := 30) HR2.out.symm, HO.out.put5 (Nat.le_of_eq hrb) _ _ _ _ _⟩
        · rw [if_pos rfl] at hK
          have HR2 := Lib.hid hK
          clear hK
          go_wp2_with fail
          refine bodyPost_ret (results_row_tmp rfl _ _ rb 35 _ (0, 0) _ _ rfl rfl (hB0.put5 _ _ _ _ _) Tryd.underlying35 rfl (by kernel_rfl)) rfl ?_
          exact ⟨retTokI s _ 5 i (i + 1) i (i + 1) HR2.out.symm, HO.out.put5 (Nat.le_of_eq hrb) _ _ _ _ _⟩
  · rw [if_pos rfl] at hK
    replace cM := cM rfl
    rw [← hK, hv] at cM
    have HK := Lib.hid hv
    clear hK cT cS cL0 cD0 hG h2
    go_wp2_with fail
    refine (cM _).mono ?_
    rintro e w2 ⟨rfl, ho2⟩
    have hB2 := hB0.kept ho2 (fun h => h)
    obtain ⟨⟨z0, z1, z2, z3, z4⟩, y0, y1, y2, y3, y4⟩ := hB2.five
    have HO := Lib.hid (ho0.trans ho2 (fun _ _ h => h))
    clear ho0 ho2 hB0
    go_wp2_with fail
    refine bodyPost_ret (results_row_tmp rfl _ _ rb 35 _ (0, 0) _ _ rfl rfl (hB2.put5 _ _ _ _ _) Tryd.underlying35 rfl (by kernel_rfl)) rfl ?_
    exact ⟨by rw [HK.out]; rfl, HO.out.put5 (Nat.le_of_eq hrb) _ _ _ _ _⟩
end Go.Proofs.YtbpdhpfcknaaiaaDoor
