/- Check, the document's. -/
import Derived.Test.YtbgmdckfkfkglaaHChk
set_option linter.unusedSimpArgs false
set_option linter.unusedVariables false
namespace Go.Proofs.Ytbgmdckfkfkglaa
open Go.RowKit M

theorem right_bool (n : Nat) (op k : Int) (g : Bool) (hg : decide (Cod.mk op k).Good = g) : (!decide ((Cod.mk op k).Right n)) =
    (if op = 25 ∨ op = 26 ∨ op = 27 then (!g || !(decide (0 ≤ k) && decide (k < n))) else if op = 28 ∨ op = 8 then (!g || !(decide (0 ≤ k) && decide (k ≤ 1048576))) else if op = 30 then (!g || !(decide (1 ≤ k) && decide (k ≤ 15))) else !g) := by
  rw [← hg]
  have e : decide ((Cod.mk op k).Right n) = (decide (Cod.mk op k).Good && (decide ((op = 25 ∨ op = 26 ∨ op = 27) → 0 ≤ k ∧ k < n) && (decide ((op = 28 ∨ op = 8) → 0 ≤ k ∧ k ≤ 1048576) && decide (op = 30 → 1 ≤ k ∧ k ≤ 15)))) := by
    rw [Bool.eq_iff_iff]
    simp only [decide_eq_true_eq, Bool.and_eq_true]
    rfl
  rw [e]
  obtain ⟨G, hG⟩ : ∃ G, decide (Cod.mk op k).Good = G := ⟨_, rfl⟩
  rw [hG]
  split
  · rename_i h
    have h1 : ¬ (op = 28 ∨ op = 8) := by omega
    have h2 : ¬ op = 30 := by omega
    cases G <;> simp [h, h1, h2]
  · rename_i h
    split
    · rename_i h1
      have h2 : ¬ op = 30 := by omega
      cases G <;> simp [h, h1, h2]
    · rename_i h1
      split
      · rename_i h2
        cases G <;> simp [h, h1, h2]
      · rename_i h2
        cases G <;> simp [h, h1, h2]

set_option maxRecDepth 10000 in
set_option maxHeartbeats 3200000 in
theorem chkR_any (b : Nat) (ao : Option Addr) (n cap : Nat) (L : List Cod) (w : World) (hs : CSrc w b (.slice ao n cap) L) (hn : L.length = n) (hf : ∀ c ∈ L, c.Fits) (hl : n ≤ 1000) :
    Calls Try.prog 16 #[.slice ao n cap] w fun e w' => e = .returned (chkR L) ∧ Only Nil w w' := by
  obtain ⟨ao', cap', off, e, h2, h3, h4, h5⟩ := hs
  simp only [Value.slice.injEq] at e
  obtain ⟨rfl, hxx, rfl⟩ := e
  clear hxx
  rw [hn] at h2 h4
  have HN := Lib.hid hn
  have H4 := Lib.hid h4
  have H5 := Lib.hid h5
  have HF := Lib.hid hf
  unfold maxLen at h3
  clear hn h4 h5 hf
  go_enter Try.func16, Try.ntmps16
  go_wp2_with fail
  go_loopg [3] n (fun m i wr => m ≤ n ∧ i = .int .i64 ((n - m : Nat) : Int) ∧ (∀ j, j < n - m → badAt L j = false) ∧ Only Nil w wr)
  case atStart => exact ⟨Nat.le_refl _, by simp, fun j hj => by omega, Only.refl _ _⟩
  case round =>
    obtain ⟨hm, rfl, hr, ho⟩ := hrel
    obtain ⟨m, rfl⟩ : ∃ m, m = gk := ⟨gk, rfl⟩
    obtain ⟨k, hk⟩ : ∃ k, n - m = k := ⟨_, rfl⟩
    rw [hk] at hr ⊢
    have hkn : k ≤ n := by omega
    have HK := Lib.hid hk
    have HR := Lib.hid hr
    clear hk hr
    by_cases hkl : k < n
    · have hkl2 : k < L.length := by rw [HN.out]; exact hkl
      have hat : L[k]? = some L[k] := List.getElem?_eq_getElem hkl2
      have hfit := HF.out _ (List.getElem_mem hkl2)
      have hgd : L.getD k default = L[k] := by simp [List.getD, hkl2]
      obtain ⟨y, hy⟩ : ∃ y, L[k] = y := ⟨_, rfl⟩
      rw [hy] at hat hfit hgd
      have hao := H4.out (by omega)
      subst hao
      obtain ⟨r0, r1⟩ := (H5.out.kept ho (fun h => h)) k y hat
      obtain ⟨op, kk⟩ := y
      obtain ⟨⟨f1, f2⟩, f3, f4⟩ := hfit
      simp only at r0 r1 f1 f2 f3 f4
      have k0 : (0 : Int) ≤ (k : Int) := Int.natCast_nonneg _
      have k1 : (k : Int) < (n : Int) := by omega
      have hsz := ho.size
      have cG := fun w => good_any op kk w
      obtain ⟨g, hg⟩ : ∃ g, decide (Cod.mk op kk).Good = g := ⟨_, rfl⟩
      have hrb := right_bool n op kk g hg
      rw [hg] at cG
      obtain ⟨R, hR⟩ : ∃ R, (!decide ((Cod.mk op kk).Right n)) = R := ⟨_, rfl⟩
      rw [hR] at hrb
      have hbad : badAt L k = (R || (decide (k + 1 = n) && goesOn op)) := by unfold badAt; rw [hgd, HN.out, ← hR]
      have kw : IntKind.i64.wrap kk = kk := by rw [IntKind.wrap_i64]; omega
      have cE := fun w => ends_any op w
      obtain ⟨q, hq⟩ : ∃ q, goesOn op = q := ⟨_, rfl⟩
      rw [hq] at cE hbad
      have HRB := Lib.hid hrb
      have HBAD := Lib.hid hbad
      clear hat hg hR hrb hbad hgd hy hkl2 hq
      go_wp2_with fail
      refine (cG _).mono ?_
      rintro e w1 ⟨rfl, ho1⟩
      clear cG
      have hB := (Blk.new wr #[Value.int .i64 op, .int .i32 kk] 49).kept ho1 (fun h => h)
      have ho2 : Only Nil w w1 := ho.trans (((Only.refl Nil wr).alloc _).trans ho1 (fun _ _ h => h)) (fun _ _ h => h)
      obtain ⟨bk, hbk⟩ : ∃ b, wr.heap.size = b := ⟨_, rfl⟩
      rw [hbk] at hB ⊢
      have b0 := hB.cell 0
      have b1 := hB.cell 1
      simp only [List.getElem?_toArray, List.getElem?_cons_zero, List.getElem?_cons_succ] at b0 b1
      have hBlt := hB.lt
      clear r0 r1 ho1 hbk
      go_upto_block 2 with fail
      have HG := Lib.hid ho2
      clear ho2 ho
      go_cut [6] (fun s6 wx => s6 = .bool R ∧ w1 = wx)
      case first =>
        by_cases g1 : op = 25 ∨ op = 26 ∨ op = 27
        · have cI := fun w => in_any kk 0 ((n : Int) - 1) w
          have hR := HRB.out
          rw [if_pos g1] at hR
          obtain ⟨q1, hq1⟩ : ∃ q1, (decide (0 ≤ kk) && decide (kk ≤ (n : Int) - 1)) = q1 := ⟨_, rfl⟩
          have hq2 : (decide (0 ≤ kk) && decide (kk < (n : Int))) = q1 := by rw [← hq1]; congr 1; rw [decide_eq_decide]; omega
          rw [hq1] at cI
          rw [hq2] at hR
          have HR1 := Lib.hid hR
          clear hq1 hq2 hR hkl f1 f2 f3 f4 hm
          rcases g1 with rfl | rfl | rfl
          all_goals
            cases g
            all_goals
              go_wp2_with (go_at_call 47; refine (cI _).mono ?_; rintro e w9 ⟨rfl, rfl⟩)
              go_meet
              exact ⟨by rw [HR1.out]; rfl, rfl⟩
        · have n1 : (op == 25) = false := not_beq (by omega)
          have n2 : (op == 26) = false := not_beq (by omega)
          have n3 : (op == 27) = false := not_beq (by omega)
          by_cases g2 : op = 28 ∨ op = 8
          · have cI := fun w => in_any kk 0 1048576 w
            have hR := HRB.out
            rw [if_neg g1, if_pos g2] at hR
            obtain ⟨q1, hq1⟩ : ∃ q1, (decide (0 ≤ kk) && decide (kk ≤ 1048576)) = q1 := ⟨_, rfl⟩
            rw [hq1] at cI hR
            have HR1 := Lib.hid hR
            clear hq1 hR hkl f1 f2 f3 f4 hm n1 n2 n3 g1
            rcases g2 with rfl | rfl
            all_goals
              cases g
              all_goals
                go_wp2_with (go_at_call 47; refine (cI _).mono ?_; rintro e w9 ⟨rfl, rfl⟩)
                go_meet
                exact ⟨by rw [HR1.out]; rfl, rfl⟩
          · have n4 : (op == 28) = false := not_beq (by omega)
            have n5 : (op == 8) = false := not_beq (by omega)
            by_cases g3 : op = 30
            · have cI := fun w => in_any kk 1 15 w
              have hR := HRB.out
              rw [if_neg g1, if_neg g2, if_pos g3] at hR
              obtain ⟨q1, hq1⟩ : ∃ q1, (decide (1 ≤ kk) && decide (kk ≤ 15)) = q1 := ⟨_, rfl⟩
              rw [hq1] at cI hR
              have HR1 := Lib.hid hR
              clear hq1 hR hkl f1 f2 f3 f4 hm n1 n2 n3 n4 n5 g1 g2
              subst g3
              cases g
              all_goals
                go_wp2_with (go_at_call 47; refine (cI _).mono ?_; rintro e w9 ⟨rfl, rfl⟩)
                go_meet
                exact ⟨by rw [HR1.out]; rfl, rfl⟩
            · have n6 : (op == 30) = false := not_beq g3
              have hR := HRB.out
              rw [if_neg g1, if_neg g2, if_neg g3] at hR
              have HR1 := Lib.hid hR
              clear hR hkl f1 f2 f3 f4 hm g1 g2 g3
              go_wp2_with fail
              go_meet
              exact ⟨by rw [HR1.out], rfl⟩
      case rest =>
        obtain ⟨rfl, rfl⟩ := hcut
        have hbad := HBAD.out
        by_cases hkn1 : k + 1 = n
        · have e1 : ((k : Int) == (n : Int) - 1) = true := by simp; omega
          rw [decide_eq_true hkn1] at hbad
          have HB := Lib.hid hbad
          have HE := Lib.hid hkn1
          clear hbad hkn1 hkl f1 f2 f3 f4
          cases q
          · cases R
            · go_wp2_with (go_at_call 48; refine (cE _).mono ?_; rintro e w9 ⟨rfl, rfl⟩)
              go_roundg (m - 1)
              case measure => have := HK.out; omega
              case rel =>
                rw [show n - (m - 1) = k + 1 by have := HK.out; omega]
                refine ⟨by omega, by have := HK.out; go_num, fun j hj => ?_, HG.out⟩
                by_cases hjk : j = k
                · rw [hjk]; exact HB.out
                · exact HR.out j (by omega)
            · go_wp2_with (go_at_call 48; refine (cE _).mono ?_; rintro e w9 ⟨rfl, rfl⟩)
              go_ret
              refine ⟨?_, HG.out⟩
              rw [chkR_some (k := k) (chk_some (by rw [HN.out]; have := HE.out; omega) HB.out (fun j hj => HR.out j hj))]
              rfl
          · have hb2 : badAt L k = true := by rw [HB.out]; cases R <;> rfl
            clear HB
            have HB := Lib.hid hb2
            clear hb2
            go_wp2_with (go_at_call 48; refine (cE _).mono ?_; rintro e w9 ⟨rfl, rfl⟩)
            go_ret
            refine ⟨?_, HG.out⟩
            rw [chkR_some (k := k) (chk_some (by rw [HN.out]; have := HE.out; omega) HB.out (fun j hj => HR.out j hj))]
            rfl
        · have e1 : ((k : Int) == (n : Int) - 1) = false := not_beq (by omega)
          rw [decide_eq_false hkn1] at hbad
          have HB := Lib.hid hbad
          clear hbad hkn1 f1 f2 f3 f4
          cases R
          · go_wp2_with fail
            go_roundg (m - 1)
            case measure => have := HK.out; omega
            case rel =>
              rw [show n - (m - 1) = k + 1 by have := HK.out; omega]
              refine ⟨by omega, by have := HK.out; go_num, fun j hj => ?_, HG.out⟩
              by_cases hjk : j = k
              · rw [hjk]; exact HB.out
              · exact HR.out j (by omega)
          · go_wp2_with fail
            go_ret
            refine ⟨?_, HG.out⟩
            rw [chkR_some (k := k) (chk_some (by rw [HN.out]; exact hkl) HB.out (fun j hj => HR.out j hj))]
            rfl
    · have hkl2 : k = n := by omega
      subst hkl2
      by_cases h0 : k = 0
      · have e := HN.out
        subst h0
        go_wp2_with fail
        go_ret
        exact ⟨by rw [chkR_some (chk_nil e)]; rfl, ho⟩
      · have h0' : ((k : Int) == 0) = false := not_beq (by omega)
        go_wp2_with fail
        go_ret
        exact ⟨by rw [chkR_none (chk_none (by rw [HN.out]; omega) (fun j hj => HR.out j (by rw [HN.out] at hj; exact hj)))]; rfl, ho⟩
end Go.Proofs.Ytbgmdckfkfkglaa
