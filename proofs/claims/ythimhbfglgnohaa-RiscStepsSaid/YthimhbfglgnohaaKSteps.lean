/- The walk of the law RiscSteps. -/
import Derived.Test.YthimhbfglgnohaaKRaw
import Derived.Test.YthimhbfglgnohaaKTog
set_option linter.unusedSimpArgs false
set_option linter.unusedVariables false
namespace Go.Proofs.Ythimhbfglgnohaa
open Go.RowKit M

set_option maxRecDepth 20000 in
set_option maxHeartbeats 3200000 in
theorem steps_any (b off : Nat) (ao : Option Addr) (n cap : Nat) (L : List LIns) (bi : Nat) (ai : Option Addr) (ni ci : Nat) (B : List Nat) (W fu : Nat) (w : World) (hr : LRow w b off L) (hn : L.length = n) (ha : 0 < n → ao = some ⟨b, off, none⟩)
    (hs : Src w bi (.slice ai ni ci) (U8s B)) (hl : B.length = ni) (hB : ∀ x ∈ B, x < 256) (r1 : BRow (fun k => w.heap.size ≤ k) w (.slice ai ni ci) B) (hW : W ≤ 255) (hfu : fu ≤ 255) :
    Calls Try.prog 3 #[.slice ao n cap, .int .u8 W, .slice ai ni ci, .int .u8 fu] w fun e w' => e = .returned (.bool true) ∧ Only Nil w w' := by
  have cK := known_any w
  obtain ⟨i0, hi, hz0, hz1, hz2⟩ := info_parts infoU32
  by_cases h40 : 40 < n
  · have h40' : (40 : Int) < (n : Int) := by omega
    clear hr ha hs hl hB r1
    go_enter Try.func3, Try.ntmps3
    go_wp2_with fail
    refine cK.mono ?_
    rintro e w1 ⟨rfl, ho1⟩
    clear cK
    go_wp2_with fail
    go_ret
    exact ⟨rfl, ho1⟩
  · have h40' : (n : Int) ≤ 40 := by omega
    by_cases h20 : 40 < ni
    · have h20' : (40 : Int) < (ni : Int) := by omega
      clear hr ha hs hl hB r1
      go_enter Try.func3, Try.ntmps3
      go_wp2_with fail
      refine cK.mono ?_
      rintro e w1 ⟨rfl, ho1⟩
      clear cK
      go_wp2_with fail
      go_ret
      exact ⟨rfl, ho1⟩
    · have h20' : (ni : Int) ≤ 40 := by omega
      have HR := Lib.hid hr
      have HN := Lib.hid hn
      have HA := Lib.hid ha
      have HS := Lib.hid hs
      have HL := Lib.hid hl
      have HB := Lib.hid hB
      have HR1 := Lib.hid r1
      clear hr hn ha hs hl hB r1
      go_enter Try.func3, Try.ntmps3
      go_wp2_with fail
      refine cK.mono ?_
      rintro e w1 ⟨rfl, ho1⟩
      clear cK
      go_wp2_with fail
      go_loopg [9, 10] n (fun m t i wr => ∃ ws : List Ins, m ≤ n ∧ i = .int .i64 ((n - m : Nat) : Int) ∧ (∀ x ∈ ws, x.Good) ∧ ws.length = n - m ∧ wr.ownsRow w.heap.size 26 1 t (n - m) (U32s (ws.map enc)) ∧ Only Nil w wr)
      case atStart => exact ⟨[], Nat.le_refl _, by simp, nofun, by simp, by simpa [U32s] using World.ownsRow_nil _ _ _ _, ho1⟩
      case round =>
        clear ho1
        obtain ⟨ws, hm, rfl, hgood, hwl, hown, ho⟩ := hrel
        obtain ⟨m, rfl⟩ : ∃ m, m = gk := ⟨gk, rfl⟩
        obtain ⟨k, hk⟩ : ∃ k, n - m = k := ⟨_, rfl⟩
        rw [hk] at hown hwl ⊢
        have hkn : k ≤ n := by omega
        have HK := Lib.hid hk
        have HWS := Lib.hid hgood
        have HWL := Lib.hid hwl
        clear hk hgood hwl
        by_cases hkl : k < n
        · have hkl2 : k < L.length := by rw [HN.out]; exact hkl
          have hat : L[k]? = some L[k] := List.getElem?_eq_getElem hkl2
          obtain ⟨y, hy⟩ : ∃ y, L[k] = y := ⟨_, rfl⟩
          rw [hy] at hat
          have hao := HA.out (by omega)
          obtain ⟨hyk, hyc⟩ := (HR.out.kept ho (fun h => h)) k y hat
          have r0 := hyc 0 (by decide)
          have r1 := hyc 1 (by decide)
          have r2 := hyc 2 (by decide)
          have r3 := hyc 3 (by decide)
          have r4 := hyc 4 (by decide)
          have r5 := hyc 5 (by decide)
          have r6 := hyc 6 (by decide)
          have r7 := hyc 7 (by decide)
          obtain ⟨q1, q2, q3, q4, q5, q6, q7⟩ := hyk
          have cW := fun w => word_of y.F y.A y.B y.C y.O y.u y.v y.m w q1 q2 q3 q4 q5 q6 q7
          obtain ⟨F, A, Bx, C, O, u, v, mm⟩ := y
          unfold LIns.cells at r0 r1 r2 r3 r4 r5 r6 r7
          simp only [List.getElem?_toArray, List.getElem?_cons_zero, List.getElem?_cons_succ, Nat.add_zero] at r0 r1 r2 r3 r4 r5 r6 r7 cW
          subst hao
          have hsz := ho.size
          have k0 : (0 : Int) ≤ (k : Int) := Int.natCast_nonneg _
          have k1 : (k : Int) < (n : Int) := by omega
          clear hy hat hyc q1 q2 q3 q4 q5 q6 q7
          go_wp2_with fail
          refine (cW _).mono ?_
          rintro e w2 ⟨x, hxg, rfl, ho2⟩
          clear cW
          have hsz2 := ho2.size
          have hown2 : w2.ownsRow w.heap.size 26 1 u9 k (U32s (ws.map enc)) := ownsRow_only hown ho2 (fun _ _ h => h)
          have hown3 := hown2
          clear r0 r1 r2 r3 r4 r5 r6 r7 hown
          go_wp2_with (with_reducible refine wpList_append_one rfl _ _ 25 rfl w.heap.size 26 i0 (.int .u32 0) 4 Try.underlying25 hi hz0 hz1 hz2 rfl _ _ _ rfl hown3 _ rfl rfl ?c1 ?c2 ?c3 ?_)
          case c1 => simp [maxLen]; omega
          case c2 => omega
          case c3 => omega
          intro g cap2 w3 hown4 hc4 hc5 hg4 ho4
          have ho5 : Only Nil w w3 := (ho.trans ho2 (fun _ _ h => h)).nil_own hown2 ho4
          clear hown2 hown3 ho4 ho2 ho hsz hsz2 hg4
          go_wp2_with fail
          go_roundg (m - 1)
          case measure => have := HK.out; omega
          case rel =>
            refine ⟨ws ++ [x], by omega, by have := HK.out; go_num, ?_, ?_, ?_, ho5⟩
            · intro z hz
              rcases List.mem_append.1 hz with hz | hz
              · exact HWS.out z hz
              · rw [List.mem_singleton.1 hz]; exact hxg
            · rw [List.length_append, HWL.out, List.length_singleton]; have := HK.out; omega
            · rw [show n - (m - 1) = k + 1 by have := HK.out; omega, List.map_append, List.map_cons, List.map_nil]
              simpa [U32s] using hown4
        · have hkl2 : k = n := by omega
          subst hkl2
          obtain ⟨code, hcode⟩ : ∃ code, ws.map enc = code := ⟨_, rfl⟩
          have hcl : code.length = k := by rw [← hcode, List.length_map, HWL.out]
          have hclt : ∀ x ∈ code, x < 4294967296 := by rw [← hcode]; exact map_lt HWS.out
          rw [hcode] at hown
          have hcl0 : code.length ≤ 1048576 := by omega
          have HCLT := Lib.hid hclt
          have HCL := Lib.hid hcl0
          clear hcode hclt hcl hcl0
          obtain ⟨r, hr⟩ : ∃ r, W % 40 = r := ⟨_, rfl⟩
          have hr40 : r < 40 := by omega
          have er : (W : Int) % 40 = (r : Int) := by omega
          obtain ⟨s, hs⟩ : ∃ s, s0 r B = s := ⟨_, rfl⟩
          have hsok : s.Ok := by rw [← hs]; exact s0_ok r B (by omega) HB.out
          have hsfr : Free s := by rw [← hs]; exact s0_free r B
          have hsout : s.out.length = 0 := by rw [← hs]; rfl
          have HSE := Lib.hid hs
          have HOK := Lib.hid hsok
          have HFR := Lib.hid hsfr
          have HSO := Lib.hid hsout
          have hsB := HS.out.kept ho (fun _ h => h)
          have hNn : (if (1048576 : Int) < (if (r : Int) < 0 then 0 else (r : Int)) then 1048576 else (if (r : Int) < 0 then 0 else (r : Int))) = ((r : Nat) : Int) := by
            rw [if_neg (by omega), if_neg (by omega)]
          have cN := new_any (Q := Nil) code B (r : Int) r hNn (u9.ownBlock.getD 0) bi u9 (.slice ai ni ci) wr (Src.of_own hown) hsB HCL.out (by have := HL.out; omega) (by omega) (fun _ h => h.elim)
          have HNN := Lib.hid hNn
          have HER := Lib.hid er
          have H40 := Lib.hid hr40
          clear hs hsok hsfr hsout hsB hNn er hr hr40
          go_wp2_with fail
          (try rw [HER.out])
          refine cN.mono ?_
          rintro e w5 ⟨mb, wb, cv, iv, rfl, hmb, hwb, ho5, hM5⟩
          clear cN
          rw [HSE.out] at hM5
          have ho5' : Only Nil w w5 := ho.trans ho5 (fun _ _ h => h)
          have hm5 : w.heap.size ≤ mb := Nat.le_trans ho.size hmb
          have hw5 : w.heap.size ≤ wb := Nat.le_trans ho.size hwb
          have hq : ∀ k, k < w.heap.size → Own3 mb wb none k → w.heap.size ≤ k := by
            intro k hk h
            rcases h with h | h | h
            · omega
            · omega
            · cases h
          have hown5 := ownsRow_only hown ho5 (fun _ _ h => h)
          have hcr : CRow (Own3 mb wb none) w5 u9 code := crow_of_own hown5 (fun k hk h => by
            have h1 := (own_lt hown hk).1
            rcases h with h | h | h
            · omega
            · omega
            · cases h)
          have cD := dnew_any (Q := Own3 mb wb none) code B (r : Int) r HNN.out (by have := H40.out; omega) _ _ w5 hcr ((HR1.out.less hq).kept ho5' (fun _ h => h.elim))
          clear ho5 hmb hwb hown hown5 hcr hq
          go_wp2_with fail
          (try rw [HER.out])
          refine cD.mono ?_
          rintro e w6 ⟨db, vb, rfl, hdb, hvb, ho6, hD6⟩
          clear cD
          rw [HSE.out] at hD6
          have hP6 := pair_made hM5 ho6 hdb hvb hD6
          have hB6 : Pair.Behind ⟨mb, wb, none, cv, iv, .slice none 0 0⟩ ⟨db, vb, none, u9, .slice ai ni ci, .slice none 0 0⟩ w.heap.size := by
            have hz := ho5'.size
            refine ⟨fun k h => ?_, fun k h => ?_⟩
            · rcases h with h | h | h
              · have h : k = mb := h
                omega
              · have h : k = wb := h
                omega
              · cases h
            · rcases h with h | h | h
              · have h : k = db := h
                omega
              · have h : k = vb := h
                omega
              · cases h
          have ho6' : Only Nil w w6 := ho5'.trans ho6 (fun _ _ h => h)
          clear hM5 hD6 ho6 ho5' hdb hvb hm5 hw5 ho
          go_wp2_with fail
          go_loopg [13] fu (fun m i wr => ∃ (ob : Option Nat) (ivx ovx : Value) (dob : Option Nat) (div dov : Value) (t : St), m ≤ fu ∧ i = .int .i64 ((fu - m : Nat) : Int) ∧ Pair wr ⟨mb, wb, ob, cv, ivx, ovx⟩ ⟨db, vb, dob, u9, div, dov⟩ code t t ∧ Pair.Behind ⟨mb, wb, ob, cv, ivx, ovx⟩ ⟨db, vb, dob, u9, div, dov⟩ w.heap.size ∧ Only Nil w wr ∧ t.Ok ∧ Free t ∧ t.out.length ≤ fu - m)
          case atStart => exact ⟨none, iv, .slice none 0 0, none, .slice ai ni ci, .slice none 0 0, s, Nat.le_refl _, by simp, hP6, hB6, ho6', HOK.out, HFR.out, by rw [HSO.out]; exact Nat.zero_le _⟩
          case round =>
            clear hP6 hB6 ho6'
            obtain ⟨ob, ivx, ovx, dob, div, dov, t, hmf, rfl, hP, hB, hox, hok, hfr, hlen⟩ := hrel
            obtain ⟨gm, rfl⟩ : ∃ m, m = gk := ⟨gk, rfl⟩
            obtain ⟨j, hj⟩ : ∃ j, fu - gm = j := ⟨_, rfl⟩
            rw [hj] at hlen ⊢
            by_cases hjf : j < fu
            · obtain ⟨t2, ht2⟩ : ∃ t2, M.step code t = t2 := ⟨_, rfl⟩
              obtain ⟨bf, hbf⟩ : ∃ b, (t.fin == 0) = b := ⟨_, rfl⟩
              have ok2 := step_ok hok HCLT.out HCL.out
              have fr2 := step_free hok HCLT.out hfr (code := code)
              rw [ht2] at ok2 fr2
              have cS := step_any mb wb ob code cv ivx ovx t wr hok HCLT.out HCL.out hP.pm (by omega)
              rw [hbf, ht2] at cS
              have HJ := Lib.hid hj
              have HP := Lib.hid hP
              have HBB := Lib.hid hB
              have HOX := Lib.hid hox
              have HOKT := Lib.hid hok
              have HFRT := Lib.hid hfr
              have HLEN := Lib.hid hlen
              have HT2 := Lib.hid ht2
              have HBF := Lib.hid hbf
              have HOK2 := Lib.hid ok2
              have HFR2 := Lib.hid fr2
              have j1 : (j : Int) < (fu : Int) := by omega
              have j0 : (0 : Int) ≤ (j : Int) := Int.natCast_nonneg _
              have ebb : (bf != bf) = false := by simp
              clear hj hP hB hox hok hfr hlen ht2 hbf ok2 fr2
              go_wp2_with fail
              refine cS.mono ?_
              rintro e w7 ⟨ob7, iv7, ov7, rfl, hw7, hM7⟩
              clear cS
              have hP7 := HP.out.wentM hw7 hM7
              have hB7 := Pair.behindM HBB.out hw7 HOX.out.size (iv' := iv7) (ov' := ov7)
              have ho7 := only_went HOX.out hw7 HBB.out.1
              have cE := dstep_any db vb dob code u9 div dov t w7 HOKT.out HCLT.out HCL.out hP7.pd HFRT.out (by have := HLEN.out; omega)
              unfold DStepped at cE
              rw [HBF.out, HT2.out] at cE
              have HP7 := Lib.hid hP7
              have HB7 := Lib.hid hB7
              have HO7 := Lib.hid ho7
              clear hP7 hB7 ho7 hw7 hM7
              go_wp2_with fail
              refine cE.mono ?_
              rintro e w8 ⟨ob8, iv8, ov8, rfl, hw8, hM8⟩
              clear cE
              have hP8 := HP7.out.wentD hw8 hM8
              have hB8 := Pair.behindD HB7.out hw8 HO7.out.size (iv' := iv8) (ov' := ov8)
              have ho8 := only_went HO7.out hw8 HB7.out.2
              have cC := same_any _ _ code t2 w8 hP8 (by have h1 := HOK2.out.2.2; have h2 := HLEN.out; omega)
              have HP8 := Lib.hid hP8
              have HB8 := Lib.hid hB8
              have HO8 := Lib.hid ho8
              clear hP8 hB8 ho8 hw8 hM8
              go_wp2_with fail
              refine cC.mono ?_
              rintro e w9 ⟨rfl, ho9⟩
              clear cC
              go_wp2_with fail
              go_roundg (gm - 1)
              case measure => have := HJ.out; omega
              case rel => exact ⟨ob7, iv7, ov7, ob8, iv8, ov8, t2, by omega, by have := HJ.out; go_num, HP8.out.quiet ho9, HB8.out, HO8.out.trans ho9 (fun _ _ h => h), HOK2.out.1, HFR2.out, by have h1 := HOK2.out.2.2; have h2 := HLEN.out; have := HJ.out; omega⟩
            · have hj2 : j = fu := by omega
              have cW := words_any _ _ code t wr hP hok
              have j1 : ¬ (j : Int) < (fu : Int) := by omega
              have HOX := Lib.hid hox
              clear hP hB hok hfr hlen hj hox hmf
              subst hj2
              go_wp2_with fail
              refine cW.mono ?_
              rintro e w11 ⟨rfl, ho11⟩
              clear cW
              go_wp2_with fail
              go_ret
              exact ⟨rfl, HOX.out.trans ho11 (fun _ _ h => h)⟩
end Go.Proofs.Ythimhbfglgnohaa
