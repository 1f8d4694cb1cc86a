/- The walk of the law StackSteps. -/
import Derived.Test.YtpnhjjihdcopnaaTSee
import Derived.Test.YtpnhjjihdcopnaaHMade
set_option linter.unusedSimpArgs false
set_option linter.unusedVariables false
namespace Go.Proofs.Ytpnhjjihdcopnaa
open Go.RowKit M

set_option maxRecDepth 20000 in
set_option maxHeartbeats 3200000 in
theorem steps9_any (cb ib : Nat) (a0 : Option Addr) (n0 c0 : Nat) (a1 : Option Addr) (n1 c1 : Nat) (L : List Cod) (inp : List Nat) (N B F : Nat) (w : World) (hl0 : L.length = n0) (hl1 : inp.length = n1) (hc : ∀ c ∈ L, c.Fits) (hi : ∀ x ∈ inp, x < 256)
    (s0' : CSrc w cb (.slice a0 n0 c0) L) (s1' : Src w ib (.slice a1 n1 c1) (U8s inp)) (r1 : BytRow (fun k => w.heap.size ≤ k) w (.slice a1 n1 c1) inp) (hN : N ≤ 255) (hB : B ≤ 255) (hF : F ≤ 255) :
    Calls Try.prog 3 #[.slice a0 n0 c0, .int .u8 N, .int .u8 B, .slice a1 n1 c1, .int .u8 F] w fun e w' => e = .returned (.bool true) ∧ Only Nil w w' := by
  have cK := known9_any w
  by_cases h60 : 40 < n0
  · have h60' : (40 : Int) < (n0 : Int) := by omega
    clear hl0 hl1 hc hi s0' s1' r1 h60
    go_enter Try.func3, Try.ntmps3
    go_wp2_with fail
    refine cK.mono ?_
    rintro e w1 ⟨rfl, ho1⟩
    clear cK
    go_wp2_with fail
    go_ret
    exact ⟨rfl, ho1⟩
  · have h60' : decide ((40 : Int) < (n0 : Int)) = false := by simp; omega
    by_cases h40 : 20 < n1
    · have h40' : (20 : Int) < (n1 : Int) := by omega
      clear hl0 hl1 hc hi s0' s1' r1 h60 h40
      go_enter Try.func3, Try.ntmps3
      go_wp2_with fail
      refine cK.mono ?_
      rintro e w1 ⟨rfl, ho1⟩
      clear cK
      go_wp2_with fail
      go_ret
      exact ⟨rfl, ho1⟩
    · have h40' : decide ((20 : Int) < (n1 : Int)) = false := by simp; omega
      obtain ⟨n, hnn⟩ : ∃ n, N % 60 = n := ⟨_, rfl⟩
      obtain ⟨b, hbb⟩ : ∃ b, B % 60 = b := ⟨_, rfl⟩
      have hn60 : n < 60 := by omega
      have hb60 : b < 60 := by omega
      have en : (N : Int) % 60 = (n : Int) := by omega
      have eb : (B : Int) % 60 = (b : Int) := by omega
      obtain ⟨q, hqq⟩ : ∃ q, min b n = q := ⟨_, rfl⟩
      have hq : q ≤ n := by omega
      have e1 : (if 1048576 < (if (n : Int) < 0 then 0 else (n : Int)) then 1048576 else (if (n : Int) < 0 then 0 else (n : Int))) = (n : Int) := by
        rw [if_neg (by omega), if_neg (by omega)]
      have e2 : (if (n : Int) < (if (b : Int) < 0 then 0 else (b : Int)) then (n : Int) else (if (b : Int) < 0 then 0 else (b : Int))) = (q : Int) := by
        rw [if_neg (show ¬ (b : Int) < 0 by omega)]
        split <;> omega
      have m1 : min (max (n : Int) 0) 1048576 = (n : Int) := by omega
      have m2 : min (max (b : Int) 0) (n : Int) = (q : Int) := by omega
      have hn : n ≤ 1048576 := by omega
      have hil : inp.length ≤ 1048576 := by omega
      obtain ⟨s, hs⟩ : ∃ s, ss0 n q inp = s := ⟨_, rfl⟩
      have hsok : s.Ok := by rw [← hs]; exact ss0_ok n q inp hn hq hi
      have hsfr : Free s := by rw [← hs]; exact ss0_free n q inp
      have hsout : s.out.length = 0 := by rw [← hs]; rfl
      have HS1 := Lib.hid s1'
      have HR1 := Lib.hid r1
      have HSE := Lib.hid hs
      have HOK := Lib.hid hsok
      have HFR := Lib.hid hsfr
      have HSO := Lib.hid hsout
      have HE1 := Lib.hid e1
      have HE2 := Lib.hid e2
      have HM1 := Lib.hid m1
      have HM2 := Lib.hid m2
      have HNB := Lib.hid hn
      have HIL := Lib.hid hil
      have HEN := Lib.hid en
      have HEB := Lib.hid eb
      have HFB := Lib.hid hF
      have HNL := Lib.hid (show n0 ≤ 40 by omega)
      have cM := fun w hs => made_any cb a0 n0 c0 L w hs hl0 hc (by omega)
      have HS0 := Lib.hid s0'
      have HCM := Lib.hid cM
      clear hl0 hl1 hc hi s0' s1' r1 h60 h40 e1 e2 m1 m2 hn hq hil hs hsok hsfr hsout hnn hbb en eb hqq cM hn60 hb60
      go_enter Try.func3, Try.ntmps3
      go_wp2_with fail
      refine cK.mono ?_
      rintro e w1 ⟨rfl, ho1⟩
      clear cK
      have cM := HCM.out w1 (HS0.out.kept ho1)
      go_wp2_with fail
      refine cM.mono ?_
      rintro e w2 ⟨v, code, rfl, hcl, hcf, hown, ho2⟩
      clear cM
      have ho2' : Only Nil w w2 := ho1.trans ho2 (fun _ _ h => h)
      have hcl2 : code.length ≤ 1048576 := by have := HNL.out; omega
      have hck : ∀ c ∈ code, I32 c.k := fun c h => (hcf c h).2
      have hvn : ∀ n cap, v = .slice none n cap → cap = 0 := by
        intro n cap e
        rcases hown.2 with ⟨e2, _⟩ | ⟨g, cap', cur, e2, _⟩
        · rw [e] at e2; injection e2
        · rw [e] at e2; cases e2
      have hsc : CSrc w2 (v.ownBlock.getD 0) v code := CSrc.of_own hown
      have HCL := Lib.hid hcl2
      have HC := Lib.hid hck
      have cN := newS_any (Q := Nil) code inp (n : Int) (b : Int) n q _ _ rfl HE1.out rfl HE2.out _ ib v _ w2 hsc hvn (HS1.out.kept ho2' (fun _ h => h)) HCL.out HIL.out HNB.out (fun _ h => h.elim)
      have HOW := Lib.hid hown
      have HO2 := Lib.hid ho2'
      have HO1 := Lib.hid ho1
      clear hcl hcf hcl2 hck hvn hsc hown ho2 ho2' ho1
      go_wp2_with fail
      (try rw [HEN.out, HEB.out])
      refine cN.mono ?_
      rintro e w5 ⟨mb, wb, cv, iv, rfl, hmb, hwb, ho5, hM5⟩
      clear cN
      rw [HSE.out] at hM5
      have ho5' : Only Nil w w5 := HO2.out.trans ho5 (fun _ _ h => h)
      have hm5 : w.heap.size ≤ mb := Nat.le_trans HO2.out.size hmb
      have hw5 : w.heap.size ≤ wb := Nat.le_trans HO2.out.size hwb
      have hq : ∀ k, k < w.heap.size → OwnS mb wb none none none k → w.heap.size ≤ k := by
        intro k hk h
        rcases h with h | h | h | h | h
        · omega
        · omega
        · cases h
        · cases h
        · cases h
      have hown5 := ownsRow_only HOW.out ho5 (fun _ _ h => h)
      have hcr : CodRow (OwnS mb wb none none none) w5 v code := codRow_of_own hown5 (fun k hk h => by
        have h1 := (own_lt HOW.out hk).1
        rcases h with h | h | h | h | h
        · omega
        · omega
        · cases h
        · cases h
        · cases h)
      have cD := tnew_any (Q := OwnS mb wb none none none) code inp (n : Int) (b : Int) n q HM1.out HM2.out HNB.out v _ w5 hcr ((HR1.out.less hq).kept ho5' (fun _ h => h.elim))
      clear ho5 hmb hwb hown5 hcr hq
      go_wp2_with fail
      (try rw [HEN.out, HEB.out])
      refine cD.mono ?_
      rintro e w6 ⟨db, vb, rfl, hdb, hvb, ho6, hD6⟩
      clear cD
      rw [HSE.out] at hD6
      have hP6 := pairS_made hM5 ho6 hdb hvb hD6
      have hB6 := behindS_new (cv := cv) (iv := iv) (dv := v) (div := .slice a1 n1 c1) hm5 hw5 (Nat.le_trans ho5'.size hdb) (Nat.le_trans ho5'.size hvb)
      have ho6' : Only Nil w w6 := ho5'.trans ho6 (fun _ _ h => h)
      clear hM5 hD6 ho6 ho5' hdb hvb hm5 hw5
      go_wp2_with fail
      go_loopg [14] F (fun m i wr => ∃ (sv kv ivx ovx pv dkv div dov : Value) (t : SS), m ≤ F ∧ i = .int .i64 ((F - m : Nat) : Int) ∧ PairS wr ⟨mb, wb, cv, sv, kv, ivx, ovx⟩ ⟨db, vb, v, pv, dkv, div, dov⟩ code t t ∧ PairS.Behind ⟨mb, wb, cv, sv, kv, ivx, ovx⟩ ⟨db, vb, v, pv, dkv, div, dov⟩ w.heap.size ∧ Only Nil w wr ∧ t.Ok ∧ Free t ∧ t.out.length ≤ F - m)
      case atStart => exact ⟨.slice none 0 0, .slice none 0 0, iv, .slice none 0 0, .slice none 0 0, .slice none 0 0, .slice a1 n1 c1, .slice none 0 0, s, Nat.le_refl _, by simp, hP6, hB6, ho6', HOK.out, HFR.out, by rw [HSO.out]; exact Nat.zero_le _⟩
      case round =>
        clear hP6 hB6 ho6'
        obtain ⟨sv, kv, ivx, ovx, pv, dkv, div, dov, t, hmf, rfl, hP, hB, hox, hok, hfr, hlen⟩ := hrel
        obtain ⟨gm, rfl⟩ : ∃ m, m = gk := ⟨gk, rfl⟩
        obtain ⟨j, hj⟩ : ∃ j, F - gm = j := ⟨_, rfl⟩
        rw [hj] at hlen ⊢
        by_cases hjf : j < F
        · obtain ⟨t2, ht2⟩ : ∃ t2, sStep code t = t2 := ⟨_, rfl⟩
          obtain ⟨bf, hbf⟩ : ∃ b, (t.fin == 0) = b := ⟨_, rfl⟩
          obtain ⟨ok2, len2, out2⟩ := sStep_k hok HC.out (by have := HCL.out; omega)
          have fr2 := sStep_free (code := code) hfr
          rw [ht2] at ok2 out2 fr2
          have hot : t.out.length ≤ 1099511627776 := by have := HFB.out; omega
          have cS := stepS_any mb wb code HC.out t cv sv kv ivx ovx wr hP.pm hok hot
          rw [hbf, ht2] at cS
          have HJ := Lib.hid hj
          have HP := Lib.hid hP
          have HBB := Lib.hid hB
          have HOX := Lib.hid hox
          have HOKT := Lib.hid hok
          have HFRT := Lib.hid hfr
          have HLEN := Lib.hid hlen
          have HT2 := Lib.hid ht2
          have HBF := Lib.hid hbf
          have HOK2 := Lib.hid ok2
          have HOUT2 := Lib.hid out2
          have HFR2 := Lib.hid fr2
          have HOT := Lib.hid hot
          have j1 : (j : Int) < (F : Int) := by omega
          have j0 : (0 : Int) ≤ (j : Int) := Int.natCast_nonneg _
          have ebb : (bf != bf) = false := by simp
          clear hj hP hB hox hok hfr hlen ht2 hbf ok2 out2 fr2 len2 hot
          go_wp2_with fail
          refine cS.mono ?_
          rintro e w7 ⟨sv7, kv7, iv7, ov7, rfl, hw7, hM7⟩
          clear cS
          have hP7 := HP.out.wentM hw7 hM7
          have hB7 := PairS.behindM HBB.out hw7 HOX.out.size (iv' := iv7)
          have ho7 := only_goneS HOX.out hw7 HBB.out.1
          have cE := tstep_any db vb code HC.out t v pv dkv div dov w7 (fun k hk => hP7.pm.ownLt hk) hP7.pd HOKT.out HOT.out HFRT.out
          unfold TStepped at cE
          rw [HBF.out, HT2.out] at cE
          have HP7 := Lib.hid hP7
          have HB7 := Lib.hid hB7
          have HO7 := Lib.hid ho7
          clear hP7 hB7 ho7 hw7 hM7
          go_wp2_with fail
          refine cE.mono ?_
          rintro e w8 ⟨pv8, kv8, iv8, ov8, rfl, hw8, hM8⟩
          clear cE
          have hP8 := HP7.out.wentD hw8 hM8
          have hB8 := PairS.behindD HB7.out hw8 HO7.out.size (pv' := pv8) (kv' := kv8) (iv' := iv8)
          have ho8 := only_goneT HO7.out hw8 HB7.out.2
          have cC := same9_any _ _ code t2 w8 hP8 HOK2.out (by have h1 := HOUT2.out; have h2 := HLEN.out; have := HFB.out; omega)
          have HP8 := Lib.hid hP8
          have HB8 := Lib.hid hB8
          have HO8 := Lib.hid ho8
          clear hP8 hB8 ho8 hw8 hM8
          go_wp2_with fail
          refine cC.mono ?_
          rintro e w9 ⟨rfl, ho9⟩
          clear cC
          go_wp2_with fail
          go_roundg (gm - 1)
          case measure => have := HJ.out; omega
          case rel => exact ⟨sv7, kv7, iv7, ov7, pv8, kv8, iv8, ov8, t2, by omega, by have := HJ.out; go_num, HP8.out.quiet ho9, HB8.out, HO8.out.trans ho9 (fun _ _ h => h), HOK2.out, HFR2.out, by have h1 := HOUT2.out; have h2 := HLEN.out; have := HJ.out; omega⟩
        · have hj2 : j = F := by omega
          have cW := words9_any _ _ code t wr hP hok
          have j1 : ¬ (j : Int) < (F : Int) := by omega
          have HOX := Lib.hid hox
          clear hP hB hok hfr hlen hj hox hmf
          subst hj2
          go_wp2_with fail
          refine cW.mono ?_
          rintro e w11 ⟨rfl, ho11⟩
          clear cW
          go_wp2_with fail
          go_ret
          exact ⟨rfl, HOX.out.trans ho11 (fun _ _ h => h)⟩
end Go.Proofs.Ytpnhjjihdcopnaa
