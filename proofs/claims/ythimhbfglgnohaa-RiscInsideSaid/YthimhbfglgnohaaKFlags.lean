/- The walk of the law RiscFlags. -/
import Derived.Test.YthimhbfglgnohaaKEcho
set_option linter.unusedSimpArgs false
set_option linter.unusedVariables false
namespace Go.Proofs.Ythimhbfglgnohaa
open Go.RowKit M

def lFlags (a b : Nat) : List Ins := [⟨1, true, false, 1, 0, 0, 0, (a / 65536 : Nat)⟩, ⟨1, false, false, 1, 1, 0, 6, (a % 65536 : Nat)⟩, ⟨1, true, false, 2, 0, 0, 0, (b / 65536 : Nat)⟩, ⟨1, false, false, 2, 2, 0, 6, (b % 65536 : Nat)⟩,
    ⟨0, false, false, 3, 1, 2, 8, 0⟩, ⟨0, false, false, 4, 1, 2, 9, 0⟩]
theorem lFlags_good (a b : Nat) (ha : a < 4294967296) (hb : b < 4294967296) : ∀ i ∈ lFlags a b, i.Good := by
  intro i hi
  unfold lFlags at hi
  simp only [List.mem_cons, List.not_mem_nil, or_false] at hi
  rcases hi with rfl | rfl | rfl | rfl | rfl | rfl
  · exact good1 true false 1 0 0 _ (by decide) (by decide) (by decide) (high_le ha)
  · exact good1 false false 1 1 6 _ (by decide) (by decide) (by decide) (low_le a)
  · exact good1 true false 2 0 0 _ (by decide) (by decide) (by decide) (high_le hb)
  · exact good1 false false 2 2 6 _ (by decide) (by decide) (by decide) (low_le b)
  · exact good0 false false 3 1 2 8 (by decide) (by decide) (by decide) (by decide)
  · exact good0 false false 4 1 2 9 (by decide) (by decide) (by decide) (by decide)

theorem wrap_high (a : Nat) (ha : a < 4294967296) : wrap32 ((a : Int) / 65536) = ((a / 65536 : Nat) : Int) := by
  rw [w32_in _ (by unfold I32; omega)]; omega
theorem bits_low (a : Nat) (ha : a < 4294967296) : bits BinOp.and IntKind.u32 (a : Int) 65535 = ((a % 65536 : Nat) : Int) := by
  have h := band_u32 a 65535 ha (by decide)
  rw [show ((65535 : Nat) : Int) = 65535 from rfl] at h
  rw [h, show (65535 : Nat) = 2 ^ 16 - 1 from rfl, Nat.and_two_pow_sub_one_eq_mod]
theorem wrap_low (a : Nat) : wrap32 ((a % 65536 : Nat) : Int) = ((a % 65536 : Nat) : Int) := by
  rw [w32_in _ (by unfold I32; omega)]
def lF (p q r s : Nat) : List Ins := [⟨1, true, false, 1, 0, 0, 0, p⟩, ⟨1, false, false, 1, 1, 0, 6, q⟩, ⟨1, true, false, 2, 0, 0, 0, r⟩, ⟨1, false, false, 2, 2, 0, 6, s⟩, ⟨0, false, false, 3, 1, 2, 8, 0⟩, ⟨0, false, false, 4, 1, 2, 9, 0⟩]

theorem S_neg {u : Nat} (hu : u < 4294967296) : decide (2147483648 ≤ u) = decide (wrap32 (u : Int) < 0) := by
  rw [decide_eq_decide]; unfold wrap32; omega

set_option maxRecDepth 20000 in
set_option maxHeartbeats 800000 in
theorem flagsLaw_any (a b : Nat) (w : World) (ha : a < 4294967296) (hb : b < 4294967296) :
    Calls Try.prog 8 #[.int .u32 a, .int .u32 b] w fun e w' => e = .returned (.bool true) ∧ Only Nil w w' := by
  have cK := known_any w
  have hG := lFlags_good a b ha hb
  have hmc : (lFlags a b).map enc = cFlags a b := rfl
  obtain ⟨s1, run1, f1, p1, r11, r12, r13, n1, z1, c1, v1⟩ := flags_sum a b ha hb
  obtain ⟨s2, run2, r24, n2, z2, c2, v2⟩ := flags_diff a b s1 f1 p1 r11 r12
  have ea1 := wrap_high a ha
  have ea2 := bits_low a ha
  have ea3 := wrap_low a
  have eb1 := wrap_high b hb
  have eb2 := bits_low b hb
  have eb3 := wrap_low b
  have hl : lFlags a b = lF (a / 65536) (a % 65536) (b / 65536) (b % 65536) := rfl
  obtain ⟨p, hp⟩ : ∃ p, a / 65536 = p := ⟨_, rfl⟩
  obtain ⟨q, hq⟩ : ∃ q, a % 65536 = q := ⟨_, rfl⟩
  obtain ⟨r, hr⟩ : ∃ r, b / 65536 = r := ⟨_, rfl⟩
  obtain ⟨s, hs⟩ : ∃ s, b % 65536 = s := ⟨_, rfl⟩
  rw [hp] at ea1 hl
  rw [hq] at ea2 ea3 hl
  rw [hr] at eb1 hl
  rw [hs] at eb2 eb3 hl
  rw [hl] at hG hmc
  have HMC := Lib.hid hmc
  have HA := Lib.hid ha
  have HB := Lib.hid hb
  have HG := Lib.hid hG
  have HR := Lib.hid run1
  have HR2 := Lib.hid run2
  have HN := Lib.hid n1
  have HZ := Lib.hid z1
  have HC := Lib.hid c1
  have HV := Lib.hid v1
  have HX := Lib.hid r13
  have HN2 := Lib.hid n2
  have HZ2 := Lib.hid z2
  have HC2 := Lib.hid c2
  have HV2 := Lib.hid v2
  have HX2 := Lib.hid r24
  have HF := Lib.hid f1
  have HP := Lib.hid p1
  clear ha hb hG run1 n1 z1 c1 v1 r13 f1 p1 r11 r12 run2 n2 z2 c2 v2 r24 hl hp hq hr hs hmc
  go_enter Try.func8, Try.ntmps8
  go_wp2_with fail
  refine cK.mono ?_
  rintro e w1 ⟨rfl, ho1⟩
  clear cK
  go_wp2_with fail
  have hr := insRow_new w1 (lF p q r s) 49 (Only.refl Nil _) (fun h => h)
  have cP := put_any w1.heap.size (lF p q r s) 6 _ hr HG.out (Nat.le_of_ble_eq_true rfl) (Nat.le_of_ble_eq_true rfl) (by decide)
  clear hr ea1 ea2 ea3 eb1 eb2 eb3
  refine cP.mono ?_
  rintro e w2 ⟨sv, rfl, hown2, ho2⟩
  clear cP
  have ho2' : Only Nil w w2 := (ho1.alloc _).trans ho2 (fun _ _ h => h)
  go_wp2_with fail
  have cN := new_any (Q := Nil) (cFlags a b) [] 0 0 (by decide) (sv.ownBlock.getD 0) 0 sv (.slice none 0 0) w2 (by rw [← HMC.out]; exact Src.of_own hown2) (src_none _ 0) (Nat.le_of_ble_eq_true rfl) (by decide) (by decide) (fun _ h => h.elim)
  refine cN.mono ?_
  rintro e w4 ⟨mb, wb, cv', iv', rfl, hmb, hwb, ho4, hM4⟩
  clear cN hown2
  have ho4' : Only Nil w w4 := ho2'.trans ho4 (fun _ _ h => h)
  have hm4 : w.heap.size ≤ mb := Nat.le_trans ho2'.size hmb
  have hw4 : w.heap.size ≤ wb := Nat.le_trans ho2'.size hwb
  have hs4 : (s0 0 []).Ok := s0_ok 0 [] (by decide) (fun _ h => absurd h List.not_mem_nil)
  have hlt : ∀ x ∈ cFlags a b, x < 4294967296 := by rw [← HMC.out]; exact map_lt HG.out
  have hcl : (cFlags a b).length ≤ 1048576 := Nat.le_of_ble_eq_true rfl
  have hs5 : s1.Ok := by rw [← HR.out]; exact (run_ok hlt hcl 5 hs4).1
  have cR := run_any mb wb none (cFlags a b) cv' iv' (.slice none 0 0) (s0 0 []) w4 hs4 hlt hcl hM4 5 (by decide) (by decide) (by decide) (t := s1) HR.out
  have HLT := Lib.hid hlt
  have HS5 := Lib.hid hs5
  have HOL := Lib.hid (show s1.out.length ≤ 5 by have := (run_ok hlt hcl 5 hs4).2.2; rw [HR.out] at this; exact this)
  clear hs5
  clear hM4 ho1 ho2 hlt
  go_wp2_with fail
  refine cR.mono ?_
  rintro e w5 ⟨ob5, iv5, ov5, rv, rfl, hw5, hown5, hM5⟩
  clear cR
  have ho5 := went_fresh ho4' hw5 hm4 hw4
  have hb5 := went_ob hw5 ho4'.size
  have cG := reg_any mb 3 cv' _ iv5 ov5 s1 w5 hM5.1 (by decide)
  have cFl := fun (w' : World) (ho : Only Nil w5 w') => flags_any mb cv' _ iv5 ov5 s1 w' (hM5.1.kept ho (fun h => h))
  rw [show ((3 : Nat) : Int) = 3 from rfl] at cG
  have HM5 := Lib.hid hM5
  clear hM5 hown5 hw5 ho4'
  go_wp2_with fail
  refine cG.mono ?_
  rintro e w6 ⟨rfl, rfl⟩
  clear cG
  obtain ⟨X, hX⟩ : ∃ X, s1.R 3 = X := ⟨_, rfl⟩
  rw [hX]
  go_wp2_with fail
  refine (cFl _ (Only.refl _ _)).mono ?_
  rintro e w6 ⟨rfl, ho6⟩
  clear cFl
  have eN : s1.n = decide (wrap32 (X : Int) < 0) := by
    have h := S_neg (u := X) (by rw [← hX, HX.out]; exact Nat.mod_lt _ (by decide))
    rw [HN.out, ← HX.out, hX]; exact h
  have eZ : s1.z = ((X : Int) == 0) := by
    rw [HZ.out, ← HX.out, hX, Bool.eq_iff_iff, beq_iff_eq, beq_iff_eq]; omega
  have eC : s1.c = decide (4294967295 < IntKind.u64.wrap (IntKind.u64.wrap (a : Int) + IntKind.u64.wrap (b : Int))) := by
    have h1 := HA.out
    have h2 := HB.out
    rw [HC.out, decide_eq_decide, IntKind.wrap_u64, IntKind.wrap_u64, IntKind.wrap_u64]; omega
  have eX : ((a : Int) + (b : Int)) % 4294967296 = (X : Int) := by
    rw [← hX, HX.out]; omega
  obtain ⟨A', hA'⟩ : ∃ A', wrap32 (a : Int) = A' := ⟨_, rfl⟩
  obtain ⟨B', hB'⟩ : ∃ B', wrap32 (b : Int) = B' := ⟨_, rfl⟩
  obtain ⟨V, hV⟩ : ∃ V, s1.v = V := ⟨_, rfl⟩
  rw [eN, eZ, eC, hV]
  have hAS : A' = S a := by rw [← hA', w32_nat a HA.out]
  have hBS : B' = S b := by rw [← hB', w32_nat b HB.out]
  have iA : -2147483648 ≤ A' ∧ A' ≤ 2147483647 := by rw [hAS]; exact S_i32 a HA.out
  have iB : -2147483648 ≤ B' ∧ B' ≤ 2147483647 := by rw [hBS]; exact S_i32 b HB.out
  obtain ⟨D, hD⟩ : ∃ D, A' + B' = D := ⟨_, rfl⟩
  have eD : wrap64 (wrap64 A' + wrap64 B') = D := by rw [← hD]; unfold wrap64; omega
  have eV : V = decide (D ≠ wrap32 D) := by rw [← hV, HV.out, ← hD, hAS, hBS]
  have HIA := Lib.hid iA
  have HIB := Lib.hid iB
  have HAS := Lib.hid hAS
  have HBS := Lib.hid hBS
  have HEX := Lib.hid hX
  have HEV := Lib.hid eV
  clear eN eZ eC hV hX hAS hBS iA iB hD eV
  go_upto_region 9 with fail
  rw [eD]
  clear eD
  obtain ⟨x', hx'⟩ : ∃ x', wrap32 (X : Int) = x' := ⟨_, rfl⟩
  rw [hx']
  go_cut [97] (fun s97 wx => s97 = .bool false ∧ w6 = wx)
  case first =>
    by_cases d1 : 2147483647 < D
    · have hV1 : V = true := by rw [HEV.out, decide_eq_true_iff]; unfold wrap32; omega
      subst hV1
      go_wp2_with fail
      go_meet
      exact ⟨rfl, rfl⟩
    · by_cases d2 : D < -2147483648
      · have hV1 : V = true := by rw [HEV.out, decide_eq_true_iff]; unfold wrap32; omega
        subst hV1
        go_wp2_with fail
        go_meet
        exact ⟨rfl, rfl⟩
      · have hV1 : V = false := by rw [HEV.out, decide_eq_false_iff_not]; unfold wrap32; omega
        subst hV1
        go_wp2_with fail
        go_meet
        exact ⟨rfl, rfl⟩
  case rest =>
    obtain ⟨rfl, rfl⟩ := hcut
    clear hx' eX
    have hM6 := HM5.out.quiet ho6
    have cS := step_any mb wb ob5 (cFlags a b) cv' iv5 ov5 s1 w6 (HS5.out) HLT.out hcl hM6 (by have := HOL.out; omega)
    rw [HF.out, HR2.out] at cS
    rw [show ((0 : Nat) == 0) = true from rfl] at cS
    have ho6' : Only Nil w w6 := ho5.trans ho6 (fun _ _ h => h)
    clear hM6
    go_wp2_with fail
    refine cS.mono ?_
    rintro e w7 ⟨ob7, iv7, ov7, rfl, hw7, hM7⟩
    clear cS
    have ho7 : Only Nil w w7 := went_fresh' ho6' hw7 hm4 hw4 hb5
    have cG := reg_any mb 4 cv' _ iv7 ov7 s2 w7 hM7.1 (by decide)
    have cFl := flags_any mb cv' _ iv7 ov7 s2 w7 hM7.1
    rw [show ((4 : Nat) : Int) = 4 from rfl] at cG
    clear hM7 hw7 ho6'
    go_wp2_with fail
    refine cG.mono ?_
    rintro e w8 ⟨rfl, rfl⟩
    clear cG
    obtain ⟨Y, hY⟩ : ∃ Y, s2.R 4 = Y := ⟨_, rfl⟩
    rw [hY]
    go_wp2_with fail
    refine cFl.mono ?_
    rintro e w9 ⟨rfl, ho9⟩
    clear cFl
    have lY : Y < 4294967296 := by rw [← hY, HX2.out]; exact U_lt _
    have eN : s2.n = decide (wrap32 (Y : Int) < 0) := by
      have h := S_neg (u := Y) lY
      rw [HN2.out, ← HX2.out, hY]; exact h
    have eZ : s2.z = ((a : Int) == (b : Int)) := by
      rw [HZ2.out, Bool.eq_iff_iff, beq_iff_eq, beq_iff_eq]
      have := HA.out
      have := HB.out
      unfold U; omega
    have eC : s2.c = decide ((a : Int) < (b : Int)) := by
      rw [HC2.out, decide_eq_decide]; omega
    have eX : ((a : Int) - (b : Int)) % 4294967296 = (Y : Int) := by
      rw [← hY, HX2.out]; unfold U; omega
    obtain ⟨V2, hV⟩ : ∃ V, s2.v = V := ⟨_, rfl⟩
    rw [eN, eZ, eC, hV]
    obtain ⟨D2, hD⟩ : ∃ D, A' - B' = D := ⟨_, rfl⟩
    have eD : wrap64 (wrap64 A' - wrap64 B') = D2 := by
      have := HIA.out
      have := HIB.out
      rw [← hD]; unfold wrap64; omega
    have eV : V2 = decide (D2 ≠ wrap32 D2) := by rw [← hV, HV2.out, ← hD, HAS.out, HBS.out]
    obtain ⟨y', hy'⟩ : ∃ y', wrap32 (Y : Int) = y' := ⟨_, rfl⟩
    have eyD : y' = wrap32 D2 := by
      have h1 := HIA.out
      have h2 := HIB.out
      rw [← hy', ← eX, ← hD, HAS.out, HBS.out]; unfold S wrap32; split <;> split <;> omega
    rw [hy']
    have HEV2 := Lib.hid eV
    have HEY := Lib.hid eyD
    have HD2 := Lib.hid hD
    have h1 := HIA.out
    have h2 := HIB.out
    have hab : (decide (A' < B')) = decide (D2 < 0) := by rw [decide_eq_decide]; omega
    have HO := Lib.hid (ho7.trans ho9 (fun _ _ h => h))
    clear eN eZ eC hV hY lY eV eyD hD h1 h2
    go_upto_region 15 with fail
    rw [eD]
    clear eD
    by_cases d1 : 2147483647 < D2
    · have hV1 : V2 = true := by rw [HEV2.out, decide_eq_true_iff]; unfold wrap32; omega
      have hy1 : y' < 0 := by rw [HEY.out]; unfold wrap32; have := HIA.out; have := HIB.out; have := HD2.out; omega
      have hA1 : B' ≤ A' := by have := HD2.out; omega
      clear hab
      subst hV1
      go_wp2_with fail
      go_ret
      refine ⟨?_, HO.out⟩
      first | rfl | (simp; done) | (simp; omega)
    · by_cases d2 : D2 < -2147483648
      · have hV1 : V2 = true := by rw [HEV2.out, decide_eq_true_iff]; unfold wrap32; omega
        have hy1 : 0 ≤ y' := by rw [HEY.out]; unfold wrap32; have := HIA.out; have := HIB.out; have := HD2.out; omega
        have hA1 : A' < B' := by have := HD2.out; omega
        clear hab
        subst hV1
        go_wp2_with fail
        go_ret
        refine ⟨?_, HO.out⟩
        first | rfl | (simp; done) | (simp; omega)
      · have hV1 : V2 = false := by rw [HEV2.out, decide_eq_false_iff_not]; unfold wrap32; omega
        have hyD : y' = D2 := by rw [HEY.out]; unfold wrap32; omega
        by_cases hneg : D2 < 0
        · have hy1 : y' < 0 := by omega
          have hA1 : A' < B' := by have := HD2.out; omega
          clear hab hyD
          subst hV1
          go_wp2_with fail
          go_ret
          refine ⟨?_, HO.out⟩
          first | rfl | (simp; done) | (simp; omega)
        · have hy1 : 0 ≤ y' := by omega
          have hA1 : B' ≤ A' := by have := HD2.out; omega
          clear hab hyD
          subst hV1
          go_wp2_with fail
          go_ret
          refine ⟨?_, HO.out⟩
          first | rfl | (simp; done) | (simp; omega)
end Go.Proofs.Ythimhbfglgnohaa
