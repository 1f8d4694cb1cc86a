/- Layer 19: there and back. -/
import Derived.Test.YthdolanamcmooaaFPlays
set_option linter.unusedSimpArgs false
set_option linter.unusedVariables false
namespace Go.Proofs.Ythdolanamcmooaa
open Go.RowKit M

set_option maxRecDepth 100000 in
set_option maxHeartbeats 3200000 in
theorem back_any (a1 : Option Addr) (n cap1 b1 x1 : Nat) (zs : List Int) (w : World) (h1 : InRow w a1 n cap1 b1 (zs.map (Value.int .u8))) (hz : ∀ z ∈ zs, (Lit.int .u8 z).wf = true) (hx1 : x1 < 256) :
    Calls Try.prog 9 #[.slice a1 n cap1, .int .u8 x1] w fun e w' => e = .returned (.bool true) ∧ Only Nil w w' := by
  have cK := known19 w
  obtain ⟨l1, s1, lt1, le1, mx1, nn1⟩ := h1
  unfold maxLen at mx1
  rw [List.length_map] at l1
  by_cases g1 : 100 < n
  · clear s1 l1
    have t1 : (100 : Int) < (n : Int) := by omega
    go_enter Try.func9, Try.ntmps9
    go_wp2_with fail
    refine cK.mono ?_
    rintro e w1 ⟨rfl, ho1⟩
    clear cK
    go_wp2_with fail
    go_ret
    exact ⟨rfl, ho1⟩
  have t1 : decide ((100 : Int) < (n : Int)) = false := by simp; omega
  have hn60 : n ≤ 100 := by omega
  obtain ⟨K, hK⟩ : ∃ K, x1 + 1 = K := ⟨_, rfl⟩
  have wc : IntKind.i64.wrap (x1 : Int) = (x1 : Int) := by rw [IntKind.wrap_i64]; omega
  have wk : (x1 : Int) + 1 = (K : Int) := by omega
  have K0 : 0 < K := by omega
  have K1 : K ≤ 256 := by omega
  have hcl : clampN (K : Int) = K := by unfold clampN; omega
  have cN := fun w => newL_any (K : Int) K hcl.symm w
  have hlu : (upto K).length = K := upto_len K
  have hmem := fun x => upto_mem K x
  obtain ⟨U, hU⟩ : ∃ U, upto K = U := ⟨_, rfl⟩
  rw [hU] at cN hlu hmem
  have HLU := Lib.hid hlu
  have HME := Lib.hid hmem
  have HL1 := Lib.hid l1
  have HS1 := Lib.hid s1
  have HZ := Lib.hid hz
  clear l1 s1 hU hK hcl hlu hmem hz
  go_enter Try.func9, Try.ntmps9
  go_wp2_with fail
  refine cK.mono ?_
  rintro e w1 ⟨rfl, ho1⟩
  have HO1 := Lib.hid ho1
  clear cK ho1
  go_wp2_with fail
  have dN := cN w1
  refine dN.mono ?_
  rintro e w2 ⟨ab, al, rfl, ho2, hLA, hb1, hb2⟩
  have HO2 := Lib.hid (HO1.out.trans ho2 (fun _ _ h => h))
  have HW := Lib.hid (Nat.le_trans HO1.out.size hb2)
  have HLA := Lib.hid hLA
  have dF := cN w2
  have u1 := hLA.blk.lt
  have u2 := hLA.num.lt
  clear dN cN ho2 hLA hb1 hb2
  go_wp2_with fail
  refine dF.mono ?_
  rintro e w3 ⟨bb, bl, rfl, ho3, hLB, hb3, hb4⟩
  have HO3 := Lib.hid (HO2.out.trans ho3 (fun _ _ h => h))
  have HLA2 := Lib.hid (HLA.out.nil ho3)
  have HLB := Lib.hid hLB
  have q1 : ab < bl := by omega
  have q2 : al < bl := by omega
  have q3 : al < bb := by omega
  have q4 : w.heap.size ≤ al := HW.out
  have q5 : w.heap.size ≤ bl := by omega
  clear dF ho3 hLB hb3 hb4 u1 u2 HLA HO1 HO2
  go_wp2_with fail
  go_loopg [8] n (fun g i wr => ∃ (k : Nat) (L : List Int), i = .int .i64 (k : Int) ∧ k ≤ n ∧ g = n - k ∧ L.Perm U ∧ LAt wr ab al L ∧ LAt wr bb bl L ∧ Only Nil w wr)
  case atStart => exact ⟨0, U, rfl, Nat.zero_le _, rfl, List.Perm.refl _, HLA2.out, HLB.out, HO3.out⟩
  case round =>
    clear HLA2 HLB HO3
    obtain ⟨k, L, rfl, hk, hg, hP, hA, hB, ho⟩ := hrel
    have HG := Lib.hid hg
    have hLK : L.length = K := by rw [hP.length_eq, HLU.out]
    have HLK := Lib.hid hLK
    have hL6 : L.length ≤ 65536 := by omega
    have HL6 := Lib.hid hL6
    clear hg hL6
    have k0 : (0 : Int) ≤ (k : Int) := Int.natCast_nonneg _
    by_cases hkn : k < n
    · have k1 : (k : Int) < (n : Int) := by omega
      obtain ⟨x0, hx0⟩ : ∃ x0, zs[k]? = some x0 := ⟨_, List.getElem?_eq_getElem (by rw [HL1.out]; exact hkn)⟩
      have hxm : x0 ∈ zs := List.mem_of_getElem? hx0
      have hxb := bounds_u8 (HZ.out x0 hxm)
      obtain ⟨y, rfl⟩ : ∃ y : Nat, x0 = y := ⟨x0.toNat, by omega⟩
      obtain ⟨_, c1, off1, e1, p1, _, p2⟩ := HS1.out.kept ho (fun _ h => h)
      simp only [Value.slice.injEq] at e1
      obtain ⟨rfl, hxx, rfl⟩ := e1
      clear hxx
      have e1 := p1 (by rw [List.length_map, HL1.out]; omega)
      subst e1
      have d1 := p2 k (.int .u8 y) (by rw [List.getElem?_map, hx0]; rfl)
      obtain ⟨x, hx⟩ : ∃ x : Nat, y % K = x := ⟨_, rfl⟩
      have hxK : x < K := by rw [← hx]; exact Nat.mod_lt _ K0
      have ex : (y : Int) % (K : Int) = (x : Int) := by rw [← hx]; simp
      have wy : IntKind.i64.wrap (y : Int) = (y : Int) := by rw [IntKind.wrap_i64]; omega
      have hxL : (x : Int) ∈ L := hP.mem_iff.2 ((HME.out x).2 ⟨by omega, by omega⟩)
      have hj := posN_mem L x hxL
      have hjx := posN_at L x hj
      have cR := rank_any ab al L (x : Int) wr hA HL6.out
      have hP2 := (front_perm L (posN L x) hj).trans hP
      obtain ⟨j, hjj⟩ : ∃ j, posN L x = j := ⟨_, rfl⟩
      rw [hjj] at cR hj hjx hP2
      unfold rankV at cR
      rw [if_pos hj, if_pos hj] at cR
      have HP2 := Lib.hid hP2
      have HJX := Lib.hid hjx
      have HJ := Lib.hid hj
      have HB := Lib.hid hB
      have HO := Lib.hid ho
      have hjK : (j : Int) < (K : Int) := by rw [hLK] at hj; omega
      have j0 : (0 : Int) ≤ (j : Int) := Int.natCast_nonneg _
      have t3 : decide ((j : Int) < 0) = false := by simp
      have t4 : decide ((K : Int) ≤ (j : Int)) = false := by simp; omega
      have t4' : decide (K ≤ j) = false := by simp; omega
      have t5 : ((x : Int) != (x : Int)) = false := by simp
      have tK : ((K : Int) == 0) = false := not_beq (by omega)
      clear hP hA hB ho hx0 hxm hx p1 p2 hxL hjj hP2 hjx hj hLK
      go_wp2_with fail
      with_reducible refine cR.mono ?_
      rintro e w5 ⟨rfl, ho5, hA5⟩
      have HA5 := Lib.hid hA5
      have hB5 := HB.out.kept ho5 (by show ¬ bb = al; omega) (by show ¬ bl = al; omega)
      have HO5 := Lib.hid (only_two HO.out ho5 q4)
      have cA := at_in bb bl j L w5 hB5 HL6.out HJ.out
      rw [HJX.out] at cA
      clear cR ho5 hA5 hB5
      go_wp2_with fail
      with_reducible refine cA.mono ?_
      rintro e w6 ⟨rfl, ho6, hB6⟩
      have HB6 := Lib.hid hB6
      have HA6 := Lib.hid (HA5.out.kept ho6 (by show ¬ ab = bl; omega) (by show ¬ al = bl; omega))
      have HO6 := Lib.hid (only_two HO5.out ho6 q5)
      clear cA ho6 hB6
      go_wp2_with fail
      go_roundg (n - (k + 1))
      case measure => have := HG.out; omega
      case rel => exact ⟨k + 1, _, by go_num, by omega, rfl, HP2.out, HA6.out, HB6.out, HO6.out⟩
    · have hkn' : k = n := by omega
      subst hkn'
      have k1 : (k : Int) ≤ (k : Int) := Int.le_refl _
      have cA := all_any ab al L wr hA HL6.out
      have HB := Lib.hid hB
      have HA := Lib.hid hA
      have HO := Lib.hid ho
      rw [hLK] at cA
      clear hA ho hB hP hLK
      go_wp2_with fail
      with_reducible refine cA.mono ?_
      rintro e w4 ⟨u, rfl, hu, ho4⟩
      have cB := all_any bb bl L w4 (HB.out.nil ho4) HL6.out
      rw [HLK.out] at cB
      have HA4 := Lib.hid (HA.out.nil ho4)
      have HO4 := Lib.hid (HO.out.trans ho4 (fun _ _ h => h))
      have HU := Lib.hid hu
      clear cA hu ho4
      go_wp2_with fail
      with_reducible refine cB.mono ?_
      rintro e w5 ⟨v, rfl, hv, ho5⟩
      have hu5 := ownsRow_only HU.out ho5 (fun _ _ h => h)
      have cI := intsCmp_any _ _ _ _ L L w5 (Src.of_own hu5) (Src.of_own hv) (by have := HL6.out; omega) (by have := HL6.out; omega)
      rw [decide_eq_true rfl] at cI
      have HA5 := Lib.hid (HA4.out.nil ho5)
      have HO5 := Lib.hid (HO4.out.trans ho5 (fun _ _ h => h))
      clear cB hv ho5 hu5
      go_wp2_with fail
      with_reducible refine cI.mono ?_
      rintro e w6 ⟨rfl, ho6⟩
      have cA := all_any ab al L w6 (HA5.out.nil ho6) HL6.out
      rw [HLK.out] at cA
      have HO6 := Lib.hid (HO5.out.trans ho6 (fun _ _ h => h))
      clear cI ho6
      go_wp2_with fail
      with_reducible refine cA.mono ?_
      rintro e w7 ⟨u7, rfl, hu7, ho7⟩
      have HO7 := Lib.hid (HO6.out.trans ho7 (fun _ _ h => h))
      obtain ⟨a9, c9, rfl⟩ := sl_of_own hu7
      have t9 : ((K : Int) == (K : Int)) = true := by simp
      clear cA hu7 ho7
      go_wp2_with fail
      go_ret
      exact ⟨rfl, HO7.out⟩
end Go.Proofs.Ythdolanamcmooaa
