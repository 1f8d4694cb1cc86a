/- Layer 19: scripts of ranks and numbers. -/
import Derived.Test.YthdolanamcmooaaFLaw
import Derived.Test.YthdolanamcmooaaGArgs
set_option linter.unusedSimpArgs false
set_option linter.unusedVariables false
namespace Go.Proofs.Ythdolanamcmooaa
open Go.RowKit M

theorem own_front {w : World} {base : Nat} {v : Value} {L : List Int} (h : w.ownsRow base 3 1 v L.length (Ints L)) : ∃ ao cap, v = .slice ao L.length cap := sl_of_own h
theorem own_ge {w : World} {base : Nat} {e : TypeId} {size : Nat} {v : Value} {n : Nat} {xs : List Value} (h : w.ownsRow base e size v n xs) {k : Nat} (hk : v.ownBlock = some k) : base ≤ k := (h.lt k hk).1
theorem own_size {w : World} {base : Nat} {e : TypeId} {size : Nat} {v : Value} {n : Nat} {xs : List Value} (h : w.ownsRow base e size v n xs) (hn : 0 < n) : base ≤ w.heap.size := by
  rcases h.2 with ⟨h, h0⟩ | ⟨g, cap, cur, h, hb, hg, _⟩
  · omega
  · have := (Array.getElem?_eq_some_iff.1 hg).1; omega

set_option maxRecDepth 100000 in
set_option maxHeartbeats 3200000 in
theorem plays_any (N : Int) (a1 a2 : Option Addr) (n cap1 n2 cap2 b1 b2 : Nat) (zs : List Int) (bs : List Bool) (w : World) (h1 : InRow w a1 n cap1 b1 (zs.map (Value.int .i64))) (h2 : InRow w a2 n2 cap2 b2 (bs.map Value.bool)) :
    Calls Try.prog 8 #[.int .i64 N, .slice a1 n cap1, .slice a2 n2 cap2] w fun e w' => e = .returned (.bool true) ∧ Only Nil w w' := by
  have cK := known19 w
  obtain ⟨l1, s1, lt1, le1, mx1, nn1⟩ := h1
  obtain ⟨l2, s2, lt2, le2, mx2, nn2⟩ := h2
  unfold maxLen at mx1 mx2
  rw [List.length_map] at l1 l2
  by_cases g1 : 60 < n ∨ n2 < n
  · have HG := Lib.hid g1
    clear s1 s2 l1 l2
    rcases g1 with g | g
    · have t1 : (60 : Int) < (n : Int) := by omega
      go_enter Try.func8, Try.ntmps8
      go_wp2_with fail
      refine cK.mono ?_
      rintro e w1 ⟨rfl, ho1⟩
      clear cK
      go_wp2_with fail
      go_ret
      exact ⟨rfl, ho1⟩
    · by_cases g9 : 60 < n
      · have t1 : (60 : Int) < (n : Int) := by omega
        go_enter Try.func8, Try.ntmps8
        go_wp2_with fail
        refine cK.mono ?_
        rintro e w1 ⟨rfl, ho1⟩
        clear cK
        go_wp2_with fail
        go_ret
        exact ⟨rfl, ho1⟩
      · have t1 : decide ((60 : Int) < (n : Int)) = false := by simp; omega
        have t2 : decide (n2 < n) = true := by simpa using g
        go_enter Try.func8, Try.ntmps8
        go_wp2_with fail
        refine cK.mono ?_
        rintro e w1 ⟨rfl, ho1⟩
        clear cK
        go_wp2_with fail
        go_ret
        exact ⟨rfl, ho1⟩
  have hn60 : n ≤ 60 := by omega
  have hn2 : n ≤ n2 := by omega
  have t1 : decide ((60 : Int) < (n : Int)) = false := by simp; omega
  have t2 : decide (n2 < n) = false := by simp; omega
  obtain ⟨q, hq⟩ : ∃ q, N.tmod 40 = q := ⟨_, rfl⟩
  have hq1 := Int.lt_tmod_of_pos N (show (0 : Int) < 40 by omega)
  have hq2 := Int.tmod_lt_of_pos N (show (0 : Int) < 40 by omega)
  rw [hq] at hq1 hq2
  have wq : IntKind.i64.wrap q = q := by rw [IntKind.wrap_i64]; omega
  have cN := fun w => newL_any q (clampN q) rfl w
  have cF := fun w => firstR_any q (clampN q) rfl w
  have hcl : (upto (clampN q)).length = clampN q := upto_len _
  have hcl2 := clampN_le q
  obtain ⟨U, hU⟩ : ∃ U, upto (clampN q) = U := ⟨_, rfl⟩
  rw [hU] at cN cF hcl
  obtain ⟨m0, hm0⟩ : ∃ m0, clampN q = m0 := ⟨_, rfl⟩
  rw [hm0] at cF hcl hcl2
  have HCL := Lib.hid hcl
  have HL1 := Lib.hid l1
  have HL2 := Lib.hid l2
  have HS1 := Lib.hid s1
  have HS2 := Lib.hid s2
  clear l1 l2 s1 s2 hU hm0 g1 hcl
  go_enter Try.func8, Try.ntmps8
  go_wp2_with fail
  refine cK.mono ?_
  rintro e w1 ⟨rfl, ho1⟩
  have HO1 := Lib.hid ho1
  clear cK ho1
  go_wp2_with fail
  have dN := cN w1
  clear cN wq hq
  refine dN.mono ?_
  rintro e w2 ⟨b, lb, rfl, ho2, hLA, hb1, hb2⟩
  have HO2 := Lib.hid (HO1.out.trans ho2 (fun _ _ h => h))
  have dF := cF w2
  clear dN cF ho2
  go_wp2_with fail
  refine dF.mono ?_
  rintro e w3 ⟨v, rfl, hown, ho3⟩
  have HO3 := Lib.hid (HO2.out.trans ho3 (fun _ _ h => h))
  have HLA := Lib.hid (hLA.nil ho3)
  obtain ⟨B0, hB0⟩ : ∃ B0, w2.heap.size = B0 := ⟨_, rfl⟩
  rw [hB0] at hown
  rw [← HCL.out] at hown
  have q1 : b < B0 := by rw [← hB0]; exact hLA.blk.lt
  have q2 : lb < B0 := by rw [← hB0]; exact hLA.num.lt
  have q3 : w.heap.size ≤ lb := Nat.le_trans HO1.out.size hb2
  have HOWN := Lib.hid hown
  clear dF ho3 hLA hown hB0 hb1 hb2
  go_wp2_with fail
  go_loopg [8, 9] n (fun g v i wr => ∃ (k : Nat) (L : List Int) (vv : Value), i = .int .i64 (k : Int) ∧ v = vv ∧ k ≤ n ∧ g = n - k ∧ L.length ≤ 65536 ∧ wr.ownsRow B0 3 1 vv L.length (Ints L) ∧ LAt wr b lb L ∧ Only Nil w wr)
  case atStart => exact ⟨0, U, _, rfl, rfl, Nat.zero_le _, rfl, by rw [HCL.out]; exact hcl2, HOWN.out, HLA.out, HO3.out⟩
  case round =>
    clear HOWN HLA HO3 HO2 HO1 HCL
    obtain ⟨k, L, vv, rfl, rfl, hk, hg, hL, hown, hLA, ho⟩ := hrel
    have HG := Lib.hid hg
    clear hg
    have k0 : (0 : Int) ≤ (k : Int) := Int.natCast_nonneg _
    by_cases hkn : k < n
    · have k1 : (k : Int) < (n : Int) := by omega
      have k2 : k < n2 := by omega
      have k3 : (k : Int) < (n2 : Int) := by omega
      -- what is read
      obtain ⟨x0, hx0⟩ : ∃ x0, zs[k]? = some x0 := ⟨_, List.getElem?_eq_getElem (by rw [HL1.out]; exact hkn)⟩
      obtain ⟨at0, hat0⟩ : ∃ y, bs[k]? = some y := ⟨_, List.getElem?_eq_getElem (by rw [HL2.out]; exact k2)⟩
      obtain ⟨_, c1, off1, e1, p1, _, p2⟩ := HS1.out.kept ho (fun _ h => h)
      obtain ⟨_, c2, off2, e2, r1, _, r2⟩ := HS2.out.kept ho (fun _ h => h)
      simp only [Value.slice.injEq] at e1 e2
      obtain ⟨rfl, hx1, rfl⟩ := e1
      obtain ⟨rfl, hx2, rfl⟩ := e2
      clear hx1 hx2
      have e1 := p1 (by rw [List.length_map, HL1.out]; omega)
      have e2 := r1 (by rw [List.length_map, HL2.out]; omega)
      subst e1
      subst e2
      have d1 := p2 k (.int .i64 x0) (by rw [List.getElem?_map, hx0]; rfl)
      have d2 := r2 k (.bool at0) (by rw [List.getElem?_map, hat0]; rfl)
      have HLA := Lib.hid hLA
      have HO := Lib.hid ho
      have HOWN := Lib.hid hown
      obtain ⟨ao, cv, hvv⟩ := own_front hown
      subst hvv
      have HLL := Lib.hid hL
      clear hx0 hat0 p1 p2 r1 r2 hLA ho hown hL
      obtain ⟨y0, hy0, cP⟩ := placeF_any x0 45 (by omega) (by omega)
      clear hy0
      obtain ⟨r, hr⟩ : ∃ r : Nat, (k : Int) % 3 = r := ⟨k % 3, by omega⟩
      go_upto_if 47 with fail
      go_cut [10] (fun s10 wx => wr = wx ∧ ∃ y0 : Int, s10 = .int .i64 y0)
      case first =>
        by_cases g3 : 0 < r
        · go_upto_region 13 with fail
          refine (cP _).mono ?_
          rintro e w9 ⟨rfl, rfl⟩
          go_upto_region 13 with fail
          go_meet
          exact ⟨rfl, _, rfl⟩
        · have g4 : r = 0 := by omega
          go_upto_region 13 with fail
          go_meet
          exact ⟨rfl, _, rfl⟩
      case rest =>
        obtain ⟨rfl, x, rfl⟩ := hcut
        clear cP hr
        cases at0
        · -- Rank
          have cR := rank_any b lb L x wr HLA.out HLL.out
          obtain ⟨j, hj⟩ : ∃ j, posN L x = j := ⟨_, rfl⟩
          rw [hj] at cR
          have HJ := Lib.hid hj
          clear hj
          by_cases gj : j < L.length
          · rw [if_pos gj] at cR
            unfold rankV at cR
            rw [if_pos gj] at cR
            go_wp2_with fail
            refine cR.mono ?_
            rintro e w5 ⟨rfl, ho5, hL5⟩
            have HO5 := Lib.hid (only_two HO.out ho5 q3)
            have HL5 := Lib.hid hL5
            have hown5 := ownsRow_only HOWN.out ho5 (fun q hq h => by have := own_ge HOWN.out hq; have : q = lb := h; omega)
            have cA := atR_any _ L x _ w5 (Src.of_own hown5) (by have := HLL.out; omega)
            rw [HJ.out] at cA
            unfold posI at cA
            rw [if_pos gj] at cA
            have cW := frontR_any 0 L j _ B0 w5 hown5 HLL.out gj
            have hB5 := hown5
            clear cR ho5 hL5 hown5
            have j0 : (0 : Int) ≤ (j : Int) := Int.natCast_nonneg _
            go_wp2_with fail
            with_reducible refine cA.mono ?_
            rintro e w6 ⟨rfl, rfl⟩
            clear cA
            have HB5 := Lib.hid (show B0 ≤ w5.heap.size from own_size hB5 (by omega))
            clear hB5
            have t8 : ((j : Int) != (j : Int)) = false := by simp
            go_wp2_with fail
            with_reducible refine cW.mono ?_
            rintro e w7 ⟨v7, rfl, hown7, ho7⟩
            obtain ⟨a7, c7, rfl⟩ := own_front hown7
            obtain ⟨LL, hLL⟩ : ∃ LL, front L j = LL := ⟨_, rfl⟩
            have hfl := front_len L j gj
            rw [hLL] at hfl hown7 ⊢
            have HLz := Lib.hid (show LAt w7 b lb LL by rw [← hLL]; exact HL5.out.nil ho7)
            have HLen := Lib.hid (show LL.length ≤ 65536 by rw [hfl]; exact HLL.out)
            have HOz := Lib.hid (HO5.out.trans ho7 (fun _ _ h => h))
            have hownz : w7.ownsRow B0 3 1 _ LL.length (Ints LL) := ownsRow_base hown7 (by have := HB5.out; omega)
            clear cW hown7 ho7 hLL hfl HL5 HO5
            obtain ⟨wz, hwz⟩ : ∃ wz, w7 = wz := ⟨_, rfl⟩
            subst hwz
            have cA := all_any b lb LL w7 HLz.out HLen.out
            go_wp2_with fail
            with_reducible refine cA.mono ?_
            rintro e wy ⟨u, rfl, hownu, hoy⟩
            have hownv := ownsRow_only hownz hoy (fun _ _ h => h)
            have HLy := Lib.hid (HLz.out.nil hoy)
            have cI := intsCmp_any _ _ _ _ LL LL wy (Src.of_own hownu) (Src.of_own hownv) (by have := HLen.out; omega) (by have := HLen.out; omega)
            rw [decide_eq_true rfl] at cI
            have HOy := Lib.hid (HOz.out.trans hoy (fun _ _ h => h))
            have HOV := Lib.hid hownv
            clear cA hownu hoy hownz hownv
            go_wp2_with fail
            with_reducible refine cI.mono ?_
            rintro e wx ⟨rfl, hox⟩
            have HOx := Lib.hid (HOy.out.trans hox (fun _ _ h => h))
            have HLx := Lib.hid (HLy.out.nil hox)
            have hownx := ownsRow_only HOV.out hox (fun _ _ h => h)
            have HOX := Lib.hid hownx
            clear cI hox hownx
            go_wp2_with fail
            go_roundg (n - (k + 1))
            case measure => have := HG.out; omega
            case rel => exact ⟨k + 1, LL, _, by go_num, rfl, by omega, rfl, HLen.out, HOX.out, HLx.out, HOx.out⟩
          · rw [if_neg gj] at cR
            unfold rankV at cR
            rw [if_neg gj] at cR
            go_wp2_with fail
            refine cR.mono ?_
            rintro e w5 ⟨rfl, ho5, hL5⟩
            have HOz := Lib.hid (only_two HO.out ho5 q3)
            have HLz := Lib.hid hL5
            have hownz := ownsRow_only HOWN.out ho5 (fun q hq h => by have := own_ge HOWN.out hq; have : q = lb := h; omega)
            have cA := atR_any _ L x _ w5 (Src.of_own hownz) (by have := HLL.out; omega)
            rw [HJ.out] at cA
            unfold posI at cA
            rw [if_neg gj] at cA
            clear cR ho5 hL5
            go_wp2_with fail
            with_reducible refine cA.mono ?_
            rintro e w6 ⟨rfl, rfl⟩
            clear cA
            have HLen := HLL
            obtain ⟨LL, hLL⟩ : ∃ LL, L = LL := ⟨_, rfl⟩
            subst hLL
            have cA := all_any b lb L w5 HLz.out HLen.out
            go_wp2_with fail
            with_reducible refine cA.mono ?_
            rintro e wy ⟨u, rfl, hownu, hoy⟩
            have hownv := ownsRow_only hownz hoy (fun _ _ h => h)
            have HLy := Lib.hid (HLz.out.nil hoy)
            have cI := intsCmp_any _ _ _ _ L L wy (Src.of_own hownu) (Src.of_own hownv) (by have := HLen.out; omega) (by have := HLen.out; omega)
            rw [decide_eq_true rfl] at cI
            have HOy := Lib.hid (HOz.out.trans hoy (fun _ _ h => h))
            have HOV := Lib.hid hownv
            clear cA hownu hoy hownz hownv
            go_wp2_with fail
            with_reducible refine cI.mono ?_
            rintro e wx ⟨rfl, hox⟩
            have HOx := Lib.hid (HOy.out.trans hox (fun _ _ h => h))
            have HLx := Lib.hid (HLy.out.nil hox)
            have hownx := ownsRow_only HOV.out hox (fun _ _ h => h)
            have HOX := Lib.hid hownx
            clear cI hox hownx
            go_wp2_with fail
            go_roundg (n - (k + 1))
            case measure => have := HG.out; omega
            case rel => exact ⟨k + 1, L, _, by go_num, rfl, by omega, rfl, HLen.out, HOX.out, HLx.out, HOx.out⟩
        · -- At
          by_cases gx : 0 ≤ x ∧ x < L.length
          · obtain ⟨j, rfl⟩ : ∃ j : Nat, x = j := ⟨x.toNat, by omega⟩
            have gj : j < L.length := by omega
            have cR := at_in b lb j L wr HLA.out HLL.out gj
            have j0 : (0 : Int) ≤ (j : Int) := Int.natCast_nonneg _
            have j1 : (j : Int) < (L.length : Int) := by omega
            have hcell := Ints_at (X := L) gj
            obtain ⟨y, hy⟩ : ∃ y, L.getD j 0 = y := ⟨_, rfl⟩
            rw [hy] at cR hcell
            obtain ⟨g9, cap9, hsh, z1, z2, z3, z4⟩ := ownsRow_shape HOWN.out (by omega)
            simp only [Value.slice.injEq] at hsh
            obtain ⟨rfl, hx9, rfl⟩ := hsh
            clear hx9 hy gx
            have j2 : decide (j < L.length) = true := by simpa using gj
            go_wp2_with fail
            refine cR.mono ?_
            rintro e w5 ⟨rfl, ho5, hL5⟩
            have HO5 := Lib.hid (only_two HO.out ho5 q3)
            have HL5 := Lib.hid hL5
            have hown5 := ownsRow_only HOWN.out ho5 (fun q hq h => by have := own_ge HOWN.out hq; have : q = lb := h; omega)
            have hc9 := (World.ownsRow.cellAt hown5 j (by omega)).trans hcell
            have cW := frontR_any 0 L j _ B0 w5 hown5 HLL.out gj
            have hB5 := hown5
            have z5 := ho5.size
            clear cR ho5 hL5 hown5
            have t8 : ((y : Int) != (y : Int)) = false := by simp
            go_wp2_with fail
            have HB5 := Lib.hid (show B0 ≤ w5.heap.size from own_size hB5 (by omega))
            clear hB5 hc9
            with_reducible refine cW.mono ?_
            rintro e w7 ⟨v7, rfl, hown7, ho7⟩
            obtain ⟨a7, c7, rfl⟩ := own_front hown7
            obtain ⟨LL, hLL⟩ : ∃ LL, front L j = LL := ⟨_, rfl⟩
            have hfl := front_len L j gj
            rw [hLL] at hfl hown7 ⊢
            have HLz := Lib.hid (show LAt w7 b lb LL by rw [← hLL]; exact HL5.out.nil ho7)
            have HLen := Lib.hid (show LL.length ≤ 65536 by rw [hfl]; exact HLL.out)
            have HOz := Lib.hid (HO5.out.trans ho7 (fun _ _ h => h))
            have hownz : w7.ownsRow B0 3 1 _ LL.length (Ints LL) := ownsRow_base hown7 (by have := HB5.out; omega)
            clear cW hown7 ho7 hLL hfl HL5 HO5
            obtain ⟨wz, hwz⟩ : ∃ wz, w7 = wz := ⟨_, rfl⟩
            subst hwz
            have cA := all_any b lb LL w7 HLz.out HLen.out
            go_wp2_with fail
            with_reducible refine cA.mono ?_
            rintro e wy ⟨u, rfl, hownu, hoy⟩
            have hownv := ownsRow_only hownz hoy (fun _ _ h => h)
            have HLy := Lib.hid (HLz.out.nil hoy)
            have cI := intsCmp_any _ _ _ _ LL LL wy (Src.of_own hownu) (Src.of_own hownv) (by have := HLen.out; omega) (by have := HLen.out; omega)
            rw [decide_eq_true rfl] at cI
            have HOy := Lib.hid (HOz.out.trans hoy (fun _ _ h => h))
            have HOV := Lib.hid hownv
            clear cA hownu hoy hownz hownv
            go_wp2_with fail
            with_reducible refine cI.mono ?_
            rintro e wx ⟨rfl, hox⟩
            have HOx := Lib.hid (HOy.out.trans hox (fun _ _ h => h))
            have HLx := Lib.hid (HLy.out.nil hox)
            have hownx := ownsRow_only HOV.out hox (fun _ _ h => h)
            have HOX := Lib.hid hownx
            clear cI hox hownx
            go_wp2_with fail
            go_roundg (n - (k + 1))
            case measure => have := HG.out; omega
            case rel => exact ⟨k + 1, LL, _, by go_num, rfl, by omega, rfl, HLen.out, HOX.out, HLx.out, HOx.out⟩
          · have cR := at_out b lb x L wr HLA.out HLL.out gx
            have HOz := HO
            have HLz := HLA
            have hownz := HOWN.out
            have HLen := HLL
            have hin : decide (0 ≤ x) = false ∨ (decide (0 ≤ x) = true ∧ decide (x < (L.length : Int)) = false) := by
              by_cases h : 0 ≤ x
              · exact Or.inr ⟨by simpa using h, by simp; omega⟩
              · exact Or.inl (by simpa using h)
            rcases hin with hin | ⟨hin, hin2⟩
            all_goals
              clear gx
              go_wp2_with fail
              refine cR.mono ?_
              rintro e w5 ⟨rfl, rfl⟩
              clear cR
              have cA := all_any b lb L wr HLz.out HLen.out
              go_wp2_with fail
              with_reducible refine cA.mono ?_
              rintro e wy ⟨u, rfl, hownu, hoy⟩
              have hownv := ownsRow_only hownz hoy (fun _ _ h => h)
              have HLy := Lib.hid (HLz.out.nil hoy)
              have cI := intsCmp_any _ _ _ _ L L wy (Src.of_own hownu) (Src.of_own hownv) (by have := HLen.out; omega) (by have := HLen.out; omega)
              rw [decide_eq_true rfl] at cI
              have HOy := Lib.hid (HOz.out.trans hoy (fun _ _ h => h))
              have HOV := Lib.hid hownv
              clear cA hownu hoy hownz hownv
              go_wp2_with fail
              with_reducible refine cI.mono ?_
              rintro e wx ⟨rfl, hox⟩
              have HOx := Lib.hid (HOy.out.trans hox (fun _ _ h => h))
              have HLx := Lib.hid (HLy.out.nil hox)
              have hownx := ownsRow_only HOV.out hox (fun _ _ h => h)
              have HOX := Lib.hid hownx
              clear cI hox hownx
              go_wp2_with fail
              go_roundg (n - (k + 1))
              case measure => have := HG.out; omega
              case rel => exact ⟨k + 1, L, _, by go_num, rfl, by omega, rfl, HLen.out, HOX.out, HLx.out, HOx.out⟩
    · have hkn' : k = n := by omega
      subst hkn'
      have k1 : (k : Int) ≤ (k : Int) := Int.le_refl _
      obtain ⟨ao, cv, hvv⟩ := own_front hown
      subst hvv
      have cA := all_any b lb L wr hLA hL
      have HLen := Lib.hid hL
      have HO := Lib.hid ho
      have HOWN := Lib.hid hown
      clear hLA hL ho hown
      go_wp2_with fail
      with_reducible refine cA.mono ?_
      rintro e wy ⟨u, rfl, hownu, hoy⟩
      have hownv := ownsRow_only HOWN.out hoy (fun _ _ h => h)
      have cI := intsCmp_any _ _ _ _ L L wy (Src.of_own hownu) (Src.of_own hownv) (by have := HLen.out; omega) (by have := HLen.out; omega)
      rw [decide_eq_true rfl] at cI
      have HOy := Lib.hid (HO.out.trans hoy (fun _ _ h => h))
      clear cA hownu hoy hownv
      go_wp2_with fail
      with_reducible refine cI.mono ?_
      rintro e wx ⟨rfl, hox⟩
      have HOx := Lib.hid (HOy.out.trans hox (fun _ _ h => h))
      clear cI hox
      go_wp2_with fail
      go_ret
      exact ⟨rfl, HOx.out⟩
end Go.Proofs.Ythdolanamcmooaa
