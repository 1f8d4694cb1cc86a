/- Layer 24: the order of modules, the document's. -/
import Derived.Test.YthdolanamcmooaaOMods
set_option linter.unusedSimpArgs false
set_option linter.unusedVariables false
namespace Go.Proofs.Ythdolanamcmooaa
open Go.RowKit M

set_option maxRecDepth 10000 in
set_option maxHeartbeats 6400000 in
theorem orderR_any (M0 b : Nat) (sv : Value) (L : List Md) (w : World) (hM : MSrc M0 w b sv L) (hM0 : M0 ≤ w.heap.size) (hL9 : L.length ≤ 1000) :
    Calls Try.prog 56 #[sv] w (OrdPost w L) := by
  obtain ⟨ao, cap, off, rfl, pM1, pM2, pM3, pM4⟩ := id hM
  obtain ⟨n, hn⟩ : ∃ n, L.length = n := ⟨_, rfl⟩
  rw [hn] at pM1 hM hL9 ⊢
  have HN := Lib.hid hn
  have HM := Lib.hid hM
  have HP1 := Lib.hid pM1
  by_cases h16 : 16 < n
  · have t1 : (16 : Int) < (n : Int) := by omega
    clear hM pM4 pM1 pM2 hn
    go_enter Try.func56, Try.ntmps56
    go_wp2_with fail
    go_ret2
    exact ⟨_, [], 34, rfl, World.ownsRow_nil _ _ _ _, Or.inl ⟨by rw [HN.out]; exact h16, rfl, rfl⟩, Only.refl _ _⟩
  have t1 : decide ((16 : Int) < (n : Int)) = false := by simp; omega
  have hn16 : n ≤ 16 := by omega
  have mk := fun w => make_int n (by omega) w
  obtain ⟨Z, hZ⟩ : ∃ Z, List.replicate n (0 : Int) = Z := ⟨_, rfl⟩
  rw [hZ] at mk
  have HZ := Lib.hid hZ
  clear hM pM4 pM1 pM2 hn hZ
  go_enter Try.func56, Try.ntmps56
  go_wp2_with fail
  have hMH := HM.out.mono hM0
  obtain ⟨mb, hmb⟩ : ∃ mb, w.heap.size = mb := ⟨_, rfl⟩
  rw [hmb] at hMH
  have HSZ := Lib.hid hmb
  have HMH := Lib.hid hMH
  have HLN := Lib.hid (names_len L)
  clear hmb hMH
  go_loopg [4] n (fun g i wr => ∃ (k : Nat), i = .int .i64 (k : Int) ∧ k ≤ n ∧ g = n - k ∧ wr = w ∧ ∀ i, i < k → posB (names L) (nameOf L i) = i)
  case atStart => exact ⟨0, rfl, Nat.zero_le _, rfl, rfl, fun i hi => by omega⟩
  case round =>
    obtain ⟨k, rfl, hk, hg, rfl, hgood⟩ := hrel
    have HG := Lib.hid hg
    clear hg
    have k0 : (0 : Int) ≤ (k : Int) := Int.natCast_nonneg _
    by_cases hkn : k < n
    · have k1 : (k : Int) < (n : Int) := by omega
      obtain ⟨m, hm⟩ : ∃ m, L[k]? = some m := ⟨_, List.getElem?_eq_getElem (by rw [HN.out]; exact hkn)⟩
      have e1 := HP1.out (by omega)
      subst e1
      obtain ⟨_, _, off2, e, p1, p2, p3, p4⟩ := HMH.out
      simp only [Value.slice.injEq] at e
      have e1 := p1 (by rw [HN.out]; omega)
      rw [← e.1] at e1
      simp only [Option.some.injEq, Addr.mk.injEq] at e1
      obtain ⟨iv, ib, q1, q2, q3, q4, q5, q6⟩ := p4 k m hm
      rw [← e1.2.1] at q1
      have c0 := q1 0 _ rfl
      simp only [Nat.add_zero] at c0
      have hltb := World.block_lt_of_cell? wr _ c0
      have hnk : nameOf L k = m.1 := nameOf_at hm
      have cA := atM_any mb b (.slice (some ⟨b, off, none⟩) n cap) L m.1 wr HMH.out (by rw [HN.out]; omega)
      have hpl : posB (names L) m.1 < n := by
        have h1 := names_at hm
        have h2 := posB_ne (names L) m.1
        have h3 := posB_le (names L) m.1
        by_cases h3 : posB (names L) m.1 ≤ k
        · omega
        · exact absurd h1 (h2 k (by omega))
      unfold posI at cA
      rw [HN.out, if_pos hpl] at cA
      have HGD := Lib.hid hgood
      have HNK := Lib.hid hnk
      obtain ⟨z, hz⟩ : ∃ z, posB (names L) m.1 = z := ⟨_, rfl⟩
      rw [hz] at cA hpl
      have HZZ := Lib.hid hz
      clear hgood hm e e1 p1 p2 p4 q1 q2 hnk hz
      by_cases gz : z = k
      · have t3 : ((z : Int) != (k : Int)) = false := by simp [gz]
        have HKK := Lib.hid (show posB (names L) (nameOf L k) = k by rw [HNK.out, HZZ.out]; exact gz)
        clear gz
        go_wp2_with fail
        with_reducible refine cA.mono ?_
        rintro e w9 ⟨rfl, rfl⟩
        clear cA
        go_wp2_with fail
        go_roundg (n - (k + 1))
        case measure => have := HG.out; omega
        case rel => exact ⟨k + 1, by go_num, by omega, rfl, rfl, fun i hi => by
          by_cases h : i = k
          · subst h; exact HKK.out
          · exact HGD.out i (by omega)⟩
      · have t3 : ((z : Int) != (k : Int)) = true := by simp; omega
        have HTW := Lib.hid (show twice L from ⟨k, by rw [HN.out]; exact hkn, by rw [HNK.out, HZZ.out]; exact gz⟩)
        clear gz
        go_wp2_with fail
        with_reducible refine cA.mono ?_
        rintro e w9 ⟨rfl, rfl⟩
        clear cA
        go_wp2_with fail
        go_ret2
        exact ⟨_, [], 43, rfl, World.ownsRow_nil _ _ _ _, Or.inr (Or.inl ⟨by rw [HN.out]; exact hn16, HTW.out, rfl, rfl⟩), Only.refl _ _⟩
    · have hkn' : k = n := by omega
      subst hkn'
      have HGA := Lib.hid hgood
      obtain ⟨w4, rfl⟩ : ∃ w4, w4 = wr := ⟨wr, rfl⟩
      have HO4 := Lib.hid (Only.refl Nil w4)
      have k1 : (k : Int) ≤ (k : Int) := Int.le_refl _
      clear hgood
      obtain ⟨n, hnn⟩ : ∃ n, n = k := ⟨_, rfl⟩
      subst hnn
      go_wp2_with fail
      go_loopg [5] n (fun g i wr => ∃ (k : Nat), i = .int .i64 (k : Int) ∧ k ≤ n ∧ g = n - k ∧ Only Nil w4 wr ∧ ∀ i, i < k → ∀ s, s ∈ needsM (impsOf L i) → posB (names L) s < n)
      case atStart => exact ⟨0, rfl, Nat.zero_le _, rfl, Only.refl _ _, fun i hi => by omega⟩
      case round =>
        obtain ⟨k, rfl, hk, hg, ho, hgood⟩ := hrel
        have HG2 := Lib.hid hg
        clear hg
        have k0 : (0 : Int) ≤ (k : Int) := Int.natCast_nonneg _
        by_cases hkn : k < n
        · have k1 : (k : Int) < (n : Int) := by omega
          obtain ⟨m, hm⟩ : ∃ m, L[k]? = some m := ⟨_, List.getElem?_eq_getElem (by rw [HN.out]; exact hkn)⟩
          have e1 := HP1.out (by omega)
          subst e1
          obtain ⟨_, _, off2, e, p1, p2, p3, p4⟩ := HMH.out.kept (HO4.out.trans ho (fun _ _ h => h)) nil_ge
          simp only [Value.slice.injEq] at e
          have e1 := p1 (by rw [HN.out]; omega)
          rw [← e.1] at e1
          simp only [Option.some.injEq, Addr.mk.injEq] at e1
          obtain ⟨iv, ib, q1, q2, q3, q4, q5, q6⟩ := p4 k m hm
          rw [← e1.2.1] at q1
          have c0 := q1 0 _ rfl
          have c1 := q1 1 _ rfl
          have c2 := q1 2 _ rfl
          have c3 := q1 3 _ rfl
          have c4 := q1 4 _ rfl
          have c5 := q1 5 _ rfl
          have c6 := q1 6 _ rfl
          have c7 := q1 7 _ rfl
          simp only [Nat.add_zero] at c0
          have hltb := World.block_lt_of_cell? wr _ c0
          have HQ2 := Lib.hid q2
          obtain ⟨aoI, capI, offI, hiv, qz⟩ := q2
          subst hiv
          clear qz
          rw [Strs_len] at c1 HQ2
          obtain ⟨ni, hni⟩ : ∃ ni, m.2.length = ni := ⟨_, rfl⟩
          rw [hni] at c1 HQ2
          have HNI := Lib.hid hni
          have HO := Lib.hid ho
          have HGD := Lib.hid hgood
          have HMM := Lib.hid hm
          have HIM := Lib.hid (show impsOf L k = m.2 by unfold impsOf; rw [getD_some hm])
          have hcN := fun (w' : World) (ho : Only Nil wr w') => needsR_any ib m.1 (.slice aoI ni capI) m.2 w' (HQ2.out.kept ho (fun _ h => h)) q4
          clear ho hgood hm e e1 p1 p2 p4 q1 hni
          go_wp2_with fail
          with_reducible refine (hcN _ (Only.refl Nil wr)).mono ?_
          rintro e w8 ⟨nv, rfl, hown, ho8⟩
          have ho8' : Only Nil wr w8 := ho8
          obtain ⟨aN, capN, hnv⟩ := sl_of_own hown
          subst hnv
          obtain ⟨nb, hsrc, hnb⟩ := own_src hown
          obtain ⟨A, hA⟩ : ∃ A, needsM m.2 = A := ⟨_, rfl⟩
          rw [hA] at hsrc ⊢
          have HA := Lib.hid hA
          have hle : A.length ≤ 1000 := by rw [← hA]; exact Nat.le_trans (needsM_len _) q4
          obtain ⟨nn, hnn⟩ : ∃ nn, A.length = nn := ⟨_, rfl⟩
          rw [hnn] at hsrc hle ⊢
          have HNN := Lib.hid hnn
          have HSRC := Lib.hid hsrc
          have HO8 := Lib.hid (HO.out.trans ho8' (fun _ _ h => h))
          have HSZS := Lib.hid q6
          clear hcN hown hsrc hnb hA hnn ho8 ho8' c0 c1 c2 c3 c4 c5 c6 c7 hltb q5 q6
          go_wp2_with fail
          go_loopg [7] nn (fun g i wr => ∃ (j : Nat), i = .int .i64 (j : Int) ∧ j ≤ nn ∧ g = nn - j ∧ wr = w8 ∧ ∀ i s, i < j → A[i]? = some s → posB (names L) s < n)
          case atStart => exact ⟨0, rfl, Nat.zero_le _, rfl, rfl, fun i s hi => by omega⟩
          case round =>
            obtain ⟨j, rfl, hj, hg, rfl, hgj⟩ := hrel
            have HG3 := Lib.hid hg
            have HGJ := Lib.hid hgj
            clear hg hgj
            have j0 : (0 : Int) ≤ (j : Int) := Int.natCast_nonneg _
            by_cases hjn : j < nn
            · have j1 : (j : Int) < (nn : Int) := by omega
              obtain ⟨s, hs⟩ : ∃ s, A[j]? = some s := ⟨_, List.getElem?_eq_getElem (by rw [HNN.out]; exact hjn)⟩
              have hmem : s ∈ needsM m.2 := by rw [HA.out]; exact List.mem_of_getElem? hs
              have hsz : s.size ≤ maxLen := HSZS.out s (by unfold needsM at hmem; exact (List.mem_filter.1 hmem).1)
              obtain ⟨_, _, off3, e, p1, p2, p3'⟩ := HSRC.out
              simp only [Value.slice.injEq] at e
              obtain ⟨rfl, hxx, rfl⟩ := e
              clear hxx
              have e1 := p1 (by rw [Strs_len, HNN.out]; omega)
              subst e1
              have t2 := p3' j _ (Strs_at hs)
              have look := atM_any mb b (.slice (some ⟨b, off, none⟩) n cap) L s wr (HMH.out.kept HO8.out nil_ge) (by rw [HN.out]; omega)
              unfold posI at look
              rw [HN.out] at look
              by_cases gs : posB (names L) s < n
              · rw [if_pos gs] at look
                have HSS := Lib.hid hs
                have HGS2 := Lib.hid gs
                obtain ⟨z, hz⟩ : ∃ z, posB (names L) s = z := ⟨_, rfl⟩
                rw [hz] at look
                have z0 : (0 : Int) ≤ (z : Int) := Int.natCast_nonneg _
                have z1 : decide ((z : Int) < 0) = false := by simp
                clear hs hmem p1 p2 p3' hz gs hsz
                go_wp2_with fail
                with_reducible refine look.mono ?_
                rintro e w9 ⟨rfl, rfl⟩
                clear look
                go_wp2_with fail
                go_roundg (nn - (j + 1))
                case measure => have := HG3.out; omega
                case rel => exact ⟨j + 1, by go_num, by omega, rfl, rfl, fun i s' hi hs' => by
                  by_cases h : i = j
                  · subst h
                    rw [HSS.out] at hs'
                    injection hs' with hs'
                    rw [← hs']; exact HGS2.out
                  · exact HGJ.out i s' (by omega) hs'⟩
              · rw [if_neg gs] at look
                have HMS := Lib.hid (show missing L from ⟨k, by rw [HN.out]; exact hkn, s, by rw [HIM.out]; exact hmem, by rw [HN.out]; exact gs⟩)
                have HTW := Lib.hid (show ¬ twice L from fun ⟨i, hi, h⟩ => h (HGA.out i (by rw [HN.out] at hi; exact hi)))
                have HOF := Lib.hid (HO4.out.trans HO8.out (fun _ _ h => h))
                clear hs hmem p1 p2 p3' gs hsz
                go_wp2_with fail
                with_reducible refine look.mono ?_
                rintro e w9 ⟨rfl, rfl⟩
                clear look
                go_wp2_with fail
                go_ret2
                exact ⟨_, [], 40, rfl, World.ownsRow_nil _ _ _ _, Or.inr (Or.inr (Or.inl ⟨by rw [HN.out]; exact hn16, HTW.out, HMS.out, rfl, rfl⟩)), HOF.out⟩
            · have hjn' : j = nn := by omega
              subst hjn'
              have j1 : (j : Int) ≤ (j : Int) := Int.le_refl _
              have HGF := Lib.hid (show ∀ i, i < k + 1 → ∀ s, s ∈ needsM (impsOf L i) → posB (names L) s < n from fun i hi s hs => by
                by_cases h : i = k
                · subst h
                  rw [HIM.out, HA.out] at hs
                  obtain ⟨q, hq, e⟩ := List.mem_iff_getElem.1 hs
                  exact HGJ.out q s (by rw [HNN.out] at hq; exact hq) (by rw [List.getElem?_eq_getElem hq, e])
                · exact HGD.out i (by omega) s hs)
              go_wp2_with fail
              go_roundg (n - (k + 1))
              case measure => have := HG2.out; omega
              case rel => exact ⟨k + 1, by go_num, by omega, rfl, HO8.out, HGF.out⟩
        · have hkn' : k = n := by omega
          subst hkn'
          have k1 : (k : Int) ≤ (k : Int) := Int.le_refl _
          obtain ⟨w5, rfl⟩ : ∃ w5, w5 = wr := ⟨wr, rfl⟩
          obtain ⟨n, hnn⟩ : ∃ n, n = k := ⟨_, rfl⟩
          subst hnn
          have hW : Whole L := fun i hi s hs => by rw [HN.out] at hi ⊢; exact hgood i hi s hs
          have HTW := Lib.hid (show ¬ twice L from fun ⟨i, hi, h⟩ => h (HGA.out i (by rw [HN.out] at hi; exact hi)))
          have HMS := Lib.hid (show ¬ missing L from fun ⟨i, hi, s, hs, h⟩ => h (hW i hi s hs))
          have HOn := Lib.hid (HO4.out.trans ho (fun _ _ h => h))
          have hal : allF L = runAll (visitF (needI L) (n + 1)) ((List.range n).drop 0) (List.replicate n 0) [] := by unfold allF; rw [HN.out]; rfl
          have HAL := Lib.hid hal
          have HW := Lib.hid hW
          have hzr := zeros_replicate n
          have HZR := Lib.hid hzr
          have HOO5 := Lib.hid ho
          clear ho hgood hal hW hzr
          go_wp2_with fail
          have hS := Blk.new w5 (Ints Z).toArray 3
          have hoB : Only Nil w5 (w5.alloc (.cells (Ints Z).toArray 3)) := (Only.refl _ _).alloc _
          obtain ⟨wB, hwB⟩ : ∃ wB, w5.alloc (.cells (Ints Z).toArray 3) = wB := ⟨_, rfl⟩
          have hszB : wB.heap.size = w5.heap.size + 1 := by rw [← hwB]; simp
          rw [hwB] at hoB hS ⊢
          have hPB := Blk.new wB #[.slice ao n cap, .slice (some ⟨w5.heap.size, 0, none⟩) n n, .slice none 0 0] 147
          rw [hszB] at hPB
          have hoC : Only Nil wB (wB.alloc (.cells #[.slice ao n cap, .slice (some ⟨w5.heap.size, 0, none⟩) n n, .slice none 0 0] 147)) := (Only.refl _ _).alloc _
          have hS2 := hS.kept hoC (fun h => h)
          have hoD : Only Nil w5 (wB.alloc (.cells #[.slice ao n cap, .slice (some ⟨w5.heap.size, 0, none⟩) n n, .slice none 0 0] 147)) := hoB.trans hoC (fun _ _ h => h)
          obtain ⟨w6, hw6⟩ : ∃ w6, wB.alloc (.cells #[.slice ao n cap, .slice (some ⟨w5.heap.size, 0, none⟩) n n, .slice none 0 0] 147) = w6 := ⟨_, rfl⟩
          rw [hw6] at hPB hS2 hoD ⊢
          obtain ⟨pb, hpb⟩ : ∃ pb, w5.heap.size + 1 = pb := ⟨_, rfl⟩
          rw [hpb] at hPB ⊢
          obtain ⟨sb, hsb⟩ : ∃ sb, w5.heap.size = sb := ⟨_, rfl⟩
          rw [hsb] at hPB hS2 ⊢
          have gsb : mb ≤ sb := by have := HOn.out.size; have := HSZ.out; omega
          have gpb : pb = sb + 1 := by omega
          have hO9 : VAt mb w6 pb sb b L (.slice ao n cap) (.slice none 0 0) (List.replicate n 0) [] :=
            ⟨by rw [List.length_replicate]; exact hPB, HMH.out.kept (HOn.out.trans hoD (fun _ _ h => h)) nil_ge, by rw [HZ.out]; exact hS2, World.ownsRow_nil _ _ _ _, by rw [List.length_replicate, HN.out], (fun x hx => by rw [List.eq_of_mem_replicate hx]; exact Int.le_refl _), by omega, nofun, nofun, by omega, by omega⟩
          have HO9 := Lib.hid hO9
          have HO6 := Lib.hid (HOn.out.trans hoD (fun _ _ h => h))
          clear hS hoB hwB hszB hPB hoC hS2 hoD hw6 hpb hsb gsb gpb hO9
          go_wp2_with fail
          go_loopg [9] n (fun g i wr => ∃ (k : Nat) (lv : Value) (st out : List Int), i = .int .i64 (k : Int) ∧ k ≤ n ∧ g = n - k ∧ VAt mb wr pb sb b L (.slice ao n cap) lv st out ∧ Only Nil w4 wr ∧ allF L = runAll (visitF (needI L) (n + 1)) ((List.range n).drop k) st out ∧ zeros st < n + 1 ∧ out.length + zeros st ≤ n)
          case atStart => exact ⟨0, _, _, _, rfl, Nat.zero_le _, rfl, HO9.out, HO6.out, HAL.out, by rw [HZR.out]; omega, by rw [HZR.out]; simp⟩
          case round =>
            clear HO9 HOn HO6 HAL
            obtain ⟨k, lv, st, out, rfl, hk, hg, hO, ho, hrun, hzf, hol⟩ := hrel
            have HG4 := Lib.hid hg
            clear hg
            have k0 : (0 : Int) ≤ (k : Int) := Int.natCast_nonneg _
            by_cases hkn : k < n
            · have k1 : (k : Int) < (n : Int) := by omega
              have cP := visit_any mb L HW.out (by rw [HN.out]; omega) pb sb b (.slice ao n cap) (n + 1) lv st out k wr hzf (by rw [HN.out]; exact hkn) (by omega) hO
              have hdr := drop_cons (List.range n) k k (by simp [hkn])
              rw [hdr] at hrun
              have hvo := visitF_out (needI L) n (fun i hi j hj => by
                unfold needI at hj
                obtain ⟨s', hs', rfl⟩ := List.mem_map.1 hj
                have := HW.out i (by rw [HN.out]; exact hi) s' hs'
                rw [HN.out] at this
                exact this) (n + 1) st out k (by rw [hO.len, HN.out]) hkn
              have hvf := visitF_fewer (needI L) (n + 1) st out k
              obtain ⟨V, hV⟩ : ∃ V, visitF (needI L) (n + 1) st out k = V := ⟨_, rfl⟩
              rw [hV] at hvo hvf cP
              obtain ⟨vb, vst, vout⟩ := V
              have HVO := Lib.hid hvo
              have HVF := Lib.hid hvf
              have HRUN := Lib.hid hrun
              have HVV := Lib.hid hV
              have HO := Lib.hid ho
              have HOO := Lib.hid hO
              have HZF := Lib.hid hzf
              have HOL := Lib.hid hol
              clear hdr hrun hvo hvf hV ho hO hzf hol
              go_wp2_with fail
              with_reducible refine cP.mono ?_
              rintro e w9 ⟨lv9, rfl, hO9, hOw9, hMv9⟩
              have HO9 := Lib.hid hO9
              have HOw := Lib.hid (show Only Nil w4 w9 from HO.out.trans hOw9 (fun i hi h => by
                have := HOO.out.ge i h
                have := HSZ.out
                omega))
              clear cP hO9 hOw9 hMv9
              cases vb
              · have hfin : (allF L).1 = false := by rw [HRUN.out, runAll_cons_false HVV.out]
                have HFIN := Lib.hid hfin
                clear hfin
                go_wp2_with fail
                go_ret2
                exact ⟨_, [], 41, rfl, World.ownsRow_nil _ _ _ _, Or.inr (Or.inr (Or.inr (Or.inl ⟨by rw [HN.out]; exact hn16, HTW.out, HMS.out, HFIN.out, rfl, rfl⟩))), HOw.out⟩
              · have HFIN := Lib.hid (show allF L = runAll (visitF (needI L) (n + 1)) ((List.range n).drop (k + 1)) vst vout by rw [HRUN.out]; exact runAll_cons_true HVV.out)
                go_wp2_with fail
                go_roundg (n - (k + 1))
                case measure => have := HG4.out; omega
                case rel => exact ⟨k + 1, lv9, vst, vout, by go_num, by omega, rfl, HO9.out, HOw.out, HFIN.out, by have h1 : zeros vst ≤ zeros st := HVF.out.2; have := HZF.out; omega, by have h1 : vout.length + zeros vst ≤ out.length + zeros st := HVO.out; have := HOL.out; omega⟩
            · have hkn' : k = n := by omega
              subst hkn'
              have k1 : (k : Int) ≤ (k : Int) := Int.le_refl _
              rw [List.drop_of_length_le (by simp)] at hrun
              have hr : allF L = (true, st, out) := hrun
              have r3 : wr.cell? ⟨pb, 2, none⟩ = some lv := hO.blk.cell 2
              have hltp := hO.blk.lt
              obtain ⟨aoL, capL, hlv⟩ := sl_of_own hO.out
              subst hlv
              have HOO := Lib.hid hO
              have HO := Lib.hid ho
              have HRR := Lib.hid hr
              have hown := hO.out
              have HOWN := Lib.hid hown
              clear hrun hr hO ho hown hzf hol
              go_wp2_with fail
              go_ret2
              exact ⟨_, out, 0, rfl, by rw [HSZ.out]; exact HOWN.out, Or.inr (Or.inr (Or.inr (Or.inr ⟨by rw [HN.out]; exact hn16, HTW.out, HMS.out, by rw [HRR.out], by rw [HRR.out], rfl⟩))), HO.out⟩
end Go.Proofs.Ythdolanamcmooaa
